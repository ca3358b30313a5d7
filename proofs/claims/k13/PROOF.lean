import PyProof.Rows.All
import Wide.All
import OpenK.AllK
import Wide.FinOn
import HandS.ForMost
import HandS.OwnEq
import KE.KOpsOwn
import PyProof.ListMulRight
import KE.KCallOwn
import PyProof.ReprRoads
import HandS.Defaults
import HandS.HeadHook2
import KE.GoesMore
import KE.GoesEnum
import PyProof.EnumMake
import PyProof.EnumFor
import PyProof.Draws
import HandS.Walk
import HandS.IsInst
import HandS.Property
import HandS.ClsMeth
import HandS.Gcd
import HandS.FStr
import HandS.Star
import HandS.MakeKw
import HandS.Wide
import HandS.WideBits
import HandS.RaiseMore
import HandS.Text
import HandS.Style
import KE.KxText
import PyProof.ReprLen
import PyProof.StrLawsRepr
import PyProof.Rows.ReprOcc
import HandS.Codes
import HandS.Dict
import HandS.Head0
import HandS.Head1
import HandS.Head2
import HandS.Head3
import HandS.HeadEnd
import HandS.HeadHook1
import HandS.HeadNt
import PySem.Challenge.RW_anypoints_k13_what_numbers_and_names_are
set_option Elab.async false
set_option linter.all false
set_option maxRecDepth 100000
set_option maxHeartbeats 0
namespace Ow
open PySem PySem.Spec PyProof.Rows L2
open Builtin

theorem int_add_ref (C dx : Addr) (a : Int) (t : Tok) (l : Addr) :
    Meets (Builtin.«int.__add__» ⟨[.int a t, .ref l], []⟩) (fun _ R s => s.heap.get? l = some (PySem.W.instObj C dx) ∧ R (.ok (.ret Value.notImplemented)) s) :=
  .of_wp fun prog w A R s h => by obtain ⟨hp, g, d, tk, os⟩ := s; obtain ⟨hl, h⟩ := h; wp_walk; exact ⟨_, rfl, h⟩
theorem int_sub_ref (C dx : Addr) (a : Int) (t : Tok) (l : Addr) :
    Meets (Builtin.«int.__sub__» ⟨[.int a t, .ref l], []⟩) (fun _ R s => s.heap.get? l = some (PySem.W.instObj C dx) ∧ R (.ok (.ret Value.notImplemented)) s) :=
  .of_wp fun prog w A R s h => by obtain ⟨hp, g, d, tk, os⟩ := s; obtain ⟨hl, h⟩ := h; wp_walk; exact ⟨_, rfl, h⟩
theorem int_mul_ref (C dx : Addr) (a : Int) (t : Tok) (l : Addr) :
    Meets (Builtin.«int.__mul__» ⟨[.int a t, .ref l], []⟩) (fun _ R s => s.heap.get? l = some (PySem.W.instObj C dx) ∧ R (.ok (.ret Value.notImplemented)) s) :=
  .of_wp fun prog w A R s h => by obtain ⟨hp, g, d, tk, os⟩ := s; obtain ⟨hl, h⟩ := h; wp_walk; exact ⟨_, rfl, h⟩

section
variable {prog : Program} {w : World} {A : Around} {E : Value → Shared → Prop} {s : Shared} {K : PySem.W.Frag} {x C f : Addr} {ox : Obj} {od : Option Obj}

open PySem.W in
/-- int op instance: the int declines, the class's reflected method takes it -/
theorem bin_rint {op : Operator} {id : String} {i : Int} {t : Tok} {Q : Value → Shared → Prop} (X : K.In s.heap) (I : InstAt s.heap x ox C od) (hc : selfFirst K C = true)
    (hfT : fillsNumberSlot (.type "int") op.info.2 = pure true)
    (hl : Slot "int" (PySem.dunder op.info.2) id)
    (hs : findIn K (.ref C) (PySem.dunder op.info.2) = some (some (.ref f))) 
    {g : Addr} (hg : findIn K (.ref C) (dunderR op.info.2) = some (some (.ref g))) (hfg : isFn K (.ref g) = true)
    (hsub : subIn K (.ref C) (.type "int") = some false)
    (hd : wpAny (model prog w) A (call (.builtin id) [.int i t, .ref x]) (fun v s' => v = .notImplemented ∧ s' = s) E s)
    (h : wpAny (model prog w) A (call (.ref g) [.ref x, .int i t]) (PySem.W.CmpBack Q) E s) : wpAny (model prog w) A (binaryOp op (.int i t) (.ref x)) Q E s := by
  obtain ⟨cd, rest, hcd, hm⟩ := ksp_first hc
  rcases hi : op.info with ⟨sym, nm'⟩
  rw [hi] at hfT hl hs hg
  dsimp only at hfT hl hs hg
  have one := ksp_try X I hg hfg h
  have L1 : Looks (model prog w) s.heap (typeOf (.ref x)) (.ref C) := I.type
  have L3 : Looks (model prog w) s.heap (fillsNumberSlot (.ref C) nm') true := fills_K X hcd hm hs
  have L5 : Looks (model prog w) s.heap (isSubtype (.ref C) (.type "int")) false := looks_subIn X hsub
  have hne : (Value.type "int" == Value.ref C) = false := Bool.eq_false_iff.mpr fun q => by cases beq_iff_eq.mp q
  simp only [binaryOp, hi]
  refine wpAny_holding (wpAny_bind ?_)
  unfold binaryOp1
  refine wpAny_bind (wpAny_typeOf (typeIs_int _ _ _) (wpAny_bind (L1.here (wpAny_bind (wpAny_of_eq hfT ?_)))))
  simp only [hne, Bool.false_eq_true, if_false]
  refine wpAny_bind (L3.here ?_)
  simp only [Bool.and_self, if_true]
  refine wpAny_bind (L5.here ?_)
  have hpy : numberSlotInPython (.type "int") nm' = pure false := rfl
  simp only [Bool.false_eq_true, if_false, pure_bind, Bool.not_false, Bool.and_self, if_true, hpy]
  refine wpAny_bind (wpAny_tryMethod_declines (typeIs_int _ _ _) hl (wpAny_mono hd (fun v s' q => ⟨q.1, ?_⟩) fun _ _ e => e))
  obtain ⟨_, rfl⟩ := q
  refine wpAny_bind (wpAny_mono one (fun r s2 z => ?_) fun _ _ e => e)
  obtain ⟨v, rfl, hq⟩ := z
  refine wpAny_bind (wpAny_rule (wpAny_pure ?_))
  exact wpAny_pure hq
end
end Ow
namespace Ow
open PySem PySem.Spec PyProof.Rows L2

/-- the class at C has the operator nm as a def of its own, at f -/
structure OpOf (K : PySem.W.Frag) (C : Addr) (nm : Str) (f : Addr) : Prop where
  at_ : PySem.W.findIn K (.ref C) nm = some (some (.ref f))
  fn : PySem.W.isFn K (.ref f) = true
/-- it stands ahead of builtins, of int -/
structure Num (K : PySem.W.Frag) (C : Addr) : Prop where
  sf : PySem.W.selfFirst K C = true
  ic : PySem.W.subIn K (.type "int") (.ref C) = some false
  ci : PySem.W.subIn K (.ref C) (.type "int") = some false

theorem back {Q : Value → Shared → Prop} {v : V} {u : Value} {s : Shared} (r : RelV v u) (q : Q u s) : PySem.W.CmpBack Q u s := by
  cases v <;> (try (obtain ⟨t, r⟩ := r)) <;> (try cases r) <;> exact q

section
variable {X : Cx} {CX : CXT} {k : Nat} {C f : Addr} {fd : FuncData} {ps : List Str} {sp : Sp} {E : XK} {dvs : List V} {ds : List Value}

/-- x op y, both instances of C -/
def rOwn (C : Addr) (sp : Sp) (E : XK) : R2 := fun x y H Q => ∃ a dx fs b dy gs, x = .ref a ∧ H a = some (.ins C dx fs) ∧ y = .ref b ∧ H b = some (.ins C dy gs) ∧ sp [.ref a, .ref b] H Q E
/-- x op i -/
def rOwnI (C : Addr) (sp : Sp) (E : XK) : R2 := fun x y H Q => ∃ a dx fs i, x = .ref a ∧ H a = some (.ins C dx fs) ∧ y = .int i ∧ sp [.ref a, .int i] H Q E
/-- i op x -/
def rIOwn (C : Addr) (sp : Sp) (E : XK) : R2 := fun x y H Q => ∃ a dx fs i, y = .ref a ∧ H a = some (.ins C dx fs) ∧ x = .int i ∧ sp [.ref a, .int i] H Q E

theorem run_back {pins : List (Addr × Obj)} {σ : L2.St} {H : Hp} {s : Shared} {Q : VK} {us : List Value} {vs : List V} (F : FnOk X.prog X.w X.K X.mg X.base CX k f fd ps sp) (hr : Room k X.A) (hb : Binds X.K fd ps []) (hx : Passes CX X E)
    (I : Inv X pins σ H s) (r : Vals vs us) (h : sp vs H Q E) : wpAny (model X.prog X.w) X.A (call (.ref f) us) (PySem.W.CmpBack (EP X pins σ Q)) X.xe s := by
  refine wpAny_mono (run_fn (dvs := []) (ds := []) F hr hb .nil hx I r (by rw [List.append_nil]; exact h)) (fun u s' q => ?_) fun _ _ e => e
  obtain ⟨v, H', I', rv, q'⟩ := id q
  exact back rv q

theorem inst_of {pins : List (Addr × Obj)} {σ : L2.St} {H : Hp} {s : Shared} {a dx : Addr} {fs : List (Str × V)} (I : Inv X pins σ H s) (ea : H a = some (.ins C dx fs)) :
    ∃ od, PySem.W.InstAt s.heap a (PySem.W.instObj C dx) C (some od) := by
  obtain ⟨mA, O, _, _, _, _⟩ := ins_get I.hok ea
  obtain ⟨od, J, _⟩ := O.look
  exact ⟨od, J⟩

theorem op_own {op : Operator} (n : PySem.W.selfFirst X.K C = true) (o : OpOf X.K C (PySem.dunder op.info.2) f) (F : FnOk X.prog X.w X.K X.mg X.base CX k f fd ps sp) (hr : Room k X.A) (hb : Binds X.K fd ps []) (hx : Passes CX X E) :
    OpR X (binaryOp op) (rOwn C sp E) := by
  intro pins s σ H x y u v Q I rx ry hq
  obtain ⟨a, dx, fs, b, dy, gs, rfl, ea, rfl, eb, q⟩ := hq
  cases rx
  cases ry
  obtain ⟨od, J⟩ := inst_of I ea
  obtain ⟨od', J'⟩ := inst_of I eb
  obtain ⟨m, hF⟩ := I.fr
  exact PySem.W.binop_K hF I.ok.mod.kin J J'.type n o.at_ o.fn (run_back (vs := [.ref a, .ref b]) F hr hb hx I (.cons rfl (.cons rfl .nil)) q)

theorem op_ownI {op : Operator} {fo ro rc : Option Value} (n : Num X.K C) (o : OpOf X.K C (PySem.dunder op.info.2) f) (F : FnOk X.prog X.w X.K X.mg X.base CX k f fd ps sp) (hr : Room k X.A) (hb : Binds X.K fd ps []) (hx : Passes CX X E)
    (hrf : PySem.W.findIn X.K (.ref C) (dunderR op.info.2) = some rc) (hp : rc = none ∨ ∃ g : Addr, rc = some (.ref g))
    (h1 : PySem.W.findIn X.K (.type "int") (PySem.dunder op.info.2) = some fo) (h2 : PySem.W.findIn X.K (.type "int") (dunderR op.info.2) = some ro) :
    OpR X (binaryOp op) (rOwnI C sp E) := by
  intro pins s σ H x y u v Q I rx ry hq
  obtain ⟨a, dx, fs, i, rfl, ea, rfl, q⟩ := hq
  cases rx
  obtain ⟨t, rfl⟩ := ry
  obtain ⟨od, J⟩ := inst_of I ea
  obtain ⟨m, hF⟩ := I.fr
  exact PySem.W.ksp_binT (T := "int") hF I.ok.mod.kin J rfl n.sf o.at_ o.fn hrf hp h1 h2 n.ic (run_back (vs := [.ref a, .int i]) F hr hb hx I (.cons rfl (.cons ⟨t, rfl⟩ .nil)) q)

theorem op_Iown {op : Operator} {id : String} {g : Addr} {gd : FuncData} (n : Num X.K C) (o : OpOf X.K C (PySem.dunder op.info.2) f) (og : OpOf X.K C (dunderR op.info.2) g) (F : FnOk X.prog X.w X.K X.mg X.base CX k g gd ps sp) (hr : Room k X.A) (hb : Binds X.K gd ps []) (hx : Passes CX X E)
    (hfT : fillsNumberSlot (.type "int") op.info.2 = pure true) (hl : Slot "int" (PySem.dunder op.info.2) id)
    (hd : ∀ (s : Shared) (a dx : Addr) (i : Int) (t : Tok), s.heap.get? a = some (PySem.W.instObj C dx) → wpAny (model X.prog X.w) X.A (call (.builtin id) [.int i t, .ref a]) (fun v s' => v = .notImplemented ∧ s' = s) X.xe s) :
    OpR X (binaryOp op) (rIOwn C sp E) := by
  intro pins s σ H x y u v Q I rx ry hq
  obtain ⟨a, dx, fs, i, rfl, ea, rfl, q⟩ := hq
  cases ry
  obtain ⟨t, rfl⟩ := rx
  obtain ⟨od, J⟩ := inst_of I ea
  obtain ⟨mA, O, _, _, _, _⟩ := ins_get I.hok ea
  exact bin_rint I.kIn J n.sf hfT hl o.at_ og.at_ og.fn n.ci (hd s a dx i t O.obj) (run_back (vs := [.ref a, .int i]) F hr hb hx I (.cons rfl (.cons ⟨t, rfl⟩ .nil)) q)

theorem decl_add {X : Cx} {C : Addr} (s : Shared) (a dx : Addr) (i : Int) (t : Tok) (h : s.heap.get? a = some (PySem.W.instObj C dx)) : wpAny (model X.prog X.w) X.A (call (.builtin "int.__add__") [.int i t, .ref a]) (fun v s' => v = .notImplemented ∧ s' = s) X.xe s :=
  call_meets F.slot_int_add (typeIs_int s i t) F.entry_int_add (F.args_int_add_2 _ _) (int_add_ref C dx i t a) ⟨h, rfl, rfl⟩
theorem decl_sub {X : Cx} {C : Addr} (s : Shared) (a dx : Addr) (i : Int) (t : Tok) (h : s.heap.get? a = some (PySem.W.instObj C dx)) : wpAny (model X.prog X.w) X.A (call (.builtin "int.__sub__") [.int i t, .ref a]) (fun v s' => v = .notImplemented ∧ s' = s) X.xe s :=
  call_meets F.slot_int_sub (typeIs_int s i t) F.entry_int_sub (F.args_int_sub_2 _ _) (int_sub_ref C dx i t a) ⟨h, rfl, rfl⟩
theorem decl_mul {X : Cx} {C : Addr} (s : Shared) (a dx : Addr) (i : Int) (t : Tok) (h : s.heap.get? a = some (PySem.W.instObj C dx)) : wpAny (model X.prog X.w) X.A (call (.builtin "int.__mul__") [.int i t, .ref a]) (fun v s' => v = .notImplemented ∧ s' = s) X.xe s :=
  call_meets F.slot_int_mul (typeIs_int s i t) F.entry_int_mul (F.args_int_mul_2 _ _) (int_mul_ref C dx i t a) ⟨h, rfl, rfl⟩

/-- - x -/
def rNegOwn (C : Addr) (sp : Sp) (E : XK) : V → Hp → VK → Prop := fun x H Q => ∃ a dx fs, x = .ref a ∧ H a = some (.ins C dx fs) ∧ sp [.ref a] H Q E
theorem un_own (o : OpOf X.K C "__neg__" f) (F : FnOk X.prog X.w X.K X.mg X.base CX k f fd ps sp) (hr : Room k X.A) (hb : Binds X.K fd ps []) (hx : Passes CX X E) : UnR X (unaryOp .USub) (rNegOwn C sp E) := by
  intro pins s σ H x u Q I rx hq
  obtain ⟨a, dx, fs, rfl, ea, q⟩ := hq
  cases rx
  obtain ⟨od, J⟩ := inst_of I ea
  obtain ⟨m, hF⟩ := I.fr
  exact PySem.W.ksp_neg hF I.ok.mod.kin J o.at_ o.fn (run_fn (vs := [.ref a]) (dvs := []) (ds := []) F hr hb .nil hx I (.cons rfl .nil) q)
end
end Ow
namespace Ow
open PySem PySem.Spec PyProof.Rows L2

section
variable {X : Cx} {CX : CXT} {k : Nat} {C f : Addr} {fd : FuncData} {ps : List Str} {sp : Sp} {E : XK}

/-- a callee run from within a built-in: an around with the same frames -/
theorem run_in {A : Around} {pins : List (Addr × Obj)} {σ : L2.St} {H : Hp} {s : Shared} {Q : VK} {us : List Value} {vs : List V} (F : FnOk X.prog X.w X.K X.mg X.base CX k f fd ps sp) (hr : Room k A) (hf : A.frames = X.A.frames) (hb : Binds X.K fd ps []) (hx : Passes CX X E)
    (I : Inv X pins σ H s) (r : Vals vs us) (h : sp vs H Q E) : wpAny (model X.prog X.w) A (call (.ref f) us) (EP X pins σ Q) X.xe s := by
  have hl : us.length = ps.length := by rw [← r.length]; exact F.len _ _ _ _ h
  have e0 := I.env0
  have e1 : Env0 X.prog X.w X.K X.mg X.base A X.stack s H := ⟨hf.trans e0.frames, e0.mod, e0.bs, e0.bsz, e0.funs, e0.frf, e0.hok, e0.bare⟩
  have b := hb s us I.kIn (by rw [List.append_nil]; exact hl)
  rw [List.append_nil] at b
  refine wpAny_call (codeAny_mono (F.run A X.stack s H ⟨us, []⟩ us vs Q E hr e1 b r h) fun res s' hq => ?_)
  cases res with
  | error err => exact hx pins σ H s err s' I hq
  | ok fl => cases fl with
    | ret u => exact I.after hq
    | next => exact hq.elim
    | brk => exact hq.elim
    | cont => exact hq.elim

/-- repr(x), str(x) of an instance: its own def, which tells a text -/
def rShow (C : Addr) (sp : Sp) (E : XK) : List V → Hp → VK → Prop := fun vs H Q => ∃ a dx fs, vs = [.ref a] ∧ H a = some (.ins C dx fs) ∧ sp [.ref a] H (fun v H' => ∃ z, v = .str z ∧ Q (.str z) H') E

theorem shown_back {pins : List (Addr × Obj)} {σ : L2.St} {Q : VK} {u : Value} {s' : Shared} (h : EP X pins σ (fun v H' => ∃ z, v = .str z ∧ Q (.str z) H') u s') : PySem.W.StrBack (EP X pins σ Q) u s' := by
  obtain ⟨v, H', I', rv, z, rfl, q⟩ := h
  obtain ⟨t, rfl⟩ := rv
  exact ⟨.str z, H', I', ⟨t, rfl⟩, q⟩

theorem call_repr_own (o : OpOf X.K C "__repr__" f) (F : FnOk X.prog X.w X.K X.mg X.base CX k f fd ps sp) (hr : Room (k + 1) X.A) (hb : Binds X.K fd ps []) (hx : Passes CX X E) : CallR X (.builtin "repr") (rShow C sp E) := by
  intro pins s σ H vs us Q I r hq
  obtain ⟨a, dx, fs, rfl, ea, q⟩ := hq
  obtain ⟨u, rfl, ru⟩ := vals1 r
  cases ru
  obtain ⟨od, J⟩ := inst_of I ea
  obtain ⟨m, hF⟩ := I.fr
  exact PySem.W.repr_K hr.in1.units0 hF I.ok.mod.kin J o.at_ o.fn (wpAny_mono (run_in (vs := [.ref a]) F hr.in1 rfl hb hx I (.cons rfl .nil) q) (fun _ _ z => shown_back z) fun _ _ e => e)

theorem call_str_own (o : OpOf X.K C "__str__" f) (F : FnOk X.prog X.w X.K X.mg X.base CX k f fd ps sp) (hr : Room (k + 2) X.A) (hb : Binds X.K fd ps []) (hx : Passes CX X E) : CallR X (.type "str") (rShow C sp E) := by
  intro pins s σ H vs us Q I r hq
  obtain ⟨a, dx, fs, rfl, ea, q⟩ := hq
  obtain ⟨u, rfl, ru⟩ := vals1 r
  cases ru
  obtain ⟨od, J⟩ := inst_of I ea
  exact PySem.W.kso_call hr.in1.in1.units0 I.kIn J o.at_ o.fn (wpAny_mono (run_in (vs := [.ref a]) F hr.in1.in1 rfl hb hx I (.cons rfl .nil) q) (fun _ _ z => shown_back z) fun _ _ e => e)

/-- repr of data, where nothing is being shown -/
def rData (K : PySem.W.Frag) : List V → Hp → VK → Prop := fun vs H Q => ∃ a d, vs = [.ref a] ∧ Dp K H (.ref a) d ∧ d.showable = true ∧ d.hasDict = false ∧ d.depth ≤ 20 ∧ d.shown.length ≤ sizeLine ∧ Q (.str d.shown) H
theorem call_repr_data (hg : X.A.guards = some []) (hr : Room 0 X.A) : CallR X (.builtin "repr") (rData X.K) := by
  intro pins s σ H vs us Q I r hq
  obtain ⟨a, d, rfl, hd, hs, hn, hdp, hz, q⟩ := hq
  obtain ⟨u, rfl, ru⟩ := vals1 r
  obtain ⟨as, rd⟩ := Dp.reads I d _ _ hd ru
  cases ru
  have hu := hr.units
  exact repr_of_reads' rd hs (PyData.noDict_hsm hn) hg (by omega) (fun _ _ e => e) (fun h' u tk hk => ⟨.str d.shown, H, I.kept hk, ⟨u, rfl⟩, q⟩) hz
end
end Ow
/-! A promise of a def that is only called where nothing is being shown (no guard stands on the stack): FnG. -/
namespace Ow
open PySem PySem.Spec PyProof.Rows L2

structure FnG (P : Program) (w : World) (K : PySem.W.Frag) (mg : Str → Option Value) (base : Heap) (CX : CXT) (k : Nat) (f : Addr) (fd : FuncData) (ps : List Str) (sp : Sp) : Prop where
  len : ∀ vs H Q E, sp vs H Q E → vs.length = ps.length
  run : ∀ (A : Around) (out : List Env) (s : Shared) (H : Hp) (gs : Args) (us : List Value) (vs : List V) (Q : VK) (E : XK),
    Room k A → A.guards = some [] → Env0 P w K mg base A out s H → BindsTo s fd gs (ps.zip us) → Vals vs us → sp vs H Q E →
    codeAny (model P w) A (.call (.ref f) gs) (CR CX out P w H s Q E) s

section
variable {P : Program} {w : World} {K : PySem.W.Frag} {mg : Str → Option Value} {base : Heap} {CX : CXT} {k : Nat} {f : Addr} {fd : FuncData} {ps N : List Str} {sp : Sp}
variable {x qual : Str} {pa : Arguments} {bd : List Stmt} {sc : Scope} {dvs : List V} {kws : List (Str × V)}

theorem FnG.mono {j : Nat} (F : FnG P w K mg base CX j f fd ps sp) (h : j ≤ k) : FnG P w K mg base CX k f fd ps sp :=
  ⟨F.len, fun A out s H gs us vs Q E hr => F.run A out s H gs us vs Q E (hr.mono h)⟩

theorem guards_deeper (A : Around) (env : Env) : (A.deeper env).guards = A.guards := rfl

/-- the rule, as FunD.ok, the body run where no guard stands -/
theorem fnG_ok (F : FunD K x qual pa bd sc dvs kws f fd) (S : FnScope N ps sc) (len : ∀ vs H Q E, sp vs H Q E → vs.length = ps.length)
    (body : ∀ (cdv : Value) (A : Around) (out : List Env) (s : Shared) (H : Hp) (vs : List V) (Q : VK) (E : XK),
      Room k (A.deeper (envOfC qual sc s.heap.objs.size f cdv)) → (A.deeper (envOfC qual sc s.heap.objs.size f cdv)).guards = some [] → sp vs H Q E →
      ∃ t, PSs (cxOf CX P w K mg base N qual sc f cdv A out s H E) bd t ∧ t { nx := fun _ H' => Q .non H', rt := Q } (start N vs) H) :
    FnG P w K mg base CX (k + 1) f fd ps sp := by
  obtain ⟨oc, od, dV, kV, doc, pm, an, cdv, ct, osl, rfl, lk, hcd, _, _⟩ := F.ex
  refine ⟨len, fun A out s H gs us vs Q E hr hg e0 hb r hsp => ?_⟩
  have bs1 : ∀ b o, base.get? b = some o → s.heap.get? b = some o := fun b o e => (e0.bs b o e).1
  have kinds : ∀ q ∈ ps.zip us, sc.names.lookup q.1 = some .local ∨ (sc.names.lookup q.1 = some .cell ∧
      ((cellsFrom (s.heap.objs.size + 1) sc.names []).lookup q.1).isSome = true) := by
    rintro ⟨n, v⟩ hq
    cases S.par n (List.of_mem_zip hq).1 with
    | inl z => exact Or.inl z
    | inr z => exact Or.inr ⟨z, PySem.W.cellsFrom_some _ _ _ (Or.inl z)⟩
  refine codeAny_call_function hr.depth ((e0.mod.kin.keeps bs1) _ _ lk) rfl S.co S.gen rfl
    (PySem.W.codeRec_of (e0.mod.kin.keeps bs1) hcd) (hb _ _ _ _ (wpAny_newFunctionEnv_cells S.kind kinds fun env he t1 ent => ?_))
  cases he
  obtain ⟨t, ht, hq⟩ := body cdv A out s H vs Q E (hr.deeper _) hg hsp
  have I : Inv (cxOf CX P w K mg base N qual sc f cdv A out s H E) [] (start N vs) H t1 := inv_start S hr.hd e0 (len _ _ _ _ hsp) r ent
  refine ⟨(e0.mod.nolimit.keeps bs1).keeps ent.toInCall.keep, codeAny_func (wpAny_mono (ht.run [] t1 _ H _ I hq) (fun fl t2 got => ?_) fun _ _ z => z)⟩
  cases fl with
  | ret u =>
    obtain ⟨v, _, G, J, rv, q⟩ := got
    exact ⟨v, G, J.os, J.bare, J.base, J.hok, rv, q⟩
  | next =>
    obtain ⟨_, G, J, q⟩ := got
    exact ⟨V.non, G, J.os, J.bare, J.base, J.hok, rfl, q⟩
  | brk => exact got.elim fun _ z => z.elim fun _ z => z.2.elim
  | cont => exact got.elim fun _ z => z.elim fun _ z => z.2.elim

end

section
variable {X : Cx} {CX : CXT} {k : Nat} {f : Addr} {fd : FuncData} {ps : List Str} {sp : Sp} {E : XK} {x : Str} {p pos : Pos} {e : Expr} {es : List Expr} {t : TA}
theorem runG {pins : List (Addr × Obj)} {σ : L2.St} {H : Hp} {s : Shared} {Q : VK} {us : List Value} {vs : List V} (F : FnG X.prog X.w X.K X.mg X.base CX k f fd ps sp) (hr : Room k X.A) (hg : X.A.guards = some []) (hb : Binds X.K fd ps []) (hx : Passes CX X E)
    (I : Inv X pins σ H s) (r : Vals vs us) (h : sp vs H Q E) : wpAny (model X.prog X.w) X.A (call (.ref f) us) (EP X pins σ Q) X.xe s := by
  have hl : us.length = ps.length := by rw [← r.length]; exact F.len _ _ _ _ h
  have b := hb s us I.kIn (by rw [List.append_nil]; exact hl)
  rw [List.append_nil] at b
  refine wpAny_call (codeAny_mono (F.run X.A X.stack s H ⟨us, []⟩ us vs Q E hr hg I.env0 b r h) fun res s' hq => ?_)
  cases res with
  | error err => exact hx pins σ H s err s' I hq
  | ok fl => cases fl with
    | ret u => exact I.after hq
    | next => exact hq.elim
    | brk => exact hq.elim
    | cont => exact hq.elim

theorem pe_callG (F : FnG X.prog X.w X.K X.mg X.base CX k f fd ps sp) (hr : Room k X.A) (hgu : X.A.guards = some []) (hg : Gl X x) (hm : X.mg x = some (.ref f)) (hk : PySem.W.keepIn X.K (.ref f) = true) (hb : Binds X.K fd ps []) (hx : Passes CX X E)
    (ha : PA X (e :: es) t) (hdb : (x == ("__debug__" : Str)) = false := by decide) (he : starEach (e :: es) X.env = (false, eval e X.env) :: starEach es X.env := by rfl) (hpl : (backTo pos (starEach es X.env)).any (·.1) = false := by rfl) :
    PE X (.Call (.Name x p) (e :: es) [] pos) (tCall sp [] E t) := by
  refine ⟨fun pins s σ H Q I h => wpAny_Call_Name_kw (ld_glob I hg hm ?_ hdb)⟩
  refine PySem.W.callWith_K (h₀ := X.base) I.ok.mod.kin hk (thn (ha.run pos pins s σ H _ I h) fun us s1 got => ?_) he hpl
  obtain ⟨vs, H1, I1, r, q⟩ := got
  rw [List.append_nil] at q
  exact ⟨I1.kIn, runG F hr hgu hb hx I1 r q⟩
end

section
/-- the law's own call, by such a promise -/
theorem law_callG {P : Program} {w : World} {K : PySem.W.Frag} {mg mb : Str → Option Value} {CX : CXT} {k : Nat} {fa a : Addr} {fd : FuncData} {x : Str} {sp : Sp} {t0 : Shared} {us : List Value} {ns : List Int}
    (KX : K.In t0.heap) (hns : t0.heap.Ns mainGlobals mg) (hb : t0.heap.Ns builtinsNs mb) (hbb : ∀ x : Str, x ≠ "__name__" → mb x = bootBuiltins x) (hlim : t0.heap.NoLimit) (hgen : t0.gens = #[])
    (ha : t0.heap.get? a = some { cls := .type "list", data := .seq us.toArray }) (hi : IntsAre us ns) (hl : ns.length ≤ sizeLine) (hr : Room k callerA)
    (F : ∀ base : Heap, K.In base → base.Ns mainGlobals mg → FnG P w K mg base CX k fa fd [x] sp) (hbind : ∀ (s : Shared) (u : Value), BindsTo s fd ⟨[u], []⟩ [(x, u)])
    (hsp : ∀ H : Hp, Only H → SqL K H a (ns.map V.int) → sp [.ref a] H (fun v _ => v = .bl true) fun _ _ _ => False)
    (hCX : ∀ H e s', CX [] H t0 (fun _ _ _ => False) e s' → False) :
    codeAny (model P w) callerA (.call (.ref fa) ⟨[.ref a], []⟩) (fun r s' => r = .ok (.ret (.bool true)) ∧ OldK t0.heap s'.heap ∧ s'.os = t0.os ∧ AllBare s'.gens) t0 := by
  have vals := vals_ints hi
  suffices main : ∀ G : Hp, Only G → SqL K G a (ns.map V.int) → HOk P w G t0.heap → (∀ b, G b ≠ none → b = a) → (G a ≠ none → K.lookup a = none) →
      codeAny (model P w) callerA (.call (.ref fa) ⟨[.ref a], []⟩) (fun r s' => r = .ok (.ret (.bool true)) ∧ OldK t0.heap s'.heap ∧ s'.os = t0.os ∧ AllBare s'.gens) t0 by
    cases hk : K.lookup a with
    | some o =>
      have eo := KX a o hk
      rw [ha] at eo
      cases eo
      refine main (fun _ => none) (fun _ => Or.inl rfl) (Or.inr ⟨_, us.toArray, _, hk, rfl, rfl, rfl, ?_, ?_⟩) (fun _ _ z => nomatch z) (fun _ z => absurd rfl z) (fun z => absurd rfl z)
      · rw [List.size_toArray, hi.length]; exact hl
      · simpa using vals
    | none =>
      have there : ∀ b : Addr, b = a → (fun b => if b = a then some (HO.frz { cls := .type "list", data := .seq us.toArray } (.lst (ns.map V.int))) else none) b = some (HO.frz { cls := .type "list", data := .seq us.toArray } (.lst (ns.map V.int))) := fun b e => if_pos e
      have away : ∀ b : Addr, b ≠ a → (fun b => if b = a then some (HO.frz { cls := .type "list", data := .seq us.toArray } (.lst (ns.map V.int))) else none) b = none := fun b e => if_neg e
      refine main (fun b => if b = a then some (HO.frz { cls := .type "list", data := .seq us.toArray } (.lst (ns.map V.int))) else none) (fun b => ?_) (Or.inl (Or.inr ⟨_, there a rfl⟩)) (fun b u z => ?_) (fun b z => ?_) fun _ => hk
      · exact (Classical.em (b = a)).elim (fun e => Or.inr ⟨_, _, there b e⟩) fun e => Or.inl (away b e)
      · cases Classical.em (b = a) with
        | inl e =>
          have z' := (there b e).symm.trans z
          cases z'
          subst e
          exact ⟨ha, by rw [List.length_map]; exact hl, us, _, vals, ha⟩
        | inr e => exact nomatch (away b e).symm.trans z
      · exact Classical.byContradiction fun e => z (away b e)
  intro G hO hS hok hA hK
  have free : ∀ {b : Addr} {o : Obj}, t0.heap.get? b = some o → (∀ es ep, o.data = .dict es ep → G b = none) := fun {b o} e es ep d => by
    cases q : G b with
    | none => rfl
    | some u =>
      cases hA b (by rw [q]; exact nofun)
      rw [ha] at e
      cases e
      exact nomatch (d : Data.seq us.toArray _ = Data.dict es ep)
  have spaces : ∀ {b : Addr} {m : Str → Option Value}, t0.heap.Ns b m → (hidT t0.heap G).Ns b m := fun {b m} h => by
    obtain ⟨o, es, ep, e, d, r⟩ := h
    exact ⟨o, es, ep, hidT_get e (free e es ep d), d, r⟩
  have KB : K.In (hidT t0.heap G) := fun b o e => hidT_get (KX b o e) (by
    cases q : G b with
    | none => rfl
    | some u =>
      cases hA b (by rw [q]; exact nofun)
      rw [hK (by rw [q]; exact nofun)] at e
      exact nomatch e)
  have e0 : Env0 P w K mg (hidT t0.heap G) callerA [] t0 G := by
    refine ⟨rfl, ⟨KB, spaces hns, ⟨mb, spaces hb, hbb⟩, ?_⟩, fun _ _ e => of_hidT e, Nat.le_of_eq (hidT_size _ _), trivial, fun b z => absurd (show b ∈ ([] : List Addr) from z) List.not_mem_nil, hok, .of_eq hgen⟩
    obtain ⟨mc, h1, h2⟩ := hlim
    exact ⟨mc, spaces h1, h2⟩
  refine codeAny_mono ((F _ KB (spaces hns)).run callerA [] t0 G ⟨[.ref a], []⟩ [.ref a] [.ref a] _ _ hr rfl e0 (hbind t0 (.ref a)) (.cons rfl .nil) (hsp G hO hS)) fun res s' h => ?_
  cases res with
  | error err => exact (hCX G err s' h).elim
  | ok fl => cases fl with
    | next => exact h.elim
    | brk => exact h.elim
    | cont => exact h.elim
    | ret u =>
      obtain ⟨v, G', os, bare, un, hok', rv, q⟩ := h
      cases (show v = .bl true from q)
      cases (show u = Value.bool true from rv)
      refine ⟨rfl, OldK.of_keep fun b o e => ?_, os, bare⟩
      cases hO b with
      | inl n => exact un.keep b o e n (fun z => absurd (show b ∈ ([] : List Addr) from z) List.not_mem_nil) List.not_mem_nil
      | inr z =>
        obtain ⟨ob, xs, z⟩ := z
        have k1 := (hok b _ z).1
        rw [e] at k1
        cases k1
        exact (hok' b _ (un.frzs b _ _ z)).1

theorem walk_ofG {l : PySem.W.OpenLaw} {n k : Nat} {q : Program} {loose : List Str} {XP : (Str → Option Value) → Heap → Prop} {YP : World → Heap → Prop} {d : DefRec} {CX : CXT} {x : Str}
    (hn : l.most = some n) (hn2 : n ≤ sizeLine) (hdf : d.params.defaults = []) (hr : Room k callerA)
    (F : ∀ (w : World) (mg : Str → Option Value) (fa : Addr) (h : Heap), YP w h → h.Ns mainGlobals mg → mg d.name = some (.ref fa) →
      ∃ (K : PySem.W.Frag) (fd : FuncData) (sp : Sp), K.In h ∧ (∀ (s : Shared) (u : Value), BindsTo s fd ⟨[u], []⟩ [(x, u)]) ∧
        (∀ (H : Hp) (a : Addr) (ns : List Int), ns.length ≤ n → Only H → SqL K H a (ns.map V.int) → sp [.ref a] H (fun v _ => v = .bl true) fun _ _ _ => False) ∧
        ∀ base : Heap, K.In base → base.Ns mainGlobals mg → FnG l.prog w K mg base CX k fa fd [x] sp)
    (hCX : ∀ (H : Hp) (s : Shared) (e : Value) (s' : Shared), CX [] H s (fun _ _ _ => False) e s' → False) :
    PySem.W.WalkO q loose XP YP l.row.toRowW d [] (fun f vs => PySem.call f vs) := by
  refine Att.attach_call hn hdf fun w t t0 mg mb fa o pm cd doc a us ns T Y _ _ _ hmg hobj hints hlen hgen => ?_
  obtain ⟨K, fd, sp, KX, hb, hsp, hF⟩ := F w mg fa _ Y T.T.g hmg
  exact law_callG KX T.T.g T.T.b T.T.builtins T.T.nolimit hgen hobj hints (Nat.le_trans hlen hn2) hr hF hb (fun H hO hS => hsp H a ns hlen hO hS) fun H e s' => hCX H t0 e s'
end
end Ow
/-! enumerate of a tuple. -/
namespace Ow
open PySem PySem.Spec PyProof.Rows L2

theorem newE (t : Addr) (its : Array Value) :
    Meets (Builtin.«enumerate.__new__» ⟨[.type "enumerate", .ref t], []⟩) (fun _ R s => s.heap.IsTuple t its ∧
      R (.ok (.ret (.ref (s.heap.push ⟨.type "tuple_iterator", none, .fields #[.ref t, .int 0 0], #[]⟩).objs.size)))
        { s with heap := (s.heap.push ⟨.type "tuple_iterator", none, .fields #[.ref t, .int 0 0], #[]⟩).push ⟨.type "enumerate", none, .fields #[.none, .bool false, .ref s.heap.objs.size, rawInt 0, .none, .none], #[]⟩ }) :=
  .of_wp fun prog w A R s h => by
    obtain ⟨hp, g, d, tk, os⟩ := s
    obtain ⟨h1, h⟩ := h
    have hsub := sub_enumerate
    have q1 : ∀ {B : Around} {E : Value → Shared → Prop} {Q : Value → Shared → Prop}, Q (.ref hp.objs.size) ⟨hp.push ⟨.type "tuple_iterator", none, .fields #[.ref t, .int 0 0], #[]⟩, g, d, tk, os⟩ → wpAny (model prog w) B (pyIter (.ref t)) Q E ⟨hp, g, d, tk, os⟩ :=
      fun q => (begins_tuple t its).iter prog w _ _ ⟨hp, g, d, tk, os⟩ _ h1 q
    wp_walk using q1
    refine wpAny_stack_any fun st => wpAny_pure ?_
    split
    · rename_i c _ _ _ _ _
      cases (c == Value.type "enumerate") <;> (wp_walk using q1; exact ⟨_, rfl, h⟩)
    · wp_walk using q1
      exact ⟨_, rfl, h⟩

section
variable {prog : Program} {w : World} {A : Around} {E : Value → Shared → Prop} {s : Shared}
theorem call_enumT {t : Addr} {its : Array Value} {Q : Value → Shared → Prop} (ht : s.heap.IsTuple t its)
    (h : ∀ h', IsEnum h' (s.heap.objs.size + 1) s.heap.objs.size 0 .none → h'.IsTupleIter s.heap.objs.size t 0 → h'.objs.size = s.heap.objs.size + 2 →
      (∀ b o, s.heap.get? b = some o → h'.get? b = some o) → Q (.ref (s.heap.objs.size + 1)) { s with heap := h' }) :
    wpAny (model prog w) A (call (.type "enumerate") [.ref t]) Q E s := by
  refine callType_new F.called_enumerate (by decide) (F.typeCall_enumerate_1 _) (F.newCall_enumerate_1 _) (fun obj => F.args_object_init_2 obj _) F.entry_enumerate_new (newE t its) ⟨ht, ?_⟩
  generalize e1 : (⟨.type "tuple_iterator", none, .fields #[.ref t, .int 0 0], #[]⟩ : Obj) = o1
  generalize e2 : (⟨.type "enumerate", none, .fields #[.none, .bool false, .ref s.heap.objs.size, rawInt 0, .none, .none], #[]⟩ : Obj) = o2
  have f1 : o1.isFreed = false := by rw [← e1]; rfl
  have f2 : o2.isFreed = false := by rw [← e2]; rfl
  have hz : (s.heap.push o1).objs.size = s.heap.objs.size + 1 := Heap.size_push ..
  have g2 : ((s.heap.push o1).push o2).get? (s.heap.objs.size + 1) = some o2 := by
    have z := Heap.get?_push_size (s.heap.push o1) f2
    rw [hz] at z
    exact z
  have g1 : ((s.heap.push o1).push o2).get? s.heap.objs.size = some o1 := Heap.get?_push_of_some _ (Heap.get?_push_size _ f1)
  show _ ∧ _
  rw [hz]
  refine ⟨⟨_, g2, by rw [← e2]⟩, h _ (by rw [← e2] at g2 ⊢; exact g2) ⟨o1, g1, by rw [← e1], by rw [← e1]; rfl⟩ (by rw [Heap.size_push, hz]) fun b o x => Heap.get?_push_of_some _ (Heap.get?_push_of_some _ x)⟩
end

/-- the tuple at a, each item with its place in a new pair -/
def IteT (K : PySem.W.Frag) (a : Addr) : It :=
  ⟨fun i H => ∃ (xs : List V) (x : V), SqT K H a xs ∧ xs[i]? = some x, fun i H v H' => ∃ T x, v = .ref T ∧ H T = none ∧ H' = upd H T (.tup [.int (i : Nat), x]) ∧ ∀ xs, SqT K H a xs → xs[i]? = some x, fun i H => ∃ xs : List V, SqT K H a xs ∧ xs.length = i⟩
theorem turn_enumT {P : Program} {w : World} {K : PySem.W.Frag} {elts : List Expr} {kk : Nat} {tpos : Pos} (a e it : Addr) :
    Turn P w K (.Tuple elts kk tpos) (IteT K a) [e, it] e (fun i h => (∃ old, IsEnum h e it ((i : Nat) : Int) old) ∧ h.IsTupleIter it a i ∧ e ≠ it ∧ a ≠ it ∧ e ≠ a) where
  mem := by simp
  obj := fun i h st b hb => by
    obtain ⟨⟨old, he⟩, ⟨o, ho, hc, hd⟩, _⟩ := st
    rcases (by simpa using hb : b = e ∨ b = it) with rfl | rfl
    · exact ⟨_, he, fun v q => nomatch q⟩
    · exact ⟨o, ho, fun v q => by rw [hd] at q; cases q⟩
  keep := fun i h h' st k => by
    obtain ⟨⟨old, he⟩, hi, hne⟩ := st
    exact ⟨⟨old, k e (by simp) _ he⟩, hi.at fun o q => k it (by simp) o q, hne⟩
  item := by
    intro X hP hw hK hc i pins s σ H E I hf st hg
    subst hP hw hK
    obtain ⟨⟨old, he⟩, hit, hne, na, nea⟩ := st
    obtain ⟨xs, x, hq, hx⟩ := hg
    obtain ⟨its, rv, p, hz⟩ := I.tuple hq
    obtain ⟨u, hu, ru⟩ := rv.get hx
    have hel : e < s.heap.objs.size := Heap.lt_size he
    have hil : it < s.heap.objs.size := by obtain ⟨_, q, _⟩ := hit; exact Heap.lt_size q
    have hlt : i < its.toArray.size := by simpa using (List.getElem?_eq_some_iff.mp hu).1
    have DD := Draws.tuple (prog := X.prog) (w := X.w) (A := X.A.in1) (show X.A.in1.handled = none from I.ok.hd hc) it a na its.toArray
    refine wpAny_pyNext_enum_itemD DD he ⟨hit, p⟩ hlt hne (by simp [hne, nea]) fun y h' tk hy ho hst hT hsz hk => ?_
    have ey : y = u := by
      have : its.toArray[i]? = some u := by simpa using hu
      rw [this] at hy
      exact (Option.some.inj hy).symm
    subst ey
    refine ⟨_, rfl, wpAny_letOwnedTupleGo_enum (s := { s with heap := h', toks := tk + 1 }) ho fun h'' he' sb => ?_⟩
    have hT2 : h''.get? s.heap.objs.size = some { cls := .type "tuple", data := .seq #[.int i tk, y] } := (sb.2 _ (Nat.ne_of_gt hel)).trans hT
    have new : ObjOk X.prog X.w (upd H s.heap.objs.size (.tup [.int (i : Nat), x])) h'' s.heap.objs.size (.tup [.int (i : Nat), x]) :=
      ⟨by show 2 ≤ sizeLine; decide, [.int i tk, y], .cons ⟨_, rfl⟩ (.cons ru .nil), ⟨_, hT2, rfl, _, rfl⟩⟩
    have I1 : Inv X pins σ (upd H s.heap.objs.size (.tup [.int (i : Nat), x])) { s with heap := h'', toks := tk + 1 } :=
      I.turnedNew (ch := [e, it]) (fun b ob hb q => (sb.2 b (fun z => hb (by simp [z]))).trans (hk b ob (fun z => hb (by simp [z])) (fun z => hb (by simp [z])) q)) hf (Nat.le_refl _) new
    refine ⟨.ref s.heap.objs.size, _, I1, rfl, ⟨_, x, rfl, I.hok.fresh (Nat.le_refl _), rfl, fun ys hy => by rw [I.tuple_inj hy hq]; exact hx⟩, ⟨⟨y, ?_⟩, hst.1.at fun o q => (sb.2 it (Ne.symm hne)).trans q, hne, na, nea⟩, fun b hb => ?_⟩
    · rw [show ((i + 1 : Nat) : Int) = (i : Int) + 1 by omega]
      exact he'
    · have hb' : b < s.heap.objs.size := by
        rcases (by simpa using hb : b = e ∨ b = it) with rfl | rfl
        · exact hel
        · exact hil
      rw [upd_ne (Nat.ne_of_lt hb')]
      exact (hf b hb).1
  done := by
    intro X hP hw hK hc i pins s σ H E I hf st hg
    subst hP hw hK
    obtain ⟨⟨old, he⟩, hit, hne, na, nea⟩ := st
    obtain ⟨xs, hq, hx⟩ := hg
    obtain ⟨its, rv, p, hz⟩ := I.tuple hq
    obtain ⟨f0, f1, f2, f3, f4, f5⟩ := hf it (by simp)
    have hl := rv.length
    have hn : its.toArray.size = i := by rw [List.size_toArray, ← hl]; exact hx
    have DD := Draws.tuple (prog := X.prog) (w := X.w) (A := X.A.in1) (show X.A.in1.handled = none from I.ok.hd hc) it a na its.toArray
    exact wpAny_pyNext_enum_endD DD he ⟨by rw [hn]; exact hit, p⟩ fun h' eb => ⟨rfl, I.turned (t' := s.toks) (fun b o hb q => eb b o hb q) f0 f1 f3 f4 f5⟩
  self := fun A i s Q E st h => by
    obtain ⟨⟨_, he⟩, _⟩ := st
    exact wpAny_pyIter_enum he h
def iEnumT (K : PySem.W.Frag) (ta : TA) : TI := fun σ H R => ta σ H fun vs H1 => ∃ a xs, vs = [.ref a] ∧ SqT K H1 a xs ∧ R (IteT K a) H1
theorem pi_enumT {X : Cx} {e : Expr} {ta : TA} {p pos tpos : Pos} {elts : List Expr} {kk : Nat} (hg : Gl X "enumerate") (hm : X.mg "enumerate" = none) (ha : PA X [e] ta) (hs : starEach [e] X.env = [(false, eval e X.env)] := by rfl) :
    PI X (.Tuple elts kk tpos) (.Call (.Name "enumerate" p) [e] [] pos) (iEnumT X.K ta) := by
  refine ⟨fun pins s σ H R I h => ?_⟩
  refine Call_ (ld_blt I hg hm boot_enumerate (PyProof.Rows.callWith_type1 (thn (ha.run pos pins s σ H _ I h) fun us s1 got => ?_) hs rfl))
  obtain ⟨vs, H1, I1, r1, a, xs, rfl, hq, q⟩ := got
  obtain ⟨u, rfl, ru⟩ := vals1 r1
  cases ru
  obtain ⟨its, rv, p', hz⟩ := I1.tuple hq
  obtain ⟨oa, hoa, _⟩ := id p'
  have hal : a < s1.heap.objs.size := Heap.lt_size hoa
  refine call_enumT (show s1.heap.IsTuple a its.toArray from p') fun h' he hit hsz hk => wpAny_pyIter_enum he ?_
  have I2 : Inv X pins σ H1 { s1 with heap := h' } := I1.kept (t' := s1.toks) hk
  refine ⟨s1.heap.objs.size + 1, [s1.heap.objs.size + 1, s1.heap.objs.size], _, _, H1, rfl, I2, turn_enumT a (s1.heap.objs.size + 1) s1.heap.objs.size, ⟨⟨.none, he⟩, hit, Nat.succ_ne_self _, Nat.ne_of_lt hal, Nat.ne_of_gt (Nat.lt_succ_of_lt hal)⟩, fun b hb => ?_, q⟩
  have hle : s1.heap.objs.size ≤ b := by
    rcases (by simpa using hb : b = s1.heap.objs.size + 1 ∨ b = s1.heap.objs.size) with rfl | rfl
    · exact Nat.le_add_right _ _
    · exact Nat.le_refl _
  exact I1.fpOk hle (I1.hok.fresh hle)
theorem walk_enumT {K : PySem.W.Frag} {a : Addr} {xs : List V} : Walk (IteT K a) xs.length (fun H => SqT K H a xs) (YPair (fun i => some (.int (i : Nat))) (fun i => xs[i]?)) := by
  refine ⟨fun i H hi q => ⟨xs, xs[i], q, List.getElem?_eq_getElem hi⟩, fun H q => ⟨xs, q, rfl⟩, fun i H v H' hi q y => ?_⟩
  obtain ⟨T, x, h1, h2, h3, h4⟩ := y
  exact ⟨T, .int (i : Nat), x, h1, h2, h3, rfl, h4 xs q⟩
end Ow
/-! Fractions in lowest terms, as plain integers. -/
namespace Rm
def sg (b : Int) : Int := if 0 < b then 1 else -1
def byv (t b : Int) : Int := (Int.gcd t b : Int) * sg b
def low (t b : Int) : Int × Int := (t.fdiv (byv t b), b.fdiv (byv t b))
structure Lw (n d : Int) : Prop where
  pos : 0 < d
  cop : Int.gcd n d = 1

theorem sg_ne (b : Int) : sg b ≠ 0 := by unfold sg; split <;> omega
theorem gcd_pos {t b : Int} (hb : b ≠ 0) : 0 < Int.gcd t b := Int.gcd_pos_of_ne_zero_right t hb
theorem byv_ne {t b : Int} (hb : b ≠ 0) : byv t b ≠ 0 := by
  have h := gcd_pos (t := t) hb
  unfold byv sg
  split <;> omega
theorem byv_eq {t b : Int} (hb : b ≠ 0) : (if b < 0 then -(Int.gcd t b : Int) else (Int.gcd t b : Int)) = byv t b := by
  unfold byv sg
  by_cases h : b < 0
  · rw [if_pos h, if_neg (by omega)]; omega
  · rw [if_neg h, if_pos (by omega)]; omega
theorem byv_natAbs {t b : Int} : (byv t b).natAbs = Int.gcd t b := by
  unfold byv sg
  split <;> simp [Int.natAbs_mul]
theorem byv_le {t b : Int} (hb : b ≠ 0) : (byv t b).natAbs ≤ b.natAbs := by
  rw [byv_natAbs]
  exact Nat.le_of_dvd (by omega) (Nat.gcd_dvd_right _ _)
theorem byv_dvd_t (t b : Int) : byv t b ∣ t := by
  have h : (Int.gcd t b : Int) ∣ t := Int.gcd_dvd_left ..
  unfold byv sg
  split
  · rw [Int.mul_one]; exact h
  · rw [Int.mul_neg, Int.mul_one]; exact Int.neg_dvd.mpr h
theorem byv_dvd_b (t b : Int) : byv t b ∣ b := by
  have h : (Int.gcd t b : Int) ∣ b := Int.gcd_dvd_right ..
  unfold byv sg
  split
  · rw [Int.mul_one]; exact h
  · rw [Int.mul_neg, Int.mul_one]; exact Int.neg_dvd.mpr h
theorem fdiv_mul_of_dvd {t g : Int} (h : g ∣ t) : t.fdiv g * g = t := Int.fdiv_mul_cancel h
theorem low_t {t b : Int} : (low t b).1 * byv t b = t := fdiv_mul_of_dvd (byv_dvd_t t b)
theorem low_b {t b : Int} : (low t b).2 * byv t b = b := fdiv_mul_of_dvd (byv_dvd_b t b)
theorem low_lw (t : Int) {b : Int} (hb : b ≠ 0) : Lw (low t b).1 (low t b).2 := by
  have e1 := low_t (t := t) (b := b)
  have e2 := low_b (t := t) (b := b)
  have hg := gcd_pos (t := t) hb
  refine ⟨?_, ?_⟩
  · unfold byv sg at e2
    by_cases h : 0 < b
    · rw [if_pos h, Int.mul_one] at e2
      have : 0 < (low t b).2 * (Int.gcd t b : Int) := by rw [e2]; exact h
      exact Int.pos_of_mul_pos_left this (by omega) |> fun z => z
    · rw [if_neg h, Int.mul_neg, Int.mul_one, Int.mul_neg] at e2
      have : 0 < (low t b).2 * (Int.gcd t b : Int) := by omega
      exact Int.pos_of_mul_pos_left this (by omega)
  · have e : Int.gcd ((low t b).1 * byv t b) ((low t b).2 * byv t b) = Int.gcd t b := by rw [e1, e2]
    rw [Int.gcd_mul_right, byv_natAbs] at e
    exact Nat.eq_of_mul_eq_mul_right hg (by rw [e, Nat.one_mul])
theorem byv_lw {n d : Int} (h : Lw n d) : byv n d = 1 := by
  unfold byv sg
  rw [h.cop, if_pos h.pos]
  rfl
theorem low_id {n d : Int} (h : Lw n d) : low n d = (n, d) := by
  unfold low
  rw [byv_lw h, Int.fdiv_one, Int.fdiv_one]
theorem lw_int (n : Int) : Lw n 1 := ⟨by omega, by simp⟩
theorem low_int (n : Int) : low n 1 = (n, 1) := low_id (lw_int n)
theorem lw_neg {n d : Int} (h : Lw n d) : Lw (-n) d := ⟨h.pos, by rw [Int.neg_gcd]; exact h.cop⟩
theorem low_neg {n d : Int} (h : Lw n d) : low (-n) d = (-n, d) := low_id (lw_neg h)
theorem natAbs_le_mul {a g : Int} (hg : g ≠ 0) : a.natAbs ≤ (a * g).natAbs := by
  rw [Int.natAbs_mul]
  exact Nat.le_mul_of_pos_right _ (by omega)
theorem low_le1 (t : Int) {b : Int} (hb : b ≠ 0) : (low t b).1.natAbs ≤ t.natAbs := by
  have := natAbs_le_mul (a := (low t b).1) (byv_ne (t := t) hb)
  rw [low_t] at this
  exact this
theorem low_le2 (t : Int) {b : Int} (hb : b ≠ 0) : (low t b).2.natAbs ≤ b.natAbs := by
  have := natAbs_le_mul (a := (low t b).2) (byv_ne (t := t) hb)
  rw [low_b] at this
  exact this

/-! sums, differences, products of fractions -/
def plus (a b : Int × Int) : Int × Int := low (a.1 * b.2 + b.1 * a.2) (a.2 * b.2)
def minus (a b : Int × Int) : Int × Int := low (a.1 * b.2 - b.1 * a.2) (a.2 * b.2)
def times (a b : Int × Int) : Int × Int := low (a.1 * b.1) (a.2 * b.2)
def over (a b : Int × Int) : Int × Int := low (a.1 * b.2) (a.2 * b.1)

/-- below 2 ^ k -/
def Bd (k : Nat) (x : Int) : Prop := x.natAbs < 2 ^ k
theorem Bd.mono {j k : Nat} {x : Int} (h : Bd j x) (l : j ≤ k) : Bd k x := Nat.lt_of_lt_of_le h (Nat.pow_le_pow_right (by decide) l)
theorem Bd.neg {k : Nat} {x : Int} (h : Bd k x) : Bd k (-x) := by unfold Bd at *; rw [Int.natAbs_neg]; exact h
theorem Bd.mul {j k : Nat} {x y : Int} (h : Bd j x) (h' : Bd k y) : Bd (j + k) (x * y) := by
  unfold Bd at *
  rw [Int.natAbs_mul, Nat.pow_add]
  exact Nat.mul_lt_mul'' h h'
theorem Bd.add {k : Nat} {x y : Int} (h : Bd k x) (h' : Bd k y) : Bd (k + 1) (x + y) := by
  unfold Bd at *
  have := Int.natAbs_add_le x y
  rw [Nat.pow_succ]
  omega
theorem Bd.sub {k : Nat} {x y : Int} (h : Bd k x) (h' : Bd k y) : Bd (k + 1) (x - y) := by
  rw [Int.sub_eq_add_neg]
  exact h.add h'.neg
theorem Bd.le {k : Nat} {x y : Int} (h : Bd k y) (l : x.natAbs ≤ y.natAbs) : Bd k x := Nat.lt_of_le_of_lt l h
theorem Bd.log2 {k : Nat} {x : Int} (h : Bd k x) (hk : 0 < k) : x.natAbs.log2 < k := by
  unfold Bd at h
  by_cases h0 : x.natAbs = 0
  · rw [h0]; simpa using hk
  · exact (Nat.log2_lt h0).mpr h
theorem bd_low1 {k : Nat} {t b : Int} (hb : b ≠ 0) (h : Bd k t) : Bd k (low t b).1 := h.le (low_le1 t hb)
theorem bd_low2 {k : Nat} {t b : Int} (hb : b ≠ 0) (h : Bd k b) : Bd k (low t b).2 := h.le (low_le2 t hb)
theorem mul_ne {a b : Int} (ha : 0 < a) (hb : 0 < b) : a * b ≠ 0 := Int.ne_of_gt (Int.mul_pos ha hb)
theorem bd_one {k : Nat} (h : 0 < k) : Bd k 1 := by
  unfold Bd
  exact Nat.one_lt_two_pow (by omega)
theorem bd_zero {k : Nat} : Bd k 0 := by
  unfold Bd
  exact Nat.pow_pos (by decide)
end Rm
namespace Ra
open PySem PySem.Spec PyProof.Rows L2 Ow

/-! ### the text by places -/
def top (i : Nat) : Stmt := PySem.Challenge.pw_anypoints_k13_what_numbers_and_names_are.main.body.getD i (.Pass ⟨0, 0, 0, 0⟩)
abbrev sIsInt : Stmt := top 13
abbrev sAsRatio : Stmt := top 17
abbrev sInit : Stmt := inClass (top 18) 0
abbrev sTop : Stmt := inClass (top 18) 1
abbrev sBottom : Stmt := inClass (top 18) 2
abbrev sSign : Stmt := inClass (top 18) 3
abbrev sTotal : Stmt := inClass (top 18) 4
abbrev sAdd : Stmt := inClass (top 18) 5
abbrev sRadd : Stmt := inClass (top 18) 6
abbrev sSub : Stmt := inClass (top 18) 7
abbrev sRsub : Stmt := inClass (top 18) 8
abbrev sMul : Stmt := inClass (top 18) 9
abbrev sRmul : Stmt := inClass (top 18) 10
abbrev sNeg : Stmt := inClass (top 18) 11
abbrev sOver : Stmt := inClass (top 18) 12
abbrev sBelow : Stmt := inClass (top 18) 13
abbrev sEq : Stmt := inClass (top 18) 14
abbrev sStr : Stmt := inClass (top 18) 15
abbrev sRepr : Stmt := inClass (top 18) 16
abbrev FnP (K : PySem.W.Frag) (x qual : Str) (st : Stmt) (dvs : List V) (f : Addr) (fd : FuncData) : Prop := FunD K x qual (defArgs st) (defBody st) (defScope st) dvs [] f fd

/-! ### what a ratio looks like -/
theorem bt_ : ¬ (("_bottom" : Str) = "_top") := by decide +kernel
theorem tb_ : ¬ (("_top" : Str) = "_bottom") := by decide +kernel
def rf (n d : Int) : List (Str × V) := putF "_bottom" (.int d) (putF "_top" (.int n) [])
theorem rf_top (n d : Int) : (rf n d).lookup ("_top" : Str) = some (.int n) := by
  unfold rf; rw [lookup_putF, if_neg tb_, lookup_putF, if_pos rfl]
theorem rf_bottom (n d : Int) : (rf n d).lookup ("_bottom" : Str) = some (.int d) := by
  unfold rf; rw [lookup_putF, if_pos rfl]
theorem rf_no (n d : Int) {m : Str} (h1 : ¬ m = "_bottom") (h2 : ¬ m = "_top") : (rf n d).lookup m = none := by
  unfold rf; rw [lookup_putF, if_neg h1, lookup_putF, if_neg h2]; rfl
def RatAt (C : Addr) (H : Hp) (p : Addr) (n d : Int) : Prop := ∃ dx, H p = some (.ins C dx (rf n d))
theorem RatAt.same {C : Addr} {H H' : Hp} {p : Addr} {n d : Int} (h : RatAt C H p n d) (s : Same H H') : RatAt C H' p n d := by
  obtain ⟨dx, e⟩ := h
  exact ⟨dx, s _ _ e⟩

/-! ### what the walk asks of the class -/
structure RT (K : PySem.W.Frag) (mg : Str → Option Value) (C : Addr) : Prop where
  cl : Cls K C
  nT : NoAttr K C "_top"
  nB : NoAttr K C "_bottom"
  mgC : mg "Ratio" = some (.ref C)
  num : Num K C
  ca : PySem.W.findIn K (.ref C) "__class__" = some (some (.builtin "object.__class__"))
  cg : PySem.W.specialIn K (.builtin "object.__class__") "__get__" = some (some (.builtin "getset_descriptor.__get__"))
  ct : PySem.W.takesIn K (.builtin "object.__class__") = some true
  cm : PySem.W.mroIn K C (.type "object") = some true
  kCC : PySem.W.kitOne K (.ref C) (.ref C) = some true
  kIC : PySem.W.kitOne K (.type "int") (.ref C) = some false
  isi : mg "isinstance" = none
  int : mg "int" = none
  bool : mg "bool" = none
  str : mg "str" = none
  gcd : mg "gcd" = some (.builtin "math.gcd")

/-- a def that others call by its name -/
structure Dfn (P : Program) (w : World) (K : PySem.W.Frag) (mg : Str → Option Value) (base : Heap) (k : Nat) (x : Str) (ps : List Str) (sp : Sp) : Prop where
  ex : ∃ f fd, FnOk P w K mg base CX0 k f fd ps sp ∧ mg x = some (.ref f) ∧ PySem.W.keepIn K (.ref f) = true ∧ Binds K fd ps []
theorem pe_use {X : Cx} {k : Nat} {x : Str} {ps : List Str} {sp : Sp} {p pos : Pos} {e : Expr} {es : List Expr} {t : TA} (D : Dfn X.prog X.w X.K X.mg X.base k x ps sp) (hr : Room k X.A) (hg : Gl X x) (ha : PA X (e :: es) t)
    (hdb : (x == ("__debug__" : Str)) = false := by decide) (he : starEach (e :: es) X.env = (false, eval e X.env) :: starEach es X.env := by rfl) (hpl : (backTo pos (starEach es X.env)).any (·.1) = false := by rfl) :
    PE X (.Call (.Name x p) (e :: es) [] pos) (tCall sp [] E0 t) := by
  obtain ⟨f, fd, F, hm, hk, hb⟩ := D.ex
  exact pe_call F hr hg hm hk hb .nil pass0 ha hdb he hpl

section
variable {P : Program} {w : World} {K : PySem.W.Frag} {mg : Str → Option Value} {base : Heap}

/-! ### is_integer -/
def spInt (K : PySem.W.Frag) : Sp := fun vs H Q _ => ∃ (x : V) (t : Value) (a b : Bool), vs = [x] ∧ TyX K H x t ∧ PySem.W.kitOne K t (.type "int") = some a ∧ PySem.W.kitOne K t (.type "bool") = some b ∧ Q (.bl (a && !b)) H
theorem scInt : FnScope ["value"] ["value"] (defScope sIsInt) := ⟨rfl, rfl, rfl, by decide +kernel, rfl, by decide +kernel, by decide +kernel⟩
theorem ok_isint {f C : Addr} {fd : FuncData} (F : FnP K "is_integer" "is_integer" sIsInt [] f fd) (T : RT K mg C) : FnOk P w K mg base CX0 1 f fd ["value"] (spInt K) := by
  refine F.ok scInt (fun vs H Q E h => ?_) (fun cdv A outer s H vs Q E hr h => ?_)
  · obtain ⟨x, t, a, b, rfl, _⟩ := h
    rfl
  · obtain ⟨x, t, a, b, rfl, ty, ha, hb, q⟩ := h
    refine ⟨_, PSs.nox (pss_one (ps_ret (pe_and (pe_callB call_isi (by rfl) T.isi boot_isinstance (pa_cons (pv 0) (pa_cons (pe_bltn (v := .ty "int") rfl T.int PyProof.Rows.boot_int rfl) pa_nil)))
      (pe_one (pe_not (pe_callB call_isi (by rfl) T.isi boot_isinstance (pa_cons (pv 0) (pa_cons (pe_bltn (v := .ty "bool") rfl T.bool PyProof.Rows.boot_bool rfl) pa_nil)))))))), ?_⟩
    refine ⟨_, rfl, x, .ty "int", t, _, a, rfl, .ty _, ty, ha, a, rfl, ?_⟩
    cases a with
    | false => exact q
    | true => exact ⟨_, rfl, x, .ty "bool", t, _, b, rfl, .ty _, ty, hb, b, rfl, q⟩
theorem kII : PySem.W.kitOne K (.type "int") (.type "int") = some true := kit_ty (by decide +kernel)
theorem kIB : PySem.W.kitOne K (.type "int") (.type "bool") = some false := kit_ty (by decide +kernel)
end
end Ra
namespace Ra
open PySem PySem.Spec PyProof.Rows L2 Ow Rm

/-- // by an integer of either sign -/
def CDivZ (_ j : Int) : Prop := j ≠ 0 ∧ j.natAbs.log2 < 9000
section
variable {X : Cx}
theorem op_fdivZ : OpR X (binaryOp .FloorDiv) (rI CDivZ fun i j => .int (i.fdiv j)) := opI fun i j _ _ _ _ _ hc q => floordiv_int hc.1 q (.inl (PyProof.noPylong_of_log2 hc.2))
theorem cdivZ {t b : Int} {k : Nat} (hb : b ≠ 0) (h : Bd k b) (h0 : 0 < k) (h9 : k ≤ 9000) : CDivZ t (byv t b) :=
  ⟨byv_ne hb, Nat.lt_of_lt_of_le (Bd.log2 (h.le (byv_le hb)) h0) h9⟩
theorem cdivZ' {x t b : Int} {k : Nat} (hb : b ≠ 0) (h : Bd k b) (h0 : 0 < k) (h9 : k ≤ 9000) : CDivZ x (byv t b) :=
  ⟨byv_ne hb, Nat.lt_of_lt_of_le (Bd.log2 (h.le (byv_le hb)) h0) h9⟩
end

section
variable {P : Program} {w : World} {K : PySem.W.Frag} {mg : Str → Option Value} {base : Heap}
abbrev DInt (P : Program) (w : World) (K : PySem.W.Frag) (mg : Str → Option Value) (base : Heap) : Prop := Dfn P w K mg base 1 "is_integer" ["value"] (spInt K)

/-! ### Ratio(n, d) -/
def spInit (C : Addr) : Sp := fun vs H Q _ => ∃ (p dx : Addr) (n d : Int), vs = [.ref p, .int n, .int d] ∧ d ≠ 0 ∧ Bd 8000 d ∧ H p = some (.ins C dx []) ∧ Q .non (upd H p (.ins C dx (rf (low n d).1 (low n d).2)))
theorem scInit : FnScope ["self", "top", "bottom", "shared"] ["self", "top", "bottom"] (defScope sInit) := ⟨rfl, rfl, rfl, by decide +kernel, rfl, by decide +kernel, by decide +kernel⟩
theorem ok_init {f C : Addr} {fd : FuncData} (F : FnP K "__init__" "Ratio.__init__" sInit [.int 1] f fd) (T : RT K mg C) (D : DInt P w K mg base) : FnOk P w K mg base CX0 2 f fd ["self", "top", "bottom"] (spInit C) := by
  refine F.ok scInit (fun vs H Q E h => ?_) (fun cdv A outer s H vs Q E hr h => ?_)
  · obtain ⟨p, dx, n, d, rfl, _⟩ := h
    rfl
  · obtain ⟨p, dx, n, d, rfl, hd, hb, hp, q⟩ := h
    have ne0 : decide (V.int d = V.int 0) = false := decide_eq_false fun z => hd (by cases z; rfl)
    refine ⟨_, PSs.nox (pss_cons (ps_if (pt_not (pt_val (pe_use D hr rfl (pa_cons (pv 1) pa_nil)))) pss_never pss_nil)
      (pss_cons (ps_if (PW.pt (pw_or (pt_not (pt_val (pe_use D hr rfl (pa_cons (pv 2) pa_nil)))) (pw_or1 (pt_cmpR op_eq (pv 2) pe_int (nomark _))))) pss_never pss_nil)
      (pss_cons (ps_set (i := 3) scInit.nd rfl (Or.inl rfl) (pe_callBfun cr_gcd rfl T.gcd (pa_cons (pv 1) (pa_cons (pv 2) pa_nil))))
      (pss_cons (ps_if (pt_cmpR op_lt (pv 2) pe_int (nomark _)) (pss_one (ps_set (i := 3) scInit.nd rfl (Or.inl rfl) (pe_un un_neg (pv 3)))) pss_nil)
      (pss_cons (ps_fld (pv 0) (pe_op op_fdivZ (pv 1) (pv 3)) rfl)
      (pss_one (ps_fld (pv 0) (pe_op op_fdivZ (pv 2) (pv 3)) rfl))))))), ?_⟩
    have fin : ∀ g : Int, g = byv n d → (tSeq (sFld K (tVar 0) (tOp (rI CDivZ fun i j => .int (i.fdiv j)) (tVar 1) (tVar 3)) "_top") (sFld K (tVar 0) (tOp (rI CDivZ fun i j => .int (i.fdiv j)) (tVar 2) (tVar 3)) "_bottom"))
        { nx := fun _ H' => Q .non H', rt := Q } [some (.ref p), some (.int n), some (.int d), some (.int g)] H := by
      rintro g rfl
      refine ⟨_, rfl, _, rfl, _, _, rfl, rfl, cdivZ' hd hb (by decide) (by decide), _, rfl, p, C, dx, [], rfl, hp, T.cl, T.nT, (by show 0 < 1000; decide), ?_⟩
      refine ⟨_, rfl, _, rfl, _, _, rfl, rfl, cdivZ' hd hb (by decide) (by decide), _, rfl, p, C, dx, _, rfl, upd_same, T.cl, T.nB, (by show 1 < 1000; decide), ?_⟩
      rw [upd_upd]
      exact q
    refine ⟨_, rfl, ?_⟩
    refine ⟨_, .type "int", true, false, rfl, .base (.int _), kII, kIB, true, rfl, ?_⟩
    refine iteF ?_
    refine ⟨_, rfl, ?_⟩
    refine ⟨_, .type "int", true, false, rfl, .base (.int _), kII, kIB, true, rfl, ?_⟩
    refine iteF ?_
    refine ⟨_, rfl, rfl, _, rfl, ?_⟩
    rw [ne0]
    refine iteF ?_
    refine ⟨_, rfl, _, rfl, n, d, rfl, ?_⟩
    refine ⟨_, rfl, _, _, rfl, rfl, _, rfl, ?_⟩
    have hg := byv_eq (t := n) hd
    refine ite2 (fun c => ?_) (fun c => ?_)
    · have c' : d < 0 := of_decide_eq_true c
      rw [if_pos c'] at hg
      exact ⟨_, rfl, _, rfl, fin _ hg⟩
    · have c' : ¬ d < 0 := fun z => c (decide_eq_true z)
      rw [if_neg c'] at hg
      exact fin _ hg
end
end Ra
namespace Ra
open PySem PySem.Spec PyProof.Rows L2 Ow Rm

/-- a number: a ratio, or an integer -/
def NumAt (C : Addr) (H : Hp) (v : V) (n d : Int) : Prop := (∃ p, v = .ref p ∧ RatAt C H p n d) ∨ (v = .int n ∧ d = 1)
theorem NumAt.same {C : Addr} {H H' : Hp} {v : V} {n d : Int} (h : NumAt C H v n d) (s : Same H H') : NumAt C H' v n d := by
  rcases h with ⟨p, e, r⟩ | ⟨e, r⟩
  · exact .inl ⟨p, e, r.same s⟩
  · exact .inr ⟨e, r⟩
theorem same_upd {H : Hp} {p : Addr} {o : HO} (h : H p = none) : Same H (upd H p o) := fun b u e => by
  rw [upd_ne (ne_of_none e h)]
  exact e

/-- Ratio(..), as others make it -/
structure RMk (P : Program) (w : World) (K : PySem.W.Frag) (mg : Str → Option Value) (base : Heap) (C : Addr) : Prop where
  ex : ∃ f fd, Mk K C f ∧ FnOk P w K mg base CX0 2 f fd ["self", "top", "bottom"] (spInit C) ∧ Binds K fd ["self", "top", "bottom"] [] ∧ (∃ ds, Vals [V.int 1] ds ∧ Binds K fd ["self", "top", "bottom"] ds) ∧
    (∃ g gV, KBn K fd ["self", "top", "bottom"] 1 ["bottom", "top"] g gV ∧ ∀ a b c, gV [a] [b, c] = [a, c, b])
/-- a property, as others read it -/
structure Prp (P : Program) (w : World) (K : PySem.W.Frag) (mg : Str → Option Value) (base : Heap) (C : Addr) (x : Str) (sp : Sp) : Prop where
  ex : ∃ p g fd, PropOf K C x p g ∧ FnOk P w K mg base CX0 1 g fd ["self"] sp ∧ Binds K fd ["self"] []
def spTop (C : Addr) : Sp := fun vs H Q _ => ∃ p n d, vs = [.ref p] ∧ RatAt C H p n d ∧ Q (.int n) H
def spBottom (C : Addr) : Sp := fun vs H Q _ => ∃ p n d, vs = [.ref p] ∧ RatAt C H p n d ∧ Q (.int d) H
def spSign (C : Addr) : Sp := fun vs H Q _ => ∃ p n d, vs = [.ref p] ∧ RatAt C H p n d ∧ Q (.int n.sign) H

section
variable {X : Cx} {C : Addr} {x : Str} {sp : Sp} {p pos : Pos} {e e2 : Expr} {t : TA} {ta tb : TE}
theorem pe_rat2 (M : RMk X.prog X.w X.K X.mg X.base C) (hr : Room 3 X.A) (hg : Gl X "Ratio") (hm : X.mg "Ratio" = some (.ref C)) (ha : PE X e ta) (hb : PE X e2 tb)
    (he : starEach [e, e2] X.env = (false, eval e X.env) :: starEach [e2] X.env := by rfl) (he2 : starEach [e2] X.env = (false, eval e2 X.env) :: starEach [] X.env := by rfl) (hpl : (backTo pos (starEach [e2] X.env)).any (·.1) = false := by rfl) :
    PE X (.Call (.Name "Ratio" p) [e, e2] [] pos) (tMake C (spInit C) [] E0 (tCons ta (tCons tb tNil))) := by
  obtain ⟨f, fd, m, F, b2, _, _⟩ := M.ex
  exact pe_make m F hr hg hm b2 .nil pass0 (pa_cons ha (pa_cons hb pa_nil he2) he) (by decide) he hpl
theorem pe_rat1 (M : RMk X.prog X.w X.K X.mg X.base C) (hr : Room 3 X.A) (hg : Gl X "Ratio") (hm : X.mg "Ratio" = some (.ref C)) (ha : PE X e ta)
    (he : starEach [e] X.env = (false, eval e X.env) :: starEach [] X.env := by rfl) (hpl : (backTo pos (starEach [] X.env)).any (·.1) = false := by rfl) :
    PE X (.Call (.Name "Ratio" p) [e] [] pos) (tMake C (spInit C) [.int 1] E0 (tCons ta tNil)) := by
  obtain ⟨f, fd, m, F, _, ⟨ds, hv, b1⟩, _⟩ := M.ex
  exact pe_make m F hr hg hm b1 hv pass0 (pa_cons ha pa_nil he) (by decide) he hpl
theorem pe_prp (D : Prp X.prog X.w X.K X.mg X.base C x sp) (he : PE X e ta) (c : Cls X.K C) (hr : Room 2 X.A) (hab : attributeBase e x X.env (eval e X.env) = eval e X.env) : PE X (.Attribute e x pos) (tProp C sp [] E0 ta) := by
  obtain ⟨p, g, fd, hp, F, hb⟩ := D.ex
  exact pe_prop he c hp F hr hb .nil pass0 hab
end

/-- a new ratio, as its maker reads it -/
theorem rat_new {C : Addr} {H : Hp} {n d : Int} {Q : Addr → Hp → Prop} (hd : d ≠ 0) (hb : Bd 8000 d) (q : ∀ p H', RatAt C H' p (low n d).1 (low n d).2 → Same H H' → H p = none → Q p H') :
    ∀ x dx, H x = none → H dx = none → dx ≠ x → spInit C [.ref x, .int n, .int d] (upd (upd H dx (.own x)) x (.ins C dx [])) (fun v H2 => v = .non ∧ Q x H2) E0 := by
  intro x dx hx hdx ne
  refine ⟨x, dx, n, d, rfl, hd, hb, upd_same, rfl, ?_⟩
  refine q x _ ⟨dx, upd_same⟩ (fun b o e => ?_) hx
  rw [upd_upd, upd_ne (ne_of_none e hx), upd_ne (ne_of_none e hdx)]
  exact e

section
variable {P : Program} {w : World} {K : PySem.W.Frag} {mg : Str → Option Value} {base : Heap}

/-! ### properties -/
theorem scTop : FnScope ["self"] ["self"] (defScope sTop) := ⟨rfl, rfl, rfl, by decide +kernel, rfl, by decide +kernel, by decide +kernel⟩
theorem scBottom : FnScope ["self"] ["self"] (defScope sBottom) := ⟨rfl, rfl, rfl, by decide +kernel, rfl, by decide +kernel, by decide +kernel⟩
theorem scSign : FnScope ["self"] ["self"] (defScope sSign) := ⟨rfl, rfl, rfl, by decide +kernel, rfl, by decide +kernel, by decide +kernel⟩
theorem ok_top {f C : Addr} {fd : FuncData} (F : FnP K "top" "Ratio.top" sTop [] f fd) (T : RT K mg C) : FnOk P w K mg base CX0 1 f fd ["self"] (spTop C) := by
  refine F.ok scTop (fun vs H Q E h => ?_) (fun cdv A outer s H vs Q E hr h => ?_)
  · obtain ⟨p, n, d, rfl, _⟩ := h
    rfl
  · obtain ⟨p, n, d, rfl, ⟨dx, hp⟩, q⟩ := h
    exact ⟨_, PSs.nox (pss_one (ps_ret (pe_fld (pv 0) rfl))), _, rfl, p, C, dx, _, _, rfl, hp, T.cl, T.nT, rf_top _ _, q⟩
theorem ok_bottom {f C : Addr} {fd : FuncData} (F : FnP K "bottom" "Ratio.bottom" sBottom [] f fd) (T : RT K mg C) : FnOk P w K mg base CX0 1 f fd ["self"] (spBottom C) := by
  refine F.ok scBottom (fun vs H Q E h => ?_) (fun cdv A outer s H vs Q E hr h => ?_)
  · obtain ⟨p, n, d, rfl, _⟩ := h
    rfl
  · obtain ⟨p, n, d, rfl, ⟨dx, hp⟩, q⟩ := h
    exact ⟨_, PSs.nox (pss_one (ps_ret (pe_fld (pv 0) rfl))), _, rfl, p, C, dx, _, _, rfl, hp, T.cl, T.nB, rf_bottom _ _, q⟩
theorem ok_sign {f C : Addr} {fd : FuncData} (F : FnP K "sign" "Ratio.sign" sSign [] f fd) (T : RT K mg C) : FnOk P w K mg base CX0 1 f fd ["self"] (spSign C) := by
  refine F.ok scSign (fun vs H Q E h => ?_) (fun cdv A outer s H vs Q E hr h => ?_)
  · obtain ⟨p, n, d, rfl, _⟩ := h
    rfl
  · obtain ⟨p, n, d, rfl, ⟨dx, hp⟩, q⟩ := h
    refine ⟨_, PSs.nox (pss_cons (ps_if (pt_cmpR op_lt (pe_fld (pv 0) rfl) pe_int (nomark _)) (pss_one (ps_ret (pe_un un_neg pe_int))) pss_nil)
      (pss_cons (ps_if (pt_cmpR op_gt (pe_fld (pv 0) rfl) pe_int (nomark _)) (pss_one (ps_ret pe_int)) pss_nil)
      (pss_one (ps_ret pe_int)))), ?_⟩
    refine ⟨_, rfl, p, C, dx, _, _, rfl, hp, T.cl, T.nT, rf_top _ _, _, _, rfl, rfl, _, rfl, ?_⟩
    refine ite2 (fun c => ?_) (fun c => ?_)
    · have c' : n < 0 := of_decide_eq_true c
      refine ⟨_, rfl, ?_⟩
      rw [Int.sign_eq_neg_one_of_neg c'] at q
      exact q
    · have c' : ¬ n < 0 := fun z => c (decide_eq_true z)
      refine ⟨_, rfl, p, C, dx, _, _, rfl, hp, T.cl, T.nT, rf_top _ _, _, _, rfl, rfl, _, rfl, ?_⟩
      refine ite2 (fun e => ?_) (fun e => ?_)
      · have e' : 0 < n := of_decide_eq_true e
        rw [Int.sign_eq_one_of_pos e'] at q
        exact q
      · have e' : ¬ 0 < n := fun z => e (decide_eq_true z)
        have e0 : n = 0 := by omega
        rw [e0] at q
        exact q

/-! ### as_ratio -/
def spAs (C : Addr) : Sp := fun vs H Q _ => ∃ v n d, vs = [v] ∧ NumAt C H v n d ∧ ∀ q H', RatAt C H' q n d → Same H H' → Q (.ref q) H'
theorem scAs : FnScope ["value"] ["value"] (defScope sAsRatio) := ⟨rfl, rfl, rfl, by decide +kernel, rfl, by decide +kernel, by decide +kernel⟩
theorem ok_as {f C : Addr} {fd : FuncData} (F : FnP K "as_ratio" "as_ratio" sAsRatio [] f fd) (T : RT K mg C) (M : RMk P w K mg base C) : FnOk P w K mg base CX0 4 f fd ["value"] (spAs C) := by
  refine F.ok scAs (fun vs H Q E h => ?_) (fun cdv A outer s H vs Q E hr h => ?_)
  · obtain ⟨v, n, d, rfl, _⟩ := h
    rfl
  · obtain ⟨v, n, d, rfl, hv, q⟩ := h
    refine ⟨_, PSs.nox (pss_cons (ps_if (pt_val (pe_callB call_isi (by rfl) T.isi boot_isinstance (pa_cons (pv 0) (pa_cons (pe_glob (v := .ref C) rfl T.mgC rfl) pa_nil)))) (pss_one (ps_ret (pv 0))) pss_nil)
      (pss_one (ps_ret (pe_rat1 M hr rfl T.mgC (pv 0))))), ?_⟩
    rcases hv with ⟨p, rfl, ⟨dx, hp⟩⟩ | ⟨rfl, rfl⟩
    · refine ⟨_, rfl, _, .ref C, .ref C, _, true, rfl, .own C, .base (.ins hp T.cl T.ca T.cg T.ct T.cm), T.kCC, true, rfl, ?_⟩
      refine iteT ?_
      exact ⟨_, rfl, q p H ⟨dx, hp⟩ (Same.refl H)⟩
    · refine ⟨_, rfl, _, .ref C, .type "int", _, false, rfl, .own C, .base (.int n), T.kIC, false, rfl, ?_⟩
      refine iteF ?_
      refine ⟨_, rfl, ?_⟩
      refine rat_new (by decide) (bd_one (by decide)) fun p H' r sm _ => ?_
      rw [low_int] at r
      exact q p H' r sm
end
end Ra
namespace Ra
open PySem PySem.Spec PyProof.Rows L2 Ow Rm

/-- a number in lowest terms, not too great -/
structure Nm (C : Addr) (H : Hp) (v : V) (n d : Int) : Prop where
  at_ : NumAt C H v n d
  lw : Lw n d
  b1 : Bd 2500 n
  b2 : Bd 2500 d
theorem Nm.same {C : Addr} {H H' : Hp} {v : V} {n d : Int} (h : Nm C H v n d) (s : Same H H') : Nm C H' v n d := ⟨h.at_.same s, h.lw, h.b1, h.b2⟩
theorem Nm.rat {C : Addr} {H : Hp} {p : Addr} {n d : Int} (h : Nm C H (.ref p) n d) : RatAt C H p n d := by
  rcases h.at_ with ⟨q, e, r⟩ | ⟨e, _⟩
  · cases e
    exact r
  · exact nomatch e
theorem cmul {j k : Nat} {x y : Int} (h : Bd j x) (h' : Bd k y) (hj : 0 < j := by decide) (hk : 0 < k := by decide) (l : j + k ≤ 1000000 := by decide) : CMulW x y := by
  have a := h.log2 hj
  have b := h'.log2 hk
  unfold CMulW
  omega
def spBin (op : Int × Int → Int × Int → Int × Int) (C : Addr) : Sp := fun vs H Q _ => ∃ p v n d m e, vs = [.ref p, v] ∧ Nm C H (.ref p) n d ∧ Nm C H v m e ∧
  ∀ q H', RatAt C H' q (op (n, d) (m, e)).1 (op (n, d) (m, e)).2 → Same H H' → Q (.ref q) H'
def spNeg (C : Addr) : Sp := fun vs H Q _ => ∃ p n d, vs = [.ref p] ∧ Nm C H (.ref p) n d ∧ ∀ q H', RatAt C H' q (-n) d → Same H H' → Q (.ref q) H'

section
variable {P : Program} {w : World} {K : PySem.W.Frag} {mg : Str → Option Value} {base : Heap}
abbrev DAs (P : Program) (w : World) (K : PySem.W.Frag) (mg : Str → Option Value) (base : Heap) (C : Addr) : Prop := Dfn P w K mg base 4 "as_ratio" ["value"] (spAs C)
abbrev PT_ (P : Program) (w : World) (K : PySem.W.Frag) (mg : Str → Option Value) (base : Heap) (C : Addr) : Prop := Prp P w K mg base C "top" (spTop C)
abbrev PB_ (P : Program) (w : World) (K : PySem.W.Frag) (mg : Str → Option Value) (base : Heap) (C : Addr) : Prop := Prp P w K mg base C "bottom" (spBottom C)
abbrev PS_ (P : Program) (w : World) (K : PySem.W.Frag) (mg : Str → Option Value) (base : Heap) (C : Addr) : Prop := Prp P w K mg base C "sign" (spSign C)

theorem scAdd : FnScope ["self", "other", "right", "top"] ["self", "other"] (defScope sAdd) := ⟨rfl, rfl, rfl, by decide +kernel, rfl, by decide +kernel, by decide +kernel⟩
theorem ok_add {f C : Addr} {fd : FuncData} (F : FnP K "__add__" "Ratio.__add__" sAdd [] f fd) (T : RT K mg C) (M : RMk P w K mg base C) (D : DAs P w K mg base C) (pT : PT_ P w K mg base C) (pB : PB_ P w K mg base C) :
    FnOk P w K mg base CX0 5 f fd ["self", "other"] (spBin plus C) := by
  refine F.ok scAdd (fun vs H Q E h => ?_) (fun cdv A outer s H vs Q E hr h => ?_)
  · obtain ⟨p, v, n, d, m, e, rfl, _⟩ := h
    rfl
  · obtain ⟨p, v, n, d, m, e, rfl, hp, hv, q⟩ := h
    have hr2 := hr.mono (by decide : 2 ≤ 4)
    have hr3 := hr.mono (by decide : 3 ≤ 4)
    refine ⟨_, PSs.nox (pss_cons (ps_set (i := 2) scAdd.nd rfl (Or.inl rfl) (pe_use D hr rfl (pa_cons (pv 1) pa_nil)))
      (pss_cons (ps_set (i := 3) scAdd.nd rfl (Or.inl rfl) (pe_op op_add (pe_op op_mulW (pe_fld (pv 0) rfl) (pe_prp pB (pv 2) T.cl hr2 rfl)) (pe_op op_mulW (pe_prp pT (pv 2) T.cl hr2 rfl) (pe_fld (pv 0) rfl))))
      (pss_one (ps_ret (pe_rat2 M hr3 rfl T.mgC (pv 3) (pe_op op_mulW (pe_fld (pv 0) rfl) (pe_prp pB (pv 2) T.cl hr2 rfl))))))), ?_⟩
    refine ⟨_, rfl, v, m, e, rfl, hv.at_, fun r H1 hr1 s1 => ?_⟩
    obtain ⟨dx, h1⟩ := (hp.rat.same s1)
    obtain ⟨dy, h2⟩ := id hr1
    refine ⟨_, rfl, p, C, dx, _, _, rfl, h1, T.cl, T.nT, rf_top _ _, _, rfl, r, dy, _, rfl, h2, r, m, e, rfl, hr1, _, _, rfl, rfl, cmul hp.b1 hv.b2, ?_⟩
    refine ⟨_, rfl, r, dy, _, rfl, h2, r, m, e, rfl, hr1, _, rfl, p, C, dx, _, _, rfl, h1, T.cl, T.nB, rf_bottom _ _, _, _, rfl, rfl, cmul hv.b1 hp.b2, _, _, rfl, rfl, ?_⟩
    refine ⟨_, rfl, _, rfl, p, C, dx, _, _, rfl, h1, T.cl, T.nB, rf_bottom _ _, _, rfl, r, dy, _, rfl, h2, r, m, e, rfl, hr1, _, _, rfl, rfl, cmul hp.b2 hv.b2, ?_⟩
    exact rat_new (mul_ne hp.lw.pos hv.lw.pos) ((hp.b2.mul hv.b2).mono (by decide)) fun z H2 hz s2 _ => q z H2 hz (s1.trans s2)

theorem scMul : FnScope ["self", "other", "right"] ["self", "other"] (defScope sMul) := ⟨rfl, rfl, rfl, by decide +kernel, rfl, by decide +kernel, by decide +kernel⟩
theorem ok_mul {f C : Addr} {fd : FuncData} (F : FnP K "__mul__" "Ratio.__mul__" sMul [] f fd) (T : RT K mg C) (M : RMk P w K mg base C) (D : DAs P w K mg base C) (pT : PT_ P w K mg base C) (pB : PB_ P w K mg base C) :
    FnOk P w K mg base CX0 5 f fd ["self", "other"] (spBin times C) := by
  refine F.ok scMul (fun vs H Q E h => ?_) (fun cdv A outer s H vs Q E hr h => ?_)
  · obtain ⟨p, v, n, d, m, e, rfl, _⟩ := h
    rfl
  · obtain ⟨p, v, n, d, m, e, rfl, hp, hv, q⟩ := h
    have hr2 := hr.mono (by decide : 2 ≤ 4)
    have hr3 := hr.mono (by decide : 3 ≤ 4)
    refine ⟨_, PSs.nox (pss_cons (ps_set (i := 2) scMul.nd rfl (Or.inl rfl) (pe_use D hr rfl (pa_cons (pv 1) pa_nil)))
      (pss_one (ps_ret (pe_rat2 M hr3 rfl T.mgC (pe_op op_mulW (pe_fld (pv 0) rfl) (pe_prp pT (pv 2) T.cl hr2 rfl)) (pe_op op_mulW (pe_fld (pv 0) rfl) (pe_prp pB (pv 2) T.cl hr2 rfl)))))), ?_⟩
    refine ⟨_, rfl, v, m, e, rfl, hv.at_, fun r H1 hr1 s1 => ?_⟩
    obtain ⟨dx, h1⟩ := (hp.rat.same s1)
    obtain ⟨dy, h2⟩ := id hr1
    refine ⟨_, rfl, p, C, dx, _, _, rfl, h1, T.cl, T.nT, rf_top _ _, _, rfl, r, dy, _, rfl, h2, r, m, e, rfl, hr1, _, _, rfl, rfl, cmul hp.b1 hv.b1, ?_⟩
    refine ⟨_, rfl, p, C, dx, _, _, rfl, h1, T.cl, T.nB, rf_bottom _ _, _, rfl, r, dy, _, rfl, h2, r, m, e, rfl, hr1, _, _, rfl, rfl, cmul hp.b2 hv.b2, ?_⟩
    exact rat_new (mul_ne hp.lw.pos hv.lw.pos) ((hp.b2.mul hv.b2).mono (by decide)) fun z H2 hz s2 _ => q z H2 hz (s1.trans s2)

theorem scNeg : FnScope ["self"] ["self"] (defScope sNeg) := ⟨rfl, rfl, rfl, by decide +kernel, rfl, by decide +kernel, by decide +kernel⟩
theorem ok_neg {f C : Addr} {fd : FuncData} (F : FnP K "__neg__" "Ratio.__neg__" sNeg [] f fd) (T : RT K mg C) (M : RMk P w K mg base C) : FnOk P w K mg base CX0 4 f fd ["self"] (spNeg C) := by
  refine F.ok scNeg (fun vs H Q E h => ?_) (fun cdv A outer s H vs Q E hr h => ?_)
  · obtain ⟨p, n, d, rfl, _⟩ := h
    rfl
  · obtain ⟨p, n, d, rfl, hp, q⟩ := h
    refine ⟨_, PSs.nox (pss_one (ps_ret (pe_rat2 M hr rfl T.mgC (pe_un un_neg (pe_fld (pv 0) rfl)) (pe_fld (pv 0) rfl)))), ?_⟩
    obtain ⟨dx, h1⟩ := hp.rat
    refine ⟨_, rfl, p, C, dx, _, _, rfl, h1, T.cl, T.nT, rf_top _ _, _, rfl, _, rfl, p, C, dx, _, _, rfl, h1, T.cl, T.nB, rf_bottom _ _, ?_⟩
    refine rat_new (by have := hp.lw.pos; omega) (hp.b2.mono (by decide)) fun z H2 hz s2 _ => ?_
    rw [low_neg hp.lw] at hz
    exact q z H2 hz s2

theorem scOver : FnScope ["self", "other", "right"] ["self", "other"] (defScope sOver) := ⟨rfl, rfl, rfl, by decide +kernel, rfl, by decide +kernel, by decide +kernel⟩
/-- over: by a number that is not 0 -/
def spOver (C : Addr) : Sp := fun vs H Q _ => ∃ p v n d m e, vs = [.ref p, v] ∧ Nm C H (.ref p) n d ∧ Nm C H v m e ∧ m ≠ 0 ∧
  ∀ q H', RatAt C H' q (over (n, d) (m, e)).1 (over (n, d) (m, e)).2 → Same H H' → Q (.ref q) H'
theorem ok_over {f C : Addr} {fd : FuncData} (F : FnP K "over" "Ratio.over" sOver [] f fd) (T : RT K mg C) (M : RMk P w K mg base C) (D : DAs P w K mg base C) (pT : PT_ P w K mg base C) (pB : PB_ P w K mg base C) (pS : PS_ P w K mg base C) :
    FnOk P w K mg base CX0 5 f fd ["self", "other"] (spOver C) := by
  refine F.ok scOver (fun vs H Q E h => ?_) (fun cdv A outer s H vs Q E hr h => ?_)
  · obtain ⟨p, v, n, d, m, e, rfl, _⟩ := h
    rfl
  · obtain ⟨p, v, n, d, m, e, rfl, hp, hv, hm, q⟩ := h
    have hr2 := hr.mono (by decide : 2 ≤ 4)
    have hr3 := hr.mono (by decide : 3 ≤ 4)
    refine ⟨_, PSs.nox (pss_cons (ps_set (i := 2) scOver.nd rfl (Or.inl rfl) (pe_use D hr rfl (pa_cons (pv 1) pa_nil)))
      (pss_cons (ps_if (pt_cmpR op_eq (pe_prp pS (pv 2) T.cl hr2 rfl) pe_int (nomark _)) pss_never pss_nil)
      (pss_one (ps_ret (pe_rat2 M hr3 rfl T.mgC (pe_op op_mulW (pe_fld (pv 0) rfl) (pe_prp pB (pv 2) T.cl hr2 rfl)) (pe_op op_mulW (pe_fld (pv 0) rfl) (pe_prp pT (pv 2) T.cl hr2 rfl))))))), ?_⟩
    refine ⟨_, rfl, v, m, e, rfl, hv.at_, fun r H1 hr1 s1 => ?_⟩
    obtain ⟨dx, h1⟩ := (hp.rat.same s1)
    obtain ⟨dy, h2⟩ := id hr1
    have hs : decide (V.int m.sign = V.int 0) = false := decide_eq_false fun z => hm (Int.sign_eq_zero_iff_zero.mp (V.int.inj z))
    refine ⟨_, rfl, r, dy, _, rfl, h2, r, m, e, rfl, hr1, rfl, _, rfl, ?_⟩
    rw [hs]
    refine iteF ?_
    refine ⟨_, rfl, p, C, dx, _, _, rfl, h1, T.cl, T.nT, rf_top _ _, _, rfl, r, dy, _, rfl, h2, r, m, e, rfl, hr1, _, _, rfl, rfl, cmul hp.b1 hv.b2, ?_⟩
    refine ⟨_, rfl, p, C, dx, _, _, rfl, h1, T.cl, T.nB, rf_bottom _ _, _, rfl, r, dy, _, rfl, h2, r, m, e, rfl, hr1, _, _, rfl, rfl, cmul hp.b2 hv.b1, ?_⟩
    exact rat_new (Int.mul_ne_zero (by have := hp.lw.pos; omega) hm) ((hp.b2.mul hv.b1).mono (by decide)) fun z H2 hz s2 _ => q z H2 hz (s1.trans s2)
end
end Ra
namespace Ra
open PySem PySem.Spec PyProof.Rows L2 Ow Rm

/-- an operator of the class at C, as others use it -/
structure OpX (P : Program) (w : World) (K : PySem.W.Frag) (mg : Str → Option Value) (base : Heap) (C : Addr) (op : Operator) (k : Nat) (sp : Sp) : Prop where
  ex : ∃ f fd, OpOf K C (PySem.dunder op.info.2) f ∧ FnOk P w K mg base CX0 k f fd ["self", "other"] sp ∧ Binds K fd ["self", "other"] []
  rf : ∃ rc, PySem.W.findIn K (.ref C) (dunderR op.info.2) = some rc ∧ (rc = none ∨ ∃ g : Addr, rc = some (.ref g))
  i1 : ∃ fo, PySem.W.findIn K (.type "int") (PySem.dunder op.info.2) = some fo
  i2 : ∃ ro, PySem.W.findIn K (.type "int") (dunderR op.info.2) = some ro
/-- its reflected one -/
structure OpY (P : Program) (w : World) (K : PySem.W.Frag) (mg : Str → Option Value) (base : Heap) (C : Addr) (op : Operator) (k : Nat) (sp : Sp) : Prop where
  at_ : ∃ f, OpOf K C (PySem.dunder op.info.2) f
  ex : ∃ g gd, OpOf K C (dunderR op.info.2) g ∧ FnOk P w K mg base CX0 k g gd ["self", "other"] sp ∧ Binds K gd ["self", "other"] []
structure OpN (P : Program) (w : World) (K : PySem.W.Frag) (mg : Str → Option Value) (base : Heap) (C : Addr) (k : Nat) (sp : Sp) : Prop where
  ex : ∃ f fd, OpOf K C "__neg__" f ∧ FnOk P w K mg base CX0 k f fd ["self"] sp ∧ Binds K fd ["self"] []

/-- ratio op number -/
def rNm (C : Addr) (sp : Sp) : R2 := fun x y H Q => ∃ p n d m e, x = .ref p ∧ RatAt C H p n d ∧ NumAt C H y m e ∧ sp [.ref p, y] H Q E0
section
variable {X : Cx} {C : Addr} {op : Operator} {k : Nat} {sp : Sp}
theorem op_nm (O : OpX X.prog X.w X.K X.mg X.base C op k sp) (n : Num X.K C) (hr : Room k X.A) : OpR X (binaryOp op) (rNm C sp) := by
  obtain ⟨f, fd, o, F, hb⟩ := O.ex
  obtain ⟨rc, h1, h2⟩ := O.rf
  obtain ⟨fo, h3⟩ := O.i1
  obtain ⟨ro, h4⟩ := O.i2
  intro pins s σ H x y u v Q I rx ry hq
  obtain ⟨p, a, b, m, e, rfl, ⟨dx, hp⟩, hy, q⟩ := hq
  rcases hy with ⟨r, rfl, ⟨dy, hr'⟩⟩ | ⟨rfl, _⟩
  · exact op_own n.sf o F hr hb pass0 pins s σ H _ _ u v Q I rx ry ⟨p, dx, _, r, dy, _, rfl, hp, rfl, hr', q⟩
  · exact op_ownI n o F hr hb pass0 h1 h2 h3 h4 pins s σ H _ _ u v Q I rx ry ⟨p, dx, _, m, rfl, hp, rfl, q⟩
theorem op_radd (O : OpY X.prog X.w X.K X.mg X.base C .Add k sp) (n : Num X.K C) (hr : Room k X.A) : OpR X (binaryOp .Add) (rIOwn C sp E0) := by
  obtain ⟨f, o⟩ := O.at_
  obtain ⟨g, gd, og, F, hb⟩ := O.ex
  exact op_Iown n o og F hr hb pass0 PySem.F.fills_int_add PySem.F.slot_int_add decl_add
theorem op_rsub (O : OpY X.prog X.w X.K X.mg X.base C .Sub k sp) (n : Num X.K C) (hr : Room k X.A) : OpR X (binaryOp .Sub) (rIOwn C sp E0) := by
  obtain ⟨f, o⟩ := O.at_
  obtain ⟨g, gd, og, F, hb⟩ := O.ex
  exact op_Iown n o og F hr hb pass0 PySem.F.fills_int_sub PySem.F.slot_int_sub decl_sub
theorem op_rmul (O : OpY X.prog X.w X.K X.mg X.base C .Mult k sp) (n : Num X.K C) (hr : Room k X.A) : OpR X (binaryOp .Mult) (rIOwn C sp E0) := by
  obtain ⟨f, o⟩ := O.at_
  obtain ⟨g, gd, og, F, hb⟩ := O.ex
  exact op_Iown n o og F hr hb pass0 PySem.F.fills_int_mul PySem.F.slot_int_mul decl_mul
theorem un_nm (O : OpN X.prog X.w X.K X.mg X.base C k sp) (hr : Room k X.A) : UnR X (unaryOp .USub) (rNegOwn C sp E0) := by
  obtain ⟨f, fd, o, F, hb⟩ := O.ex
  exact un_own o F hr hb pass0
end

theorem plus_neg (n d m e : Int) : plus (n, d) (-m, e) = minus (n, d) (m, e) := by
  unfold plus minus
  simp only [Int.neg_mul, Int.sub_eq_add_neg]
theorem plus_rsub (n d m : Int) : plus (-n, d) (m, 1) = minus (m, 1) (n, d) := by
  unfold plus minus
  simp only [Int.mul_one, Int.one_mul, Int.sub_eq_add_neg]
  rw [Int.add_comm]
theorem nm_neg {C : Addr} {H : Hp} {q p : Addr} {n d : Int} {v : V} (h : Nm C H v n d) {H' : Hp} (r : RatAt C H' q (-n) d) : Nm C H' (.ref q) (-n) d := ⟨.inl ⟨q, rfl, r⟩, lw_neg h.lw, h.b1.neg, h.b2⟩
theorem nm_rat {C : Addr} {H H' : Hp} {q : Addr} {n d : Int} {v : V} (h : Nm C H v n d) (r : RatAt C H' q n d) : Nm C H' (.ref q) n d := ⟨.inl ⟨q, rfl, r⟩, h.lw, h.b1, h.b2⟩

section
variable {P : Program} {w : World} {K : PySem.W.Frag} {mg : Str → Option Value} {base : Heap}
/-- i op x -/
def spRef (op : Int × Int → Int × Int → Int × Int) (C : Addr) : Sp := fun vs H Q _ => ∃ p n d m, vs = [.ref p, .int m] ∧ Nm C H (.ref p) n d ∧ Bd 2500 m ∧
  ∀ q H', RatAt C H' q (op (n, d) (m, 1)).1 (op (n, d) (m, 1)).2 → Same H H' → Q (.ref q) H'
def spRsub (C : Addr) : Sp := fun vs H Q _ => ∃ p n d m, vs = [.ref p, .int m] ∧ Nm C H (.ref p) n d ∧ Bd 2500 m ∧
  ∀ q H', RatAt C H' q (minus (m, 1) (n, d)).1 (minus (m, 1) (n, d)).2 → Same H H' → Q (.ref q) H'
theorem nm_int {C : Addr} {H : Hp} {m : Int} (h : Bd 2500 m) : Nm C H (.int m) m 1 := ⟨.inr ⟨rfl, rfl⟩, lw_int m, h, bd_one (by decide)⟩

theorem scRadd : FnScope ["self", "other"] ["self", "other"] (defScope sRadd) := ⟨rfl, rfl, rfl, by decide +kernel, rfl, by decide +kernel, by decide +kernel⟩
theorem ok_radd {f C : Addr} {fd : FuncData} (F : FnP K "__radd__" "Ratio.__radd__" sRadd [] f fd) (T : RT K mg C) (O : OpX P w K mg base C .Add 5 (spBin plus C)) : FnOk P w K mg base CX0 6 f fd ["self", "other"] (spRef plus C) := by
  refine F.ok scRadd (fun vs H Q E h => ?_) (fun cdv A outer s H vs Q E hr h => ?_)
  · obtain ⟨p, n, d, m, rfl, _⟩ := h
    rfl
  · obtain ⟨p, n, d, m, rfl, hp, hm, q⟩ := h
    exact ⟨_, PSs.nox (pss_one (ps_ret (pe_op (op_nm O T.num hr) (pv 0) (pv 1)))), _, rfl, _, rfl, p, n, d, m, 1, rfl, hp.rat, .inr ⟨rfl, rfl⟩, p, _, n, d, m, 1, rfl, hp, nm_int hm, q⟩
theorem scRmul : FnScope ["self", "other"] ["self", "other"] (defScope sRmul) := ⟨rfl, rfl, rfl, by decide +kernel, rfl, by decide +kernel, by decide +kernel⟩
theorem ok_rmul {f C : Addr} {fd : FuncData} (F : FnP K "__rmul__" "Ratio.__rmul__" sRmul [] f fd) (T : RT K mg C) (O : OpX P w K mg base C .Mult 5 (spBin times C)) : FnOk P w K mg base CX0 6 f fd ["self", "other"] (spRef times C) := by
  refine F.ok scRmul (fun vs H Q E h => ?_) (fun cdv A outer s H vs Q E hr h => ?_)
  · obtain ⟨p, n, d, m, rfl, _⟩ := h
    rfl
  · obtain ⟨p, n, d, m, rfl, hp, hm, q⟩ := h
    exact ⟨_, PSs.nox (pss_one (ps_ret (pe_op (op_nm O T.num hr) (pv 0) (pv 1)))), _, rfl, _, rfl, p, n, d, m, 1, rfl, hp.rat, .inr ⟨rfl, rfl⟩, p, _, n, d, m, 1, rfl, hp, nm_int hm, q⟩
theorem scSub : FnScope ["self", "other"] ["self", "other"] (defScope sSub) := ⟨rfl, rfl, rfl, by decide +kernel, rfl, by decide +kernel, by decide +kernel⟩
theorem ok_sub {f C : Addr} {fd : FuncData} (F : FnP K "__sub__" "Ratio.__sub__" sSub [] f fd) (T : RT K mg C) (O : OpX P w K mg base C .Add 5 (spBin plus C)) (N : OpN P w K mg base C 4 (spNeg C)) (D : DAs P w K mg base C) :
    FnOk P w K mg base CX0 6 f fd ["self", "other"] (spBin minus C) := by
  refine F.ok scSub (fun vs H Q E h => ?_) (fun cdv A outer s H vs Q E hr h => ?_)
  · obtain ⟨p, v, n, d, m, e, rfl, _⟩ := h
    rfl
  · obtain ⟨p, v, n, d, m, e, rfl, hp, hv, q⟩ := h
    have hr4 := hr.mono (by decide : 4 ≤ 5)
    refine ⟨_, PSs.nox (pss_one (ps_ret (pe_op (op_nm O T.num hr) (pv 0) (pe_un (un_nm N hr4) (pe_use D hr4 rfl (pa_cons (pv 1) pa_nil)))))), ?_⟩
    refine ⟨_, rfl, _, rfl, v, m, e, rfl, hv.at_, fun r H1 h1 s1 => ?_⟩
    obtain ⟨dx, hx⟩ := id h1
    refine ⟨r, dx, _, rfl, hx, r, m, e, rfl, nm_rat hv h1, fun z H2 h2 s2 => ?_⟩
    refine ⟨p, n, d, -m, e, rfl, hp.rat.same (s1.trans s2), .inl ⟨z, rfl, h2⟩, p, _, n, d, -m, e, rfl, hp.same (s1.trans s2), nm_neg (p := p) hv h2, fun y H3 h3 s3 => ?_⟩
    rw [plus_neg] at h3
    exact q y H3 h3 ((s1.trans s2).trans s3)
theorem scRsub : FnScope ["self", "other"] ["self", "other"] (defScope sRsub) := ⟨rfl, rfl, rfl, by decide +kernel, rfl, by decide +kernel, by decide +kernel⟩
theorem ok_rsub {f C : Addr} {fd : FuncData} (F : FnP K "__rsub__" "Ratio.__rsub__" sRsub [] f fd) (T : RT K mg C) (O : OpX P w K mg base C .Add 5 (spBin plus C)) (N : OpN P w K mg base C 4 (spNeg C)) :
    FnOk P w K mg base CX0 6 f fd ["self", "other"] (spRsub C) := by
  refine F.ok scRsub (fun vs H Q E h => ?_) (fun cdv A outer s H vs Q E hr h => ?_)
  · obtain ⟨p, n, d, m, rfl, _⟩ := h
    rfl
  · obtain ⟨p, n, d, m, rfl, hp, hm, q⟩ := h
    have hr4 := hr.mono (by decide : 4 ≤ 5)
    refine ⟨_, PSs.nox (pss_one (ps_ret (pe_op (op_nm O T.num hr) (pe_un (un_nm N hr4) (pv 0)) (pv 1)))), ?_⟩
    obtain ⟨dx, hx⟩ := hp.rat
    refine ⟨_, rfl, p, dx, _, rfl, hx, p, n, d, rfl, hp, fun z H2 h2 s2 => ?_⟩
    refine ⟨_, rfl, z, -n, d, m, 1, rfl, h2, .inr ⟨rfl, rfl⟩, z, _, -n, d, m, 1, rfl, nm_neg (p := p) hp h2, nm_int hm, fun y H3 h3 s3 => ?_⟩
    rw [plus_rsub] at h3
    exact q y H3 h3 (s2.trans s3)

/-! ### texts -/
def it (n : Int) : Str := Str.ofString (toString n)
def txt (n d : Int) : Str := if d = 1 then it n else (it n ++ "/") ++ it d
def shw (n d : Int) : Str := ((("Ratio(" ++ it n) ++ ", ") ++ it d) ++ ")"
def spText (g : Int → Int → Str) (C : Addr) : Sp := fun vs H Q _ => ∃ p n d, vs = [.ref p] ∧ RatAt C H p n d ∧ Bd 1900 n ∧ Bd 1900 d ∧ Q (.str (g n d)) H
theorem it_len {n : Int} (h : Bd 1900 n) : (it n).length ≤ 1901 := by
  have e := int_text_length_le (a := n) (k := 1900) (by decide) (h.log2 (by decide))
  unfold it
  rw [PySem.ofString_length]
  exact e
theorem lt1920 {n : Int} (h : Bd 1900 n) : n.natAbs.log2 < 1920 := Nat.lt_trans (h.log2 (by decide)) (by decide)
theorem len1 : (Str.ofString "/").length = 1 := by decide +kernel
theorem len2 : (Str.ofString ", ").length = 2 := by decide +kernel
theorem len3 : (Str.ofString ")").length = 1 := by decide +kernel
theorem len6 : (Str.ofString "Ratio(").length = 6 := by decide +kernel
theorem line (n : Nat) (h : n ≤ 100000) : n ≤ sizeLine := Nat.le_trans h (by decide)

theorem scStr : FnScope ["self"] ["self"] (defScope sStr) := ⟨rfl, rfl, rfl, by decide +kernel, rfl, by decide +kernel, by decide +kernel⟩
theorem ok_str {f C : Addr} {fd : FuncData} (F : FnP K "__str__" "Ratio.__str__" sStr [] f fd) (T : RT K mg C) : FnOk P w K mg base CX0 1 f fd ["self"] (spText txt C) := by
  refine F.ok scStr (fun vs H Q E h => ?_) (fun cdv A outer s H vs Q E hr h => ?_)
  · obtain ⟨p, n, d, rfl, _⟩ := h
    rfl
  · obtain ⟨p, n, d, rfl, ⟨dx, hp⟩, hn, hd, q⟩ := h
    refine ⟨_, PSs.nox (pss_cons (ps_if (pt_cmpR op_eq (pe_fld (pv 0) rfl) pe_int (nomark _)) (pss_one (ps_ret (pe_callTy call_str_int rfl T.str PyProof.Rows.boot_str (pa_cons (pe_fld (pv 0) rfl) pa_nil)))) pss_nil)
      (pss_one (ps_ret (pe_joined (.cons (pe_fmt (pe_fld (pv 0) rfl)) (.cons pe_str (.cons (pe_fmt (pe_fld (pv 0) rfl)) .nil))))))), ?_⟩
    have h1 := it_len hn
    have h2 := it_len hd
    refine ⟨_, rfl, p, C, dx, _, _, rfl, hp, T.cl, T.nB, rf_bottom _ _, rfl, _, rfl, ?_⟩
    refine ite2 (fun c => ?_) (fun c => ?_)
    · have c' : d = 1 := V.int.inj (of_decide_eq_true c)
      unfold txt at q
      rw [if_pos c'] at q
      exact ⟨_, rfl, p, C, dx, _, _, rfl, hp, T.cl, T.nT, rf_top _ _, n, rfl, lt1920 hn, q⟩
    · have c' : ¬ d = 1 := fun z => c (decide_eq_true (by rw [z]))
      unfold txt at q
      rw [if_neg c'] at q
      refine ⟨_, rfl, p, C, dx, _, _, rfl, hp, T.cl, T.nT, rf_top _ _, .inr ⟨n, rfl, lt1920 hn, _, rfl, ?_, ?_⟩⟩
      · rw [PySem.Str.empty_append]
        exact line _ (Nat.le_trans h1 (by decide))
      refine ⟨_, rfl, ?_, ?_⟩
      · rw [PySem.Str.empty_append, strLen_append, len1]
        exact line _ (Nat.le_trans (Nat.add_le_add_right h1 1) (by decide))
      refine ⟨_, rfl, p, C, dx, _, _, rfl, hp, T.cl, T.nB, rf_bottom _ _, .inr ⟨d, rfl, lt1920 hd, _, rfl, ?_, ?_⟩⟩
      · rw [PySem.Str.empty_append, strLen_append, strLen_append, len1]
        exact line _ (Nat.le_trans (Nat.add_le_add (Nat.add_le_add_right h1 1) h2) (by decide))
      · rw [PySem.Str.empty_append]
        exact q
theorem scRepr : FnScope ["self"] ["self"] (defScope sRepr) := ⟨rfl, rfl, rfl, by decide +kernel, rfl, by decide +kernel, by decide +kernel⟩
theorem ok_repr {f C : Addr} {fd : FuncData} (F : FnP K "__repr__" "Ratio.__repr__" sRepr [] f fd) (T : RT K mg C) : FnOk P w K mg base CX0 1 f fd ["self"] (spText shw C) := by
  refine F.ok scRepr (fun vs H Q E h => ?_) (fun cdv A outer s H vs Q E hr h => ?_)
  · obtain ⟨p, n, d, rfl, _⟩ := h
    rfl
  · obtain ⟨p, n, d, rfl, ⟨dx, hp⟩, hn, hd, q⟩ := h
    refine ⟨_, PSs.nox (pss_one (ps_ret (pe_joined (.cons pe_str (.cons (pe_fmt (pe_fld (pv 0) rfl)) (.cons pe_str (.cons (pe_fmt (pe_fld (pv 0) rfl)) (.cons pe_str .nil)))))))), ?_⟩
    have h1 := it_len hn
    have h2 := it_len hd
    refine ⟨_, rfl, ?_, ?_⟩
    · rw [PySem.Str.empty_append, len6]
      exact line _ (by decide)
    refine ⟨_, rfl, p, C, dx, _, _, rfl, hp, T.cl, T.nT, rf_top _ _, .inr ⟨n, rfl, lt1920 hn, _, rfl, ?_, ?_⟩⟩
    · rw [PySem.Str.empty_append, strLen_append, len6]
      exact line _ (Nat.le_trans (Nat.add_le_add_left h1 6) (by decide))
    refine ⟨_, rfl, ?_, ?_⟩
    · rw [PySem.Str.empty_append, strLen_append, strLen_append, len6, len2]
      exact line _ (Nat.le_trans (Nat.add_le_add_right (Nat.add_le_add_left h1 6) 2) (by decide))
    refine ⟨_, rfl, p, C, dx, _, _, rfl, hp, T.cl, T.nB, rf_bottom _ _, .inr ⟨d, rfl, lt1920 hd, _, rfl, ?_, ?_⟩⟩
    · rw [PySem.Str.empty_append, strLen_append, strLen_append, strLen_append, len6, len2]
      exact line _ (Nat.le_trans (Nat.add_le_add (Nat.add_le_add_right (Nat.add_le_add_left h1 6) 2) h2) (by decide))
    refine ⟨_, rfl, ?_, ?_⟩
    · rw [PySem.Str.empty_append, strLen_append, strLen_append, strLen_append, strLen_append, len6, len2, len3]
      exact line _ (Nat.le_trans (Nat.add_le_add_right (Nat.add_le_add (Nat.add_le_add_right (Nat.add_le_add_left h1 6) 2) h2) 1) (by decide))
    · rw [PySem.Str.empty_append]
      exact q
end
end Ra
namespace Ra
open PySem PySem.Spec PyProof.Rows L2 Ow Rm
abbrev sCount : Stmt := top 14
abbrev sNumber : Stmt := top 15
abbrev sName : Stmt := top 16
/-- what a value is, as far as is asked -/
inductive Knd where
  | int (n : Int) | txt (z : Str) | rat | odd
def abc : Str := "abcdefghijklmnopqrstuvwxyz"
def nameOk (z : Str) : Bool := decide (1 ≤ z.length) && (decide (z.length ≤ 8) && z.cps.toList.all (fun c => decide (c ∈ abc.cps.toList)))
def isI : Knd → Bool
  | .int _ => true
  | _ => false
def isC : Knd → Bool
  | .int n => decide (0 ≤ n)
  | _ => false
def isN : Knd → Bool
  | .int _ => true
  | .rat => true
  | _ => false
def isS : Knd → Bool
  | .txt z => nameOk z
  | _ => false
def Kd (K : PySem.W.Frag) (C : Addr) (H : Hp) (x : V) : Knd → Prop
  | .int n => x = .int n
  | .txt z => x = .str z ∧ z.length ≤ sizeLine
  | .rat => TyX K H x (.ref C)
  | .odd => ∃ t a b, TyX K H x t ∧ PySem.W.kitOne K t (.type "int") = some a ∧ PySem.W.kitOne K t (.type "bool") = some b ∧ (a && !b) = false ∧ PySem.W.kitOne K t (.ref C) = some false ∧ PySem.W.kitOne K t (.type "str") = some false
/-- what is asked of the classes besides -/
structure KT (K : PySem.W.Frag) (mg : Str → Option Value) (C : Addr) : Prop where
  sC : PySem.W.kitOne K (.type "str") (.ref C) = some false
  Ci : PySem.W.kitOne K (.ref C) (.type "int") = some false
  Cb : PySem.W.kitOne K (.ref C) (.type "bool") = some false
  Cs : PySem.W.kitOne K (.ref C) (.type "str") = some false
  len : mg "len" = none
  all : mg "all" = none
  abc : ∃ t, mg "LETTERS" = some (.str abc t)
  long : ∃ t, mg "LONGEST_NAME" = some (.int 8 t)
section
variable {K : PySem.W.Frag} {mg : Str → Option Value} {C : Addr} {H : Hp} {x : V}
theorem kSI : PySem.W.kitOne K (.type "str") (.type "int") = some false := kit_ty (by decide +kernel)
theorem kSB : PySem.W.kitOne K (.type "str") (.type "bool") = some false := kit_ty (by decide +kernel)
theorem kSS : PySem.W.kitOne K (.type "str") (.type "str") = some true := kit_ty (by decide +kernel)
theorem kIS : PySem.W.kitOne K (.type "int") (.type "str") = some false := kit_ty (by decide +kernel)
theorem kd_int (T : KT K mg C) : ∀ {k : Knd}, Kd K C H x k → ∃ t a b, TyX K H x t ∧ PySem.W.kitOne K t (.type "int") = some a ∧ PySem.W.kitOne K t (.type "bool") = some b ∧ (a && !b) = isI k
  | .int n, h => by cases (show x = .int n from h); exact ⟨_, true, false, .base (.int _), kII, kIB, rfl⟩
  | .txt z, h => by obtain ⟨rfl, _⟩ := h; exact ⟨_, false, false, .base (.str _), kSI, kSB, rfl⟩
  | .rat, h => ⟨_, false, false, h, T.Ci, T.Cb, rfl⟩
  | .odd, h => by obtain ⟨t, a, b, h1, h2, h3, h4, _⟩ := h; exact ⟨t, a, b, h1, h2, h3, h4⟩
theorem kd_rat (T : KT K mg C) (R : RT K mg C) : ∀ {k : Knd}, Kd K C H x k → isI k = false → ∃ t, TyX K H x t ∧ PySem.W.kitOne K t (.ref C) = some (isN k)
  | .int n, h, e => nomatch e
  | .txt z, h, _ => by obtain ⟨rfl, _⟩ := h; exact ⟨_, .base (.str _), T.sC⟩
  | .rat, h, _ => ⟨_, h, R.kCC⟩
  | .odd, h, _ => by obtain ⟨t, a, b, h1, h2, h3, h4, h5, _⟩ := h; exact ⟨t, h1, h5⟩
/-- is it a text -/
def isT : Knd → Bool
  | .txt _ => true
  | _ => false
theorem kd_txt (T : KT K mg C) : ∀ {k : Knd}, Kd K C H x k → ∃ t, TyX K H x t ∧ PySem.W.kitOne K t (.type "str") = some (isT k)
  | .int n, h => by cases (show x = .int n from h); exact ⟨_, .base (.int _), kIS⟩
  | .txt z, h => by obtain ⟨rfl, _⟩ := h; exact ⟨_, .base (.str _), kSS⟩
  | .rat, h => ⟨_, h, T.Cs⟩
  | .odd, h => by obtain ⟨t, a, b, h1, _, _, _, _, h6⟩ := h; exact ⟨t, h1, h6⟩
def spKnd (K : PySem.W.Frag) (C : Addr) (ans : Knd → Bool) : Sp := fun vs H Q _ => ∃ x k, vs = [x] ∧ Kd K C H x k ∧ ∀ H', Same H H' → Q (.bl (ans k)) H'
end

section
variable {P : Program} {w : World} {K : PySem.W.Frag} {mg : Str → Option Value} {base : Heap}
theorem use_int {C : Addr} (T : KT K mg C) {x : V} {k : Knd} {H : Hp} {Q : VK} {E : XK} (h : Kd K C H x k) (q : Q (.bl (isI k)) H) : spInt K [x] H Q E := by
  obtain ⟨t, a, b, h1, h2, h3, h4⟩ := kd_int T h
  rw [← h4] at q
  exact ⟨x, t, a, b, rfl, h1, h2, h3, q⟩
theorem scCount : FnScope ["value"] ["value"] (defScope sCount) := ⟨rfl, rfl, rfl, by decide +kernel, rfl, by decide +kernel, by decide +kernel⟩
theorem ok_count {f C : Addr} {fd : FuncData} (F : FnP K "is_count" "is_count" sCount [] f fd) (T : KT K mg C) (D : DInt P w K mg base) : FnOk P w K mg base CX0 2 f fd ["value"] (spKnd K C isC) := by
  refine F.ok scCount (fun vs H Q E h => ?_) (fun cdv A outer s H vs Q E hr h => ?_)
  · obtain ⟨x, k, rfl, _⟩ := h
    rfl
  · obtain ⟨x, k, rfl, hk, q⟩ := h
    refine ⟨_, PSs.nox (pss_one (ps_ret (pe_and (pe_use D hr rfl (pa_cons (pv 0) pa_nil)) (pe_one (pe_cmpR op_ge (pv 0) pe_int (nomark _)))))), ?_⟩
    obtain ⟨t, a, b, h1, h2, h3, h4⟩ := kd_int T hk
    refine ⟨_, rfl, x, t, a, b, rfl, h1, h2, h3, _, rfl, ?_⟩
    rw [h4]
    cases k with
    | int n =>
      refine iteT ?_
      cases (show x = .int n from hk)
      exact ⟨_, rfl, _, _, rfl, rfl, q _ (Same.refl _)⟩
    | txt z => exact iteF (q _ (Same.refl _))
    | rat => exact iteF (q _ (Same.refl _))
    | odd => exact iteF (q _ (Same.refl _))
theorem scNumber : FnScope ["value"] ["value"] (defScope sNumber) := ⟨rfl, rfl, rfl, by decide +kernel, rfl, by decide +kernel, by decide +kernel⟩
theorem ok_number {f C : Addr} {fd : FuncData} (F : FnP K "is_number" "is_number" sNumber [] f fd) (T : KT K mg C) (R : RT K mg C) (D : DInt P w K mg base) : FnOk P w K mg base CX0 2 f fd ["value"] (spKnd K C isN) := by
  refine F.ok scNumber (fun vs H Q E h => ?_) (fun cdv A outer s H vs Q E hr h => ?_)
  · obtain ⟨x, k, rfl, _⟩ := h
    rfl
  · obtain ⟨x, k, rfl, hk, q⟩ := h
    refine ⟨_, PSs.nox (pss_one (ps_ret (pe_or (pe_use D hr rfl (pa_cons (pv 0) pa_nil)) (pe_one (pe_callB call_isi (by rfl) R.isi boot_isinstance (pa_cons (pv 0) (pa_cons (pe_glob (v := .ref C) rfl R.mgC rfl) pa_nil))))))), ?_⟩
    obtain ⟨t, a, b, h1, h2, h3, h4⟩ := kd_int T hk
    refine ⟨_, rfl, x, t, a, b, rfl, h1, h2, h3, _, rfl, ?_⟩
    rw [h4]
    by_cases e : isI k = true
    · have n : isN k = true := by cases k <;> first | rfl | exact nomatch e
      rw [e]
      rw [n] at q
      exact iteT (q _ (Same.refl _))
    · have e' : isI k = false := by cases h : isI k with | true => exact absurd h e | false => rfl
      obtain ⟨t, h1, h2⟩ := kd_rat T R hk e'
      rw [e']
      refine iteF ?_
      exact ⟨_, rfl, x, .ref C, t, .ref C, _, rfl, .own C, h1, h2, q _ (Same.refl _)⟩
end
end Ra
namespace Ra
open PySem PySem.Spec PyProof.Rows L2 Ow Rm
theorem tYes_at {σ : L2.St} {H : Hp} {A B : Hp → Prop} (h : A H) : tYes σ H fun b H3 => if b = true then A H3 else B H3 := by
  show (if true = true then A H else B H)
  rw [if_pos rfl]
  exact h
section
variable {P : Program} {w : World} {K : PySem.W.Frag} {mg : Str → Option Value} {base : Heap}
abbrev nName : List Str := ["value", "letter"]
theorem scName : FnScope nName ["value"] (defScope sName) := ⟨rfl, rfl, rfl, by decide +kernel, rfl, by decide +kernel, by decide +kernel⟩
theorem len_cps (z : Str) : z.length = z.cps.toList.length := by
  rw [Array.length_toList]
  rfl
theorem ok_name {f C : Addr} {fd : FuncData} (F : FnP K "is_name" "is_name" sName [] f fd) (T : KT K mg C) (R : RT K mg C) : FnOk P w K mg base CX0 1 f fd ["value"] (spKnd K C isS) := by
  refine F.ok scName (fun vs H Q E h => ?_) (fun cdv A outer s H vs Q E hr h => ?_)
  · obtain ⟨x, k, rfl, _⟩ := h
    rfl
  · obtain ⟨x, k, rfl, hk, q⟩ := h
    obtain ⟨tl, hl⟩ := T.long
    obtain ⟨ta, ha⟩ := T.abc
    refine ⟨_, PSs.nox (pss_cons (ps_if (PW.pt (pw_or (pt_not (pt_val (pe_callB call_isi (by rfl) R.isi boot_isinstance (pa_cons (pv 0) (pa_cons (pe_bltn (v := .ty "str") rfl R.str PyProof.Rows.boot_str rfl) pa_nil)))))
        (pw_or1 (pt_not (pt_chain op_le op_le pe_int (pe_callB call_len_str (by rfl) T.len PySem.boot_len (pa_cons (pv 0) pa_nil)) (pe_glob (v := .int 8) rfl hl ⟨tl, rfl⟩))))))
        (pss_one (ps_ret pe_bl)) pss_nil)
      (pss_one (ps_ret (pe_callB (cr_all rfl) (by rfl) T.all PyProof.Rows.boot_all (pa_cons (pe_lc rfl scName.nd (pi_str (pv 0)) (blkOk_by (own := [("letter", 1)]) (by show blkC nName (defScope sName) _ _ = true; decide +kernel))
        (fun _ _ _ _ _ => pg_name (i := 1) scName.nd rfl (.inl rfl)) (fun _ _ _ _ _ => pts_nil)
        (fun _ _ _ _ _ => pe_cmpR op_in_sign (pv 1) (pe_glob (v := .str abc) rfl ha ⟨ta, rfl⟩) (by rfl))) pa_nil))))), ?_⟩
    obtain ⟨t, h1, h2⟩ := kd_txt T hk
    refine ⟨_, rfl, x, .ty "str", t, .type "str", _, rfl, .ty _, h1, h2, _, rfl, ?_⟩
    have no : isS k = false → Q (.bl false) H := fun e => by
      have z := q H (Same.refl H)
      rw [e] at z
      exact z
    cases k with
    | int n => exact iteT (iteT (no rfl))
    | rat => exact iteT (iteT (no rfl))
    | odd => exact iteT (iteT (no rfl))
    | txt z =>
      obtain ⟨rfl, hz⟩ := hk
      refine iteF ?_
      refine ⟨_, rfl, z, rfl, hz, _, _, rfl, rfl, _, rfl, ?_⟩
      by_cases c1 : (1 : Int) ≤ (z.length : Int)
      · rw [decide_eq_true c1]
        refine iteT ?_
        refine ⟨_, _, rfl, rfl, _, rfl, ?_⟩
        by_cases c2 : (z.length : Int) ≤ 8
        · rw [decide_eq_true c2]
          refine iteF ?_
          refine ⟨_, rfl, z, rfl, fun D hD => ?_⟩
          have h8 : z.cps.size ≤ 8 := by
            have e := len_cps z
            rw [Array.length_toList] at e
            omega
          refine lc_it walk_str (fun i H' => Same H H' ∧ H' D = some (.lst (((z.cps.toList.take i).map fun c => decide (c ∈ abc.cps.toList)).map V.bl))) ⟨same_upd hD, upd_same⟩ (fun _ _ _ _ => trivial) ?_ ?_
          · rintro i v H5 H6 hi ⟨s5, hD5⟩ ⟨rfl, c, hc, rfl⟩
            refine ⟨rfl, tYes_at ?_⟩
            refine ⟨_, rfl, c, abc, rfl, rfl, ?_⟩
            refine ⟨_, hD5, ?_, fun b o e => ?_, ?_⟩
            · rw [List.length_map, List.length_map, List.length_take]
              exact Nat.lt_of_le_of_lt (show min i z.cps.toList.length ≤ 1000 by omega) (by decide)
            · rw [upd_ne (ne_of_none e hD)]
              exact s5 _ _ e
            · rw [upd_same]
              have e : z.cps.toList[i]? = some c := by rw [Array.getElem?_toList]; exact hc
              rw [List.take_succ, e]
              simp only [List.map_append]
              rfl
          · rintro H5 ⟨s5, hD5⟩
            refine ⟨D, z.cps.toList.map (fun c => decide (c ∈ abc.cps.toList)), rfl, SqL.of ?_, ?_⟩
            · rw [hD5, List.take_of_length_le (by rw [Array.length_toList]; exact Nat.le_refl _)]
            · have e : (z.cps.toList.map (fun c => decide (c ∈ abc.cps.toList))).all id = isS (.txt z) := by
                show _ = nameOk z
                unfold nameOk
                rw [decide_eq_true (show 1 ≤ z.length by omega), decide_eq_true (show z.length ≤ 8 by omega), List.all_map]
                rfl
              rw [e]
              exact q _ s5
        · rw [decide_eq_false c2]
          refine iteT ?_
          refine no ?_
          show nameOk z = false
          unfold nameOk
          rw [decide_eq_false (show ¬ z.length ≤ 8 by omega), Bool.false_and, Bool.and_false]
      · rw [decide_eq_false c1]
        refine iteF ?_
        refine ⟨_, rfl, ?_⟩
        refine iteT ?_
        refine no ?_
        show nameOk z = false
        unfold nameOk
        rw [decide_eq_false (show ¬ 1 ≤ z.length by omega), Bool.false_and]
end
end Ra
namespace Ra
open PySem PySem.Spec PyProof.Rows L2 Ow Rm
abbrev sMany : Stmt := top 23
abbrev sCheck : Stmt := top 24
abbrev sTInit : Stmt := inClass (top 25) 0
section
variable {P : Program} {w : World} {K : PySem.W.Frag} {mg : Str → Option Value} {base : Heap}
/-! ### is_below -/
def spBelow (C : Addr) : Sp := fun vs H Q _ => ∃ p v n d m e, vs = [.ref p, v] ∧ Nm C H (.ref p) n d ∧ Nm C H v m e ∧ ∀ H', Same H H' → Q (.bl (decide ((minus (n, d) (m, e)).1.sign < 0))) H'
theorem scBelow : FnScope ["self", "other"] ["self", "other"] (defScope sBelow) := ⟨rfl, rfl, rfl, by decide +kernel, rfl, by decide +kernel, by decide +kernel⟩
theorem ok_below {f C : Addr} {fd : FuncData} (F : FnP K "is_below" "Ratio.is_below" sBelow [] f fd) (T : RT K mg C) (O : OpX P w K mg base C .Sub 6 (spBin minus C)) (pS : PS_ P w K mg base C) : FnOk P w K mg base CX0 7 f fd ["self", "other"] (spBelow C) := by
  refine F.ok scBelow (fun vs H Q E h => ?_) (fun cdv A outer s H vs Q E hr h => ?_)
  · obtain ⟨p, v, n, d, m, e, rfl, _⟩ := h
    rfl
  · obtain ⟨p, v, n, d, m, e, rfl, hp, hv, q⟩ := h
    refine ⟨_, PSs.nox (pss_one (ps_ret (pe_cmpR op_lt (pe_prp pS (pe_op (op_nm O T.num hr) (pv 0) (pv 1)) T.cl (hr.mono (by decide)) rfl) pe_int (nomark _)))), ?_⟩
    refine ⟨_, rfl, _, rfl, p, _, _, _, _, rfl, hp.rat, hv.at_, p, _, _, _, _, _, rfl, hp, hv, fun z H1 hz s1 => ?_⟩
    obtain ⟨dz, h1⟩ := id hz
    exact ⟨z, dz, _, rfl, h1, z, _, _, rfl, hz, _, _, rfl, rfl, q _ s1⟩
/-! ### check_many -/
def spMany (K : PySem.W.Frag) : Sp := fun vs H Q _ => ∃ (t : Addr) (xs : List V), vs = [.ref t] ∧ SqT K H t xs ∧ 1 ≤ xs.length ∧ xs.length ≤ 5 ∧ Q .non H
theorem scMany : FnScope ["numbers"] ["numbers"] (defScope sMany) := ⟨rfl, rfl, rfl, by decide +kernel, rfl, by decide +kernel, by decide +kernel⟩
theorem ok_many {f : Addr} {fd : FuncData} (F : FnP K "check_many" "check_many" sMany [] f fd) (hl : mg "len" = none) (hp : ∃ t, mg "PLACES" = some (.int 5 t)) : FnOk P w K mg base CX0 1 f fd ["numbers"] (spMany K) := by
  obtain ⟨tp, hp⟩ := hp
  refine F.ok scMany (fun vs H Q E h => ?_) (fun cdv A outer s H vs Q E hr h => ?_)
  · obtain ⟨t, xs, rfl, _⟩ := h
    rfl
  · obtain ⟨t, xs, rfl, ht, h1, h5, q⟩ := h
    refine ⟨_, PSs.nox (pss_one (ps_if (pt_not (pt_chain op_le op_le pe_int (pe_callB call_len_seq (by rfl) hl PySem.boot_len (pa_cons (pv 0) pa_nil)) (pe_glob (v := .int 5) rfl hp ⟨tp, rfl⟩))) pss_never pss_nil)), ?_⟩
    refine ⟨_, rfl, t, xs, rfl, .inr ht, _, _, rfl, rfl, _, rfl, ?_⟩
    rw [decide_eq_true (show (1 : Int) ≤ (xs.length : Int) by omega)]
    refine iteT ?_
    refine ⟨_, _, rfl, rfl, _, rfl, ?_⟩
    rw [decide_eq_true (show (xs.length : Int) ≤ 5 by omega)]
    refine iteF ?_
    exact q
/-! ### check_points, of integers that go down -/
structure Desc (ns : List Int) : Prop where
  one : 1 ≤ ns.length
  five : ns.length ≤ 5
  pos : ∀ (i : Nat) n, ns[i]? = some n → 0 ≤ n ∧ n < 1000
  first : ∀ n, ns[0]? = some n → n ≠ 0
  down : ∀ (i : Nat) n m, ns[i]? = some n → ns[i + 1]? = some m → m ≤ n
theorem bd1000 {n : Int} (h0 : 0 ≤ n) (h : n < 1000) : Bd 2500 n := by
  refine Bd.mono (j := 10) ?_ (by decide)
  unfold Bd
  have : (2 : Nat) ^ 10 = 1024 := by decide
  omega
theorem minus_int (a b : Int) : (minus (a, 1) (b, 1)).1 = a - b := by
  unfold minus
  simp only [Int.mul_one]
  rw [low_int]
def spCheck (K : PySem.W.Frag) : Sp := fun vs H Q _ => ∃ (t : Addr) (ns : List Int), vs = [.ref t] ∧ SqT K H t (ns.map V.int) ∧ Desc ns ∧ ∀ H', Same H H' → Q .non H'
theorem scCheck : FnScope ["points", "position", "point"] ["points"] (defScope sCheck) := ⟨rfl, rfl, rfl, by decide +kernel, rfl, by decide +kernel, by decide +kernel⟩
theorem same_sqt {H H' : Hp} {a : Addr} {xs : List V} (s : Same H H') (h : SqT K H a xs) : SqT K H' a xs := SqT.ext h s
theorem below_no (C : Addr) : (rf 0 1).lookup ("is_below" : Str) = none := rf_no 0 1 (by decide +kernel) (by decide +kernel)
theorem ok_check {f fb C : Addr} {fd fbd : FuncData} (F : FnP K "check_points" "check_points" sCheck [] f fd) (T : RT K mg C) (he : mg "enumerate" = none) (D : Dfn P w K mg base 1 "check_many" ["numbers"] (spMany K))
    (N : Dfn P w K mg base 2 "is_number" ["value"] (spKnd K C isN)) (A_ : DAs P w K mg base C) (pS : PS_ P w K mg base C) (mt : Meth K C "is_below" fb) (Fb : FnOk P w K mg base CX0 7 fb fbd ["self", "other"] (spBelow C)) (bb : Binds K fbd ["self", "other"] []) :
    FnOk P w K mg base CX0 8 f fd ["points"] (spCheck K) := by
  refine F.ok scCheck (fun vs H Q E h => ?_) (fun cdv A outer s H vs Q E hr h => ?_)
  · obtain ⟨t, ns, rfl, _⟩ := h
    rfl
  · obtain ⟨t, ns, rfl, ht, hd, q⟩ := h
    have hr1 := hr.mono (by decide : 1 ≤ 7)
    have hr2 := hr.mono (by decide : 2 ≤ 7)
    have hr4 := hr.mono (by decide : 4 ≤ 7)
    refine ⟨_, PSs.nox (pss_cons (ps_expr (pe_use D hr1 rfl (pa_cons (pv 0) pa_nil)))
      (pss_one (ps_for PassesOwn.never rfl (pi_enumT rfl he (pa_cons (pv 0) pa_nil)) (pg_tup (by rfl) (pgs_cons (pg_name (i := 1) scCheck.nd rfl (.inl rfl)) (pgs_cons (pg_name (i := 2) scCheck.nd rfl (.inl rfl)) pgs_nil)))
        (pss_cons (ps_if (PW.pt (pw_or (pt_not (pt_val (pe_use N hr2 rfl (pa_cons (pv 2) pa_nil)))) (pw_or1 (pt_cmpR op_lt (pe_prp pS (pe_use A_ hr4 rfl (pa_cons (pv 2) pa_nil)) T.cl hr2 rfl) pe_int (nomark _))))) pss_never pss_nil)
        (pss_cons (ps_if (PW.pt (pw_and (pt_cmpR op_eq (pv 1) pe_int (nomark _)) (pw_and1 (pt_cmpR op_eq (pe_prp pS (pe_use A_ hr4 rfl (pa_cons (pv 2) pa_nil)) T.cl hr2 rfl) pe_int (nomark _))))) pss_never pss_nil)
        (pss_one (ps_if (PW.pt (pw_and (pt_cmpR op_gt (pv 1) pe_int (nomark _)) (pw_and1 (pt_val (pe_meth (pe_use A_ hr4 rfl (pa_cons (pe_ix ix_tup (pv 0) (pe_op op_sub (pv 1) pe_int) (fun _ _ => rfl)) pa_nil)) T.cl mt Fb hr bb .nil pass0 (pa_cons (pv 2) pa_nil)))))) pss_never pss_nil))))))), ?_⟩
    have hl : (ns.map V.int).length = ns.length := List.length_map ..
    refine ⟨_, rfl, t, _, rfl, ht, by rw [hl]; exact hd.one, by rw [hl]; exact hd.five, ?_⟩
    refine ⟨_, rfl, t, _, rfl, ht, ?_⟩
    refine for_it walk_enumT (fun i σ H' => ∃ v1 v2 : Option V, σ = [some (.ref t), v1, v2] ∧ Same H H') ⟨_, _, rfl, Same.refl _⟩ (fun i σ H' _ h => by obtain ⟨_, _, _, s1⟩ := h; exact same_sqt s1 ht) ?_ ?_
    · rintro i x σ H1 H2 hi ⟨v1, v2, rfl, s1⟩ ⟨T1, a, b, rfl, hT, rfl, ha, hb⟩
      have s2 : Same H (upd H1 T1 (.tup [a, b])) := s1.trans (same_upd hT)
      cases ha
      replace hb : (ns.map V.int)[i]? = some b := hb
      have hin : i < ns.length := by rw [hl] at hi; exact hi
      rw [List.getElem?_map, List.getElem?_eq_getElem hin] at hb
      cases hb
      have hn := List.getElem?_eq_getElem hin
      have hp := hd.pos i _ hn
      have sg0 : ¬ (ns[i].sign < 0) := fun z => by
        have := Int.sign_neg_iff.mp z
        omega
      refine ⟨T1, _, rfl, SqT.of upd_same, rfl, _, _, rfl, _, _, rfl, rfl, ?_⟩
      refine ⟨_, rfl, .int ns[i], .int ns[i], rfl, rfl, fun H3 s3 => ⟨_, rfl, ?_⟩⟩
      refine iteF ?_
      refine ⟨_, rfl, .int ns[i], ns[i], 1, rfl, .inr ⟨rfl, rfl⟩, fun r H4 hr4' s4 => ?_⟩
      obtain ⟨dx, h4⟩ := id hr4'
      refine ⟨r, dx, _, rfl, h4, r, _, _, rfl, hr4', _, _, rfl, rfl, _, rfl, ?_⟩
      rw [decide_eq_false sg0]
      refine iteF ?_
      refine ⟨_, rfl, rfl, _, rfl, ?_⟩
      have s24 := (s2.trans s3).trans s4
      rcases i with _ | i
      · refine iteT ?_
        refine ⟨_, rfl, .int ns[0], ns[0], 1, rfl, .inr ⟨rfl, rfl⟩, fun r5 H5 hr5 s5 => ?_⟩
        obtain ⟨dx5, h5⟩ := id hr5
        refine ⟨r5, dx5, _, rfl, h5, r5, _, _, rfl, hr5, rfl, _, rfl, ?_⟩
        rw [decide_eq_false (fun z => hd.first _ hn (Int.sign_eq_zero_iff_zero.mp (V.int.inj z)))]
        refine iteF ?_
        refine ⟨_, rfl, _, _, rfl, rfl, _, rfl, ?_⟩
        refine iteF ?_
        refine iteF ?_
        exact ⟨_, _, rfl, s24.trans s5⟩
      · rw [decide_eq_false (fun z => by have := V.int.inj z; omega)]
        refine iteF ?_
        refine iteF ?_
        refine ⟨_, rfl, _, _, rfl, rfl, _, rfl, ?_⟩
        rw [decide_eq_true (show (0 : Int) < ((i + 1 : Nat) : Int) by omega)]
        refine iteT ?_
        have hin' : i < ns.length := by omega
        have hn' := List.getElem?_eq_getElem hin'
        have hat : atI (ns.map V.int) (((i + 1 : Nat) : Int) - 1) = some (V.int ns[i]) := by
          rw [show ((i + 1 : Nat) : Int) - 1 = ((i : Nat) : Int) by omega]
          exact atI_nat (by rw [List.getElem?_map, hn']; rfl)
        have hp' := hd.pos i _ hn'
        refine ⟨_, rfl, _, rfl, _, _, rfl, rfl, t, _, _, .int ns[i], rfl, rfl, same_sqt s24 ht, hat, .int ns[i], ns[i], 1, rfl, .inr ⟨rfl, rfl⟩, fun r5 H5 hr5 s5 => ?_⟩
        obtain ⟨dx5, h5⟩ := id hr5
        refine ⟨r5, dx5, _, rfl, h5, rf_no _ _ (by decide +kernel) (by decide +kernel), _, rfl, r5, _, ns[i], 1, ns[i + 1], 1, rfl, ⟨.inl ⟨r5, rfl, hr5⟩, lw_int _, bd1000 hp'.1 hp'.2, bd_one (by decide)⟩, nm_int (bd1000 hp.1 hp.2), fun H6 s6 => ⟨_, rfl, ?_⟩⟩
        have hdn := hd.down i _ _ hn' hn
        rw [minus_int, decide_eq_false (fun z => by have := Int.sign_neg_iff.mp z; omega)]
        refine iteF ?_
        exact ⟨_, _, rfl, (s24.trans s5).trans s6⟩
    · rintro σ H1 ⟨v1, v2, rfl, s1⟩
      exact q _ s1
end
end Ra
namespace Ra
open PySem PySem.Spec PyProof.Rows L2 Ow Rm
/-- the class Table -/
structure TT (K : PySem.W.Frag) (mg : Str → Option Value) (D : Addr) : Prop where
  cl : Cls K D
  nP : NoAttr K D "_points"
  mgT : mg "Table" = some (.ref D)
  len : mg "len" = none
  range : mg "range" = none
  places : ∃ t, mg "PLACES" = some (.int 5 t)
section
variable {P : Program} {w : World} {K : PySem.W.Frag} {mg : Str → Option Value} {base : Heap}
def spTab0 (K : PySem.W.Frag) (D : Addr) : Sp := fun vs H Q _ => ∃ (x t dx : Addr) (ns : List Int), vs = [.ref x, .ref t] ∧ H x = some (.ins D dx []) ∧ SqT K H t (ns.map V.int) ∧ Desc ns ∧
  ∀ H' fs, H' x = some (.ins D dx fs) → (∀ b o, b ≠ x → H b = some o → H' b = some o) → Q .non H'
abbrev nTI : List Str := ["self", "points", "told", "point", "_"]
theorem scTI : FnScope nTI ["self", "points"] (defScope sTInit) := ⟨rfl, rfl, rfl, by decide +kernel, rfl, by decide +kernel, by decide +kernel⟩
theorem ok_tinit {f C D : Addr} {fd : FuncData} (F : FnP K "__init__" "Table.__init__" sTInit [] f fd) (T : RT K mg C) (U : TT K mg D) (M : RMk P w K mg base C) (A_ : DAs P w K mg base C) (G : Dfn P w K mg base 8 "check_points" ["points"] (spCheck K)) :
    FnR P w K mg base CX0 9 f (fun vs H Q E => ∃ x dx ns, vs = .ref x :: (ns.map V.int) ∧ H x = some (.ins D dx []) ∧ Desc ns ∧ ∀ H' fs, H' x = some (.ins D dx fs) → (∀ b o, b ≠ x → H b = some o → H' b = some o) → Q .non H') := by
  obtain ⟨oc, od, dV, kV, doc, pm, an, cdv, ct, osl, rfl, lk, hcd, hD, _⟩ := F.ex
  have hdV : dV = .none := by
    rcases hD with ⟨_, e⟩ | ⟨e, _⟩
    · exact e
    · exact absurd rfl e
  subst hdV
  obtain ⟨tp, hpl⟩ := U.places
  have R := StX.fn_star (k := 8) (sp := spTab0 K D) (CX := CX0) (P := P) (w := w) (mg := mg) (base := base) (ps := ["self"]) (pv := "points") lk hcd scTI StX.cxUp_none
    (StX.bind_star1 (B := fun us => bindArgs _ ⟨us, []⟩) (fun a => rfl) (fun a r rs => rfl)) (fun A outer s H vs Q E hr h => ?_)
  · refine R.imp fun vs H Q E h => ?_
    obtain ⟨x, dx, ns, rfl, hx, hd, q⟩ := h
    refine ⟨[.ref x], ns.map V.int, rfl, rfl, ?_, fun p hp => ?_⟩
    · rw [List.length_map]
      exact Nat.le_trans hd.five (by decide)
    · refine ⟨x, p, dx, ns, rfl, (same_upd hp) _ _ hx, SqT.of upd_same, hd, fun H' fs h1 h2 => q H' fs h1 fun b o nb eb => h2 b o nb ((same_upd hp) _ _ eb)⟩
  · obtain ⟨x, t, dx, ns, rfl, hx, ht, hd, q⟩ := h
    have hr3 := hr.mono (by decide : 3 ≤ 8)
    have hr4 := hr.mono (by decide : 4 ≤ 8)
    refine ⟨_, PSs.nox (pss_cons (ps_expr (pe_use G hr rfl (pa_cons (pv 1) pa_nil)))
      (pss_cons (ps_setLc (i := 2) rfl scTI.nd rfl rfl (by rfl) (pi_tup (pv 1)) (blkOk_by (own := [("point", 3)]) (by show blkC nTI (defScope sTInit) _ _ = true; decide +kernel))
        (fun _ _ _ _ _ => pg_name (i := 3) scTI.nd rfl (.inl rfl)) (fun _ _ _ _ _ => pts_nil) (fun _ _ _ _ _ => pe_use A_ hr4 rfl (pa_cons (pv 3) pa_nil)))
      (pss_one (ps_fld (pv 0) (pe_op op_cat (pv 2) (pe_lc rfl scTI.nd (pi_range1 rfl U.range (pa_cons (pe_op op_sub (pe_glob (v := .int 5) rfl hpl ⟨tp, rfl⟩) (pe_callB call_len_seq (by rfl) U.len PySem.boot_len (pa_cons (pv 2) pa_nil))) pa_nil))
        (blkOk_by (own := [("_", 4)]) (by show blkC nTI (defScope sTInit) _ _ = true; decide +kernel))
        (fun _ _ _ _ _ => pg_name (i := 4) scTI.nd rfl (.inl rfl)) (fun _ _ _ _ _ => pts_nil) (fun _ _ _ _ _ => pe_rat1 M hr3 rfl T.mgC pe_int))) rfl)))), ?_⟩
    have hl : (ns.map V.int).length = ns.length := List.length_map ..
    refine ⟨_, rfl, t, ns, rfl, ht, hd, fun H1 s1 => ?_⟩
    refine ⟨_, rfl, t, rfl, ⟨_, same_sqt s1 ht⟩, fun L hL => ?_⟩
    refine lc_it walk_tup (fun i H' => Same H1 H' ∧ ∃ acc, H' L = some (.lst acc) ∧ acc.length = i) ⟨same_upd hL, [], upd_same, rfl⟩ (fun i H' _ h => same_sqt (s1.trans h.1) ht) ?_ ?_
    · rintro i v H2 H3 hi ⟨s2, acc, ha, hlen⟩ ⟨rfl, hv⟩
      have hin : i < ns.length := by rw [hl] at hi; exact hi
      rw [List.getElem?_map, List.getElem?_eq_getElem hin] at hv
      cases hv
      refine ⟨rfl, tYes_at ?_⟩
      refine ⟨_, rfl, .int ns[i], ns[i], 1, rfl, .inr ⟨rfl, rfl⟩, fun q H4 hq s4 => ⟨acc, s4 _ _ ha, ?_, ?_, acc ++ [.ref q], upd_same, ?_⟩⟩
      · have := hd.five
        exact Nat.lt_of_le_of_lt (show acc.length ≤ 1000 by omega) (by decide)
      · intro b o e
        rw [upd_ne (ne_of_none e hL)]
        exact s4 _ _ (s2 _ _ e)
      · rw [List.length_append, hlen]
        rfl
    · rintro H2 ⟨s2, acc, ha, hlen⟩
      rw [hl] at hlen
      have h5 := hd.five
      refine ⟨_, rfl, _, rfl, L, acc, rfl, .inl (SqL.of ha), _, _, rfl, rfl, _, rfl, ?_, ?_, fun Z hZ => ?_⟩
      · omega
      · omega
      refine lc_range (lo := 0) (n := ((5 : Int) - (acc.length : Int)).toNat) (fun i H' => Same H2 H' ∧ ∃ zs, H' Z = some (.lst zs) ∧ zs.length = i) ⟨same_upd hZ, [], upd_same, rfl⟩ ?_ ?_
      · rintro i H3 hi ⟨s3, zs, hz, hzl⟩
        refine ⟨rfl, tYes_at ?_⟩
        refine rat_new (by decide) (bd_one (by decide)) fun p H4 hp s4 _ => ⟨zs, s4 _ _ hz, ?_, ?_, zs ++ [.ref p], upd_same, ?_⟩
        · exact Nat.lt_of_le_of_lt (show zs.length ≤ 1000 by omega) (by decide)
        · intro b o e
          rw [upd_ne (ne_of_none e hZ)]
          exact s4 _ _ (s3 _ _ e)
        · rw [List.length_append, hzl]
          rfl
      · rintro H3 ⟨s3, zs, hz, hzl⟩
        refine ⟨L, Z, acc, zs, rfl, rfl, s3 _ _ ha, hz, ?_, fun p hp => ?_⟩
        · exact Nat.le_trans (show acc.length + zs.length ≤ 1000 by omega) (by decide)
        · have s04 : Same H (upd H3 p (.lst (acc ++ zs))) := ((s1.trans s2).trans s3).trans (same_upd hp)
          refine ⟨_, rfl, x, D, dx, [], rfl, s04 _ _ hx, U.cl, U.nP, (by show 0 < 1000; decide), ?_⟩
          refine q _ _ upd_same fun b o nb eb => ?_
          rw [upd_ne nb]
          exact s04 _ _ eb
end
end Ra
namespace La
open PySem PySem.Spec PyProof.Rows L2 Ow Rm Ra

abbrev sPot : Stmt := top 27
abbrev sDraw : Stmt := top 28
abbrev sPick : Stmt := top 29
abbrev sWord : Stmt := top 30
abbrev sBent : Stmt := top 31
abbrev sIsName : Stmt := top 32
abbrev sTold : Stmt := top 33
abbrev sIntR : Stmt := top 34
abbrev sOddR : Stmt := top 35
abbrev sRight : Stmt := top 36
abbrev sLaw : Stmt := top 37

structure LT (mg : Str → Option Value) : Prop where
  len : mg "len" = none
  abs : mg "abs" = none
  max : mg "max" = none
  min : mg "min" = none
  int : mg "int" = none
  dm : mg "divmod" = none
  range : mg "range" = none
  all : mg "all" = none
  zip : mg "zip" = none
  repr : mg "repr" = none
  str : mg "str" = none
  isi : mg "isinstance" = none

/-- a pot: two numbers, the first one from 0 on -/
def Pot (H : Hp) (p : Addr) : Prop := ∃ a b : Int, H p = some (.lst [.int a, .int b]) ∧ 0 ≤ a
/-- all but the pot at p is as it was -/
structure Stp (p : Addr) (H H' : Hp) : Prop where
  keep : ∀ q o, q ≠ p → H q = some o → H' q = some o
  pot : Pot H' p
theorem Stp.trans {p : Addr} {H H1 H2 : Hp} (a : Stp p H H1) (b : Stp p H1 H2) : Stp p H H2 := ⟨fun q o n e => b.keep q o n (a.keep q o n e), b.pot⟩
theorem Stp.refl {p : Addr} {H : Hp} (h : Pot H p) : Stp p H H := ⟨fun _ _ _ e => e, h⟩
theorem Pot.same {H H' : Hp} {p : Addr} (h : Pot H p) (s : Same H H') : Pot H' p := by
  obtain ⟨a, b, e, h0⟩ := h
  exact ⟨a, b, s _ _ e, h0⟩
theorem Stp.of {p : Addr} {H H' : Hp} (s : Same H H') (h : Pot H p) : Stp p H H' := ⟨fun _ _ _ e => s _ _ e, h.same s⟩
theorem Stp.sm {p : Addr} {H H1 H2 : Hp} (a : Stp p H H1) (s : Same H1 H2) : Stp p H H2 := a.trans (Stp.of s a.pot)

section
variable {P : Program} {w : World} {K : PySem.W.Frag} {mg : Str → Option Value} {base : Heap}

/-! ### _law_pot -/
def spPot (K : PySem.W.Frag) : Sp := fun vs H Q _ => ∃ (a : Addr) (ns : List Int) (k : Int), vs = [.ref a, .int k] ∧ SqL K H a (ns.map V.int) ∧ 0 ≤ k ∧ ∀ p x y, 0 ≤ x → H p = none → Q (.ref p) (upd H p (.lst [.int x, .int y]))
theorem scPot : FnScope ["_law_script", "_law_k", "_law_cell"] ["_law_script", "_law_k"] (defScope sPot) := ⟨rfl, rfl, rfl, by decide +kernel, rfl, by decide +kernel, by decide +kernel⟩
theorem ok_pot {f : Addr} {fd : FuncData} (F : FnP K "_law_pot" "_law_pot" sPot [] f fd) (T : LT mg) : FnOk P w K mg base CX0 1 f fd ["_law_script", "_law_k"] (spPot K) := by
  refine F.ok scPot (fun vs H Q E h => ?_) (fun cdv A outer s H vs Q E hr h => ?_)
  · obtain ⟨a, ns, k, rfl, _⟩ := h
    rfl
  · obtain ⟨a, ns, k, rfl, hs, hk, q⟩ := h
    refine ⟨_, PSs.nox (pss_cons (ps_set (i := 2) scPot.nd rfl (Or.inl rfl) (pe_ifExp (pt_cmpR op_lt (pv 1) (pe_callB call_len_seq (by rfl) T.len PySem.boot_len (pa_cons (pv 0) pa_nil)) (nomark _))
        (pe_callB call_abs (by rfl) T.abs PyProof.Rows.boot_abs (pa_cons (pe_ix ix_list (pv 0) (pv 1) (fun _ _ => rfl)) pa_nil))
        (pe_op op_add (pe_op op_mul pe_int (pv 1)) pe_int)))
      (pss_one (ps_ret (pe_lst (pa_cons (pe_callB (call_max2 rfl) (by rfl) T.max PyProof.Rows.boot_max (pa_cons pe_int (pa_cons (pe_op op_sub (pv 2) (pe_op op_pow pe_int pe_int)) pa_nil)))
        (pa_cons (pe_op op_add (pe_op op_mod (pe_callTy call_int1 rfl T.int PyProof.Rows.boot_int (pa_cons
          (pe_op op_add (pe_op op_add (pe_op op_mul (pe_op op_mod (pe_callTy call_int1 rfl T.int PyProof.Rows.boot_int (pa_cons (pv 2) pa_nil)) pe_int) pe_int) (pe_op op_mul pe_int (pv 1))) pe_int) pa_nil)) pe_int) pe_int) pa_nil)))))), ?_⟩
    have fin : ∀ c : Int, (tRet (tLst (tCons (tCB (fun xs H Q => ∃ i j, xs = [V.int i, V.int j] ∧ Q (.int (if j > i then j else i)) H) (tCons (tC (.int 0)) (tCons (tOp (rI0 fun i j => .int (i - j)) (tVar 2) (tOp (rI CPow fun i j => .int (i ^ j.toNat)) (tC (.int 10)) (tC (.int 18)))) tNil)))
        (tCons (tOp (rI0 fun i j => .int (i + j)) (tOp (rI (fun _ j => 0 < j) fun i j => .int (i % j)) (tCB (fun xs H Q => (∃ i, xs = [V.int i] ∧ Q (.int i) H) ∨ ∃ k, xs = [V.bl k] ∧ Q (.int (if k then 1 else 0)) H) (tCons
          (tOp (rI0 fun i j => .int (i + j)) (tOp (rI0 fun i j => .int (i + j)) (tOp (rI CMul fun i j => .int (i * j)) (tOp (rI (fun _ j => 0 < j) fun i j => .int (i % j)) (tCB (fun xs H Q => (∃ i, xs = [V.int i] ∧ Q (.int i) H) ∨ ∃ k, xs = [V.bl k] ∧ Q (.int (if k then 1 else 0)) H) (tCons (tVar 2) tNil)) (tC (.int 2147483563))) (tC (.int 40361))) (tOp (rI CMul fun i j => .int (i * j)) (tC (.int 9103)) (tVar 1))) (tC (.int 71))) tNil)) (tC (.int 2147483497))) (tC (.int 1))) tNil))))
        { nx := fun _ H' => Q .non H', rt := Q } [some (.ref a), some (.int k), some (.int c)] H := by
      intro c
      refine ⟨_, rfl, _, _, rfl, rfl, ⟨by decide, by decide, by decide⟩, _, _, rfl, rfl, _, _, rfl, ?_⟩
      refine ⟨_, rfl, .inl ⟨_, rfl, _, _, rfl, rfl, (by show (0 : Int) < 2147483563; decide), _, _, rfl, rfl, .inr ⟨by decide, by decide⟩, ?_⟩⟩
      refine ⟨_, rfl, _, _, rfl, rfl, .inl ⟨by decide, by decide⟩, _, _, rfl, rfl, _, _, rfl, rfl, .inl ⟨_, rfl, _, _, rfl, rfl, (by show (0 : Int) < 2147483497; decide), _, _, rfl, rfl, (by show 2 ≤ sizeLine; decide), fun p hp => ?_⟩⟩
      refine q p _ _ ?_ hp
      by_cases h : c - 10 ^ (18 : Int).toNat > 0
      · rw [if_pos h]; omega
      · rw [if_neg h]; omega
    refine ⟨_, rfl, _, rfl, a, _, rfl, .inl hs, _, _, rfl, rfl, _, rfl, ?_⟩
    refine ite2 (fun c => ?_) (fun c => ?_)
    · have c' : k < ((ns.map V.int).length : Int) := of_decide_eq_true c
      rw [List.length_map] at c'
      obtain ⟨j, rfl⟩ : ∃ j : Nat, k = (j : Int) := ⟨k.toNat, by omega⟩
      have hj : j < ns.length := by omega
      refine ⟨_, rfl, _, rfl, a, _, _, _, rfl, rfl, hs, atI_nat (v := V.int ns[j]) (by rw [List.getElem?_map, List.getElem?_eq_getElem hj]; rfl), _, rfl, ?_⟩
      exact fin _
    · refine ⟨_, rfl, _, _, rfl, rfl, .inl ⟨by decide, by decide⟩, _, _, rfl, rfl, ?_⟩
      exact fin _

/-! ### _law_draw -/
def spDraw : Sp := fun vs H Q _ => ∃ (p : Addr) (m : Int), vs = [.ref p, .int m] ∧ Pot H p ∧ 0 < m ∧ Bd 8000 m ∧ ∀ r H', 0 ≤ r → r < m → Stp p H H' → Q (.int r) H'
theorem scDraw : FnScope ["_law_pot_here", "_law_many", "_law_digit"] ["_law_pot_here", "_law_many"] (defScope sDraw) := ⟨rfl, rfl, rfl, by decide +kernel, rfl, by decide +kernel, by decide +kernel⟩
theorem stp_set {p : Addr} {H : Hp} {a b : Int} (h : 0 ≤ a) {o : HO} {H1 : Hp} (k : ∀ q u, q ≠ p → H q = some u → H1 q = some u) : Stp p H (upd H1 p (.lst [.int a, .int b])) :=
  ⟨fun q u n e => by rw [upd_ne n]; exact k q u n e, ⟨a, b, upd_same, h⟩⟩
theorem ok_draw {f : Addr} {fd : FuncData} (F : FnP K "_law_draw" "_law_draw" sDraw [] f fd) (T : LT mg) : FnOk P w K mg base CX0 1 f fd ["_law_pot_here", "_law_many"] spDraw := by
  refine F.ok scDraw (fun vs H Q E h => ?_) (fun cdv A outer s H vs Q E hr h => ?_)
  · obtain ⟨p, m, rfl, _⟩ := h
    rfl
  · obtain ⟨p, m, rfl, ⟨a, b, hp, h0⟩, hm, bm, q⟩ := h
    have ix0 : ∀ x y : Int, atI [V.int x, V.int y] 0 = some (.int x) := fun x y => rfl
    have ix1 : ∀ x y : Int, atI [V.int x, V.int y] 1 = some (.int y) := fun x y => rfl
    refine ⟨_, PSs.nox (pss_cons (ps_if (pt_cmpR op_gt (pe_ix ix_list (pv 0) pe_int (fun _ _ => rfl)) pe_int (nomark _))
        (pss_cons (ps_asg (pe_callB call_divmodW (by rfl) T.dm PyProof.Rows.boot_divmod (pa_cons (pe_ix ix_list (pv 0) pe_int (fun _ _ => rfl)) (pa_cons (pv 1) pa_nil)))
          (pg_tup (by rfl) (pgs_cons (pg_sub (pv 0) pe_int set_list) (pgs_cons (pg_name (i := 2) scDraw.nd rfl (.inl rfl)) pgs_nil))))
        (pss_one (ps_ret (pv 2)))) pss_nil)
      (pss_cons (ps_asg (pe_op op_mod (pe_callTy call_int1 rfl T.int PyProof.Rows.boot_int (pa_cons (pe_op op_add (pe_op op_mul (pe_ix ix_list (pv 0) pe_int (fun _ _ => rfl)) pe_int) pe_int) pa_nil)) pe_int) (pg_sub (pv 0) pe_int set_list))
      (pss_one (ps_ret (pe_op op_mod (pe_callTy call_int1 rfl T.int PyProof.Rows.boot_int (pa_cons (pe_op op_fdiv (pe_op op_mod (pe_callTy call_int1 rfl T.int PyProof.Rows.boot_int (pa_cons (pe_op op_mul (pe_ix ix_list (pv 0) pe_int (fun _ _ => rfl)) (pe_ix ix_list (pv 0) pe_int (fun _ _ => rfl))) pa_nil)) pe_int) pe_int) pa_nil)) (pv 1)))))), ?_⟩
    refine ⟨_, rfl, p, _, _, _, rfl, rfl, SqL.of hp, ix0 _ _, _, _, rfl, rfl, _, rfl, ?_⟩
    refine ite2 (fun c => ?_) (fun c => ?_)
    · refine ⟨_, rfl, p, _, _, _, rfl, rfl, SqL.of hp, ix0 _ _, _, rfl, _, _, rfl, ⟨hm, PyProof.noPylong_of_log2 (Nat.lt_trans (bm.log2 (by decide)) (by decide))⟩, fun t ht => ?_⟩
      have ntp : p ≠ t := ne_of_none hp ht
      refine ⟨t, _, rfl, SqT.of upd_same, rfl, _, _, rfl, _, rfl, p, _, _, _, rfl, rfl, (by rw [upd_ne ntp]; exact hp), rfl, _, _, rfl, rfl, ?_⟩
      refine ⟨_, rfl, q _ _ (Int.emod_nonneg _ (by omega)) (Int.emod_lt_of_pos _ hm) ?_⟩
      exact stp_set (o := .lst []) (Int.ediv_nonneg h0 (by omega)) fun z u n e => by rw [upd_ne (ne_of_none e ht)]; exact e
    · refine ⟨_, rfl, p, _, _, _, rfl, rfl, SqL.of hp, ix1 _ _, _, _, rfl, rfl, .inr ⟨by decide, by decide⟩, _, _, rfl, rfl, .inl ⟨_, rfl, _, _, rfl, rfl, (by show (0 : Int) < 2147483549; decide), ?_⟩⟩
      refine ⟨_, rfl, p, _, _, _, rfl, rfl, hp, rfl, ?_⟩
      have e2 : 0 ≤ (b * 46021 + 15013) % 2147483549 := Int.emod_nonneg _ (by decide)
      have e3 : (b * 46021 + 15013) % 2147483549 < 2147483549 := Int.emod_lt_of_pos _ (by decide)
      refine ⟨_, rfl, p, _, _, _, rfl, rfl, SqL.of upd_same, ix1 _ _, _, rfl, p, _, _, _, rfl, rfl, SqL.of upd_same, ix1 _ _, _, _, rfl, rfl, .inl ⟨by omega, by omega⟩, .inl ⟨_, rfl, _, _, rfl, rfl, (by show (0 : Int) < 2147483477; decide), _, _, rfl, rfl, ⟨by decide, by decide⟩, .inl ⟨_, rfl, _, rfl, _, _, rfl, rfl, hm, ?_⟩⟩⟩
      refine q _ _ (Int.emod_nonneg _ (by omega)) (Int.emod_lt_of_pos _ hm) ?_
      exact stp_set (o := .lst []) h0 fun z u n e => e
end
end La
namespace La
open PySem PySem.Spec PyProof.Rows L2 Ow Rm Ra
section
variable {P : Program} {w : World} {K : PySem.W.Frag} {mg : Str → Option Value} {base : Heap}
abbrev DDraw (P : Program) (w : World) (K : PySem.W.Frag) (mg : Str → Option Value) (base : Heap) : Prop := Dfn P w K mg base 1 "_law_draw" ["_law_pot_here", "_law_many"] spDraw

/-! ### _law_pick -/
def spPick : Sp := fun vs H Q _ => ∃ (p l : Addr) (xs : List V), vs = [.ref p, .ref l] ∧ Pot H p ∧ l ≠ p ∧ H l = some (.lst xs) ∧ 0 < xs.length ∧ xs.length ≤ 1000 ∧ ∀ (j : Nat) (x : V) (H' : Hp), xs[j]? = some x → Stp p H H' → Q x H'
theorem scPick : FnScope ["_law_pot_here", "_law_some"] ["_law_pot_here", "_law_some"] (defScope sPick) := ⟨rfl, rfl, rfl, by decide +kernel, rfl, by decide +kernel, by decide +kernel⟩
theorem bd_nat {n k : Nat} (h : n < 2 ^ k) : Bd k (n : Int) := by unfold Bd; rw [Int.natAbs_natCast]; exact h
theorem bd_small {x : Int} {k : Nat} (h0 : 0 ≤ x) (h : x < 2 ^ 60) (hk : 60 ≤ k) : Bd k x := by
  refine Bd.mono (j := 60) ?_ hk
  unfold Bd
  have : (2 : Int) ^ 60 = 1152921504606846976 := by decide
  have : (2 : Nat) ^ 60 = 1152921504606846976 := by decide
  omega
theorem lt60 {n : Nat} (h : n ≤ 1000) : (n : Int) < 2 ^ 60 := by
  have : (2 : Int) ^ 60 = 1152921504606846976 := by decide
  omega
theorem ok_pick {f : Addr} {fd : FuncData} (F : FnP K "_law_pick" "_law_pick" sPick [] f fd) (T : LT mg) (D : DDraw P w K mg base) : FnOk P w K mg base CX0 2 f fd ["_law_pot_here", "_law_some"] spPick := by
  refine F.ok scPick (fun vs H Q E h => ?_) (fun cdv A outer s H vs Q E hr h => ?_)
  · obtain ⟨p, l, xs, rfl, _⟩ := h
    rfl
  · obtain ⟨p, l, xs, rfl, hp, n, hl, h0, h1, q⟩ := h
    refine ⟨_, PSs.nox (pss_one (ps_ret (pe_ix ix_list (pv 1) (pe_use D hr rfl (pa_cons (pv 0) (pa_cons (pe_callB call_len_seq (by rfl) T.len PySem.boot_len (pa_cons (pv 1) pa_nil)) pa_nil))) (fun _ _ => rfl)))), ?_⟩
    refine ⟨_, rfl, _, rfl, _, rfl, l, _, rfl, .inl (SqL.of hl), p, _, rfl, hp, by omega, bd_small (by omega) (lt60 (by omega)) (by decide), fun r H' r0 r1 st => ?_⟩
    obtain ⟨j, rfl⟩ : ∃ j : Nat, r = (j : Int) := ⟨r.toNat, by omega⟩
    have hj : j < xs.length := by omega
    exact ⟨l, xs, _, _, rfl, rfl, SqL.of (st.keep l _ n hl), atI_nat (List.getElem?_eq_getElem hj), q j _ H' (List.getElem?_eq_getElem hj) st⟩

end
end La
namespace La
open PySem PySem.Spec PyProof.Rows L2 Ow Rm Ra
theorem stp_new {p q : Addr} {H : Hp} {o : HO} (h : Pot H p) (hq : H q = none) : Stp p H (upd H q o) := Stp.of (same_upd hq) h
theorem pot_ne {p q : Addr} {H : Hp} (h : Pot H p) (hq : H q = none) : q ≠ p := by
  obtain ⟨a, b, e, _⟩ := h
  exact (ne_of_none e hq).symm
section
variable {P : Program} {w : World} {K : PySem.W.Frag} {mg : Str → Option Value} {base : Heap}
/-! ### _law_pick of a text -/
def spPickS : Sp := fun vs H Q _ => ∃ (p : Addr) (z : Str), vs = [.ref p, .str z] ∧ Pot H p ∧ 0 < z.length ∧ z.length ≤ 1000 ∧ ∀ (c : Nat) (H' : Hp), Stp p H H' → Q (.str ⟨#[c]⟩) H'
theorem ok_pickS {f : Addr} {fd : FuncData} (F : FnP K "_law_pick" "_law_pick" sPick [] f fd) (T : LT mg) (D : DDraw P w K mg base) : FnOk P w K mg base CX0 2 f fd ["_law_pot_here", "_law_some"] spPickS := by
  refine F.ok scPick (fun vs H Q E h => ?_) (fun cdv A outer s H vs Q E hr h => ?_)
  · obtain ⟨p, z, rfl, _⟩ := h
    rfl
  · obtain ⟨p, z, rfl, hp, h0, h1, q⟩ := h
    have hz : z.length ≤ sizeLine := Nat.le_trans h1 (by decide)
    refine ⟨_, PSs.nox (pss_one (ps_ret (pe_ix ix_str (pv 1) (pe_use D hr rfl (pa_cons (pv 0) (pa_cons (pe_callB call_len_str (by rfl) T.len PySem.boot_len (pa_cons (pv 1) pa_nil)) pa_nil))) (fun _ _ => rfl)))), ?_⟩
    refine ⟨_, rfl, _, rfl, _, rfl, z, rfl, hz, p, _, rfl, hp, by omega, bd_small (by omega) (lt60 h1) (by decide), fun r H' r0 r1 st => ?_⟩
    obtain ⟨j, rfl⟩ : ∃ j : Nat, r = (j : Int) := ⟨r.toNat, by omega⟩
    have hj : j < z.cps.toList.length := by
      rw [← len_cps]
      omega
    exact ⟨z, _, z.cps.toList[j], rfl, rfl, hz, atI_nat (List.getElem?_eq_getElem hj), q _ H' st⟩
/-! ### _law_word -/
def ch (c : Nat) : Str := ⟨#[c]⟩
theorem sum_ones : ∀ ys : List Str, (∀ a ∈ ys, a.length = 1) → (ys.map (·.length)).sum = ys.length
  | [], _ => rfl
  | y :: ys, h => by
    rw [List.map_cons, List.sum_cons, sum_ones ys fun a ha => h a (List.mem_cons_of_mem _ ha), h y List.mem_cons_self, List.length_cons]
    omega
theorem stp_upd {p l : Addr} {H H' : Hp} {o : HO} (s : Stp p H H') (hl : H l = none) (n : l ≠ p) : Stp p H (upd H' l o) := by
  refine ⟨fun x u nx ex => ?_, ?_⟩
  · rw [upd_ne (ne_of_none ex hl)]
    exact s.keep x u nx ex
  · obtain ⟨a, b, e, h0⟩ := s.pot
    exact ⟨a, b, by rw [upd_ne n.symm]; exact e, h0⟩
def spWord : Sp := fun vs H Q _ => ∃ p : Addr, vs = [.ref p] ∧ Pot H p ∧ ∀ (z : Str) (H' : Hp), z.length ≤ 10 → Stp p H H' → Q (.str z) H'
abbrev nWord : List Str := ["_law_pot_here", "_law_letters", "_law_turn"]
theorem scWord : FnScope nWord ["_law_pot_here"] (defScope sWord) := ⟨rfl, rfl, rfl, by decide +kernel, rfl, by decide +kernel, by decide +kernel⟩
theorem ten (j : Nat) (x : V) (h : ([.int 0, .int 1, .int 1, .int 2, .int 4, .int 7, .int 8, .int 8, .int 9, .int 10] : List V)[j]? = some x) : ∃ m : Int, x = .int m ∧ 0 ≤ m ∧ m ≤ 10 := by
  rcases j with _ | _ | _ | _ | _ | _ | _ | _ | _ | _ | j
  all_goals first | (cases h; exact ⟨_, rfl, by decide, by decide⟩) | exact nomatch h
theorem ok_word {f : Addr} {fd : FuncData} (F : FnP K "_law_word" "_law_word" sWord [] f fd) (T : LT mg) (D : DDraw P w K mg base) (G : Dfn P w K mg base 2 "_law_pick" ["_law_pot_here", "_law_some"] spPick) :
    FnOk P w K mg base CX0 3 f fd ["_law_pot_here"] spWord := by
  refine F.ok scWord (fun vs H Q E h => ?_) (fun cdv A outer s H vs Q E hr h => ?_)
  · obtain ⟨p, rfl, _⟩ := h
    rfl
  · obtain ⟨p, rfl, hp, q⟩ := h
    have hr1 := hr.mono (by decide : 1 ≤ 2)
    refine ⟨_, PSs.nox (pss_cons (ps_set (i := 1) scWord.nd rfl (Or.inr rfl) pe_str)
      (pss_one (ps_ret (pe_bm PySem.F.plainAttrs_str PySem.F.slot_str_join PySem.F.type_str_join mt_join pe_str (pa_cons (pe_lc rfl scWord.nd
        (pi_range1 rfl T.range (pa_cons (pe_use G hr rfl (pa_cons (pv 0) (pa_cons (pe_lst (pa_cons pe_int (pa_cons pe_int (pa_cons pe_int (pa_cons pe_int (pa_cons pe_int (pa_cons pe_int (pa_cons pe_int (pa_cons pe_int (pa_cons pe_int (pa_cons pe_int pa_nil))))))))))) pa_nil))) pa_nil))
        (blkOk_by (own := [("_law_turn", 2)]) (by show blkC nWord (defScope sWord) _ _ = true; decide +kernel))
        (fun _ _ _ _ _ => pg_name (i := 2) scWord.nd rfl (.inl rfl)) (fun _ _ _ _ _ => pts_nil)
        (fun _ _ _ _ _ => pe_ix ix_str (pv 1) (pe_use D hr1 rfl (pa_cons (pv 0) (pa_cons pe_int pa_nil))) (fun _ _ => rfl))) pa_nil))))), ?_⟩
    refine ⟨rfl, _, rfl, (by show 10 ≤ sizeLine; decide), fun l hl => ?_⟩
    have s0 := fun o => stp_new (o := o) hp hl
    refine ⟨p, l, _, rfl, (s0 _).pot, pot_ne hp hl, upd_same, (by show 0 < 10; decide), (by show 10 ≤ 1000; decide), fun j x H1 hx s1 => ?_⟩
    obtain ⟨m, rfl, m0, m1⟩ := ten j x hx
    have st1 := (s0 _).trans s1
    refine ⟨m, rfl, Int.le_trans (by decide) m0, Int.lt_of_le_of_lt m1 (by decide), fun D0 hD => ?_⟩
    have nD : D0 ≠ p := pot_ne st1.pot hD
    refine lc_range (lo := 0) (n := m.toNat) (fun i H' => Stp p H1 H' ∧ ∃ cs : List Nat, cs.length = i ∧ H' D0 = some (.lst ((cs.map ch).map V.str))) ⟨stp_new st1.pot hD, [], rfl, upd_same⟩ ?_ ?_
    · rintro i H2 hi ⟨s2, cs, hc, hD2⟩
      refine ⟨rfl, tYes_at ?_⟩
      refine ⟨_, rfl, _, rfl, p, 26, rfl, s2.pot, (by decide), bd_small (by decide) (by decide) (by decide), fun r H3 r0 r1 s3 => ?_⟩
      obtain ⟨k, rfl⟩ : ∃ k : Nat, r = (k : Int) := ⟨r.toNat, by omega⟩
      have hk : k < abc.cps.toList.length := by
        have e : abc.cps.toList.length = 26 := by decide +kernel
        omega
      refine ⟨abc, _, abc.cps.toList[k], rfl, rfl, by decide +kernel, atI_nat (List.getElem?_eq_getElem hk), ?_⟩
      refine ⟨_, s3.keep D0 _ nD hD2, ?_, stp_upd (s2.trans s3) hD nD, cs ++ [abc.cps.toList[k]], ?_, ?_⟩
      · rw [List.length_map, List.length_map]
        exact Nat.lt_of_le_of_lt (show cs.length ≤ 1000 by omega) (by decide)
      · rw [List.length_append, hc]
        rfl
      · rw [upd_same, List.map_append, List.map_append]
        rfl
    · rintro H2 ⟨s2, cs, hc, hD2⟩
      have h1 : ∀ a ∈ cs.map ch, a.length = 1 := fun a ha => by
        obtain ⟨c, _, rfl⟩ := List.mem_map.mp ha
        rfl
      have hl10 : (cs.map ch).length ≤ 10 := by
        rw [List.length_map, hc]
        omega
      refine ⟨_, D0, cs.map ch, rfl, rfl, .inl (SqL.of hD2), ?_, ?_⟩
      · rw [sum_ones _ h1, show (Str.ofString "").length = 0 from rfl, Nat.mul_zero]
        omega
      · refine q _ _ ?_ (st1.trans s2)
        rw [show ((Txt.join "" (cs.map ch)) : Str).length = (cs.map ch).length from PySem.W.KT.join_ones _ h1]
        exact hl10
end
end La
namespace La
open PySem PySem.Spec PyProof.Rows L2 Ow Rm Ra
section
variable {P : Program} {w : World} {K : PySem.W.Frag} {mg : Str → Option Value} {base : Heap}
def spBent : Sp := fun vs H Q _ => ∃ (p : Addr) (z : Str), vs = [.ref p, .str z] ∧ Pot H p ∧ z.length ≤ 10 ∧ ∀ (y : Str) (H' : Hp), y.length ≤ 30 → Stp p H H' → Q (.str y) H'
theorem scBent : FnScope ["_law_pot_here", "_law_word_here", "_law_signs", "_law_way", "_law_at", "_law_sign"] ["_law_pot_here", "_law_word_here"] (defScope sBent) := ⟨rfl, rfl, rfl, by decide +kernel, rfl, by decide +kernel, by decide +kernel⟩
theorem ok_bent {f : Addr} {fd : FuncData} (F : FnP K "_law_bent" "_law_bent" sBent [] f fd) (T : LT mg) (D : DDraw P w K mg base) (G : Dfn P w K mg base 2 "_law_pick" ["_law_pot_here", "_law_some"] spPickS) :
    FnOk P w K mg base CX0 3 f fd ["_law_pot_here", "_law_word_here"] spBent := by
  refine F.ok scBent (fun vs H Q E h => ?_) (fun cdv A outer s H vs Q E hr h => ?_)
  · obtain ⟨p, z, rfl, _⟩ := h
    rfl
  · obtain ⟨p, z, rfl, hp, hz, q⟩ := h
    have hr1 := hr.mono (by decide : 1 ≤ 2)
    have hzl : z.length ≤ sizeLine := Nat.le_trans hz (by decide)
    refine ⟨_, PSs.nox (pss_cons (ps_set (i := 2) scBent.nd rfl (Or.inl rfl) pe_str)
      (pss_cons (ps_par3 (i := 3) (j := 4) (l := 5) rfl scBent.nd rfl rfl rfl (by decide) (by decide) (by decide) rfl rfl rfl
        (pa_cons (pe_use D hr1 rfl (pa_cons (pv 0) (pa_cons pe_int pa_nil)))
        (pa_cons (pe_use D hr1 rfl (pa_cons (pv 0) (pa_cons (pe_op op_add (pe_callB call_len_str (by rfl) T.len PySem.boot_len (pa_cons (pv 1) pa_nil)) pe_int) pa_nil)))
        (pa_cons (pe_use G hr rfl (pa_cons (pv 0) (pa_cons (pv 2) pa_nil))) pa_nil))) rfl)
      (pss_cons (ps_if (pt_cmpR op_lt (pv 3) pe_int (nomark _)) (pss_one (ps_ret (pv 1))) pss_nil)
      (pss_one (ps_ret (pe_op op_add_str (pe_op op_add_str (pe_slice sl_str (pv 1) po_none (po_some (pv 4))) (pv 5)) (pe_slice sl_str (pv 1) (po_some (pe_op op_sub (pe_op op_add (pv 4) (pv 3)) pe_int)) po_none))))))), ?_⟩
    refine ⟨_, rfl, p, 4, rfl, hp, (by decide), bd_small (by decide) (by decide) (by decide), fun wy H1 w0 w1 s1 => ?_⟩
    refine ⟨_, rfl, _, rfl, z, rfl, hzl, _, _, rfl, rfl, p, _, rfl, s1.pot, by omega, bd_small (by omega) (by have := lt60 (n := z.length + 1) (by omega); omega) (by decide), fun at_ H2 a0 a1 s2 => ?_⟩
    refine ⟨_, rfl, _, rfl, p, _, rfl, s2.pot, by decide +kernel, by decide +kernel, fun c H3 s3 => ⟨_, _, _, rfl, ?_⟩⟩
    have st := (s1.trans s2).trans s3
    refine ⟨_, rfl, _, _, rfl, rfl, _, rfl, ?_⟩
    refine ite2 (fun _ => ?_) (fun _ => ?_)
    · exact ⟨_, rfl, q z _ (by omega) st⟩
    · have l1 := cutS_length z none (some at_)
      have l2 := cutS_length z (some (at_ + wy - 2)) none
      have b1 : (cutS z none (some at_)).length + (⟨#[c]⟩ : Str).length ≤ sizeLine := Nat.le_trans (show _ ≤ 1000 by rw [show (⟨#[c]⟩ : Str).length = 1 from rfl]; omega) (by decide)
      have e1 : (cutS z none (some at_) ++ (⟨#[c]⟩ : Str)).length = (cutS z none (some at_)).length + 1 := by rw [strLen_append]; rfl
      refine ⟨_, rfl, _, rfl, at_, rfl, z, rfl, hzl, _, rfl, _, _, rfl, rfl, b1, _, rfl, _, rfl, _, rfl, _, _, rfl, rfl, _, _, rfl, rfl, _, rfl, z, rfl, hzl, _, _, rfl, rfl, ?_, ?_⟩
      · exact Nat.le_trans (show _ ≤ 1000 by omega) (by decide)
      · refine q _ _ ?_ st
        rw [strLen_append]
        omega
end
end La
namespace Ra
open PySem PySem.Spec PyProof.Rows L2 Ow Rm
theorem tyof_same {K : PySem.W.Frag} {H H' : Hp} {x : V} {t : Value} (s : Same H H') (h : TyOf K H x t) : TyOf K H' x t := by
  cases h with
  | non => exact .non
  | bl b => exact .bl b
  | int i => exact .int i
  | str z => exact .str z
  | flt z => exact .flt z
  | lst e => exact .lst (s _ _ e)
  | frz e => exact .frz (s _ _ e)
  | tup e => exact .tup (s _ _ e)
  | dK e => exact .dK (s _ _ e)
  | dT e => exact .dT (s _ _ e)
  | ins e a b c d g => exact .ins (s _ _ e) a b c d g
theorem ty_same {K : PySem.W.Frag} {H H' : Hp} {x : V} {t : Value} (s : Same H H') (h : TyX K H x t) : TyX K H' x t := by
  cases h with
  | base b => exact .base (tyof_same s b)
  | byt b => exact .byt b
  | set e => exact .set (s _ _ e)
  | kList e c => exact .kList e c
  | kTuple e c => exact .kTuple e c
  | kDict e c => exact .kDict e c
  | fTuple e => exact .fTuple (s _ _ e)
  | fDict e => exact .fDict (s _ _ e)
theorem Kd.same {K : PySem.W.Frag} {C : Addr} {H H' : Hp} {x : V} (s : Same H H') : ∀ {k : Knd}, Kd K C H x k → Kd K C H' x k
  | .int _, h => h
  | .txt _, h => h
  | .rat, h => ty_same s h
  | .odd, h => by
    obtain ⟨t, a, b, h1, h2⟩ := h
    exact ⟨t, a, b, ty_same s h1, h2⟩
/-- f(k = v, ..) -/
def tCallK (m : Nat) (sp : Sp) (gV : List V → List V → List V) (E : XK) (tk : TA) : TE := fun σ H Q => tk σ H fun zs H2 => zs.length = m ∧ sp (gV [] zs) H2 Q E
section
variable {X : Cx} {CX : CXT} {k : Nat} {f : Addr} {fd : FuncData} {ps ks : List Str} {sp : Sp} {E : XK} {x : Str} {p pos : Pos} {kws : List Keyword} {tk : TA} {g : List Value → List Value → List Value} {gV : List V → List V → List V}
theorem pe_fnK0 (F : FnOk X.prog X.w X.K X.mg X.base CX k f fd ps sp) (hr : Room k X.A) (hg : Gl X x) (hm : X.mg x = some (.ref f)) (hk : PySem.W.keepIn X.K (.ref f) = true) (hb : KBn X.K fd ps 0 ks g gV) (hx : Passes CX X E) (hkw : PK X kws tk)
    (hall : (backToKw pos (keywordEach kws X.env)).all (·.1.isSome) = true := by rfl) (hks : (backToKw pos (keywordEach kws X.env)).filterMap (·.1) = ks := by rfl) (hdb : (x == ("__debug__" : Str)) = false := by decide)
    (hpl : ((backTo pos (starEach [] X.env)).any (·.1) || (backToKw pos (keywordEach kws X.env)).any (·.1.isNone)) = false := by rfl) :
    PE X (.Call (.Name x p) [] kws pos) (tCallK ks.length sp gV E tk) := by
  refine ⟨fun pins s σ H Q I h => ?_⟩
  refine wpAny_Call_Name_kw (ld_glob I hg hm ?_ hdb)
  refine PySem.W.callWith_KW0 (h₀ := X.base) (first := []) I.ok.mod.kin hk hall (thn (hkw.run pos pins s σ H _ I h) fun ws s2 got => ?_) hpl
  obtain ⟨zs, H2, I2, rz, l2, q2⟩ := got
  refine ⟨I2.kIn, ?_⟩
  rw [hks]
  exact run_fnN (us := []) (vs := []) F hr hb hx I2 .nil rz rfl l2 q2
end
/-- a def of one argument, called by position and by name -/
structure Dfv (P : Program) (w : World) (K : PySem.W.Frag) (mg : Str → Option Value) (base : Heap) (k : Nat) (x : Str) (sp : Sp) : Prop where
  ex : ∃ f fd, FnOk P w K mg base CX0 k f fd ["value"] sp ∧ mg x = some (.ref f) ∧ PySem.W.keepIn K (.ref f) = true ∧ Binds K fd ["value"] [] ∧ KBn K fd ["value"] 0 ["value"] (fun us ws => us ++ ws) (fun vs zs => vs ++ zs)
section
variable {X : Cx} {k : Nat} {x : Str} {sp : Sp} {p pos : Pos} {e : Expr} {kws : List Keyword} {t : TA}
theorem pe_v (D : Dfv X.prog X.w X.K X.mg X.base k x sp) (hr : Room k X.A) (hg : Gl X x) (ha : PA X [e] t)
    (hdb : (x == ("__debug__" : Str)) = false := by decide) (he : starEach [e] X.env = (false, eval e X.env) :: starEach [] X.env := by rfl) (hpl : (backTo pos (starEach [] X.env)).any (·.1) = false := by rfl) :
    PE X (.Call (.Name x p) [e] [] pos) (tCall sp [] E0 t) := by
  obtain ⟨f, fd, F, hm, hk, hb, _⟩ := D.ex
  exact pe_call F hr hg hm hk hb .nil pass0 ha hdb he hpl
theorem pe_vk (D : Dfv X.prog X.w X.K X.mg X.base k x sp) (hr : Room k X.A) (hg : Gl X x) (ha : PK X kws t)
    (hall : (backToKw pos (keywordEach kws X.env)).all (·.1.isSome) = true := by rfl) (hks : (backToKw pos (keywordEach kws X.env)).filterMap (·.1) = (["value"] : List Str) := by rfl) (hdb : (x == ("__debug__" : Str)) = false := by decide)
    (hpl : ((backTo pos (starEach [] X.env)).any (·.1) || (backToKw pos (keywordEach kws X.env)).any (·.1.isNone)) = false := by rfl) :
    PE X (.Call (.Name x p) [] kws pos) (tCallK 1 sp (fun vs zs => vs ++ zs) E0 t) := by
  obtain ⟨f, fd, F, hm, hk, _, kb⟩ := D.ex
  exact pe_fnK0 F hr hg hm hk kb pass0 ha hall hks hdb hpl
end
end Ra
namespace La
open PySem PySem.Spec PyProof.Rows L2 Ow Rm Ra
section
variable {P : Program} {w : World} {K : PySem.W.Frag} {mg : Str → Option Value} {base : Heap}
def spNm : Sp := fun vs H Q _ => ∃ z : Str, vs = [.str z] ∧ z.length ≤ 30 ∧ ∀ H', Same H H' → Q (.bl (nameOk z)) H'
abbrev nIsN : List Str := ["_law_word_here", "_law_small", "_law_sign"]
theorem scIsN : FnScope nIsN ["_law_word_here"] (defScope sIsName) := ⟨rfl, rfl, rfl, by decide +kernel, rfl, by decide +kernel, by decide +kernel⟩
theorem ok_isn {f : Addr} {fd : FuncData} (F : FnP K "_law_is_name" "_law_is_name" sIsName [] f fd) (T : LT mg) : FnOk P w K mg base CX0 1 f fd ["_law_word_here"] spNm := by
  refine F.ok scIsN (fun vs H Q E h => ?_) (fun cdv A outer s H vs Q E hr h => ?_)
  · obtain ⟨z, rfl, _⟩ := h
    rfl
  · obtain ⟨z, rfl, hz, q⟩ := h
    have hzl : z.length ≤ sizeLine := Nat.le_trans hz (by decide)
    refine ⟨_, PSs.nox (pss_cons (ps_setLc (i := 1) rfl scIsN.nd rfl rfl (by rfl) (pi_str (pv 0)) (blkOk_by (own := [("_law_sign", 2)]) (by show blkC nIsN (defScope sIsName) _ _ = true; decide +kernel))
        (fun _ _ _ _ _ => pg_name (i := 2) scIsN.nd rfl (.inl rfl)) (fun _ _ _ _ _ => pts_one (pt_cmpR op_in_sign (pv 2) pe_str (by rfl))) (fun _ _ _ _ _ => pv 2))
      (pss_one (ps_ret (pe_and (pe_chain op_le op_le pe_int (pe_callB call_len_str (by rfl) T.len PySem.boot_len (pa_cons (pv 0) pa_nil)) pe_int)
        (pe_one (pe_cmpR op_eq (pe_callB call_len_seq (by rfl) T.len PySem.boot_len (pa_cons (pv 1) pa_nil)) (pe_callB call_len_str (by rfl) T.len PySem.boot_len (pa_cons (pv 0) pa_nil)) (nomark _))))))), ?_⟩
    refine ⟨_, rfl, z, rfl, fun D0 hD => ?_⟩
    have hcs : z.cps.size ≤ 30 := by
      have e := len_cps z
      rw [Array.length_toList] at e
      omega
    refine lc_it walk_str (fun i H' => Same H H' ∧ H' D0 = some (.lst (((z.cps.toList.take i).filter fun c => decide (c ∈ abc.cps.toList)).map fun c => V.str ⟨#[c]⟩))) ⟨same_upd hD, upd_same⟩ (fun _ _ _ _ => trivial) ?_ ?_
    · rintro i v H5 H6 hi ⟨s5, hD5⟩ ⟨rfl, c, hc, rfl⟩
      have ec : z.cps.toList[i]? = some c := by rw [Array.getElem?_toList]; exact hc
      have ft : (z.cps.toList.take (i + 1)).filter (fun c => decide (c ∈ abc.cps.toList)) = (z.cps.toList.take i).filter (fun c => decide (c ∈ abc.cps.toList)) ++ [c].filter (fun c => decide (c ∈ abc.cps.toList)) := by
        rw [List.take_succ, ec, List.filter_append]
        rfl
      refine ⟨rfl, _, rfl, c, abc, rfl, rfl, _, rfl, ?_⟩
      by_cases hm : c ∈ abc.cps.toList
      · have fc : [c].filter (fun c => decide (c ∈ abc.cps.toList)) = [c] := by rw [List.filter_cons, if_pos (decide_eq_true hm)]; rfl
        rw [decide_eq_true hm]
        refine Eq.mpr (if_pos rfl) ?_
        refine ⟨_, rfl, _, hD5, ?_, fun b o e => ?_, ?_⟩
        · rw [List.length_map]
          refine Nat.lt_of_le_of_lt (show _ ≤ 1000 from ?_) (by decide)
          refine Nat.le_trans (List.length_filter_le _ _) ?_
          rw [List.length_take, Array.length_toList]
          omega
        · rw [upd_ne (ne_of_none e hD)]
          exact s5 _ _ e
        · rw [upd_same, ft, fc, List.map_append]
          rfl
      · have fc : [c].filter (fun c => decide (c ∈ abc.cps.toList)) = [] := by rw [List.filter_cons, if_neg (by rw [decide_eq_true_eq]; exact hm)]; rfl
        rw [decide_eq_false hm]
        refine Eq.mpr (if_neg Bool.false_ne_true) ?_
        refine ⟨s5, ?_⟩
        rw [hD5, ft, fc, List.append_nil]
    · rintro H5 ⟨s5, hD5⟩
      rw [List.take_of_length_le (by rw [Array.length_toList]; exact Nat.le_refl _)] at hD5
      have no : nameOk z = false → Q (.bl false) H5 := fun e => by
        have y := q H5 s5
        rw [e] at y
        exact y
      refine ⟨_, rfl, z, rfl, hzl, _, _, rfl, rfl, _, rfl, ?_⟩
      by_cases c1 : (1 : Int) ≤ (z.length : Int)
      · rw [decide_eq_true c1]
        refine iteT ?_
        refine ⟨_, _, rfl, rfl, _, rfl, ?_⟩
        by_cases c2 : (z.length : Int) ≤ 8
        · rw [decide_eq_true c2]
          refine iteT ?_
          refine ⟨_, rfl, D0, _, rfl, .inl (SqL.of hD5), _, rfl, z, rfl, hzl, rfl, ?_⟩
          rw [List.length_map]
          have e : decide (V.int ((z.cps.toList.filter fun c => decide (c ∈ abc.cps.toList)).length : Int) = V.int (z.length : Int)) = nameOk z := by
            unfold nameOk
            rw [decide_eq_true (show 1 ≤ z.length by omega), decide_eq_true (show z.length ≤ 8 by omega), Bool.true_and, Bool.true_and]
            by_cases al : z.cps.toList.all (fun c => decide (c ∈ abc.cps.toList)) = true
            · rw [al]
              have f := List.filter_eq_self.mpr (List.all_eq_true.mp al)
              rw [f, ← len_cps]
              exact decide_eq_true rfl
            · rw [show z.cps.toList.all (fun c => decide (c ∈ abc.cps.toList)) = false from Bool.eq_false_iff.mpr al]
              refine decide_eq_false fun y => al ?_
              have y2 := V.int.inj y
              rw [len_cps] at y2
              exact List.all_eq_true.mpr (List.length_filter_eq_length_iff.mp (by omega))
          rw [e]
          exact q _ s5
        · rw [decide_eq_false c2]
          refine iteF ?_
          refine no ?_
          unfold nameOk
          rw [decide_eq_false (show ¬ z.length ≤ 8 by omega), Bool.false_and, Bool.and_false]
      · rw [decide_eq_false c1]
        refine iteF ?_
        refine ⟨_, rfl, ?_⟩
        refine iteF ?_
        refine no ?_
        unfold nameOk
        rw [decide_eq_false (show ¬ 1 ≤ z.length by omega), Bool.false_and]
end
end La
namespace La
open PySem PySem.Spec PyProof.Rows L2 Ow Rm Ra
section
variable {P : Program} {w : World} {K : PySem.W.Frag} {mg : Str → Option Value} {base : Heap}
def tell (k : Knd) : List Bool := [isI k, isC k, isN k, isS k]
def spTold (K : PySem.W.Frag) (C : Addr) : Sp := fun vs H Q _ => ∃ x k, vs = [x] ∧ Kd K C H x k ∧ ∀ l H', H' l = some (.lst ((tell k ++ tell k).map V.bl)) → Same H H' → H l = none → Q (.ref l) H'
/-- the four asked, as others call them -/
structure Four (P : Program) (w : World) (K : PySem.W.Frag) (mg : Str → Option Value) (base : Heap) (C : Addr) : Prop where
  i : Dfv P w K mg base 1 "is_integer" (spInt K)
  c : Dfv P w K mg base 2 "is_count" (spKnd K C isC)
  n : Dfv P w K mg base 2 "is_number" (spKnd K C isN)
  s : Dfv P w K mg base 1 "is_name" (spKnd K C isS)
theorem scTold : FnScope ["_law_thing", "_law_found"] ["_law_thing"] (defScope sTold) := ⟨rfl, rfl, rfl, by decide +kernel, rfl, by decide +kernel, by decide +kernel⟩
theorem ok_told {f C : Addr} {fd : FuncData} (F : FnP K "_law_told" "_law_told" sTold [] f fd) (T : KT K mg C) (D : Four P w K mg base C) : FnOk P w K mg base CX0 3 f fd ["_law_thing"] (spTold K C) := by
  refine F.ok scTold (fun vs H Q E h => ?_) (fun cdv A outer s H vs Q E hr h => ?_)
  · obtain ⟨x, k, rfl, _⟩ := h
    rfl
  · obtain ⟨x, k, rfl, hk, q⟩ := h
    have hr1 := hr.mono (by decide : 1 ≤ 2)
    refine ⟨_, PSs.nox (pss_cons (ps_set (i := 1) scTold.nd rfl (Or.inl rfl) (pe_lst (pa_cons (pe_v D.i hr1 rfl (pa_cons (pv 0) pa_nil)) (pa_cons (pe_v D.c hr rfl (pa_cons (pv 0) pa_nil)) (pa_cons (pe_v D.n hr rfl (pa_cons (pv 0) pa_nil)) (pa_cons (pe_v D.s hr1 rfl (pa_cons (pv 0) pa_nil)) pa_nil))))))
      (pss_one (ps_ret (pe_op op_cat (pv 1) (pe_lst (pa_cons (pe_vk D.i hr1 rfl (pk_cons (pv 0) pk_nil)) (pa_cons (pe_vk D.c hr rfl (pk_cons (pv 0) pk_nil)) (pa_cons (pe_vk D.n hr rfl (pk_cons (pv 0) pk_nil)) (pa_cons (pe_vk D.s hr1 rfl (pk_cons (pv 0) pk_nil)) pa_nil))))))))), ?_⟩
    obtain ⟨t, a, b, h1, h2, h3, h4⟩ := kd_int T hk
    refine ⟨_, rfl, x, t, a, b, rfl, h1, h2, h3, ?_⟩
    rw [h4]
    refine ⟨_, rfl, x, k, rfl, hk, fun H1 s1 => ⟨_, rfl, x, k, rfl, hk.same s1, fun H2 s2 => ⟨_, rfl, x, k, rfl, (hk.same s1).same s2, fun H3 s3 => ⟨by show 4 ≤ sizeLine; decide, fun l hl => ?_⟩⟩⟩⟩
    have s4 : Same H (upd H3 l (.lst [.bl (isI k), .bl (isC k), .bl (isN k), .bl (isS k)])) := ((s1.trans s2).trans s3).trans (same_upd hl)
    have hk4 := hk.same s4
    obtain ⟨t5, a5, b5, h15, h25, h35, h45⟩ := kd_int T hk4
    refine ⟨_, rfl, _, rfl, rfl, x, t5, a5, b5, rfl, h15, h25, h35, ?_⟩
    rw [h45]
    refine ⟨_, rfl, rfl, x, k, rfl, hk4, fun H5 s5 => ⟨_, rfl, rfl, x, k, rfl, hk4.same s5, fun H6 s6 => ⟨_, rfl, rfl, x, k, rfl, (hk4.same s5).same s6, fun H7 s7 => ⟨by show 4 ≤ sizeLine; decide, fun m hm => ?_⟩⟩⟩⟩
    have s47 := (s5.trans s6).trans s7
    have hl7 : H7 l = some (.lst [.bl (isI k), .bl (isC k), .bl (isN k), .bl (isS k)]) := s47 _ _ upd_same
    refine ⟨l, m, _, _, rfl, rfl, (same_upd hm) _ _ hl7, upd_same, by show 4 + 4 ≤ sizeLine; decide, fun r hr' => ?_⟩
    have s7m : Same H (upd H7 m (.lst [.bl (isI k), .bl (isC k), .bl (isN k), .bl (isS k)])) := s4.trans (s47.trans (same_upd hm))
    have s8 : Same H (upd (upd H7 m (.lst [.bl (isI k), .bl (isC k), .bl (isN k), .bl (isS k)])) r (.lst ([.bl (isI k), .bl (isC k), .bl (isN k), .bl (isS k)] ++ [.bl (isI k), .bl (isC k), .bl (isN k), .bl (isS k)]))) :=
      s7m.trans (same_upd hr')
    refine q r _ upd_same s8 ?_
    cases e : H r with
    | none => rfl
    | some o =>
      have z := s7m _ _ e
      rw [hr'] at z
      exact nomatch z
end
end La
namespace La
open PySem PySem.Spec PyProof.Rows L2 Ow Rm Ra
/-- a def that shows an instance -/
structure ShX (P : Program) (w : World) (K : PySem.W.Frag) (mg : Str → Option Value) (base : Heap) (C : Addr) (nm : Str) (g : Int → Int → Str) : Prop where
  ex : ∃ f fd, OpOf K C nm f ∧ FnOk P w K mg base CX0 1 f fd ["self"] (spText g C) ∧ Binds K fd ["self"] []
theorem shown_str {X : Cx} {C : Addr} {g : Int → Int → Str} (O : ShX X.prog X.w X.K X.mg X.base C "__str__" g) (hr : Room 3 X.A) : CallR X (.type "str") (rShow C (spText g C) E0) := by
  obtain ⟨f, fd, o, F, hb⟩ := O.ex
  exact call_str_own o F hr hb pass0
/-! ### texts that are no names -/
theorem abc_low : ∀ c ∈ abc.cps.toList, 97 ≤ c := by decide +kernel
theorem no_name {z : Str} {c : Nat} (h : c ∈ z.cps.toList) (l : c < 97) : nameOk z = false := by
  cases e : nameOk z with
  | false => rfl
  | true =>
    unfold nameOk at e
    simp only [Bool.and_eq_true] at e
    have y := of_decide_eq_true (List.all_eq_true.mp e.2.2 c h)
    have := abc_low c y
    omega
theorem it_signs (n : Int) : (it n).cps.toList = (toString n).toList.map fun ch => ch.val.toNat := by
  unfold it
  rw [signs_ofString]
  rfl
theorem it_low (n : Int) : ∀ c ∈ (it n).cps.toList, c < 97 := by
  intro c hc
  rw [it_signs] at hc
  obtain ⟨ch, h1, rfl⟩ := List.mem_map.mp hc
  rcases int_sign n ch h1 with h | h
  · have := (digit_range h).2
    exact Nat.lt_of_le_of_lt this (by decide)
  · rw [h]
    decide
theorem it_name (n : Int) : nameOk (it n) = false := by
  cases e : (it n).cps.toList with
  | nil =>
    unfold nameOk
    rw [decide_eq_false (by rw [len_cps, e]; exact Nat.not_succ_le_zero 0), Bool.false_and]
  | cons c r =>
    have hc : c ∈ (it n).cps.toList := by rw [e]; exact List.mem_cons_self
    exact no_name hc (it_low n c hc)
theorem txt_name (n d : Int) : nameOk (txt n d) = false := by
  unfold txt
  split
  · exact it_name n
  · refine no_name (c := 47) ?_ (by decide)
    rw [Str.cps_append, Array.toList_append, Str.cps_append, Array.toList_append]
    exact List.mem_append_left _ (List.mem_append_right _ (by decide +kernel))
/-! ### lists of truths, shown -/
def bdt (bs : List Bool) : PyData := .list (bs.map PyData.bool)
theorem bl_show : ∀ bs : List Bool, PyData.showableAll (bs.map PyData.bool) = true
  | [] => rfl
  | b :: bs => by
    rw [List.map_cons]
    simp only [PyData.showableAll, PyData.showable, bl_show bs, Bool.and_self]
theorem bl_dict : ∀ bs : List Bool, PyData.hasDictAll (bs.map PyData.bool) = false
  | [] => rfl
  | b :: bs => by
    rw [List.map_cons]
    simp only [PyData.hasDictAll, PyData.hasDict, bl_dict bs, Bool.or_self]
theorem bl_depth : ∀ bs : List Bool, PyData.depthAll (bs.map PyData.bool) ≤ 1
  | [] => by simp [PyData.depthAll]
  | b :: bs => by
    rw [List.map_cons]
    have := bl_depth bs
    simp only [PyData.depthAll, PyData.depth]
    omega
theorem bl_len : ∀ bs : List Bool, ((PyData.shownAll (bs.map PyData.bool)).map fun z => z.length + 2).sum ≤ 10 * bs.length
  | [] => by simp [PyData.shownAll]
  | b :: bs => by
    have h := bl_len bs
    have hb : (PyData.bool b).shown.length ≤ 5 := by cases b <;> decide +kernel
    rw [List.map_cons]
    simp only [PyData.shownAll, List.map_cons, List.sum_cons, List.length_cons]
    omega
theorem bl_dp {K : PySem.W.Frag} {H : Hp} : ∀ bs : List Bool, DpAll K H (bs.map V.bl) (bs.map PyData.bool)
  | [] => .nil
  | b :: bs => .cons (.bl b) (bl_dp bs)
theorem sum_two : ∀ ts : List Str, (ts.map fun z => z.length + 2).sum = (ts.map fun z => z.length).sum + 2 * ts.length
  | [] => rfl
  | t :: ts => by
    rw [List.map_cons, List.sum_cons, sum_two ts, List.map_cons, List.sum_cons, List.length_cons]
    omega
structure Shb (K : PySem.W.Frag) (H : Hp) (a : Addr) (bs : List Bool) : Prop where
  dp : Dp K H (.ref a) (bdt bs)
  sh : (bdt bs).showable = true
  di : (bdt bs).hasDict = false
  de : (bdt bs).depth ≤ 20
  le : (bdt bs).shown.length ≤ sizeLine
theorem shb {K : PySem.W.Frag} {H : Hp} {a : Addr} {bs : List Bool} (h : H a = some (.lst (bs.map V.bl))) (l : bs.length ≤ 50) : Shb K H a bs := by
  refine ⟨.lst (SqL.of h) (bl_dp bs), bl_show bs, bl_dict bs, ?_, ?_⟩
  · have := bl_depth bs
    show PyData.depth (.list (bs.map PyData.bool)) ≤ 20
    simp only [PyData.depth]
    omega
  · show (PyData.shown (.list (bs.map PyData.bool))).length ≤ sizeLine
    simp only [PyData.shown]
    refine Nat.le_trans (listText_len_le _) (Nat.le_trans (show _ ≤ 1000 from ?_) (by decide))
    have e := bl_len bs
    rw [sum_two] at e
    omega
section
variable {P : Program} {w : World} {K : PySem.W.Frag} {mg : Str → Option Value} {base : Heap}
theorem txt_len {n d : Int} (hn : Bd 1900 n) (hd : Bd 1900 d) : (txt n d).length ≤ 3803 := by
  have h1 := it_len hn
  have h2 := it_len hd
  unfold txt
  split
  · omega
  · rw [strLen_append, strLen_append, len1]; omega
/-- builtin classes beside the class at C -/
structure KO (K : PySem.W.Frag) (C : Addr) : Prop where
  l : PySem.W.kitOne K (.type "list") (.ref C) = some false
  t : PySem.W.kitOne K (.type "tuple") (.ref C) = some false
  d : PySem.W.kitOne K (.type "dict") (.ref C) = some false
  n : PySem.W.kitOne K (.type "NoneType") (.ref C) = some false
  b : PySem.W.kitOne K (.type "bool") (.ref C) = some false
theorem odd_list {K : PySem.W.Frag} {C : Addr} {H : Hp} {a : Addr} {xs : List V} (W : KO K C) (h : H a = some (.lst xs)) : Kd K C H (.ref a) .odd :=
  ⟨_, false, false, .base (.lst h), kit_ty (by decide +kernel), kit_ty (by decide +kernel), rfl, W.l, kit_ty (by decide +kernel)⟩
theorem tell_txt {z : Str} (h : nameOk z = false) : tell (.txt z) = [false, false, false, false] := by
  show [false, false, false, nameOk z] = _
  rw [h]
theorem tell_it (n : Int) : tell (.txt (it n)) = [false, false, false, false] := tell_txt (it_name n)
/-! ### _law_integer_right -/
theorem e29 : (10 : Int) ^ (29 : Int).toNat = 100000000000000000000000000000 := by decide
theorem e20 : (10 : Int) ^ (20 : Int).toNat = 100000000000000000000 := by decide
theorem e12 : (10 : Int) ^ (12 : Int).toNat = 1000000000000 := by decide
theorem e5 : (10 : Int) ^ (5 : Int).toNat = 100000 := by decide
theorem seven (j : Nat) (x : V) (h : ([.int 1, .int 10, .int 100, .int (10 ^ (5 : Int).toNat), .int (10 ^ (12 : Int).toNat), .int (10 ^ (20 : Int).toNat), .int (10 ^ (29 : Int).toNat)] : List V)[j]? = some x) :
    ∃ m : Int, x = .int m ∧ 1 ≤ m ∧ m ≤ 100000000000000000000000000000 := by
  rw [e29, e20, e12, e5] at h
  rcases j with _ | _ | _ | _ | _ | _ | _ | j
  all_goals first | (cases h; exact ⟨_, rfl, by decide, by decide⟩) | exact nomatch h
theorem three (m : Int) (m0 : 1 ≤ m) (m1 : m ≤ 100000000000000000000000000000) (j : Nat) (x : V) (h : ([.int 0, .int 0, .int m] : List V)[j]? = some x) : ∃ n : Int, x = .int n ∧ 0 ≤ n ∧ n ≤ 100000000000000000000000000000 := by
  rcases j with _ | _ | _ | j
  · cases h; exact ⟨_, rfl, by decide, by decide⟩
  · cases h; exact ⟨_, rfl, by decide, by decide⟩
  · cases h; exact ⟨_, rfl, by omega, m1⟩
  · exact nomatch h
theorem bd_abs29 {x : Int} (h0 : -100000000000000000000000000001 ≤ x) (h : x ≤ 100000000000000000000000000001) : Bd 300 x := by
  refine Bd.mono (j := 100) ?_ (by decide)
  unfold Bd
  have : (2 : Nat) ^ 100 = 1267650600228229401496703205376 := by decide
  omega
theorem bd29 {x : Int} (h0 : 0 ≤ x) (h : x ≤ 100000000000000000000000000001) : Bd 8000 x := (bd_abs29 (by omega) h).mono (by decide)
def spIR : Sp := fun vs H Q _ => ∃ p : Addr, vs = [.ref p] ∧ Pot H p ∧ ∀ H', Stp p H H' → Q (.bl true) H'
abbrev nIR : List Str := ["_law_pot_here", "_law_size", "_law_n", "_law_thing", "_law_due", "_law_ratio_now"]
theorem scIR : FnScope nIR ["_law_pot_here"] (defScope sIntR) := ⟨rfl, rfl, rfl, by decide +kernel, rfl, by decide +kernel, by decide +kernel⟩
/-- what the loop goes over: a thing and what is due -/
def Due (K : PySem.W.Frag) (C : Addr) (H : Hp) (v : V) : Prop := ∃ (t dl : Addr) (x : V) (k : Knd), v = .ref t ∧ H t = some (.tup [x, .ref dl]) ∧ H dl = some (.lst ((tell k).map V.bl)) ∧ Kd K C H x k
theorem Due.same {C : Addr} {H H' : Hp} {v : V} (h : Due K C H v) (s : Same H H') : Due K C H' v := by
  obtain ⟨t, dl, x, k, e, h1, h2, h3⟩ := h
  exact ⟨t, dl, x, k, e, s _ _ h1, s _ _ h2, h3.same s⟩
theorem due_mk {C : Addr} {H : Hp} {dl t : Addr} {x : V} {k : Knd} (hd : H dl = some (.lst ((tell k).map V.bl))) (ht : H t = none) (hk : Kd K C H x k) : Due K C (upd H t (.tup [x, .ref dl])) (.ref t) :=
  ⟨t, dl, x, k, rfl, upd_same, (same_upd ht) _ _ hd, hk.same (same_upd ht)⟩
abbrev DTold (P : Program) (w : World) (K : PySem.W.Frag) (mg : Str → Option Value) (base : Heap) (C : Addr) : Prop := Dfn P w K mg base 3 "_law_told" ["_law_thing"] (spTold K C)
theorem ok_ir {f C : Addr} {fd : FuncData} (F : FnP K "_law_integer_right" "_law_integer_right" sIntR [] f fd) (R : RT K mg C) (T : LT mg) (D : DDraw P w K mg base) (G : Dfn P w K mg base 2 "_law_pick" ["_law_pot_here", "_law_some"] spPick)
    (W : KO K C) (M : RMk P w K mg base C) (O : DTold P w K mg base C) (oS : ShX P w K mg base C "__str__" txt) : FnG P w K mg base CX0 4 f fd ["_law_pot_here"] spIR := by
  refine fnG_ok (k := 3) F scIR (fun vs H Q E h => ?_) (fun cdv A outer s H vs Q E hr hg h => ?_)
  · obtain ⟨p, rfl, _⟩ := h
    rfl
  · obtain ⟨p, rfl, hp, q⟩ := h
    have hr1 := hr.mono (by decide : 1 ≤ 3)
    have hr2 := hr.mono (by decide : 2 ≤ 3)
    have hr0 := hr.mono (by decide : 0 ≤ 3)
    refine ⟨_, PSs.nox (pss_cons (ps_set (i := 1) scIR.nd rfl (Or.inl rfl) (pe_use G hr2 rfl (pa_cons (pv 0) (pa_cons (pe_lst (pa_cons pe_int (pa_cons pe_int (pa_cons pe_int (pa_cons (pe_op op_pow pe_int pe_int) (pa_cons (pe_op op_pow pe_int pe_int) (pa_cons (pe_op op_pow pe_int pe_int) (pa_cons (pe_op op_pow pe_int pe_int) pa_nil)))))))) pa_nil))))
      (C8.pss_cut (ps_set (i := 2) scIR.nd rfl (Or.inl rfl) (pe_op op_sub (pe_use D hr1 rfl (pa_cons (pv 0) (pa_cons (pe_op op_add (pv 1) pe_int) pa_nil))) (pe_use G hr2 rfl (pa_cons (pv 0) (pa_cons (pe_lst (pa_cons pe_int (pa_cons pe_int (pa_cons (pv 1) pa_nil)))) pa_nil)))))
      (pss_cons (ps_for PassesOwn.never rfl (pi_list (pe_lst (pa_cons (pe_tup (pa_cons (pv 2) (pa_cons (pe_lst (pa_cons pe_bl (pa_cons (pe_cmpR op_ge (pv 2) pe_int (nomark _)) (pa_cons pe_bl (pa_cons pe_bl pa_nil))))) pa_nil)))
            (pa_cons (pe_tup (pa_cons (pe_callTy call_str_int rfl T.str PyProof.Rows.boot_str (pa_cons (pv 2) pa_nil)) (pa_cons (pe_op op_rep (pe_lst (pa_cons pe_bl pa_nil)) pe_int) pa_nil)))
            (pa_cons (pe_tup (pa_cons (pe_lst (pa_cons (pv 2) pa_nil)) (pa_cons (pe_op op_rep (pe_lst (pa_cons pe_bl pa_nil)) pe_int) pa_nil))) pa_nil)))))
          (pg_tup (by rfl) (pgs_cons (pg_name (i := 3) scIR.nd rfl (.inl rfl)) (pgs_cons (pg_name (i := 4) scIR.nd rfl (.inl rfl)) pgs_nil)))
          (pss_one (ps_if (pt_cmpR op_ne (pe_callB (call_repr_data hg hr0) (by rfl) T.repr PyProof.Rows.boot_repr (pa_cons (pe_use O hr rfl (pa_cons (pv 3) pa_nil)) pa_nil)) (pe_callB (call_repr_data hg hr0) (by rfl) T.repr PyProof.Rows.boot_repr (pa_cons (pe_op op_rep (pv 4) pe_int) pa_nil)) (nomark _)) pss_never pss_nil)))
      (C8.pss_cut (ps_set (i := 2) scIR.nd rfl (Or.inl rfl) (pe_ifExp (pt_cmpR op_lt (pe_callB call_abs (by rfl) T.abs PyProof.Rows.boot_abs (pa_cons (pv 2) pa_nil)) (pe_op op_pow pe_int pe_int) (nomark _)) (pv 2) (pe_op op_pow pe_int pe_int)))
      (pss_cons (ps_set (i := 5) scIR.nd rfl (Or.inl rfl) (pe_rat2 M hr rfl R.mgC (pv 2) (pe_op op_add pe_int (pe_use D hr1 rfl (pa_cons (pv 0) (pa_cons pe_int pa_nil))))))
      (pss_cons (ps_if (pt_cmpR op_ne (pe_callB (call_repr_data hg hr0) (by rfl) T.repr PyProof.Rows.boot_repr (pa_cons (pe_use O hr rfl (pa_cons (pv 5) pa_nil)) pa_nil)) (pe_callB (call_repr_data hg hr0) (by rfl) T.repr PyProof.Rows.boot_repr (pa_cons (pe_op op_rep (pe_lst (pa_cons pe_bl (pa_cons pe_bl (pa_cons pe_bl (pa_cons pe_bl pa_nil))))) pe_int) pa_nil)) (nomark _)) pss_never pss_nil)
      (pss_one (ps_ret (pe_cmpR op_eq (pe_callB (call_repr_data hg hr0) (by rfl) T.repr PyProof.Rows.boot_repr (pa_cons (pe_use O hr rfl (pa_cons (pe_callTy (shown_str oS hr) rfl T.str PyProof.Rows.boot_str (pa_cons (pv 5) pa_nil)) pa_nil)) pa_nil)) (pe_callB (call_repr_data hg hr0) (by rfl) T.repr PyProof.Rows.boot_repr (pa_cons (pe_op op_rep (pe_lst (pa_cons pe_bl pa_nil)) pe_int) pa_nil)) (nomark _)))))))))), ?_⟩
    have s0 := fun o => fun (l : Addr) (hl : H l = none) => stp_new (o := o) hp hl
    refine ⟨_, rfl, _, _, rfl, rfl, ⟨by decide, by decide, by decide⟩, _, _, rfl, rfl, ⟨by decide, by decide, by decide⟩, _, _, rfl, rfl, ⟨by decide, by decide, by decide⟩, _, _, rfl, rfl, ⟨by decide, by decide, by decide⟩, (by show 7 ≤ sizeLine; decide), fun l hl => ?_⟩
    refine ⟨p, l, _, rfl, (s0 _ l hl).pot, pot_ne hp hl, upd_same, (by show 0 < 7; decide), (by show 7 ≤ 1000; decide), fun j x H1 hx s1 => ?_⟩
    obtain ⟨m, rfl, m0, m1⟩ := seven j x hx
    have st1 := (s0 _ l hl).trans s1
    refine ⟨fun σ' H' => ∃ n : Int, σ' = [some (.ref p), some (.int m), some (.int n), none, none, none] ∧ Bd 300 n ∧ Stp p H H', ?_, ?_⟩
    · refine ⟨_, rfl, _, rfl, _, _, rfl, rfl, p, _, rfl, st1.pot, by omega, bd29 (by omega) (by omega), fun r H2 r0 r1 s2 => ?_⟩
      refine ⟨_, rfl, _, rfl, (by show 3 ≤ sizeLine; decide), fun l2 hl2 => ?_⟩
      have st2 := st1.trans s2
      have s3 := fun o => stp_new (o := o) st2.pot hl2
      refine ⟨p, l2, _, rfl, (s3 _).pot, pot_ne st2.pot hl2, upd_same, (by show 0 < 3; decide), (by show 3 ≤ 1000; decide), fun j2 x2 H3 hx2 s4 => ?_⟩
      obtain ⟨m2, rfl, m20, m21⟩ := three m m0 m1 j2 x2 hx2
      exact ⟨_, _, rfl, rfl, r - m2, rfl, bd_abs29 (by omega) (by omega), (st2.trans (s3 _)).trans s4⟩
    rintro σ H3 ⟨n, rfl, bn, st3⟩
    have l1 : n.natAbs.log2 < 1920 := lt1920 (bn.mono (by decide))
    refine ⟨_, rfl, _, rfl, _, _, rfl, rfl, (by show 4 ≤ sizeLine; decide), fun d1 hd1 => ⟨by show 2 ≤ sizeLine; decide, fun t1 ht1 => ?_⟩⟩
    refine ⟨_, rfl, n, rfl, l1, (by show 1 ≤ sizeLine; decide), fun e1 he1 => ⟨e1, 4, _, rfl, rfl, upd_same, by decide, by decide, by show 1 * 4 ≤ sizeLine; decide, fun d2 hd2 => ⟨by show 2 ≤ sizeLine; decide, fun t2 ht2 => ?_⟩⟩⟩
    refine ⟨_, rfl, (by show 1 ≤ sizeLine; decide), fun n1 hn1 => ⟨by show 1 ≤ sizeLine; decide, fun e3 he3 => ⟨e3, 4, _, rfl, rfl, upd_same, by decide, by decide, by show 1 * 4 ≤ sizeLine; decide, fun d3 hd3 => ⟨by show 2 ≤ sizeLine; decide, fun t3 ht3 => ⟨by show 3 ≤ sizeLine; decide, fun L hL => ?_⟩⟩⟩⟩⟩
    refine ⟨L, rfl, ⟨_, SqL.of upd_same⟩, ?_⟩
    refine for_it (walk_list (xs := [.ref t1, .ref t2, .ref t3])) (fun i σ H' => ∃ v3 v4 : Option V, σ = [some (.ref p), some (.int m), some (.int n), v3, v4, none] ∧ Stp p H H' ∧ (Due K C H' (.ref t1) ∧ Due K C H' (.ref t2) ∧ Due K C H' (.ref t3)) ∧ H' L = some (.lst [.ref t1, .ref t2, .ref t3]))
      ⟨_, _, rfl, st3.sm ((same_upd hd1).trans ((same_upd ht1).trans ((same_upd he1).trans ((same_upd hd2).trans ((same_upd ht2).trans ((same_upd hn1).trans ((same_upd he3).trans ((same_upd hd3).trans ((same_upd ht3).trans (same_upd hL)))))))))),
        ⟨(due_mk (dl := d1) (x := .int n) (k := .int n) upd_same ht1 rfl).same ((same_upd he1).trans ((same_upd hd2).trans ((same_upd ht2).trans ((same_upd hn1).trans ((same_upd he3).trans ((same_upd hd3).trans ((same_upd ht3).trans (same_upd hL)))))))), ?_, ?_⟩, upd_same⟩ (fun i σ H' _ h => ?_) ?_ ?_
    · refine (due_mk (dl := d2) (x := .str (it n)) (k := .txt (it n)) ?_ ht2 ⟨rfl, Nat.le_trans (it_len (bn.mono (by decide))) (by decide)⟩).same ((same_upd hn1).trans ((same_upd he3).trans ((same_upd hd3).trans ((same_upd ht3).trans (same_upd hL)))))
      rw [tell_it]
      exact upd_same
    · exact (due_mk (dl := d3) (x := .ref n1) (k := .odd) (by exact upd_same) ht3 (odd_list W ((same_upd hd3) _ _ ((same_upd he3) _ _ upd_same)))).same (same_upd hL)
    · obtain ⟨_, _, _, _, _, y⟩ := h
      exact SqL.of y
    · rintro i x σ H1 H2 hi ⟨v3, v4, rfl, st, ⟨D1, D2, D3⟩, hL'⟩ ⟨rfl, hx⟩
      have Dx : Due K C H2 x := by
        rcases i with _ | _ | _ | i
        · cases hx; exact D1
        · cases hx; exact D2
        · cases hx; exact D3
        · exact nomatch hx
      obtain ⟨t, dl, y, k, rfl, ht, hdl, hk⟩ := Dx
      refine ⟨t, _, rfl, SqT.of ht, rfl, _, _, rfl, _, _, rfl, rfl, ?_⟩
      refine ⟨_, rfl, y, k, rfl, hk, fun l5 H5 hl5 s5 _ => ?_⟩
      have S1 := shb (K := K) hl5 (by show 8 ≤ 50; decide)
      refine ⟨l5, _, rfl, S1.dp, S1.sh, S1.di, S1.de, S1.le, ?_⟩
      refine ⟨_, rfl, dl, 2, _, rfl, rfl, s5 _ _ hdl, by decide, by decide, by show 4 * 2 ≤ sizeLine; decide, fun r hr' => ?_⟩
      have S2 : Shb K (upd H5 r (.lst (List.replicate (2 : Int).toNat ((tell k).map V.bl)).flatten)) r (tell k ++ tell k) := shb (by exact upd_same) (by show 8 ≤ 50; decide)
      refine ⟨r, _, rfl, S2.dp, S2.sh, S2.di, S2.de, S2.le, rfl, _, rfl, ?_⟩
      rw [decide_eq_true rfl]
      refine iteF ?_
      have s6 := s5.trans (same_upd (o := .lst (List.replicate (2 : Int).toNat ((tell k).map V.bl)).flatten) hr')
      exact ⟨_, _, rfl, st.sm s6, ⟨D1.same s6, D2.same s6, D3.same s6⟩, s6 _ _ hL'⟩
    · rintro σ H4 ⟨v3, v4, rfl, st, _, _⟩
      refine ⟨fun σ' H' => ∃ n' : Int, σ' = [some (.ref p), some (.int m), some (.int n'), v3, v4, none] ∧ Bd 300 n' ∧ H' = H4, ?_, ?_⟩
      · refine ⟨_, rfl, n, rfl, _, _, rfl, rfl, ⟨by decide, by decide, by decide⟩, _, _, rfl, rfl, _, rfl, ?_⟩
        refine ite2 (fun _ => ?_) (fun _ => ?_)
        · exact ⟨_, rfl, n, rfl, bn, rfl⟩
        · exact ⟨_, _, rfl, rfl, ⟨by decide, by decide, by decide⟩, _, rfl, by rw [e29]; exact bd_abs29 (by decide) (by decide), rfl⟩
      · rintro σ' H5 ⟨n', rfl, bn', rfl⟩
        refine ⟨_, rfl, _, rfl, p, 5, rfl, st.pot, by decide, bd_small (by decide) (by decide) (by decide), fun r H5 r0 r1 s5 => ⟨_, _, rfl, rfl, ?_⟩⟩
        have hd : (1 + r) ≠ 0 := by omega
        have e60 : (2 : Int) ^ 60 = 1152921504606846976 := by decide
        have b5 : Bd 60 (1 + r) := bd_small (by omega) (by omega) (by decide)
        refine rat_new hd (b5.mono (by decide)) fun mR H6 hm s6 _ => ?_
        have B1 : Bd 1900 (low n' (1 + r)).1 := bd_low1 hd (bn'.mono (by decide))
        have B2 : Bd 1900 (low n' (1 + r)).2 := bd_low2 hd (b5.mono (by decide))
        generalize (low n' (1 + r)).1 = an at hm B1
        generalize (low n' (1 + r)).2 = ad at hm B2
        obtain ⟨dx, hx⟩ := id hm
        have st6 := (st.trans s5).sm s6
        have kr : Kd K C H6 (.ref mR) .rat := .base (.ins hx R.cl R.ca R.cg R.ct R.cm)
        refine ⟨_, rfl, .ref mR, .rat, rfl, kr, fun l7 H7 hl7 s7 _ => ?_⟩
        have S1 := shb (K := K) hl7 (by show 8 ≤ 50; decide)
        refine ⟨l7, _, rfl, S1.dp, S1.sh, S1.di, S1.de, S1.le, ?_⟩
        refine ⟨by show 4 ≤ sizeLine; decide, fun e8 he8 => ⟨e8, 2, _, rfl, rfl, upd_same, by decide, by decide, by show 4 * 2 ≤ sizeLine; decide, fun r9 hr9 => ?_⟩⟩
        refine ⟨r9, _, rfl, (shb (bs := tell .rat ++ tell .rat) upd_same (by show 8 ≤ 50; decide)).dp, S1.sh, S1.di, S1.de, S1.le, rfl, _, rfl, ?_⟩
        rw [decide_eq_true rfl]
        refine iteF ?_
        have hx9 := (same_upd (o := .lst (List.replicate (2 : Int).toNat [V.bl false, V.bl false, V.bl true, V.bl false]).flatten) hr9) _ _ ((same_upd he8) _ _ (s7 _ _ hx))
        have hT : tell (.txt (txt an ad)) = [false, false, false, false] := tell_txt (txt_name an ad)
        refine ⟨_, rfl, mR, dx, _, rfl, hx9, mR, an, ad, rfl, ⟨dx, hx9⟩, B1, B2, ?_⟩
        refine ⟨_, rfl, .str (txt an ad), .txt (txt an ad), rfl, ⟨rfl, Nat.le_trans (txt_len B1 B2) (by decide)⟩, fun l10 H10 hl10 s10 _ => ?_⟩
        have S3 := shb (K := K) hl10 (by show 8 ≤ 50; decide)
        refine ⟨l10, _, rfl, S3.dp, S3.sh, S3.di, S3.de, S3.le, ?_⟩
        refine ⟨by show 1 ≤ sizeLine; decide, fun e11 he11 => ⟨e11, 8, _, rfl, rfl, upd_same, by decide, by decide, by show 1 * 8 ≤ sizeLine; decide, fun r12 hr12 => ?_⟩⟩
        refine ⟨r12, _, rfl, (shb (bs := tell (.txt (txt an ad)) ++ tell (.txt (txt an ad))) (by rw [hT]; exact upd_same) (by show 8 ≤ 50; decide)).dp, S3.sh, S3.di, S3.de, S3.le, rfl, ?_⟩
        rw [decide_eq_true rfl]
        exact q _ (st6.sm ((((s7.trans (same_upd he8)).trans (same_upd hr9)).trans s10).trans ((same_upd he11).trans (same_upd hr12))))
end
end La
namespace La
open PySem PySem.Spec PyProof.Rows L2 Ow Rm Ra
/-- the class Table beside the class at C -/
structure TO (K : PySem.W.Frag) (C D : Addr) : Prop where
  i : PySem.W.kitOne K (.ref D) (.type "int") = some false
  b : PySem.W.kitOne K (.ref D) (.type "bool") = some false
  s : PySem.W.kitOne K (.ref D) (.type "str") = some false
  c : PySem.W.kitOne K (.ref D) (.ref C) = some false
  ca : PySem.W.findIn K (.ref D) "__class__" = some (some (.builtin "object.__class__"))
  cm : PySem.W.mroIn K D (.type "object") = some true
/-- a reading that gives a thing that is none of what is asked -/
def OddE (K : PySem.W.Frag) (C : Addr) (σ : L2.St) (te : TE) : Prop := ∀ (H : Hp) (Q : VK), (∀ v H', Kd K C H' v .odd → Same H H' → Q v H') → te σ H Q
def OddA (K : PySem.W.Frag) (C : Addr) (σ : L2.St) (t : TA) (n : Nat) : Prop := ∀ (H : Hp) (Q : List V → Hp → Prop), (∀ vs H', vs.length = n → (∀ v ∈ vs, Kd K C H' v .odd) → Same H H' → Q vs H') → t σ H Q
section
variable {K : PySem.W.Frag} {C : Addr} {σ : L2.St} {te : TE} {t : TA} {n : Nat}
theorem odd_nil : OddA K C σ tNil 0 := fun H Q h => h [] H rfl (fun v hv => absurd hv List.not_mem_nil) (Same.refl H)
theorem odd_cons (a : OddE K C σ te) (b : OddA K C σ t n) : OddA K C σ (tCons te t) (n + 1) := fun H Q h => a H _ fun v H1 h1 s1 => b H1 _ fun vs H2 hl h2 s2 =>
  h (v :: vs) H2 (by rw [List.length_cons, hl]) (fun y hy => by
    rcases List.mem_cons.mp hy with e | e
    · rw [e]; exact h1.same s2
    · exact h2 y e) (s1.trans s2)
theorem odd_non (W : KO K C) {H : Hp} : Kd K C H .non .odd := ⟨_, false, false, .base .non, kit_ty (by decide +kernel), kit_ty (by decide +kernel), rfl, W.n, kit_ty (by decide +kernel)⟩
theorem odd_bl (W : KO K C) {H : Hp} (b : Bool) : Kd K C H (.bl b) .odd := ⟨_, true, true, .base (.bl b), kit_ty (by decide +kernel), kit_ty (by decide +kernel), rfl, W.b, kit_ty (by decide +kernel)⟩
theorem odd_tup (W : KO K C) {H : Hp} {a : Addr} {xs : List V} (h : H a = some (.tup xs)) : Kd K C H (.ref a) .odd := ⟨_, false, false, .base (.tup h), kit_ty (by decide +kernel), kit_ty (by decide +kernel), rfl, W.t, kit_ty (by decide +kernel)⟩
theorem odd_dict (W : KO K C) {H : Hp} {a : Addr} {kvs : List (Key × V)} (h : H a = some (.dK kvs)) : Kd K C H (.ref a) .odd := ⟨_, false, false, .base (.dK h), kit_ty (by decide +kernel), kit_ty (by decide +kernel), rfl, W.d, kit_ty (by decide +kernel)⟩
theorem oe_non (W : KO K C) : OddE K C σ (tC .non) := fun H Q h => h _ H (odd_non W) (Same.refl H)
theorem oe_bl (W : KO K C) (b : Bool) : OddE K C σ (tC (.bl b)) := fun H Q h => h _ H (odd_bl W b) (Same.refl H)
/-- a list, a tuple of what leaves all else as it was -/
def Qui (σ : L2.St) (t : TA) : Prop := ∀ (H : Hp) (Q : List V → Hp → Prop), (∀ vs H', vs.length ≤ 9 → Same H H' → Q vs H') → t σ H Q
theorem oe_lst (W : KO K C) (q : Qui σ t) : OddE K C σ (tLst t) := fun H Q h => q H _ fun vs H1 hl s1 => ⟨Nat.le_trans hl (by decide), fun p hp => h _ _ (odd_list W upd_same) (s1.trans (same_upd hp))⟩
theorem oe_tup (W : KO K C) (q : Qui σ t) : OddE K C σ (tTup t) := fun H Q h => q H _ fun vs H1 hl s1 => ⟨Nat.le_trans hl (by decide), fun p hp => h _ _ (odd_tup W upd_same) (s1.trans (same_upd hp))⟩
theorem oe_dict (W : KO K C) : OddE K C σ tDNewK := fun H Q h p hp => h _ _ (odd_dict W upd_same) (same_upd hp)
theorem oe_disp (W : KO K C) (z : Str) {tk : TE} (hk : ∀ (H : Hp) (Q : VK), Q (.str z) H → tk σ H Q) : OddE K C σ (tDisp [(tk, tC (.int 1))]) := fun H Q h p hp =>
  hk _ _ ⟨upd_same, [(.inr z, .int 1)], rfl, (by show 1 ≤ 15; decide), h _ _ (odd_dict W upd_same) (by rw [upd_upd]; exact same_upd hp)⟩
theorem qui_nil : Qui σ tNil := fun H Q h => h [] H (by decide) (Same.refl H)
end
section
variable {P : Program} {w : World} {K : PySem.W.Frag} {mg : Str → Option Value} {base : Heap}
def spTb (D : Addr) : Sp := fun vs H Q _ => ∃ x dx ns, vs = .ref x :: (ns.map V.int) ∧ H x = some (.ins D dx []) ∧ Desc ns ∧ ∀ H' fs, H' x = some (.ins D dx fs) → (∀ b o, b ≠ x → H b = some o → H' b = some o) → Q .non H'
/-- Table(..), as others make it -/
structure TMk (P : Program) (w : World) (K : PySem.W.Frag) (mg : Str → Option Value) (base : Heap) (D : Addr) : Prop where
  ex : ∃ f, Mk K D f ∧ FnR P w K mg base CX0 9 f (spTb D)
theorem desc1 : Desc [1] := by
  refine ⟨by decide, by decide, fun i n h => ?_, fun n h => ?_, fun i n m h1 h2 => nomatch h2⟩
  · rcases i with _ | i
    · cases h
      decide
    · exact nomatch h
  · cases h
    decide
theorem desc2 : Desc [3, 2] := by
  refine ⟨by decide, by decide, fun i n h => ?_, fun n h => ?_, fun i n m h1 h2 => ?_⟩
  · rcases i with _ | _ | i
    · cases h
      decide
    · cases h
      decide
    · exact nomatch h
  · cases h
    decide
  · rcases i with _ | i
    · cases h1
      cases h2
      decide
    · exact nomatch h2
theorem table_new {C D : Addr} (R : RT K mg C) (U : TT K mg D) (O : TO K C D) (ns : List Int) (hd : Desc ns) {H : Hp} {Q : VK} (h : ∀ v H', Kd K C H' v .odd → Same H H' → Q v H') :
    ∀ x dx, H x = none → H dx = none → dx ≠ x → spTb D (.ref x :: ns.map V.int) (upd (upd H dx (.own x)) x (.ins D dx [])) (fun v H2 => v = .non ∧ Q (.ref x) H2) E0 := by
  intro x dx hx hdx ne
  refine ⟨x, dx, ns, rfl, upd_same, hd, fun H' fs e k => ⟨rfl, ?_⟩⟩
  refine h _ _ ⟨_, false, false, .base (.ins e U.cl O.ca R.cg R.ct O.cm), O.i, O.b, rfl, O.c, O.s⟩ fun b o eb => ?_
  refine k b o (ne_of_none eb hx) ?_
  rw [upd_ne (ne_of_none eb hx), upd_ne (ne_of_none eb hdx)]
  exact eb
theorem seq_odds {K : PySem.W.Frag} {C : Addr} {t : TA} {g : TG} {b : TS} {D : Ends} {σ : L2.St} {H : Hp} {n : Nat} (hn : n ≤ 100) (o : OddA K C σ t n)
    (h : ∀ vs H1 l, vs.length = n → (∀ v ∈ vs, Kd K C H1 v .odd) → Same H H1 → H1 l = none → g (.ref l) σ (upd H1 l (.lst vs)) fun σ2 H2 => b D σ2 H2) : tSeq (tAsg (tLst t) g) b D σ H :=
  o H _ fun vs H1 hl ho s => ⟨Nat.le_trans (Nat.le_of_eq hl) (Nat.le_trans hn (by decide)), fun l hp => h vs H1 l hl ho s hp⟩
theorem oe_t1 {C D : Addr} {σ : L2.St} (R : RT K mg C) (U : TT K mg D) (O : TO K C D) : OddE K C σ (StX.tMakeR D (spTb D) E0 (tCons (tC (.int 1)) tNil)) := fun H Q h => table_new R U O [1] desc1 h
theorem oe_t2 {C D : Addr} {σ : L2.St} (R : RT K mg C) (U : TT K mg D) (O : TO K C D) : OddE K C σ (StX.tMakeR D (spTb D) E0 (tCons (tC (.int 3)) (tCons (tC (.int 2)) tNil))) := fun H Q h => table_new R U O [3, 2] desc2 h
theorem qc {σ : L2.St} (x : V) : Qui σ (tCons (tC x) tNil) := fun H Q h => h [x] H (by show 1 ≤ 9; decide) (Same.refl H)
theorem qc2 {σ : L2.St} (x y : V) : Qui σ (tCons (tC x) (tCons (tC y) tNil)) := fun H Q h => h [x, y] H (by show 2 ≤ 9; decide) (Same.refl H)
theorem qr {C : Addr} {σ : L2.St} : Qui σ (tCons (tMake C (spInit C) [.int 1] E0 (tCons (tC (.int 1)) tNil)) tNil) := fun H Q h => rat_new (by decide) (bd_one (by decide)) fun p H' _ s _ => h [.ref p] H' (by show 1 ≤ 9; decide) s
theorem all_true (n : Nat) : (List.replicate n true).all id = true := by
  rw [List.all_replicate]
  split <;> rfl
/-! ### _law_odd_right -/
abbrev nOR : List Str := ["_law_pot_here", "_law_some", "_law_thing"]
theorem scOR : FnScope nOR ["_law_pot_here"] (defScope sOddR) := ⟨rfl, rfl, rfl, by decide +kernel, rfl, by decide +kernel, by decide +kernel⟩
theorem ok_or {f C D : Addr} {fd : FuncData} (F : FnP K "_law_odd_right" "_law_odd_right" sOddR [] f fd) (R : RT K mg C) (T : LT mg) (W : KO K C) (U : TT K mg D) (O : TO K C D) (M : RMk P w K mg base C) (N : TMk P w K mg base D) (G : DTold P w K mg base C) :
    FnG P w K mg base CX0 11 f fd ["_law_pot_here"] spIR := by
  refine fnG_ok (k := 10) F scOR (fun vs H Q E h => ?_) (fun cdv A outer s H vs Q E hr hg h => ?_)
  · obtain ⟨p, rfl, _⟩ := h
    rfl
  · obtain ⟨p, rfl, hp, q⟩ := h
    have hr3 := hr.mono (by decide : 3 ≤ 10)
    have hr0 := hr.mono (by decide : 0 ≤ 10)
    obtain ⟨ft, mk, Ft⟩ := N.ex
    refine ⟨_, PSs.nox (pss_cons (ps_set (i := 1) scOR.nd rfl (Or.inl rfl) (pe_lst (pa_cons pe_non (pa_cons pe_bl (pa_cons pe_bl (pa_cons (pe_tup pa_nil) (pa_cons (pe_lst pa_nil) (pa_cons pe_dnewK
        (pa_cons (pe_disp (pps_cons pe_str pe_int pps_nil) rfl rfl (by simp) (by decide)) (pa_cons (pe_tup (pa_cons pe_str pa_nil)) (pa_cons (pe_lst (pa_cons pe_str pa_nil)) (pa_cons (pe_tup (pa_cons pe_int (pa_cons pe_int pa_nil)))
        (pa_cons (pe_lst (pa_cons (pe_rat1 M hr3 rfl R.mgC pe_int) pa_nil)) (pa_cons (StX.pe_makeR mk Ft hr rfl U.mgT pass0 (pa_cons pe_int pa_nil)) (pa_cons (StX.pe_makeR mk Ft hr rfl U.mgT pass0 (pa_cons pe_int (pa_cons pe_int pa_nil))) pa_nil)))))))))))))))
      (pss_one (ps_ret (pe_callB (cr_all rfl) (by rfl) T.all PyProof.Rows.boot_all (pa_cons (pe_lc rfl scOR.nd (pi_list (pv 1)) (blkOk_by (own := [("_law_thing", 2)]) (by show blkC nOR (defScope sOddR) _ _ = true; decide +kernel))
        (fun _ _ _ _ _ => pg_name (i := 2) scOR.nd rfl (.inl rfl)) (fun _ _ _ _ _ => pts_nil)
        (fun _ _ _ _ _ => pe_cmpR op_eq (pe_callB (r := rData K) (call_repr_data hg hr0) (by rfl) T.repr PyProof.Rows.boot_repr (pa_cons (pe_use G hr3 rfl (pa_cons (pv 2) pa_nil)) pa_nil)) (pe_callB (r := rData K) (call_repr_data hg hr0) (by rfl) T.repr PyProof.Rows.boot_repr (pa_cons (pe_op op_rep (pe_lst (pa_cons pe_bl pa_nil)) pe_int) pa_nil)) (nomark _))) pa_nil))))), ?_⟩
    refine seq_odds (K := K) (C := C) (n := 13) (by decide) ?_ ?_
    · exact odd_cons (oe_non W) (odd_cons (oe_bl W true) (odd_cons (oe_bl W false) (odd_cons (oe_tup W qui_nil) (odd_cons (oe_lst W qui_nil) (odd_cons (oe_dict W) (odd_cons (oe_disp W "a" (tk := tC (.str "a")) fun H Q h => h) (odd_cons (oe_tup W (qc _)) (odd_cons (oe_lst W (qc _))
        (odd_cons (oe_tup W (qc2 _ _)) (odd_cons (oe_lst W qr) (odd_cons (oe_t1 R U O) (odd_cons (oe_t2 R U O) odd_nil))))))))))))
    intro vs H1 l hlen hodd s1 hl
    have e13 : vs.length ≤ 13 := Nat.le_of_eq hlen
    have st1 : Stp p H (upd H1 l (.lst vs)) := Stp.of (s1.trans (same_upd hl)) hp
    refine ⟨_, rfl, l, rfl, ⟨vs, SqL.of upd_same⟩, fun D0 hD => ?_⟩
    refine lc_it (walk_list (xs := vs)) (fun i H' => Same (upd H1 l (.lst vs)) H' ∧ H' D0 = some (.lst ((List.replicate i true).map V.bl)) ∧ i ≤ vs.length) ⟨same_upd hD, upd_same, Nat.zero_le _⟩ (fun i H' _ h => SqL.of (h.1 _ _ upd_same)) ?_ ?_
    · rintro i v H2 H3 hi ⟨s2, hD2, _⟩ ⟨rfl, hv⟩
      have kv : Kd K C H3 v .odd := (hodd v (List.mem_of_getElem? hv)).same ((same_upd hl).trans s2)
      refine ⟨rfl, tYes_at ?_⟩
      refine ⟨_, rfl, v, .odd, rfl, kv, fun l5 H5 hl5 s5 _ => ?_⟩
      have S1 := shb (K := K) hl5 (by show 8 ≤ 50; decide)
      refine ⟨l5, _, rfl, S1.dp, S1.sh, S1.di, S1.de, S1.le, ?_⟩
      refine ⟨by show 1 ≤ sizeLine; decide, fun e6 he6 => ⟨e6, 8, _, rfl, rfl, upd_same, by decide, by decide, by show 1 * 8 ≤ sizeLine; decide, fun r7 hr7 => ?_⟩⟩
      have s7 := (s5.trans (same_upd (o := .lst [V.bl false]) he6)).trans (same_upd (o := .lst (List.replicate (8 : Int).toNat [V.bl false]).flatten) hr7)
      refine ⟨r7, _, rfl, (shb (bs := tell .odd ++ tell .odd) upd_same (by show 8 ≤ 50; decide)).dp, S1.sh, S1.di, S1.de, S1.le, rfl, ?_⟩
      rw [decide_eq_true rfl]
      refine ⟨_, s7 _ _ hD2, ?_, fun b o e => ?_, ?_, hi⟩
      · rw [List.length_map, List.length_replicate]
        exact Nat.lt_of_le_of_lt (show i ≤ 1000 by omega) (by decide)
      · rw [upd_ne (ne_of_none e hD)]
        exact s7 _ _ (s2 _ _ e)
      · rw [upd_same, List.replicate_succ', List.map_append]
        rfl
    · rintro H2 ⟨s2, hD2, _⟩
      refine ⟨D0, List.replicate vs.length true, rfl, SqL.of hD2, ?_⟩
      rw [all_true]
      exact q _ (st1.sm s2)
end
end La
namespace La
open PySem PySem.Spec PyProof.Rows L2 Ow Rm Ra
/-- a def of the law that is only called where nothing is being shown -/
structure DfnG (P : Program) (w : World) (K : PySem.W.Frag) (mg : Str → Option Value) (base : Heap) (k : Nat) (x : Str) (ps : List Str) (sp : Sp) : Prop where
  ex : ∃ f fd, FnG P w K mg base CX0 k f fd ps sp ∧ mg x = some (.ref f) ∧ PySem.W.keepIn K (.ref f) = true ∧ Binds K fd ps []
theorem pe_useG {X : Cx} {k : Nat} {x : Str} {ps : List Str} {sp : Sp} {p pos : Pos} {e : Expr} {es : List Expr} {t : TA} (D : DfnG X.prog X.w X.K X.mg X.base k x ps sp) (hr : Room k X.A) (hgu : X.A.guards = some []) (hg : Gl X x) (ha : PA X (e :: es) t)
    (hdb : (x == ("__debug__" : Str)) = false := by decide) (he : starEach (e :: es) X.env = (false, eval e X.env) :: starEach es X.env := by rfl) (hpl : (backTo pos (starEach es X.env)).any (·.1) = false := by rfl) :
    PE X (.Call (.Name x p) (e :: es) [] pos) (tCall sp [] E0 t) := by
  obtain ⟨f, fd, F, hm, hk, hb⟩ := D.ex
  exact pe_callG F hr hgu hg hm hk hb pass0 ha hdb he hpl
section
variable {P : Program} {w : World} {K : PySem.W.Frag} {mg : Str → Option Value} {base : Heap}
theorem same_upd2 {H : Hp} {p : Addr} {a b : HO} (h : H p = none) : Same H (upd (upd H p a) p b) := by
  rw [upd_upd]
  exact same_upd h
theorem stp_none {p q : Addr} {H H' : Hp} (s : Stp p H H') (n : q ≠ p) (h : H' q = none) : H q = none := by
  cases e : H q with
  | none => rfl
  | some o =>
    rw [s.keep q o n e] at h
    exact nomatch h
abbrev nRi : List Str := ["_law_pot_here", "_law_turn", "_law_word_here", "_law_some"]
theorem scRi : FnScope nRi ["_law_pot_here"] (defScope sRight) := ⟨rfl, rfl, rfl, by decide +kernel, rfl, by decide +kernel, by decide +kernel⟩
theorem ok_right {f C : Addr} {fd : FuncData} (F : FnP K "_law_right" "_law_right" sRight [] f fd) (T : LT mg) (W : KO K C) (Wd : Dfn P w K mg base 3 "_law_word" ["_law_pot_here"] spWord) (B : Dfn P w K mg base 3 "_law_bent" ["_law_pot_here", "_law_word_here"] spBent)
    (G : DTold P w K mg base C) (I : Dfn P w K mg base 1 "_law_is_name" ["_law_word_here"] spNm) (IR : DfnG P w K mg base 4 "_law_integer_right" ["_law_pot_here"] spIR) (OR : DfnG P w K mg base 11 "_law_odd_right" ["_law_pot_here"] spIR) :
    FnG P w K mg base CX0 12 f fd ["_law_pot_here"] spIR := by
  refine fnG_ok (k := 11) F scRi (fun vs H Q E h => ?_) (fun cdv A outer s H vs Q E hr hg h => ?_)
  · obtain ⟨p, rfl, _⟩ := h
    rfl
  · obtain ⟨p, rfl, hp, q⟩ := h
    have hr0 := hr.mono (by decide : 0 ≤ 11)
    have hr1 := hr.mono (by decide : 1 ≤ 11)
    have hr3 := hr.mono (by decide : 3 ≤ 11)
    have hr4 := hr.mono (by decide : 4 ≤ 11)
    refine ⟨_, PSs.nox (pss_cons (ps_for PassesOwn.never rfl (pi_range1 rfl T.range (pa_cons pe_int pa_nil)) (pg_name (i := 1) scRi.nd rfl (Or.inl rfl))
        (pss_cons (ps_set (i := 2) scRi.nd rfl (Or.inl rfl) (pe_use B hr3 rfl (pa_cons (pv 0) (pa_cons (pe_use Wd hr3 rfl (pa_cons (pv 0) pa_nil)) pa_nil))))
        (pss_cons (ps_if (pt_cmpR op_ne (pe_callB (call_repr_data hg hr0) (by rfl) T.repr PyProof.Rows.boot_repr (pa_cons (pe_use G hr3 rfl (pa_cons (pv 2) pa_nil)) pa_nil))
          (pe_callB (call_repr_data hg hr0) (by rfl) T.repr PyProof.Rows.boot_repr (pa_cons (pe_op op_rep (pe_lst (pa_cons pe_bl (pa_cons pe_bl (pa_cons pe_bl (pa_cons (pe_use I hr1 rfl (pa_cons (pv 2) pa_nil)) pa_nil))))) pe_int) pa_nil)) (nomark _)) pss_never pss_nil)
        (pss_cons (ps_if (pt_not (pt_val (pe_callB (cr_all rfl) (by rfl) T.all PyProof.Rows.boot_all (pa_cons (pe_lc rfl scRi.nd
            (pi_list (pe_lst (pa_cons (pe_lst (pa_cons (pv 2) pa_nil)) (pa_cons (pe_tup (pa_cons (pv 2) pa_nil)) (pa_cons (pe_disp (pps_cons (pv 2) pe_int pps_nil) rfl rfl (by simp) (by decide)) pa_nil)))))
            (blkOk_by (own := [("_law_some", 3)]) (by show blkC nRi (defScope sRight) _ _ = true; decide +kernel))
            (fun _ _ _ _ _ => pg_name (i := 3) scRi.nd rfl (.inl rfl)) (fun _ _ _ _ _ => pts_nil)
            (fun _ _ _ _ _ => pe_cmpR op_eq (pe_callB (r := rData K) (call_repr_data hg hr0) (by rfl) T.repr PyProof.Rows.boot_repr (pa_cons (pe_use G hr3 rfl (pa_cons (pv 3) pa_nil)) pa_nil)) (pe_callB (r := rData K) (call_repr_data hg hr0) (by rfl) T.repr PyProof.Rows.boot_repr (pa_cons (pe_op op_rep (pe_lst (pa_cons pe_bl pa_nil)) pe_int) pa_nil)) (nomark _))) pa_nil)))) pss_never pss_nil)
        (pss_one (ps_if (pt_not (pt_val (pe_useG IR hr4 hg rfl (pa_cons (pv 0) pa_nil)))) pss_never pss_nil))))))
      (pss_one (ps_ret (pe_useG OR hr hg rfl (pa_cons (pv 0) pa_nil))))), ?_⟩
    refine ⟨12, rfl, by decide, by decide, ?_⟩
    refine for_range (lo := 0) (n := 12) (fun i σ H' => ∃ v1 v2 : Option V, σ = [some (.ref p), v1, v2, none] ∧ Stp p H H') ⟨_, _, rfl, Stp.refl hp⟩ ?_ ?_
    · rintro i σ H0 hi ⟨v1, v2, rfl, st⟩
      refine ⟨_, rfl, _, rfl, p, rfl, st.pot, fun z H1 hz s1 => ?_⟩
      refine ⟨p, z, rfl, s1.pot, hz, fun y H2 hy s2 => ?_⟩
      have st2 := (st.trans s1).trans s2
      have hyl : y.length ≤ sizeLine := Nat.le_trans hy (by decide)
      refine ⟨_, rfl, .str y, .txt y, rfl, ⟨rfl, hyl⟩, fun l3 H3 hl3 s3 _ => ?_⟩
      have S1 := shb (K := K) hl3 (by show 8 ≤ 50; decide)
      refine ⟨l3, _, rfl, S1.dp, S1.sh, S1.di, S1.de, S1.le, ?_⟩
      refine ⟨_, rfl, y, rfl, hy, fun H4 s4 => ⟨by show 4 ≤ sizeLine; decide, fun e5 he5 => ⟨e5, 2, _, rfl, rfl, upd_same, by decide, by decide, by show 4 * 2 ≤ sizeLine; decide, fun r6 hr6 => ?_⟩⟩⟩
      refine ⟨r6, _, rfl, (shb (bs := tell (.txt y) ++ tell (.txt y)) upd_same (by show 8 ≤ 50; decide)).dp, S1.sh, S1.di, S1.de, S1.le, rfl, _, rfl, ?_⟩
      rw [decide_eq_true rfl]
      refine iteF ?_
      have s26 := (s3.trans s4).trans ((same_upd (o := .lst [.bl false, .bl false, .bl false, .bl (nameOk y)]) he5).trans (same_upd (o := .lst (List.replicate (2 : Int).toNat [V.bl false, V.bl false, V.bl false, V.bl (nameOk y)]).flatten) hr6))
      have st6 := st2.sm s26
      refine ⟨_, rfl, (by show 1 ≤ sizeLine; decide), fun a1 h1 => ⟨_, rfl, (by show 1 ≤ sizeLine; decide), fun a2 h2 a3 h3 => ⟨_, rfl, upd_same, [(.inr y, .int 1)], rfl, (by show 1 ≤ 15; decide), (by show 3 ≤ sizeLine; decide), fun L hL => ?_⟩⟩⟩
      have sL := st6.sm ((same_upd h1).trans ((same_upd h2).trans ((same_upd2 h3).trans (same_upd (o := .lst [.ref a1, .ref a2, .ref a3]) hL))))
      refine ⟨L, rfl, ⟨_, SqL.of upd_same⟩, fun D0 hD => ?_⟩
      have nD : D0 ≠ p := pot_ne sL.pot hD
      have f1 := (same_upd (o := .lst [.ref a1, .ref a2, .ref a3]) hL) _ _ ((same_upd2 h3) _ _ ((same_upd h2) _ _ upd_same))
      have f2 := (same_upd (o := .lst [.ref a1, .ref a2, .ref a3]) hL) _ _ ((same_upd2 h3) _ _ upd_same)
      have f3 := (same_upd (o := .lst [.ref a1, .ref a2, .ref a3]) hL) _ _ upd_same
      have n1 : a1 ≠ D0 := ne_of_none f1 hD
      have n2 : a2 ≠ D0 := ne_of_none f2 hD
      have n3 : a3 ≠ D0 := ne_of_none f3 hD
      have n4 : L ≠ D0 := ne_of_none upd_same hD
      have hD0 : H D0 = none := stp_none sL nD hD
      refine lc_it (walk_list (xs := [.ref a1, .ref a2, .ref a3])) (fun i H' => Stp p H H' ∧ H' a1 = some (.lst [.str y]) ∧ H' a2 = some (.tup [.str y]) ∧ H' a3 = some (.dK (mergeK [] [(.inr y, .int 1)])) ∧ H' L = some (.lst [.ref a1, .ref a2, .ref a3]) ∧ H' D0 = some (.lst ((List.replicate i true).map V.bl)) ∧ i ≤ 3)
        ⟨stp_upd sL hD0 nD, by rw [upd_ne n1]; exact f1, by rw [upd_ne n2]; exact f2, by rw [upd_ne n3]; exact f3, by rw [upd_ne n4]; exact upd_same, upd_same, Nat.zero_le _⟩ (fun i H' _ h => SqL.of h.2.2.2.2.1) ?_ ?_
      · rintro i v H5 H6 hi ⟨s5, g1, g2, g3, g4, g5, _⟩ ⟨rfl, hv⟩
        have kv : Kd K C H6 v .odd := by
          rcases i with _ | _ | _ | i
          · cases hv; exact odd_list W g1
          · cases hv; exact odd_tup W g2
          · cases hv; exact odd_dict W g3
          · exact nomatch hv
        have hi3 : i < 3 := hi
        refine ⟨rfl, tYes_at ?_⟩
        refine ⟨_, rfl, v, .odd, rfl, kv, fun l7 H7 hl7 s7 _ => ?_⟩
        have S2 := shb (K := K) hl7 (by show 8 ≤ 50; decide)
        refine ⟨l7, _, rfl, S2.dp, S2.sh, S2.di, S2.de, S2.le, ?_⟩
        refine ⟨by show 1 ≤ sizeLine; decide, fun e8 he8 => ⟨e8, 8, _, rfl, rfl, upd_same, by decide, by decide, by show 1 * 8 ≤ sizeLine; decide, fun r9 hr9 => ?_⟩⟩
        have s9 := (s7.trans (same_upd (o := .lst [V.bl false]) he8)).trans (same_upd (o := .lst (List.replicate (8 : Int).toNat [V.bl false]).flatten) hr9)
        refine ⟨r9, _, rfl, (shb (bs := tell .odd ++ tell .odd) upd_same (by show 8 ≤ 50; decide)).dp, S2.sh, S2.di, S2.de, S2.le, rfl, ?_⟩
        rw [decide_eq_true rfl]
        refine ⟨_, s9 _ _ g5, ?_, stp_upd (s5.sm s9) hD0 nD, by rw [upd_ne n1]; exact s9 _ _ g1, by rw [upd_ne n2]; exact s9 _ _ g2, by rw [upd_ne n3]; exact s9 _ _ g3, by rw [upd_ne n4]; exact s9 _ _ g4, ?_, hi3⟩
        · rw [List.length_map, List.length_replicate]
          exact Nat.lt_of_le_of_lt (show i ≤ 1000 by omega) (by decide)
        · rw [upd_same, List.replicate_succ', List.map_append]
          rfl
      · rintro H5 ⟨s5, _, _, _, _, g5, _⟩
        refine ⟨D0, List.replicate 3 true, rfl, SqL.of g5, ?_⟩
        rw [all_true]
        refine ⟨true, rfl, ?_⟩
        refine iteF ?_
        refine ⟨_, rfl, p, rfl, s5.pot, fun H6 s6 => ⟨true, rfl, ?_⟩⟩
        refine iteF ?_
        exact ⟨_, _, rfl, s5.trans s6⟩
    · rintro σ H1 ⟨v1, v2, rfl, st⟩
      exact ⟨_, rfl, p, rfl, st.pot, fun H2 s2 => q _ (st.trans s2)⟩
end
end La
namespace La
open PySem PySem.Spec PyProof.Rows L2 Ow Rm Ra
section
variable {P : Program} {w : World} {K : PySem.W.Frag} {mg : Str → Option Value} {base : Heap}
abbrev nLaw : List Str := ["_law_script", "_law_k"]
theorem scLaw : FnScope nLaw ["_law_script"] (defScope sLaw) := ⟨rfl, rfl, rfl, by decide +kernel, rfl, by decide +kernel, by decide +kernel⟩
def spLaw (K : PySem.W.Frag) : Sp := fun vs H Q _ => ∃ (a : Addr) (ns : List Int), vs = [.ref a] ∧ ns.length ≤ 63 ∧ SqL K H a (ns.map V.int) ∧ ∀ H', Q (.bl true) H'
theorem ok_law {f : Addr} {fd : FuncData} (F : FnP K "law" "law" sLaw [] f fd) (L : LT mg)
    (D : Dfn P w K mg base 1 "_law_pot" ["_law_script", "_law_k"] (spPot K)) (R : DfnG P w K mg base 12 "_law_right" ["_law_pot_here"] spIR) :
    FnG P w K mg base CX0 13 f fd ["_law_script"] (spLaw K) := by
  refine fnG_ok (k := 12) F scLaw (fun vs H Q E h => ?_) (fun cdv A outer s H vs Q E hr hg h => ?_)
  · obtain ⟨a, ns, rfl, _⟩ := h
    rfl
  · obtain ⟨a, ns, rfl, hn, hs, q⟩ := h
    have hr1 := hr.mono (by decide : 1 ≤ 12)
    refine ⟨_, PSs.nox (pss_one (ps_ret (pe_callB (cr_all rfl) (by rfl) L.all PyProof.Rows.boot_all (pa_cons (pe_lc rfl scLaw.nd
        (pi_range1 rfl L.range (pa_cons (pe_callB (call_max2 rfl) (by rfl) L.max PyProof.Rows.boot_max (pa_cons pe_int (pa_cons (pe_callB (call_min2 rfl) (by rfl) L.min PyProof.Rows.boot_min (pa_cons (pe_callB call_len_seq (by rfl) L.len PySem.boot_len (pa_cons (pv 0) pa_nil)) (pa_cons pe_int pa_nil))) pa_nil))) pa_nil))
          (blkOk_by (own := [("_law_k", 1)]) (by show blkC nLaw (defScope sLaw) _ _ = true; decide +kernel))
          (fun _ _ _ _ _ => pg_name (i := 1) scLaw.nd rfl (.inl rfl))
          (fun _ _ _ _ _ => pts_nil)
          (fun _ _ _ _ _ => pe_useG R hr hg rfl (pa_cons (pe_use D hr1 rfl (pa_cons (pv 0) (pa_cons (pv 1) pa_nil))) pa_nil))) pa_nil)))), ?_⟩
    refine ⟨_, rfl, a, _, rfl, .inl hs, _, _, rfl, _, _, rfl, ?_⟩
    generalize hN : (ns.map V.int).length = n
    have hb : ∀ r : Int, r = (if (if (5 : Int) < (n : Int) then (5 : Int) else (n : Int)) > 1 then (if (5 : Int) < (n : Int) then (5 : Int) else (n : Int)) else 1) → 0 ≤ r ∧ r ≤ 5 := by
      intro r e
      subst e
      split <;> split <;> omega
    obtain ⟨r0, r3⟩ := hb _ rfl
    generalize (if (if (5 : Int) < (n : Int) then (5 : Int) else (n : Int)) > 1 then (if (5 : Int) < (n : Int) then (5 : Int) else (n : Int)) else 1) = r at r0 r3 ⊢
    refine ⟨r, rfl, Int.le_trans (by decide) r0, Int.lt_of_le_of_lt r3 (by decide), fun D0 hD => ?_⟩
    refine lc_range (lo := 0) (n := r.toNat) (fun i H' => Same H H' ∧ H' D0 = some (.lst ((List.replicate i true).map V.bl))) ⟨same_upd hD, upd_same⟩ ?_ ?_
    · rintro i H5 hi ⟨s5, hD5⟩
      refine ⟨rfl, tYes_at ?_⟩
      refine ⟨_, rfl, _, rfl, a, ns, _, rfl, SqL.ext hs s5, by omega, fun p x y hx hp => ?_⟩
      refine ⟨p, rfl, ⟨x, y, upd_same, hx⟩, fun H7 s7 => ?_⟩
      have nDp : D0 ≠ p := ne_of_none hD5 hp
      have hD7 := s7.keep D0 _ nDp (by rw [upd_ne nDp]; exact hD5)
      refine ⟨_, hD7, ?_, fun b o e => ?_, ?_⟩
      · rw [List.length_map, List.length_replicate]
        exact Nat.lt_of_le_of_lt (show i ≤ 1000 by omega) (by decide)
      · have e5 := s5 _ _ e
        have n1 : b ≠ p := ne_of_none e5 hp
        have n2 : b ≠ D0 := ne_of_none e hD
        rw [upd_ne n2]
        exact s7.keep b o n1 (by rw [upd_ne n1]; exact e5)
      · rw [upd_same, List.replicate_succ', List.map_append]
        rfl
    · rintro H' ⟨s5, hD5⟩
      refine ⟨D0, List.replicate r.toNat true, rfl, SqL.of hD5, ?_⟩
      rw [all_true]
      exact q _
end
end La
/-! What the text's top leaves behind, as tests of the written part of the heap. -/
namespace Hd
open PySem PySem.Spec PyProof.Rows L2 Ow Rm Ra La
abbrev Fr := PySem.W.Frag
abbrev Ask := Fr → Bool
/-- the tests' answers, what stands at each def -/
def look (cs : List Ask) (ds : List He5.DefA) (K : Fr) : He.AlD := (cs.all (fun c => c K) && ds.all (fun d => d.ok K), ds.map (fun d => He5.fnA K (d.at_ K)))
def good (ds : List He5.DefA) : He.AlD := (true, ds.map (fun d => d.val))
def Says (cs : List Ask) (ds : List He5.DefA) (K : Fr) : Prop := look cs ds K = good ds
def lookG (n : Nat) (cs : List Ask) (ds : List He5.DefA) (g : Addr → Option Obj) : He.AlD := look cs ds (He.frG g (He5.asA g n))
def hkOf (n : Nat) (cs : List Ask) (ds : List He5.DefA) : PySem.W.Hook :=
  { α := He.AlD, obs := fun s => lookG n cs ds s.heap.get?, val := fun _ => good ds, says := fun _ h => ∃ K : Fr, K.In h ∧ Says cs ds K,
    of := fun _ _ e => ⟨_, He.frG_in, e⟩, keeps := fun _ _ _ z k => z.elim fun K c => ⟨K, PySem.W.Frag.In.keeps c.1 k, c.2⟩ }
theorem lookG_eq {n : Nat} {cs : List Ask} {ds : List He5.DefA} {g : Addr → Option Obj} {s : Shared} (h : ∀ a, g a = s.heap.get? a) : lookG n cs ds g = (hkOf n cs ds).obs s := by
  rw [show g = s.heap.get? from funext h]
  rfl
theorem Says.ask {cs : List Ask} {ds : List He5.DefA} {K : Fr} (c : Says cs ds K) (i : Nat) {a : Ask} (h : cs[i]? = some a := by rfl) : a K = true := by
  have c1 := congrArg Prod.fst c
  exact List.all_eq_true.mp (He.ba c1).1 a (List.mem_of_getElem? h)
theorem Says.dfn {cs : List Ask} {ds : List He5.DefA} {K : Fr} (c : Says cs ds K) (i : Nat) {d : He5.DefA} (h : ds[i]? = some d := by rfl) : ∃ fd, FunD K d.name d.qual d.params d.body d.scope (d.dvs K) (d.kws K) (d.at_ K) fd := by
  have c1 := List.all_eq_true.mp (He.ba (congrArg Prod.fst c)).2 d (List.mem_of_getElem? h)
  have c2 : (ds.map (fun d => He5.fnA K (d.at_ K)))[i]? = (ds.map (fun d => d.val))[i]? := congrArg (fun z : He.AlD => z.2[i]?) c
  rw [List.getElem?_map, List.getElem?_map, h] at c2
  exact He5.DefA.funD (Option.some.inj c2) c1

/-! ### where things are -/
def ca (K : Fr) : Addr := He.ga K "Ratio"
def pa (x : Str) (K : Fr) : Addr := He.ma K (ca K) x
def geta (x : Str) (K : Fr) : Addr := match PySem.W.recIn K (pa x K) "property" with
  | some (.ref g :: _) => g
  | _ => 0
def aGlo (x : Str) : Ask := fun K => (He.Fa.glo x).ok K
def aFree (x : Str) : Ask := fun K => (He.Fa.free x).ok K
def aGcd : Ask := fun K => He.eqO (PySem.W.nsIn K mainGlobals "gcd") (some (some (.builtin "math.gcd")))
def aNum : Ask := fun K => PySem.W.selfFirst K (ca K) && (decide (PySem.W.subIn K (.type "int") (.ref (ca K)) = some false) && decide (PySem.W.subIn K (.ref (ca K)) (.type "int") = some false))
def aIs1 : Ask := fun K => He.eqO (PySem.W.findIn K (.ref (ca K)) "__class__") (some (some (.builtin "object.__class__"))) && (He.eqO (PySem.W.specialIn K (.builtin "object.__class__") "__get__") (some (some (.builtin "getset_descriptor.__get__"))) &&
  decide (PySem.W.takesIn K (.builtin "object.__class__") = some true))
def aIs2 : Ask := fun K => decide (PySem.W.mroIn K (ca K) (.type "object") = some true) && (decide (PySem.W.kitOne K (.ref (ca K)) (.ref (ca K)) = some true) && decide (PySem.W.kitOne K (.type "int") (.ref (ca K)) = some false))
def aPrp (x : Str) : Ask := fun K => He.eqO (PySem.W.findIn K (.ref (ca K)) x) (some (some (.ref (pa x K)))) && (He.eqO (PySem.W.specialIn K (.ref (pa x K)) "__get__") (some (some (.builtin "property.__get__"))) &&
  (decide (PySem.W.takesIn K (.ref (pa x K)) = some true) && (match PySem.W.recIn K (pa x K) "property" with
    | some (.ref _ :: _) => true
    | _ => false)))
def aOp (x : Str) : Ask := fun K => He.eqO (PySem.W.findIn K (.ref (ca K)) x) (some (some (.ref (pa x K)))) && PySem.W.isFn K (.ref (pa x K))
def aInt (x : Str) : Ask := fun K => (PySem.W.findIn K (.type "int") x).isSome
def ta (K : Fr) : Addr := He.ga K "Table"
def kb (t : Fr → Value) (c : Fr → Value) (b : Bool) : Ask := fun K => decide (PySem.W.kitOne K (t K) (c K) = some b)
def vC : Fr → Value := fun K => .ref (ca K)
def vT : Fr → Value := fun K => .ref (ta K)
def vB (n : String) : Fr → Value := fun _ => .type n
def aT1 : Ask := fun K => He.eqO (PySem.W.findIn K (.ref (ta K)) "__class__") (some (some (.builtin "object.__class__"))) && decide (PySem.W.mroIn K (ta K) (.type "object") = some true)

section
variable {K : Fr}
theorem num_of (c : aNum K = true) : Num K (ca K) :=
  have h := He.ba c
  have h2 := He.ba h.2
  ⟨h.1, of_decide_eq_true h2.1, of_decide_eq_true h2.2⟩
theorem prp_of {x : Str} (c : aPrp x K = true) : PropOf K (ca K) x (pa x K) (geta x K) := by
  obtain ⟨h1, h⟩ := He.ba c
  obtain ⟨h2, h⟩ := He.ba h
  obtain ⟨h3, h4⟩ := He.ba h
  refine ⟨He.eqO_ok h1, He.eqO_ok h2, of_decide_eq_true h3, ?_⟩
  unfold geta
  split at h4
  · rename_i g r e
    exact ⟨r, by rw [e]⟩
  · exact nomatch h4
theorem op_of {x : Str} (c : aOp x K = true) : OpOf K (ca K) x (pa x K) := ⟨He.eqO_ok (He.ba c).1, (He.ba c).2⟩
theorem int_of {x : Str} (c : aInt x K = true) : ∃ v, PySem.W.findIn K (.type "int") x = some v := Option.isSome_iff_exists.mp c
theorem kb_of {t c : Fr → Value} {b : Bool} (h : kb t c b K = true) : PySem.W.kitOne K (t K) (c K) = some b := of_decide_eq_true h
end
/-! ### the defs, where they stand -/
def gD (x : Str) (st : Stmt) : He5.DefA := ⟨fun K => He.ga K x, x, x, defArgs st, defBody st, defScope st, [], []⟩
def mD (x q : Str) (st : Stmt) : He5.DefA := ⟨pa x, x, q, defArgs st, defBody st, defScope st, [], []⟩
def pD (x q : Str) (st : Stmt) : He5.DefA := ⟨geta x, x, q, defArgs st, defBody st, defScope st, [], []⟩
def ds : List He5.DefA := [
  gD "is_integer" sIsInt, gD "is_count" sCount, gD "is_number" sNumber, gD "is_name" sName, gD "as_ratio" sAsRatio,
  ⟨pa "__init__", "__init__", "Ratio.__init__", defArgs sInit, defBody sInit, defScope sInit, [.int 1], []⟩, pD "top" "Ratio.top" sTop, pD "bottom" "Ratio.bottom" sBottom, pD "sign" "Ratio.sign" sSign, mD "__add__" "Ratio.__add__" sAdd,
  mD "__sub__" "Ratio.__sub__" sSub, mD "__neg__" "Ratio.__neg__" sNeg, mD "is_below" "Ratio.is_below" sBelow, mD "__str__" "Ratio.__str__" sStr, gD "check_many" sMany,
  gD "check_points" sCheck, ⟨fun K => He.ma K (ta K) "__init__", "__init__", "Table.__init__", defArgs sTInit, defBody sTInit, defScope sTInit, [], []⟩, gD "_law_pot" sPot, gD "_law_draw" sDraw, gD "_law_pick" sPick,
  gD "_law_word" sWord, gD "_law_bent" sBent, gD "_law_is_name" sIsName, gD "_law_told" sTold, gD "_law_integer_right" sIntR,
  gD "_law_odd_right" sOddR, gD "_law_right" sRight, gD "law" sLaw]
def cs : List Ask := [
  aGlo "is_integer", aGlo "is_count", aGlo "is_number", aGlo "is_name", aGlo "as_ratio", aGlo "Ratio",
  aGlo "check_many", aGlo "check_points", aGlo "Table", aGlo "_law_pot", aGlo "_law_draw", aGlo "_law_pick",
  aGlo "_law_word", aGlo "_law_bent", aGlo "_law_is_name", aGlo "_law_told", aGlo "_law_integer_right", aGlo "_law_odd_right",
  aGlo "_law_right", aGlo "law", aFree "isinstance", aFree "int", aFree "bool", aFree "str",
  aFree "len", aFree "abs", aFree "max", aFree "min", aFree "divmod", aFree "range",
  aFree "all", aFree "zip", aFree "repr", aFree "enumerate", aGcd, fun K => (He.Fa.cls "Ratio").ok K,
  fun K => (He.Fa.noat "Ratio" "_top").ok K, fun K => (He.Fa.noat "Ratio" "_bottom").ok K, fun K => (He.Fa.mkr "Ratio").ok K, aNum, aIs1, aIs2,
  fun K => (He.Fa.meth "Ratio" "is_below").ok K, aPrp "top", aPrp "bottom", aPrp "sign", aOp "__add__", aOp "__radd__",
  aOp "__sub__", aOp "__rsub__", aOp "__neg__", aOp "__str__", aInt "__add__", aInt "__radd__",
  aInt "__sub__", aInt "__rsub__", fun K => (He.Fa.str "LETTERS" "abcdefghijklmnopqrstuvwxyz").ok K, fun K => (He.Fa.int "LONGEST_NAME" 8).ok K, fun K => (He.Fa.int "PLACES" 5).ok K, fun K => (He.Fa.cls "Table").ok K,
  fun K => (He.Fa.noat "Table" "_points").ok K, fun K => (He.Fa.mkr "Table").ok K, aT1, kb (vB "str") vC false, kb vC (vB "int") false, kb vC (vB "bool") false,
  kb vC (vB "str") false, kb (vB "list") vC false, kb (vB "tuple") vC false, kb (vB "dict") vC false, kb (vB "NoneType") vC false, kb (vB "bool") vC false,
  kb vT (vB "int") false, kb vT (vB "bool") false, kb vT (vB "str") false, kb vT vC false]
end Hd
namespace Hd
open PySem PySem.Spec PyProof.Rows L2 Ow Rm Ra La
section
variable {P : Program} {w : World} {K : Fr} {h : Heap} {mg : Str → Option Value} {f : Addr}
theorem kb_plain {K : PySem.W.Frag} {x qual : Str} {pa : Arguments} {bd : List Stmt} {sc : Scope} {kws : List (Str × V)} {f : Addr} {fd : FuncData} {ps : List Str} (F : FunD K x qual pa bd sc [] kws f fd) (n : Nat) (ks : List Str)
    (h : ∀ (kV doc pm : Value) (an : Option Addr) (cdv ct : Value) (us ws : List Value), us.length = n → ws.length = ks.length → bindArgs (PySem.W.fnOf x qual pa bd sc .none kV doc pm an cdv ct) ⟨us, ks.zip ws⟩ = pure (ps.zip (us ++ ws))) :
    KBn K fd ps n ks (fun us ws => us ++ ws) (fun vs zs => vs ++ zs) := by
  obtain ⟨oc, od, dV, kV, doc, pm, an, cdv, ct, osl, rfl, lk, hcd, hD, hK⟩ := F.ex
  rcases hD with ⟨_, rfl⟩ | ⟨e, _⟩
  · exact ⟨fun s us ws _ l1 l2 => .of_eq (h kV doc pm an cdv ct us ws l1 l2), fun a b => a.append b⟩
  · exact absurd rfl e
/-- Ratio(bottom=.., top=..): the parameters' order -/
def mix {α : Type} (us its ws : List α) : List α := match us, ws with
  | [a], [b, c] => [a, c, b]
  | _, _ => []
theorem mix_ok {vs ds zs : List V} {us its ws : List Value} (h1 : Vals vs us) (h2 : Vals ds its) (h3 : Vals zs ws) : Vals (mix vs ds zs) (mix us its ws) := by
  cases h1 with
  | nil => exact .nil
  | cons a r1 => cases r1 with
    | cons _ _ => exact .nil
    | nil => cases h3 with
      | nil => exact .nil
      | cons b r3 => cases r3 with
        | nil => exact .nil
        | cons c r4 => cases r4 with
          | cons _ _ => exact .nil
          | nil => exact .cons a (.cons c (.cons b .nil))
theorem facts (X : K.In h) (G : h.Ns mainGlobals mg) (hfa : mg ("law" : Str) = some (.ref f)) (c : Says cs ds K) :
    ∃ fd : FuncData, (∀ (s : Shared) (v : Value), BindsTo s fd ⟨[v], []⟩ [("_law_script", v)]) ∧ ∀ base : Heap, K.In base → base.Ns mainGlobals mg → FnG P w K mg base CX0 13 f fd ["_law_script"] (spLaw K) := by
  obtain ⟨fd0, F0⟩ := c.dfn 0 rfl
  have F0 : FnP K "is_integer" "is_integer" sIsInt [] (He.ga K "is_integer") fd0 := F0
  obtain ⟨fd1, F1⟩ := c.dfn 1 rfl
  have F1 : FnP K "is_count" "is_count" sCount [] (He.ga K "is_count") fd1 := F1
  obtain ⟨fd2, F2⟩ := c.dfn 2 rfl
  have F2 : FnP K "is_number" "is_number" sNumber [] (He.ga K "is_number") fd2 := F2
  obtain ⟨fd3, F3⟩ := c.dfn 3 rfl
  have F3 : FnP K "is_name" "is_name" sName [] (He.ga K "is_name") fd3 := F3
  obtain ⟨fd4, F4⟩ := c.dfn 4 rfl
  have F4 : FnP K "as_ratio" "as_ratio" sAsRatio [] (He.ga K "as_ratio") fd4 := F4
  obtain ⟨fd5, F5⟩ := c.dfn 5 rfl
  have F5 : FnP K "__init__" "Ratio.__init__" sInit [.int 1] (pa "__init__" K) fd5 := F5
  obtain ⟨fd6, F6⟩ := c.dfn 6 rfl
  have F6 : FnP K "top" "Ratio.top" sTop [] (geta "top" K) fd6 := F6
  obtain ⟨fd7, F7⟩ := c.dfn 7 rfl
  have F7 : FnP K "bottom" "Ratio.bottom" sBottom [] (geta "bottom" K) fd7 := F7
  obtain ⟨fd8, F8⟩ := c.dfn 8 rfl
  have F8 : FnP K "sign" "Ratio.sign" sSign [] (geta "sign" K) fd8 := F8
  obtain ⟨fd9, F9⟩ := c.dfn 9 rfl
  have F9 : FnP K "__add__" "Ratio.__add__" sAdd [] (pa "__add__" K) fd9 := F9
  obtain ⟨fd10, F10⟩ := c.dfn 10 rfl
  have F10 : FnP K "__sub__" "Ratio.__sub__" sSub [] (pa "__sub__" K) fd10 := F10
  obtain ⟨fd11, F11⟩ := c.dfn 11 rfl
  have F11 : FnP K "__neg__" "Ratio.__neg__" sNeg [] (pa "__neg__" K) fd11 := F11
  obtain ⟨fd12, F12⟩ := c.dfn 12 rfl
  have F12 : FnP K "is_below" "Ratio.is_below" sBelow [] (pa "is_below" K) fd12 := F12
  obtain ⟨fd13, F13⟩ := c.dfn 13 rfl
  have F13 : FnP K "__str__" "Ratio.__str__" sStr [] (pa "__str__" K) fd13 := F13
  obtain ⟨fd14, F14⟩ := c.dfn 14 rfl
  have F14 : FnP K "check_many" "check_many" sMany [] (He.ga K "check_many") fd14 := F14
  obtain ⟨fd15, F15⟩ := c.dfn 15 rfl
  have F15 : FnP K "check_points" "check_points" sCheck [] (He.ga K "check_points") fd15 := F15
  obtain ⟨fd16, F16⟩ := c.dfn 16 rfl
  have F16 : FnP K "__init__" "Table.__init__" sTInit [] (He.ma K (ta K) "__init__") fd16 := F16
  obtain ⟨fd17, F17⟩ := c.dfn 17 rfl
  have F17 : FnP K "_law_pot" "_law_pot" sPot [] (He.ga K "_law_pot") fd17 := F17
  obtain ⟨fd18, F18⟩ := c.dfn 18 rfl
  have F18 : FnP K "_law_draw" "_law_draw" sDraw [] (He.ga K "_law_draw") fd18 := F18
  obtain ⟨fd19, F19⟩ := c.dfn 19 rfl
  have F19 : FnP K "_law_pick" "_law_pick" sPick [] (He.ga K "_law_pick") fd19 := F19
  obtain ⟨fd20, F20⟩ := c.dfn 20 rfl
  have F20 : FnP K "_law_word" "_law_word" sWord [] (He.ga K "_law_word") fd20 := F20
  obtain ⟨fd21, F21⟩ := c.dfn 21 rfl
  have F21 : FnP K "_law_bent" "_law_bent" sBent [] (He.ga K "_law_bent") fd21 := F21
  obtain ⟨fd22, F22⟩ := c.dfn 22 rfl
  have F22 : FnP K "_law_is_name" "_law_is_name" sIsName [] (He.ga K "_law_is_name") fd22 := F22
  obtain ⟨fd23, F23⟩ := c.dfn 23 rfl
  have F23 : FnP K "_law_told" "_law_told" sTold [] (He.ga K "_law_told") fd23 := F23
  obtain ⟨fd24, F24⟩ := c.dfn 24 rfl
  have F24 : FnP K "_law_integer_right" "_law_integer_right" sIntR [] (He.ga K "_law_integer_right") fd24 := F24
  obtain ⟨fd25, F25⟩ := c.dfn 25 rfl
  have F25 : FnP K "_law_odd_right" "_law_odd_right" sOddR [] (He.ga K "_law_odd_right") fd25 := F25
  obtain ⟨fd26, F26⟩ := c.dfn 26 rfl
  have F26 : FnP K "_law_right" "_law_right" sRight [] (He.ga K "_law_right") fd26 := F26
  obtain ⟨fd27, F27⟩ := c.dfn 27 rfl
  have F27 : FnP K "law" "law" sLaw [] (He.ga K "law") fd27 := F27
  have gl : ∀ x : Str, aGlo x K = true → mg x = some (.ref (He.ga K x)) := fun x e => He.glo_ok X G e
  have fr : ∀ x : Str, aFree x K = true → mg x = none := fun x e => He.free_ok X G e
  have e := hfa.symm.trans (gl "law" (c.ask 19 rfl))
  cases e
  have is1 := He.ba (show (_ && _) = true from c.ask 40 rfl)
  have is2 := He.ba (show (_ && _) = true from c.ask 41 rfl)
  have t1 := He.ba (show (_ && _) = true from c.ask 62 rfl)
  have T : RT K mg (ca K) := ⟨He.cls_ok (c.ask 35 rfl), He.noat_ok (c.ask 36 rfl), He.noat_ok (c.ask 37 rfl), gl "Ratio" (c.ask 5 rfl), num_of (c.ask 39 rfl), He.eqO_ok is1.1, He.eqO_ok (He.ba is1.2).1, of_decide_eq_true (He.ba is1.2).2,
    of_decide_eq_true is2.1, of_decide_eq_true (He.ba is2.2).1, of_decide_eq_true (He.ba is2.2).2, fr _ (c.ask 20 rfl), fr _ (c.ask 21 rfl), fr _ (c.ask 22 rfl), fr _ (c.ask 23 rfl), PySem.W.mg_of X G (He.eqO_ok (c.ask 34 rfl))⟩
  have L : LT mg := ⟨fr _ (c.ask 24 rfl), fr _ (c.ask 25 rfl), fr _ (c.ask 26 rfl), fr _ (c.ask 27 rfl), fr _ (c.ask 21 rfl), fr _ (c.ask 28 rfl), fr _ (c.ask 29 rfl), fr _ (c.ask 30 rfl), fr _ (c.ask 31 rfl), fr _ (c.ask 32 rfl), fr _ (c.ask 23 rfl), fr _ (c.ask 20 rfl)⟩
  have KT1 : Ra.KT K mg (ca K) := ⟨kb_of (c.ask 63 rfl), kb_of (c.ask 64 rfl), kb_of (c.ask 65 rfl), kb_of (c.ask 66 rfl), fr _ (c.ask 24 rfl), fr _ (c.ask 30 rfl), He.str_ok X G (c.ask 56 rfl), He.int_ok X G (c.ask 57 rfl)⟩
  have W : KO K (ca K) := ⟨kb_of (c.ask 67 rfl), kb_of (c.ask 68 rfl), kb_of (c.ask 69 rfl), kb_of (c.ask 70 rfl), kb_of (c.ask 71 rfl)⟩
  have U : TT K mg (ta K) := ⟨He.cls_ok (c.ask 59 rfl), He.noat_ok (c.ask 60 rfl), gl "Table" (c.ask 8 rfl), fr _ (c.ask 24 rfl), fr _ (c.ask 29 rfl), He.int_ok X G (c.ask 58 rfl)⟩
  have V1 : TO K (ca K) (ta K) := ⟨kb_of (c.ask 72 rfl), kb_of (c.ask 73 rfl), kb_of (c.ask 74 rfl), kb_of (c.ask 75 rfl), He.eqO_ok t1.1, of_decide_eq_true t1.2⟩
  have b0 : Binds K fd0 ["value"] [] := F0.bindsN fun _ _ _ _ _ _ us hl => match us, hl with | [_], _ => rfl
  have b1 : Binds K fd1 ["value"] [] := F1.bindsN fun _ _ _ _ _ _ us hl => match us, hl with | [_], _ => rfl
  have b2 : Binds K fd2 ["value"] [] := F2.bindsN fun _ _ _ _ _ _ us hl => match us, hl with | [_], _ => rfl
  have b3 : Binds K fd3 ["value"] [] := F3.bindsN fun _ _ _ _ _ _ us hl => match us, hl with | [_], _ => rfl
  have b4 : Binds K fd4 ["value"] [] := F4.bindsN fun _ _ _ _ _ _ us hl => match us, hl with | [_], _ => rfl
  have b6 : Binds K fd6 ["self"] [] := F6.bindsN fun _ _ _ _ _ _ us hl => match us, hl with | [_], _ => rfl
  have b7 : Binds K fd7 ["self"] [] := F7.bindsN fun _ _ _ _ _ _ us hl => match us, hl with | [_], _ => rfl
  have b8 : Binds K fd8 ["self"] [] := F8.bindsN fun _ _ _ _ _ _ us hl => match us, hl with | [_], _ => rfl
  have b11 : Binds K fd11 ["self"] [] := F11.bindsN fun _ _ _ _ _ _ us hl => match us, hl with | [_], _ => rfl
  have b13 : Binds K fd13 ["self"] [] := F13.bindsN fun _ _ _ _ _ _ us hl => match us, hl with | [_], _ => rfl
  have b9 : Binds K fd9 ["self", "other"] [] := F9.bindsN fun _ _ _ _ _ _ us hl => match us, hl with | [_, _], _ => rfl
  have b10 : Binds K fd10 ["self", "other"] [] := F10.bindsN fun _ _ _ _ _ _ us hl => match us, hl with | [_, _], _ => rfl
  have b12 : Binds K fd12 ["self", "other"] [] := F12.bindsN fun _ _ _ _ _ _ us hl => match us, hl with | [_, _], _ => rfl
  have b14 : Binds K fd14 ["numbers"] [] := F14.bindsN fun _ _ _ _ _ _ us hl => match us, hl with | [_], _ => rfl
  have b15 : Binds K fd15 ["points"] [] := F15.bindsN fun _ _ _ _ _ _ us hl => match us, hl with | [_], _ => rfl
  have b17 : Binds K fd17 ["_law_script", "_law_k"] [] := F17.bindsN fun _ _ _ _ _ _ us hl => match us, hl with | [_, _], _ => rfl
  have b18 : Binds K fd18 ["_law_pot_here", "_law_many"] [] := F18.bindsN fun _ _ _ _ _ _ us hl => match us, hl with | [_, _], _ => rfl
  have b19 : Binds K fd19 ["_law_pot_here", "_law_some"] [] := F19.bindsN fun _ _ _ _ _ _ us hl => match us, hl with | [_, _], _ => rfl
  have b20 : Binds K fd20 ["_law_pot_here"] [] := F20.bindsN fun _ _ _ _ _ _ us hl => match us, hl with | [_], _ => rfl
  have b21 : Binds K fd21 ["_law_pot_here", "_law_word_here"] [] := F21.bindsN fun _ _ _ _ _ _ us hl => match us, hl with | [_, _], _ => rfl
  have b22 : Binds K fd22 ["_law_word_here"] [] := F22.bindsN fun _ _ _ _ _ _ us hl => match us, hl with | [_], _ => rfl
  have b23 : Binds K fd23 ["_law_thing"] [] := F23.bindsN fun _ _ _ _ _ _ us hl => match us, hl with | [_], _ => rfl
  have b24 : Binds K fd24 ["_law_pot_here"] [] := F24.bindsN fun _ _ _ _ _ _ us hl => match us, hl with | [_], _ => rfl
  have b25 : Binds K fd25 ["_law_pot_here"] [] := F25.bindsN fun _ _ _ _ _ _ us hl => match us, hl with | [_], _ => rfl
  have b26 : Binds K fd26 ["_law_pot_here"] [] := F26.bindsN fun _ _ _ _ _ _ us hl => match us, hl with | [_], _ => rfl
  have k0 := kb_plain (ps := ["value"]) F0 0 ["value"] fun kV doc pm an cdv ct us ws h1 h2 => match us, h1, ws, h2 with | [], _, [_], _ => rfl
  have k1 := kb_plain (ps := ["value"]) F1 0 ["value"] fun kV doc pm an cdv ct us ws h1 h2 => match us, h1, ws, h2 with | [], _, [_], _ => rfl
  have k2 := kb_plain (ps := ["value"]) F2 0 ["value"] fun kV doc pm an cdv ct us ws h1 h2 => match us, h1, ws, h2 with | [], _, [_], _ => rfl
  have k3 := kb_plain (ps := ["value"]) F3 0 ["value"] fun kV doc pm an cdv ct us ws h1 h2 => match us, h1, ws, h2 with | [], _, [_], _ => rfl
  have bL := FunD.bindsA (ps := ["_law_script"]) F27 fun _ _ _ _ _ _ us hl => match us, hl with | [_], _ => rfl
  refine ⟨fd27, fun s v => bL s [v] rfl, fun base _ _ => ?_⟩
  have dInt : Dfn P w K mg base 1 "is_integer" ["value"] (spInt K) := ⟨⟨_, fd0, ok_isint F0 T, gl _ (c.ask 0 rfl), F0.kp, b0⟩⟩
  have iN : FnOk P w K mg base CX0 2 (pa "__init__" K) fd5 ["self", "top", "bottom"] (spInit (ca K)) := ok_init F5 T dInt
  have M : RMk P w K mg base (ca K) := by
    obtain ⟨ds2, hv2, hb2⟩ := F5.binds1 (ps := ["self", "top", "bottom"]) 3 1 (by simp) rfl fun T kV doc pm an cdv ct us its h1 h2 => match us, h1, its, h2 with | [_, _, _], _, [_], _ => ⟨_, rfl, rfl⟩
    cases hv2
    obtain ⟨ds1, hv1, hb1⟩ := F5.binds1 (ps := ["self", "top", "bottom"]) 2 0 (by simp) rfl fun T kV doc pm an cdv ct us its h1 h2 => match us, h1, its, h2 with | [_, _], _, [_], _ => ⟨_, rfl, rfl⟩
    obtain ⟨its2, kb2⟩ := F5.kbindsD (ps := ["self", "top", "bottom"]) 1 ["bottom", "top"] mix (by simp) mix_ok fun T kV doc pm an cdv ct us its ws h1 h2 h3 => match us, h1, its, h2, ws, h3 with | [_], _, [_], _, [_, _], _ => ⟨_, rfl, rfl⟩
    exact ⟨⟨pa "__init__" K, fd5, He.mkr_ok (c.ask 38 rfl), iN, hb2, ⟨ds1, hv1, hb1⟩, _, _, kb2, fun _ _ _ => rfl⟩⟩
  have dAs : Dfn P w K mg base 4 "as_ratio" ["value"] (spAs (ca K)) := ⟨⟨_, fd4, ok_as F4 T M, gl _ (c.ask 4 rfl), F4.kp, b4⟩⟩
  have pT : Prp P w K mg base (ca K) "top" (spTop (ca K)) := ⟨⟨_, _, fd6, prp_of (c.ask 43 rfl), ok_top F6 T, b6⟩⟩
  have pB : Prp P w K mg base (ca K) "bottom" (spBottom (ca K)) := ⟨⟨_, _, fd7, prp_of (c.ask 44 rfl), ok_bottom F7 T, b7⟩⟩
  have pS : Prp P w K mg base (ca K) "sign" (spSign (ca K)) := ⟨⟨_, _, fd8, prp_of (c.ask 45 rfl), ok_sign F8 T, b8⟩⟩
  have oA : OpX P w K mg base (ca K) .Add 5 (spBin plus (ca K)) := ⟨⟨_, fd9, op_of (c.ask 46 rfl), ok_add F9 T M dAs pT pB, b9⟩, ⟨_, (op_of (x := "__radd__") (c.ask 47 rfl)).at_, .inr ⟨_, rfl⟩⟩, int_of (x := "__add__") (c.ask 52 rfl), int_of (x := "__radd__") (c.ask 53 rfl)⟩
  have oN : OpN P w K mg base (ca K) 4 (spNeg (ca K)) := ⟨⟨_, fd11, op_of (c.ask 50 rfl), ok_neg F11 T M, b11⟩⟩
  have oS : OpX P w K mg base (ca K) .Sub 6 (spBin minus (ca K)) := ⟨⟨_, fd10, op_of (c.ask 48 rfl), ok_sub F10 T oA oN dAs, b10⟩, ⟨_, (op_of (x := "__rsub__") (c.ask 49 rfl)).at_, .inr ⟨_, rfl⟩⟩, int_of (x := "__sub__") (c.ask 54 rfl), int_of (x := "__rsub__") (c.ask 55 rfl)⟩
  have sS : La.ShX P w K mg base (ca K) "__str__" txt := ⟨⟨_, fd13, op_of (c.ask 51 rfl), ok_str F13 T, b13⟩⟩
  have dNum : Dfn P w K mg base 2 "is_number" ["value"] (spKnd K (ca K) isN) := ⟨⟨_, fd2, ok_number F2 KT1 T dInt, gl _ (c.ask 2 rfl), F2.kp, b2⟩⟩
  have vI : Dfv P w K mg base 1 "is_integer" (spInt K) := ⟨⟨_, fd0, ok_isint F0 T, gl _ (c.ask 0 rfl), F0.kp, b0, k0⟩⟩
  have vC : Dfv P w K mg base 2 "is_count" (spKnd K (ca K) isC) := ⟨⟨_, fd1, ok_count F1 KT1 dInt, gl _ (c.ask 1 rfl), F1.kp, b1, k1⟩⟩
  have vN : Dfv P w K mg base 2 "is_number" (spKnd K (ca K) isN) := ⟨⟨_, fd2, ok_number F2 KT1 T dInt, gl _ (c.ask 2 rfl), F2.kp, b2, k2⟩⟩
  have vS : Dfv P w K mg base 1 "is_name" (spKnd K (ca K) isS) := ⟨⟨_, fd3, ok_name F3 KT1 T, gl _ (c.ask 3 rfl), F3.kp, b3, k3⟩⟩
  have four : Four P w K mg base (ca K) := ⟨vI, vC, vN, vS⟩
  have fB := ok_below (P := P) (w := w) (base := base) F12 T oS pS
  have dMany : Dfn P w K mg base 1 "check_many" ["numbers"] (spMany K) := ⟨⟨_, fd14, ok_many F14 U.len U.places, gl _ (c.ask 6 rfl), F14.kp, b14⟩⟩
  have dCheck : Dfn P w K mg base 8 "check_points" ["points"] (spCheck K) := ⟨⟨_, fd15, ok_check F15 T (fr _ (c.ask 33 rfl)) dMany dNum dAs pS (He.meth_ok (c.ask 42 rfl)) fB b12, gl _ (c.ask 7 rfl), F15.kp, b15⟩⟩
  have tM : TMk P w K mg base (ta K) := ⟨⟨_, He.mkr_ok (c.ask 61 rfl), ok_tinit F16 T U M dAs dCheck⟩⟩
  have dPot : Dfn P w K mg base 1 "_law_pot" ["_law_script", "_law_k"] (spPot K) := ⟨⟨_, fd17, ok_pot F17 L, gl _ (c.ask 9 rfl), F17.kp, b17⟩⟩
  have dDraw : Dfn P w K mg base 1 "_law_draw" ["_law_pot_here", "_law_many"] spDraw := ⟨⟨_, fd18, ok_draw F18 L, gl _ (c.ask 10 rfl), F18.kp, b18⟩⟩
  have dPick : Dfn P w K mg base 2 "_law_pick" ["_law_pot_here", "_law_some"] spPick := ⟨⟨_, fd19, ok_pick F19 L dDraw, gl _ (c.ask 11 rfl), F19.kp, b19⟩⟩
  have dPickS : Dfn P w K mg base 2 "_law_pick" ["_law_pot_here", "_law_some"] spPickS := ⟨⟨_, fd19, ok_pickS F19 L dDraw, gl _ (c.ask 11 rfl), F19.kp, b19⟩⟩
  have dWord : Dfn P w K mg base 3 "_law_word" ["_law_pot_here"] spWord := ⟨⟨_, fd20, ok_word F20 L dDraw dPick, gl _ (c.ask 12 rfl), F20.kp, b20⟩⟩
  have dBent : Dfn P w K mg base 3 "_law_bent" ["_law_pot_here", "_law_word_here"] spBent := ⟨⟨_, fd21, ok_bent F21 L dDraw dPickS, gl _ (c.ask 13 rfl), F21.kp, b21⟩⟩
  have dIsN : Dfn P w K mg base 1 "_law_is_name" ["_law_word_here"] spNm := ⟨⟨_, fd22, ok_isn F22 L, gl _ (c.ask 14 rfl), F22.kp, b22⟩⟩
  have dTold : Dfn P w K mg base 3 "_law_told" ["_law_thing"] (spTold K (ca K)) := ⟨⟨_, fd23, ok_told F23 KT1 four, gl _ (c.ask 15 rfl), F23.kp, b23⟩⟩
  have dIR : DfnG P w K mg base 4 "_law_integer_right" ["_law_pot_here"] spIR := ⟨⟨_, fd24, ok_ir F24 T L dDraw dPick W M dTold sS, gl _ (c.ask 16 rfl), F24.kp, b24⟩⟩
  have dOR : DfnG P w K mg base 11 "_law_odd_right" ["_law_pot_here"] spIR := ⟨⟨_, fd25, ok_or F25 T L W U V1 M tM dTold, gl _ (c.ask 17 rfl), F25.kp, b25⟩⟩
  have dRight : DfnG P w K mg base 12 "_law_right" ["_law_pot_here"] spIR := ⟨⟨_, fd26, ok_right F26 L W dWord dBent dTold dIsN dIR dOR, gl _ (c.ask 18 rfl), F26.kp, b26⟩⟩
  exact ok_law F27 L dPot dRight
end
end Hd
/-! The head of the row: its top run in the kernel. -/
namespace Hd
open PySem PySem.Spec PyProof.Rows L2
abbrev ORow : PySem.W.OpenRow := PySem.W.OpenLaw.row PySem.Challenge.rw_anypoints_k13_what_numbers_and_names_are
abbrev hk : PySem.W.Hook := hkOf 5 cs ds
def ob (s : PySem.W.SharedT) : He.AlD := lookG 5 cs ds (HandSHeadRun.getT s)
theorem ob_eq (s : PySem.W.SharedT) : ob s = hk.obs s.abs := lookG_eq (HandSHeadRun.getT_eq s)
def loose : List Str := (["_wall", "__name__", "PointsError", "InvalidNumber", "InvalidPoints", "InvalidPlace", "InvalidTable", "StateError", "DividedByZero", "LETTERS", "LONGEST_NAME", "is_integer", "is_count", "is_number", "is_name", "as_ratio"] : List Str) ++ (["Ratio", "PLACES", "is_place", "check_table", "check_many", "check_points", "Table", "_law_pot", "_law_draw", "_law_pick", "_law_word", "_law_bent", "_law_is_name", "_law_told", "_law_integer_right", "_law_odd_right", "_law_right"] : List Str)
end Hd
namespace Hd
open PySem PySem.Spec PyProof.Rows L2
abbrev qv : Program := PySem.W.view ORow.prog [0, 37]
theorem run (w : World) : HandSHeadRun.RunEqI ORow qv hk ob 30000 loose w := by
  unfold HandSHeadRun.RunEqI
  kernel_rfl
end Hd
open PySem PySem.W PySem.Calls PyProof.Rows
theorem PySem.Challenge.cw_anypoints_k13_what_numbers_and_names_are_holds : PySem.Challenge.rw_anypoints_k13_what_numbers_and_names_are.Holds := by
  w_on; o_law
  refine HandSHeadRun.head_imp (r := Hd.ORow) (q := Hd.qv) (H := Hd.hk) (ob := Hd.ob) (M := 30000) (loose := Hd.loose) (d := HandSHeadRun.topDef Hd.ORow.prog 37) (kwd := []) Hd.ob_eq Hd.run
    (by kernel_rfl) (by kernel_rfl) (by kernel_rfl) (by rfl) (by first | assumption | decide +kernel) (by decide +kernel) ⟨rfl, rfl, rfl, rfl, rfl, by decide +kernel⟩ ?hw ?hc
  case hw => w_witness2
  case hc =>
    refine Ow.walk_ofG (l := PySem.Challenge.rw_anypoints_k13_what_numbers_and_names_are) (n := 63) (k := 13) (x := "_law_script") (CX := L2.CX0) rfl (by decide) (by kernel_rfl) ⟨rfl, by decide, by decide⟩ ?F (fun _ _ _ _ z => z)
    intro w mg fa h Y G hmg0
    obtain ⟨K, KX, c⟩ := Y
    have hmg : mg ("law" : PySem.Str) = some (.ref fa) := by
      have e : (HandSHeadRun.topDef Hd.ORow.prog 37).name = ("law" : PySem.Str) := by kernel_rfl
      rw [← e]
      exact hmg0
    obtain ⟨fd, hb, hF⟩ := Hd.facts (P := (PySem.Challenge.rw_anypoints_k13_what_numbers_and_names_are).prog) (w := w) KX G hmg c
    exact ⟨K, fd, La.spLaw K, KX, hb, fun H a ns hl _ hS => ⟨a, ns, rfl, hl, hS, fun _ => rfl⟩, hF⟩
