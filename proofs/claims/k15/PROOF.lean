import PyProof.Rows.All
import Wide.All
import OpenK.AllK
import Wide.FinOn
import HandS.ForMost
import HandS.OwnEq
import KE.KOpsOwn
import PyProof.ListMulRight
import KE.KCallOwn
import PyProof.ReprRoads
import HandS.Defaults
import HandS.HeadHook2
import KE.GoesMore
import KE.GoesEnum
import PyProof.EnumMake
import PyProof.EnumFor
import PyProof.Draws
import HandS.Walk
import HandS.IsInst
import PyProof.InstEq
import HandS.Star
import HandS.Dict
import HandS.Strs
import HandS.Deep
import HandS.Property
import HandS.ClsMeth
import HandS.MakeKw
import HandS.Head0
import HandS.Head1
import HandS.Head2
import HandS.Head3
import HandS.HeadEnd
import HandS.HeadHook1
import HandS.HeadNt
import PyProof.ReprNest
import PyProof.ReprLoop
import PyProof.ReprHeads
import PyProof.ReprHeadsEmpty
import HandS.Style
import HandS.MakeKwOnly
import PyProof.ReprLen
import PyProof.StrLawsRepr
import PyProof.Rows.ReprOcc
import HandS.Gcd
import HandS.FStr
import HandS.Wide
import HandS.WideBits
import HandS.RaiseMore
import HandS.Text
import HandS.TupAny
import PyProof.ReprText
import HandS.NoneIn
import HandS.HeadHook3
import PySem.Challenge.RW_anypoints_k15_tables_told
set_option Elab.async false
set_option linter.all false
set_option maxRecDepth 100000
set_option maxHeartbeats 0
namespace Ow
open PySem PySem.Spec PyProof.Rows L2
open Builtin

theorem int_add_ref (C dx : Addr) (a : Int) (t : Tok) (l : Addr) :
    Meets (Builtin.«int.__add__» ⟨[.int a t, .ref l], []⟩) (fun _ R s => s.heap.get? l = some (PySem.W.instObj C dx) ∧ R (.ok (.ret Value.notImplemented)) s) :=
  .of_wp fun prog w A R s h => by obtain ⟨hp, g, d, tk, os⟩ := s; obtain ⟨hl, h⟩ := h; wp_walk; exact ⟨_, rfl, h⟩
theorem int_sub_ref (C dx : Addr) (a : Int) (t : Tok) (l : Addr) :
    Meets (Builtin.«int.__sub__» ⟨[.int a t, .ref l], []⟩) (fun _ R s => s.heap.get? l = some (PySem.W.instObj C dx) ∧ R (.ok (.ret Value.notImplemented)) s) :=
  .of_wp fun prog w A R s h => by obtain ⟨hp, g, d, tk, os⟩ := s; obtain ⟨hl, h⟩ := h; wp_walk; exact ⟨_, rfl, h⟩
theorem int_mul_ref (C dx : Addr) (a : Int) (t : Tok) (l : Addr) :
    Meets (Builtin.«int.__mul__» ⟨[.int a t, .ref l], []⟩) (fun _ R s => s.heap.get? l = some (PySem.W.instObj C dx) ∧ R (.ok (.ret Value.notImplemented)) s) :=
  .of_wp fun prog w A R s h => by obtain ⟨hp, g, d, tk, os⟩ := s; obtain ⟨hl, h⟩ := h; wp_walk; exact ⟨_, rfl, h⟩

section
variable {prog : Program} {w : World} {A : Around} {E : Value → Shared → Prop} {s : Shared} {K : PySem.W.Frag} {x C f : Addr} {ox : Obj} {od : Option Obj}

open PySem.W in
/-- int op instance: the int declines, the class's reflected method takes it -/
theorem bin_rint {op : Operator} {id : String} {i : Int} {t : Tok} {Q : Value → Shared → Prop} (X : K.In s.heap) (I : InstAt s.heap x ox C od) (hc : selfFirst K C = true)
    (hfT : fillsNumberSlot (.type "int") op.info.2 = pure true)
    (hl : Slot "int" (PySem.dunder op.info.2) id)
    (hs : findIn K (.ref C) (PySem.dunder op.info.2) = some (some (.ref f))) 
    {g : Addr} (hg : findIn K (.ref C) (dunderR op.info.2) = some (some (.ref g))) (hfg : isFn K (.ref g) = true)
    (hsub : subIn K (.ref C) (.type "int") = some false)
    (hd : wpAny (model prog w) A (call (.builtin id) [.int i t, .ref x]) (fun v s' => v = .notImplemented ∧ s' = s) E s)
    (h : wpAny (model prog w) A (call (.ref g) [.ref x, .int i t]) (PySem.W.CmpBack Q) E s) : wpAny (model prog w) A (binaryOp op (.int i t) (.ref x)) Q E s := by
  obtain ⟨cd, rest, hcd, hm⟩ := ksp_first hc
  rcases hi : op.info with ⟨sym, nm'⟩
  rw [hi] at hfT hl hs hg
  dsimp only at hfT hl hs hg
  have one := ksp_try X I hg hfg h
  have L1 : Looks (model prog w) s.heap (typeOf (.ref x)) (.ref C) := I.type
  have L3 : Looks (model prog w) s.heap (fillsNumberSlot (.ref C) nm') true := fills_K X hcd hm hs
  have L5 : Looks (model prog w) s.heap (isSubtype (.ref C) (.type "int")) false := looks_subIn X hsub
  have hne : (Value.type "int" == Value.ref C) = false := Bool.eq_false_iff.mpr fun q => by cases beq_iff_eq.mp q
  simp only [binaryOp, hi]
  refine wpAny_holding (wpAny_bind ?_)
  unfold binaryOp1
  refine wpAny_bind (wpAny_typeOf (typeIs_int _ _ _) (wpAny_bind (L1.here (wpAny_bind (wpAny_of_eq hfT ?_)))))
  simp only [hne, Bool.false_eq_true, if_false]
  refine wpAny_bind (L3.here ?_)
  simp only [Bool.and_self, if_true]
  refine wpAny_bind (L5.here ?_)
  have hpy : numberSlotInPython (.type "int") nm' = pure false := rfl
  simp only [Bool.false_eq_true, if_false, pure_bind, Bool.not_false, Bool.and_self, if_true, hpy]
  refine wpAny_bind (wpAny_tryMethod_declines (typeIs_int _ _ _) hl (wpAny_mono hd (fun v s' q => ⟨q.1, ?_⟩) fun _ _ e => e))
  obtain ⟨_, rfl⟩ := q
  refine wpAny_bind (wpAny_mono one (fun r s2 z => ?_) fun _ _ e => e)
  obtain ⟨v, rfl, hq⟩ := z
  refine wpAny_bind (wpAny_rule (wpAny_pure ?_))
  exact wpAny_pure hq
end
end Ow
namespace Ow
open PySem PySem.Spec PyProof.Rows L2

/-- the class at C has the operator nm as a def of its own, at f -/
structure OpOf (K : PySem.W.Frag) (C : Addr) (nm : Str) (f : Addr) : Prop where
  at_ : PySem.W.findIn K (.ref C) nm = some (some (.ref f))
  fn : PySem.W.isFn K (.ref f) = true
/-- it stands ahead of builtins, of int -/
structure Num (K : PySem.W.Frag) (C : Addr) : Prop where
  sf : PySem.W.selfFirst K C = true
  ic : PySem.W.subIn K (.type "int") (.ref C) = some false
  ci : PySem.W.subIn K (.ref C) (.type "int") = some false

theorem back {Q : Value → Shared → Prop} {v : V} {u : Value} {s : Shared} (r : RelV v u) (q : Q u s) : PySem.W.CmpBack Q u s := by
  cases v <;> (try (obtain ⟨t, r⟩ := r)) <;> (try cases r) <;> exact q

section
variable {X : Cx} {CX : CXT} {k : Nat} {C f : Addr} {fd : FuncData} {ps : List Str} {sp : Sp} {E : XK} {dvs : List V} {ds : List Value}

/-- x op y, both instances of C -/
def rOwn (C : Addr) (sp : Sp) (E : XK) : R2 := fun x y H Q => ∃ a dx fs b dy gs, x = .ref a ∧ H a = some (.ins C dx fs) ∧ y = .ref b ∧ H b = some (.ins C dy gs) ∧ sp [.ref a, .ref b] H Q E
/-- x op i -/
def rOwnI (C : Addr) (sp : Sp) (E : XK) : R2 := fun x y H Q => ∃ a dx fs i, x = .ref a ∧ H a = some (.ins C dx fs) ∧ y = .int i ∧ sp [.ref a, .int i] H Q E
/-- i op x -/
def rIOwn (C : Addr) (sp : Sp) (E : XK) : R2 := fun x y H Q => ∃ a dx fs i, y = .ref a ∧ H a = some (.ins C dx fs) ∧ x = .int i ∧ sp [.ref a, .int i] H Q E

theorem run_back {pins : List (Addr × Obj)} {σ : L2.St} {H : Hp} {s : Shared} {Q : VK} {us : List Value} {vs : List V} (F : FnOk X.prog X.w X.K X.mg X.base CX k f fd ps sp) (hr : Room k X.A) (hb : Binds X.K fd ps []) (hx : Passes CX X E)
    (I : Inv X pins σ H s) (r : Vals vs us) (h : sp vs H Q E) : wpAny (model X.prog X.w) X.A (call (.ref f) us) (PySem.W.CmpBack (EP X pins σ Q)) X.xe s := by
  refine wpAny_mono (run_fn (dvs := []) (ds := []) F hr hb .nil hx I r (by rw [List.append_nil]; exact h)) (fun u s' q => ?_) fun _ _ e => e
  obtain ⟨v, H', I', rv, q'⟩ := id q
  exact back rv q

theorem inst_of {pins : List (Addr × Obj)} {σ : L2.St} {H : Hp} {s : Shared} {a dx : Addr} {fs : List (Str × V)} (I : Inv X pins σ H s) (ea : H a = some (.ins C dx fs)) :
    ∃ od, PySem.W.InstAt s.heap a (PySem.W.instObj C dx) C (some od) := by
  obtain ⟨mA, O, _, _, _, _⟩ := ins_get I.hok ea
  obtain ⟨od, J, _⟩ := O.look
  exact ⟨od, J⟩

theorem op_own {op : Operator} (n : PySem.W.selfFirst X.K C = true) (o : OpOf X.K C (PySem.dunder op.info.2) f) (F : FnOk X.prog X.w X.K X.mg X.base CX k f fd ps sp) (hr : Room k X.A) (hb : Binds X.K fd ps []) (hx : Passes CX X E) :
    OpR X (binaryOp op) (rOwn C sp E) := by
  intro pins s σ H x y u v Q I rx ry hq
  obtain ⟨a, dx, fs, b, dy, gs, rfl, ea, rfl, eb, q⟩ := hq
  cases rx
  cases ry
  obtain ⟨od, J⟩ := inst_of I ea
  obtain ⟨od', J'⟩ := inst_of I eb
  obtain ⟨m, hF⟩ := I.fr
  exact PySem.W.binop_K hF I.ok.mod.kin J J'.type n o.at_ o.fn (run_back (vs := [.ref a, .ref b]) F hr hb hx I (.cons rfl (.cons rfl .nil)) q)

theorem op_ownI {op : Operator} {fo ro rc : Option Value} (n : Num X.K C) (o : OpOf X.K C (PySem.dunder op.info.2) f) (F : FnOk X.prog X.w X.K X.mg X.base CX k f fd ps sp) (hr : Room k X.A) (hb : Binds X.K fd ps []) (hx : Passes CX X E)
    (hrf : PySem.W.findIn X.K (.ref C) (dunderR op.info.2) = some rc) (hp : rc = none ∨ ∃ g : Addr, rc = some (.ref g))
    (h1 : PySem.W.findIn X.K (.type "int") (PySem.dunder op.info.2) = some fo) (h2 : PySem.W.findIn X.K (.type "int") (dunderR op.info.2) = some ro) :
    OpR X (binaryOp op) (rOwnI C sp E) := by
  intro pins s σ H x y u v Q I rx ry hq
  obtain ⟨a, dx, fs, i, rfl, ea, rfl, q⟩ := hq
  cases rx
  obtain ⟨t, rfl⟩ := ry
  obtain ⟨od, J⟩ := inst_of I ea
  obtain ⟨m, hF⟩ := I.fr
  exact PySem.W.ksp_binT (T := "int") hF I.ok.mod.kin J rfl n.sf o.at_ o.fn hrf hp h1 h2 n.ic (run_back (vs := [.ref a, .int i]) F hr hb hx I (.cons rfl (.cons ⟨t, rfl⟩ .nil)) q)

theorem op_Iown {op : Operator} {id : String} {g : Addr} {gd : FuncData} (n : Num X.K C) (o : OpOf X.K C (PySem.dunder op.info.2) f) (og : OpOf X.K C (dunderR op.info.2) g) (F : FnOk X.prog X.w X.K X.mg X.base CX k g gd ps sp) (hr : Room k X.A) (hb : Binds X.K gd ps []) (hx : Passes CX X E)
    (hfT : fillsNumberSlot (.type "int") op.info.2 = pure true) (hl : Slot "int" (PySem.dunder op.info.2) id)
    (hd : ∀ (s : Shared) (a dx : Addr) (i : Int) (t : Tok), s.heap.get? a = some (PySem.W.instObj C dx) → wpAny (model X.prog X.w) X.A (call (.builtin id) [.int i t, .ref a]) (fun v s' => v = .notImplemented ∧ s' = s) X.xe s) :
    OpR X (binaryOp op) (rIOwn C sp E) := by
  intro pins s σ H x y u v Q I rx ry hq
  obtain ⟨a, dx, fs, i, rfl, ea, rfl, q⟩ := hq
  cases ry
  obtain ⟨t, rfl⟩ := rx
  obtain ⟨od, J⟩ := inst_of I ea
  obtain ⟨mA, O, _, _, _, _⟩ := ins_get I.hok ea
  exact bin_rint I.kIn J n.sf hfT hl o.at_ og.at_ og.fn n.ci (hd s a dx i t O.obj) (run_back (vs := [.ref a, .int i]) F hr hb hx I (.cons rfl (.cons ⟨t, rfl⟩ .nil)) q)

theorem decl_add {X : Cx} {C : Addr} (s : Shared) (a dx : Addr) (i : Int) (t : Tok) (h : s.heap.get? a = some (PySem.W.instObj C dx)) : wpAny (model X.prog X.w) X.A (call (.builtin "int.__add__") [.int i t, .ref a]) (fun v s' => v = .notImplemented ∧ s' = s) X.xe s :=
  call_meets F.slot_int_add (typeIs_int s i t) F.entry_int_add (F.args_int_add_2 _ _) (int_add_ref C dx i t a) ⟨h, rfl, rfl⟩
theorem decl_sub {X : Cx} {C : Addr} (s : Shared) (a dx : Addr) (i : Int) (t : Tok) (h : s.heap.get? a = some (PySem.W.instObj C dx)) : wpAny (model X.prog X.w) X.A (call (.builtin "int.__sub__") [.int i t, .ref a]) (fun v s' => v = .notImplemented ∧ s' = s) X.xe s :=
  call_meets F.slot_int_sub (typeIs_int s i t) F.entry_int_sub (F.args_int_sub_2 _ _) (int_sub_ref C dx i t a) ⟨h, rfl, rfl⟩
theorem decl_mul {X : Cx} {C : Addr} (s : Shared) (a dx : Addr) (i : Int) (t : Tok) (h : s.heap.get? a = some (PySem.W.instObj C dx)) : wpAny (model X.prog X.w) X.A (call (.builtin "int.__mul__") [.int i t, .ref a]) (fun v s' => v = .notImplemented ∧ s' = s) X.xe s :=
  call_meets F.slot_int_mul (typeIs_int s i t) F.entry_int_mul (F.args_int_mul_2 _ _) (int_mul_ref C dx i t a) ⟨h, rfl, rfl⟩

/-- - x -/
def rNegOwn (C : Addr) (sp : Sp) (E : XK) : V → Hp → VK → Prop := fun x H Q => ∃ a dx fs, x = .ref a ∧ H a = some (.ins C dx fs) ∧ sp [.ref a] H Q E
theorem un_own (o : OpOf X.K C "__neg__" f) (F : FnOk X.prog X.w X.K X.mg X.base CX k f fd ps sp) (hr : Room k X.A) (hb : Binds X.K fd ps []) (hx : Passes CX X E) : UnR X (unaryOp .USub) (rNegOwn C sp E) := by
  intro pins s σ H x u Q I rx hq
  obtain ⟨a, dx, fs, rfl, ea, q⟩ := hq
  cases rx
  obtain ⟨od, J⟩ := inst_of I ea
  obtain ⟨m, hF⟩ := I.fr
  exact PySem.W.ksp_neg hF I.ok.mod.kin J o.at_ o.fn (run_fn (vs := [.ref a]) (dvs := []) (ds := []) F hr hb .nil hx I (.cons rfl .nil) q)
end
end Ow
namespace Ow
open PySem PySem.Spec PyProof.Rows L2

section
variable {X : Cx} {CX : CXT} {k : Nat} {C f : Addr} {fd : FuncData} {ps : List Str} {sp : Sp} {E : XK}

/-- a callee run from within a built-in: an around with the same frames -/
theorem run_in {A : Around} {pins : List (Addr × Obj)} {σ : L2.St} {H : Hp} {s : Shared} {Q : VK} {us : List Value} {vs : List V} (F : FnOk X.prog X.w X.K X.mg X.base CX k f fd ps sp) (hr : Room k A) (hf : A.frames = X.A.frames) (hb : Binds X.K fd ps []) (hx : Passes CX X E)
    (I : Inv X pins σ H s) (r : Vals vs us) (h : sp vs H Q E) : wpAny (model X.prog X.w) A (call (.ref f) us) (EP X pins σ Q) X.xe s := by
  have hl : us.length = ps.length := by rw [← r.length]; exact F.len _ _ _ _ h
  have e0 := I.env0
  have e1 : Env0 X.prog X.w X.K X.mg X.base A X.stack s H := ⟨hf.trans e0.frames, e0.mod, e0.bs, e0.bsz, e0.funs, e0.frf, e0.hok, e0.bare⟩
  have b := hb s us I.kIn (by rw [List.append_nil]; exact hl)
  rw [List.append_nil] at b
  refine wpAny_call (codeAny_mono (F.run A X.stack s H ⟨us, []⟩ us vs Q E hr e1 b r h) fun res s' hq => ?_)
  cases res with
  | error err => exact hx pins σ H s err s' I hq
  | ok fl => cases fl with
    | ret u => exact I.after hq
    | next => exact hq.elim
    | brk => exact hq.elim
    | cont => exact hq.elim

/-- repr(x), str(x) of an instance: its own def, which tells a text -/
def rShow (C : Addr) (sp : Sp) (E : XK) : List V → Hp → VK → Prop := fun vs H Q => ∃ a dx fs, vs = [.ref a] ∧ H a = some (.ins C dx fs) ∧ sp [.ref a] H (fun v H' => ∃ z, v = .str z ∧ Q (.str z) H') E

theorem shown_back {pins : List (Addr × Obj)} {σ : L2.St} {Q : VK} {u : Value} {s' : Shared} (h : EP X pins σ (fun v H' => ∃ z, v = .str z ∧ Q (.str z) H') u s') : PySem.W.StrBack (EP X pins σ Q) u s' := by
  obtain ⟨v, H', I', rv, z, rfl, q⟩ := h
  obtain ⟨t, rfl⟩ := rv
  exact ⟨.str z, H', I', ⟨t, rfl⟩, q⟩

theorem call_repr_own (o : OpOf X.K C "__repr__" f) (F : FnOk X.prog X.w X.K X.mg X.base CX k f fd ps sp) (hr : Room (k + 1) X.A) (hb : Binds X.K fd ps []) (hx : Passes CX X E) : CallR X (.builtin "repr") (rShow C sp E) := by
  intro pins s σ H vs us Q I r hq
  obtain ⟨a, dx, fs, rfl, ea, q⟩ := hq
  obtain ⟨u, rfl, ru⟩ := vals1 r
  cases ru
  obtain ⟨od, J⟩ := inst_of I ea
  obtain ⟨m, hF⟩ := I.fr
  exact PySem.W.repr_K hr.in1.units0 hF I.ok.mod.kin J o.at_ o.fn (wpAny_mono (run_in (vs := [.ref a]) F hr.in1 rfl hb hx I (.cons rfl .nil) q) (fun _ _ z => shown_back z) fun _ _ e => e)

theorem call_str_own (o : OpOf X.K C "__str__" f) (F : FnOk X.prog X.w X.K X.mg X.base CX k f fd ps sp) (hr : Room (k + 2) X.A) (hb : Binds X.K fd ps []) (hx : Passes CX X E) : CallR X (.type "str") (rShow C sp E) := by
  intro pins s σ H vs us Q I r hq
  obtain ⟨a, dx, fs, rfl, ea, q⟩ := hq
  obtain ⟨u, rfl, ru⟩ := vals1 r
  cases ru
  obtain ⟨od, J⟩ := inst_of I ea
  exact PySem.W.kso_call hr.in1.in1.units0 I.kIn J o.at_ o.fn (wpAny_mono (run_in (vs := [.ref a]) F hr.in1.in1 rfl hb hx I (.cons rfl .nil) q) (fun _ _ z => shown_back z) fun _ _ e => e)

/-- repr of data, where nothing is being shown -/
def rData (K : PySem.W.Frag) : List V → Hp → VK → Prop := fun vs H Q => ∃ a d, vs = [.ref a] ∧ Dp K H (.ref a) d ∧ d.showable = true ∧ d.hasDict = false ∧ d.depth ≤ 20 ∧ d.shown.length ≤ sizeLine ∧ Q (.str d.shown) H
theorem call_repr_data (hg : X.A.guards = some []) (hr : Room 0 X.A) : CallR X (.builtin "repr") (rData X.K) := by
  intro pins s σ H vs us Q I r hq
  obtain ⟨a, d, rfl, hd, hs, hn, hdp, hz, q⟩ := hq
  obtain ⟨u, rfl, ru⟩ := vals1 r
  obtain ⟨as, rd⟩ := Dp.reads I d _ _ hd ru
  cases ru
  have hu := hr.units
  exact repr_of_reads' rd hs (PyData.noDict_hsm hn) hg (by omega) (fun _ _ e => e) (fun h' u tk hk => ⟨.str d.shown, H, I.kept hk, ⟨u, rfl⟩, q⟩) hz
end
end Ow
/-! A promise of a def that is only called where nothing is being shown (no guard stands on the stack): FnG. -/
namespace Ow
open PySem PySem.Spec PyProof.Rows L2

structure FnG (P : Program) (w : World) (K : PySem.W.Frag) (mg : Str → Option Value) (base : Heap) (CX : CXT) (k : Nat) (f : Addr) (fd : FuncData) (ps : List Str) (sp : Sp) : Prop where
  len : ∀ vs H Q E, sp vs H Q E → vs.length = ps.length
  run : ∀ (A : Around) (out : List Env) (s : Shared) (H : Hp) (gs : Args) (us : List Value) (vs : List V) (Q : VK) (E : XK),
    Room k A → A.guards = some [] → Env0 P w K mg base A out s H → BindsTo s fd gs (ps.zip us) → Vals vs us → sp vs H Q E →
    codeAny (model P w) A (.call (.ref f) gs) (CR CX out P w H s Q E) s

section
variable {P : Program} {w : World} {K : PySem.W.Frag} {mg : Str → Option Value} {base : Heap} {CX : CXT} {k : Nat} {f : Addr} {fd : FuncData} {ps N : List Str} {sp : Sp}
variable {x qual : Str} {pa : Arguments} {bd : List Stmt} {sc : Scope} {dvs : List V} {kws : List (Str × V)}

theorem FnG.mono {j : Nat} (F : FnG P w K mg base CX j f fd ps sp) (h : j ≤ k) : FnG P w K mg base CX k f fd ps sp :=
  ⟨F.len, fun A out s H gs us vs Q E hr => F.run A out s H gs us vs Q E (hr.mono h)⟩

theorem guards_deeper (A : Around) (env : Env) : (A.deeper env).guards = A.guards := rfl

/-- the rule, as FunD.ok, the body run where no guard stands -/
theorem fnG_ok (F : FunD K x qual pa bd sc dvs kws f fd) (S : FnScope N ps sc) (len : ∀ vs H Q E, sp vs H Q E → vs.length = ps.length)
    (body : ∀ (cdv : Value) (A : Around) (out : List Env) (s : Shared) (H : Hp) (vs : List V) (Q : VK) (E : XK),
      Room k (A.deeper (envOfC qual sc s.heap.objs.size f cdv)) → (A.deeper (envOfC qual sc s.heap.objs.size f cdv)).guards = some [] → sp vs H Q E →
      ∃ t, PSs (cxOf CX P w K mg base N qual sc f cdv A out s H E) bd t ∧ t { nx := fun _ H' => Q .non H', rt := Q } (start N vs) H) :
    FnG P w K mg base CX (k + 1) f fd ps sp := by
  obtain ⟨oc, od, dV, kV, doc, pm, an, cdv, ct, osl, rfl, lk, hcd, _, _⟩ := F.ex
  refine ⟨len, fun A out s H gs us vs Q E hr hg e0 hb r hsp => ?_⟩
  have bs1 : ∀ b o, base.get? b = some o → s.heap.get? b = some o := fun b o e => (e0.bs b o e).1
  have kinds : ∀ q ∈ ps.zip us, sc.names.lookup q.1 = some .local ∨ (sc.names.lookup q.1 = some .cell ∧
      ((cellsFrom (s.heap.objs.size + 1) sc.names []).lookup q.1).isSome = true) := by
    rintro ⟨n, v⟩ hq
    cases S.par n (List.of_mem_zip hq).1 with
    | inl z => exact Or.inl z
    | inr z => exact Or.inr ⟨z, PySem.W.cellsFrom_some _ _ _ (Or.inl z)⟩
  refine codeAny_call_function hr.depth ((e0.mod.kin.keeps bs1) _ _ lk) rfl S.co S.gen rfl
    (PySem.W.codeRec_of (e0.mod.kin.keeps bs1) hcd) (hb _ _ _ _ (wpAny_newFunctionEnv_cells S.kind kinds fun env he t1 ent => ?_))
  cases he
  obtain ⟨t, ht, hq⟩ := body cdv A out s H vs Q E (hr.deeper _) hg hsp
  have I : Inv (cxOf CX P w K mg base N qual sc f cdv A out s H E) [] (start N vs) H t1 := inv_start S hr.hd e0 (len _ _ _ _ hsp) r ent
  refine ⟨(e0.mod.nolimit.keeps bs1).keeps ent.toInCall.keep, codeAny_func (wpAny_mono (ht.run [] t1 _ H _ I hq) (fun fl t2 got => ?_) fun _ _ z => z)⟩
  cases fl with
  | ret u =>
    obtain ⟨v, _, G, J, rv, q⟩ := got
    exact ⟨v, G, J.os, J.bare, J.base, J.hok, rv, q⟩
  | next =>
    obtain ⟨_, G, J, q⟩ := got
    exact ⟨V.non, G, J.os, J.bare, J.base, J.hok, rfl, q⟩
  | brk => exact got.elim fun _ z => z.elim fun _ z => z.2.elim
  | cont => exact got.elim fun _ z => z.elim fun _ z => z.2.elim

end

section
variable {X : Cx} {CX : CXT} {k : Nat} {f : Addr} {fd : FuncData} {ps : List Str} {sp : Sp} {E : XK} {x : Str} {p pos : Pos} {e : Expr} {es : List Expr} {t : TA}
theorem runG {pins : List (Addr × Obj)} {σ : L2.St} {H : Hp} {s : Shared} {Q : VK} {us : List Value} {vs : List V} (F : FnG X.prog X.w X.K X.mg X.base CX k f fd ps sp) (hr : Room k X.A) (hg : X.A.guards = some []) (hb : Binds X.K fd ps []) (hx : Passes CX X E)
    (I : Inv X pins σ H s) (r : Vals vs us) (h : sp vs H Q E) : wpAny (model X.prog X.w) X.A (call (.ref f) us) (EP X pins σ Q) X.xe s := by
  have hl : us.length = ps.length := by rw [← r.length]; exact F.len _ _ _ _ h
  have b := hb s us I.kIn (by rw [List.append_nil]; exact hl)
  rw [List.append_nil] at b
  refine wpAny_call (codeAny_mono (F.run X.A X.stack s H ⟨us, []⟩ us vs Q E hr hg I.env0 b r h) fun res s' hq => ?_)
  cases res with
  | error err => exact hx pins σ H s err s' I hq
  | ok fl => cases fl with
    | ret u => exact I.after hq
    | next => exact hq.elim
    | brk => exact hq.elim
    | cont => exact hq.elim

theorem pe_callG (F : FnG X.prog X.w X.K X.mg X.base CX k f fd ps sp) (hr : Room k X.A) (hgu : X.A.guards = some []) (hg : Gl X x) (hm : X.mg x = some (.ref f)) (hk : PySem.W.keepIn X.K (.ref f) = true) (hb : Binds X.K fd ps []) (hx : Passes CX X E)
    (ha : PA X (e :: es) t) (hdb : (x == ("__debug__" : Str)) = false := by decide) (he : starEach (e :: es) X.env = (false, eval e X.env) :: starEach es X.env := by rfl) (hpl : (backTo pos (starEach es X.env)).any (·.1) = false := by rfl) :
    PE X (.Call (.Name x p) (e :: es) [] pos) (tCall sp [] E t) := by
  refine ⟨fun pins s σ H Q I h => wpAny_Call_Name_kw (ld_glob I hg hm ?_ hdb)⟩
  refine PySem.W.callWith_K (h₀ := X.base) I.ok.mod.kin hk (thn (ha.run pos pins s σ H _ I h) fun us s1 got => ?_) he hpl
  obtain ⟨vs, H1, I1, r, q⟩ := got
  rw [List.append_nil] at q
  exact ⟨I1.kIn, runG F hr hgu hb hx I1 r q⟩
end

section
/-- the law's own call, by such a promise -/
theorem law_callG {P : Program} {w : World} {K : PySem.W.Frag} {mg mb : Str → Option Value} {CX : CXT} {k : Nat} {fa a : Addr} {fd : FuncData} {x : Str} {sp : Sp} {t0 : Shared} {us : List Value} {ns : List Int}
    (KX : K.In t0.heap) (hns : t0.heap.Ns mainGlobals mg) (hb : t0.heap.Ns builtinsNs mb) (hbb : ∀ x : Str, x ≠ "__name__" → mb x = bootBuiltins x) (hlim : t0.heap.NoLimit) (hgen : t0.gens = #[])
    (ha : t0.heap.get? a = some { cls := .type "list", data := .seq us.toArray }) (hi : IntsAre us ns) (hl : ns.length ≤ sizeLine) (hr : Room k callerA)
    (F : ∀ base : Heap, K.In base → base.Ns mainGlobals mg → FnG P w K mg base CX k fa fd [x] sp) (hbind : ∀ (s : Shared) (u : Value), BindsTo s fd ⟨[u], []⟩ [(x, u)])
    (hsp : ∀ H : Hp, Only H → SqL K H a (ns.map V.int) → sp [.ref a] H (fun v _ => v = .bl true) fun _ _ _ => False)
    (hCX : ∀ H e s', CX [] H t0 (fun _ _ _ => False) e s' → False) :
    codeAny (model P w) callerA (.call (.ref fa) ⟨[.ref a], []⟩) (fun r s' => r = .ok (.ret (.bool true)) ∧ OldK t0.heap s'.heap ∧ s'.os = t0.os ∧ AllBare s'.gens) t0 := by
  have vals := vals_ints hi
  suffices main : ∀ G : Hp, Only G → SqL K G a (ns.map V.int) → HOk P w G t0.heap → (∀ b, G b ≠ none → b = a) → (G a ≠ none → K.lookup a = none) →
      codeAny (model P w) callerA (.call (.ref fa) ⟨[.ref a], []⟩) (fun r s' => r = .ok (.ret (.bool true)) ∧ OldK t0.heap s'.heap ∧ s'.os = t0.os ∧ AllBare s'.gens) t0 by
    cases hk : K.lookup a with
    | some o =>
      have eo := KX a o hk
      rw [ha] at eo
      cases eo
      refine main (fun _ => none) (fun _ => Or.inl rfl) (Or.inr ⟨_, us.toArray, _, hk, rfl, rfl, rfl, ?_, ?_⟩) (fun _ _ z => nomatch z) (fun _ z => absurd rfl z) (fun z => absurd rfl z)
      · rw [List.size_toArray, hi.length]; exact hl
      · simpa using vals
    | none =>
      have there : ∀ b : Addr, b = a → (fun b => if b = a then some (HO.frz { cls := .type "list", data := .seq us.toArray } (.lst (ns.map V.int))) else none) b = some (HO.frz { cls := .type "list", data := .seq us.toArray } (.lst (ns.map V.int))) := fun b e => if_pos e
      have away : ∀ b : Addr, b ≠ a → (fun b => if b = a then some (HO.frz { cls := .type "list", data := .seq us.toArray } (.lst (ns.map V.int))) else none) b = none := fun b e => if_neg e
      refine main (fun b => if b = a then some (HO.frz { cls := .type "list", data := .seq us.toArray } (.lst (ns.map V.int))) else none) (fun b => ?_) (Or.inl (Or.inr ⟨_, there a rfl⟩)) (fun b u z => ?_) (fun b z => ?_) fun _ => hk
      · exact (Classical.em (b = a)).elim (fun e => Or.inr ⟨_, _, there b e⟩) fun e => Or.inl (away b e)
      · cases Classical.em (b = a) with
        | inl e =>
          have z' := (there b e).symm.trans z
          cases z'
          subst e
          exact ⟨ha, by rw [List.length_map]; exact hl, us, _, vals, ha⟩
        | inr e => exact nomatch (away b e).symm.trans z
      · exact Classical.byContradiction fun e => z (away b e)
  intro G hO hS hok hA hK
  have free : ∀ {b : Addr} {o : Obj}, t0.heap.get? b = some o → (∀ es ep, o.data = .dict es ep → G b = none) := fun {b o} e es ep d => by
    cases q : G b with
    | none => rfl
    | some u =>
      cases hA b (by rw [q]; exact nofun)
      rw [ha] at e
      cases e
      exact nomatch (d : Data.seq us.toArray _ = Data.dict es ep)
  have spaces : ∀ {b : Addr} {m : Str → Option Value}, t0.heap.Ns b m → (hidT t0.heap G).Ns b m := fun {b m} h => by
    obtain ⟨o, es, ep, e, d, r⟩ := h
    exact ⟨o, es, ep, hidT_get e (free e es ep d), d, r⟩
  have KB : K.In (hidT t0.heap G) := fun b o e => hidT_get (KX b o e) (by
    cases q : G b with
    | none => rfl
    | some u =>
      cases hA b (by rw [q]; exact nofun)
      rw [hK (by rw [q]; exact nofun)] at e
      exact nomatch e)
  have e0 : Env0 P w K mg (hidT t0.heap G) callerA [] t0 G := by
    refine ⟨rfl, ⟨KB, spaces hns, ⟨mb, spaces hb, hbb⟩, ?_⟩, fun _ _ e => of_hidT e, Nat.le_of_eq (hidT_size _ _), trivial, fun b z => absurd (show b ∈ ([] : List Addr) from z) List.not_mem_nil, hok, .of_eq hgen⟩
    obtain ⟨mc, h1, h2⟩ := hlim
    exact ⟨mc, spaces h1, h2⟩
  refine codeAny_mono ((F _ KB (spaces hns)).run callerA [] t0 G ⟨[.ref a], []⟩ [.ref a] [.ref a] _ _ hr rfl e0 (hbind t0 (.ref a)) (.cons rfl .nil) (hsp G hO hS)) fun res s' h => ?_
  cases res with
  | error err => exact (hCX G err s' h).elim
  | ok fl => cases fl with
    | next => exact h.elim
    | brk => exact h.elim
    | cont => exact h.elim
    | ret u =>
      obtain ⟨v, G', os, bare, un, hok', rv, q⟩ := h
      cases (show v = .bl true from q)
      cases (show u = Value.bool true from rv)
      refine ⟨rfl, OldK.of_keep fun b o e => ?_, os, bare⟩
      cases hO b with
      | inl n => exact un.keep b o e n (fun z => absurd (show b ∈ ([] : List Addr) from z) List.not_mem_nil) List.not_mem_nil
      | inr z =>
        obtain ⟨ob, xs, z⟩ := z
        have k1 := (hok b _ z).1
        rw [e] at k1
        cases k1
        exact (hok' b _ (un.frzs b _ _ z)).1

theorem walk_ofG {l : PySem.W.OpenLaw} {n k : Nat} {q : Program} {loose : List Str} {XP : (Str → Option Value) → Heap → Prop} {YP : World → Heap → Prop} {d : DefRec} {CX : CXT} {x : Str}
    (hn : l.most = some n) (hn2 : n ≤ sizeLine) (hdf : d.params.defaults = []) (hr : Room k callerA)
    (F : ∀ (w : World) (mg : Str → Option Value) (fa : Addr) (h : Heap), YP w h → h.Ns mainGlobals mg → mg d.name = some (.ref fa) →
      ∃ (K : PySem.W.Frag) (fd : FuncData) (sp : Sp), K.In h ∧ (∀ (s : Shared) (u : Value), BindsTo s fd ⟨[u], []⟩ [(x, u)]) ∧
        (∀ (H : Hp) (a : Addr) (ns : List Int), ns.length ≤ n → Only H → SqL K H a (ns.map V.int) → sp [.ref a] H (fun v _ => v = .bl true) fun _ _ _ => False) ∧
        ∀ base : Heap, K.In base → base.Ns mainGlobals mg → FnG l.prog w K mg base CX k fa fd [x] sp)
    (hCX : ∀ (H : Hp) (s : Shared) (e : Value) (s' : Shared), CX [] H s (fun _ _ _ => False) e s' → False) :
    PySem.W.WalkO q loose XP YP l.row.toRowW d [] (fun f vs => PySem.call f vs) := by
  refine Att.attach_call hn hdf fun w t t0 mg mb fa o pm cd doc a us ns T Y _ _ _ hmg hobj hints hlen hgen => ?_
  obtain ⟨K, fd, sp, KX, hb, hsp, hF⟩ := F w mg fa _ Y T.T.g hmg
  exact law_callG KX T.T.g T.T.b T.T.builtins T.T.nolimit hgen hobj hints (Nat.le_trans hlen hn2) hr hF hb (fun H hO hS => hsp H a ns hlen hO hS) fun H e s' => hCX H t0 e s'
end
end Ow
/-! enumerate of a tuple. -/
namespace Ow
open PySem PySem.Spec PyProof.Rows L2

theorem newE (t : Addr) (its : Array Value) :
    Meets (Builtin.«enumerate.__new__» ⟨[.type "enumerate", .ref t], []⟩) (fun _ R s => s.heap.IsTuple t its ∧
      R (.ok (.ret (.ref (s.heap.push ⟨.type "tuple_iterator", none, .fields #[.ref t, .int 0 0], #[]⟩).objs.size)))
        { s with heap := (s.heap.push ⟨.type "tuple_iterator", none, .fields #[.ref t, .int 0 0], #[]⟩).push ⟨.type "enumerate", none, .fields #[.none, .bool false, .ref s.heap.objs.size, rawInt 0, .none, .none], #[]⟩ }) :=
  .of_wp fun prog w A R s h => by
    obtain ⟨hp, g, d, tk, os⟩ := s
    obtain ⟨h1, h⟩ := h
    have hsub := sub_enumerate
    have q1 : ∀ {B : Around} {E : Value → Shared → Prop} {Q : Value → Shared → Prop}, Q (.ref hp.objs.size) ⟨hp.push ⟨.type "tuple_iterator", none, .fields #[.ref t, .int 0 0], #[]⟩, g, d, tk, os⟩ → wpAny (model prog w) B (pyIter (.ref t)) Q E ⟨hp, g, d, tk, os⟩ :=
      fun q => (begins_tuple t its).iter prog w _ _ ⟨hp, g, d, tk, os⟩ _ h1 q
    wp_walk using q1
    refine wpAny_stack_any fun st => wpAny_pure ?_
    split
    · rename_i c _ _ _ _ _
      cases (c == Value.type "enumerate") <;> (wp_walk using q1; exact ⟨_, rfl, h⟩)
    · wp_walk using q1
      exact ⟨_, rfl, h⟩

section
variable {prog : Program} {w : World} {A : Around} {E : Value → Shared → Prop} {s : Shared}
theorem call_enumT {t : Addr} {its : Array Value} {Q : Value → Shared → Prop} (ht : s.heap.IsTuple t its)
    (h : ∀ h', IsEnum h' (s.heap.objs.size + 1) s.heap.objs.size 0 .none → h'.IsTupleIter s.heap.objs.size t 0 → h'.objs.size = s.heap.objs.size + 2 →
      (∀ b o, s.heap.get? b = some o → h'.get? b = some o) → Q (.ref (s.heap.objs.size + 1)) { s with heap := h' }) :
    wpAny (model prog w) A (call (.type "enumerate") [.ref t]) Q E s := by
  refine callType_new F.called_enumerate (by decide) (F.typeCall_enumerate_1 _) (F.newCall_enumerate_1 _) (fun obj => F.args_object_init_2 obj _) F.entry_enumerate_new (newE t its) ⟨ht, ?_⟩
  generalize e1 : (⟨.type "tuple_iterator", none, .fields #[.ref t, .int 0 0], #[]⟩ : Obj) = o1
  generalize e2 : (⟨.type "enumerate", none, .fields #[.none, .bool false, .ref s.heap.objs.size, rawInt 0, .none, .none], #[]⟩ : Obj) = o2
  have f1 : o1.isFreed = false := by rw [← e1]; rfl
  have f2 : o2.isFreed = false := by rw [← e2]; rfl
  have hz : (s.heap.push o1).objs.size = s.heap.objs.size + 1 := Heap.size_push ..
  have g2 : ((s.heap.push o1).push o2).get? (s.heap.objs.size + 1) = some o2 := by
    have z := Heap.get?_push_size (s.heap.push o1) f2
    rw [hz] at z
    exact z
  have g1 : ((s.heap.push o1).push o2).get? s.heap.objs.size = some o1 := Heap.get?_push_of_some _ (Heap.get?_push_size _ f1)
  show _ ∧ _
  rw [hz]
  refine ⟨⟨_, g2, by rw [← e2]⟩, h _ (by rw [← e2] at g2 ⊢; exact g2) ⟨o1, g1, by rw [← e1], by rw [← e1]; rfl⟩ (by rw [Heap.size_push, hz]) fun b o x => Heap.get?_push_of_some _ (Heap.get?_push_of_some _ x)⟩
end

/-- the tuple at a, each item with its place in a new pair -/
def IteT (K : PySem.W.Frag) (a : Addr) : It :=
  ⟨fun i H => ∃ (xs : List V) (x : V), SqT K H a xs ∧ xs[i]? = some x, fun i H v H' => ∃ T x, v = .ref T ∧ H T = none ∧ H' = upd H T (.tup [.int (i : Nat), x]) ∧ ∀ xs, SqT K H a xs → xs[i]? = some x, fun i H => ∃ xs : List V, SqT K H a xs ∧ xs.length = i⟩
theorem turn_enumT {P : Program} {w : World} {K : PySem.W.Frag} {elts : List Expr} {kk : Nat} {tpos : Pos} (a e it : Addr) :
    Turn P w K (.Tuple elts kk tpos) (IteT K a) [e, it] e (fun i h => (∃ old, IsEnum h e it ((i : Nat) : Int) old) ∧ h.IsTupleIter it a i ∧ e ≠ it ∧ a ≠ it ∧ e ≠ a) where
  mem := by simp
  obj := fun i h st b hb => by
    obtain ⟨⟨old, he⟩, ⟨o, ho, hc, hd⟩, _⟩ := st
    rcases (by simpa using hb : b = e ∨ b = it) with rfl | rfl
    · exact ⟨_, he, fun v q => nomatch q⟩
    · exact ⟨o, ho, fun v q => by rw [hd] at q; cases q⟩
  keep := fun i h h' st k => by
    obtain ⟨⟨old, he⟩, hi, hne⟩ := st
    exact ⟨⟨old, k e (by simp) _ he⟩, hi.at fun o q => k it (by simp) o q, hne⟩
  item := by
    intro X hP hw hK hc i pins s σ H E I hf st hg
    subst hP hw hK
    obtain ⟨⟨old, he⟩, hit, hne, na, nea⟩ := st
    obtain ⟨xs, x, hq, hx⟩ := hg
    obtain ⟨its, rv, p, hz⟩ := I.tuple hq
    obtain ⟨u, hu, ru⟩ := rv.get hx
    have hel : e < s.heap.objs.size := Heap.lt_size he
    have hil : it < s.heap.objs.size := by obtain ⟨_, q, _⟩ := hit; exact Heap.lt_size q
    have hlt : i < its.toArray.size := by simpa using (List.getElem?_eq_some_iff.mp hu).1
    have DD := Draws.tuple (prog := X.prog) (w := X.w) (A := X.A.in1) (show X.A.in1.handled = none from I.ok.hd hc) it a na its.toArray
    refine wpAny_pyNext_enum_itemD DD he ⟨hit, p⟩ hlt hne (by simp [hne, nea]) fun y h' tk hy ho hst hT hsz hk => ?_
    have ey : y = u := by
      have : its.toArray[i]? = some u := by simpa using hu
      rw [this] at hy
      exact (Option.some.inj hy).symm
    subst ey
    refine ⟨_, rfl, wpAny_letOwnedTupleGo_enum (s := { s with heap := h', toks := tk + 1 }) ho fun h'' he' sb => ?_⟩
    have hT2 : h''.get? s.heap.objs.size = some { cls := .type "tuple", data := .seq #[.int i tk, y] } := (sb.2 _ (Nat.ne_of_gt hel)).trans hT
    have new : ObjOk X.prog X.w (upd H s.heap.objs.size (.tup [.int (i : Nat), x])) h'' s.heap.objs.size (.tup [.int (i : Nat), x]) :=
      ⟨by show 2 ≤ sizeLine; decide, [.int i tk, y], .cons ⟨_, rfl⟩ (.cons ru .nil), ⟨_, hT2, rfl, _, rfl⟩⟩
    have I1 : Inv X pins σ (upd H s.heap.objs.size (.tup [.int (i : Nat), x])) { s with heap := h'', toks := tk + 1 } :=
      I.turnedNew (ch := [e, it]) (fun b ob hb q => (sb.2 b (fun z => hb (by simp [z]))).trans (hk b ob (fun z => hb (by simp [z])) (fun z => hb (by simp [z])) q)) hf (Nat.le_refl _) new
    refine ⟨.ref s.heap.objs.size, _, I1, rfl, ⟨_, x, rfl, I.hok.fresh (Nat.le_refl _), rfl, fun ys hy => by rw [I.tuple_inj hy hq]; exact hx⟩, ⟨⟨y, ?_⟩, hst.1.at fun o q => (sb.2 it (Ne.symm hne)).trans q, hne, na, nea⟩, fun b hb => ?_⟩
    · rw [show ((i + 1 : Nat) : Int) = (i : Int) + 1 by omega]
      exact he'
    · have hb' : b < s.heap.objs.size := by
        rcases (by simpa using hb : b = e ∨ b = it) with rfl | rfl
        · exact hel
        · exact hil
      rw [upd_ne (Nat.ne_of_lt hb')]
      exact (hf b hb).1
  done := by
    intro X hP hw hK hc i pins s σ H E I hf st hg
    subst hP hw hK
    obtain ⟨⟨old, he⟩, hit, hne, na, nea⟩ := st
    obtain ⟨xs, hq, hx⟩ := hg
    obtain ⟨its, rv, p, hz⟩ := I.tuple hq
    obtain ⟨f0, f1, f2, f3, f4, f5⟩ := hf it (by simp)
    have hl := rv.length
    have hn : its.toArray.size = i := by rw [List.size_toArray, ← hl]; exact hx
    have DD := Draws.tuple (prog := X.prog) (w := X.w) (A := X.A.in1) (show X.A.in1.handled = none from I.ok.hd hc) it a na its.toArray
    exact wpAny_pyNext_enum_endD DD he ⟨by rw [hn]; exact hit, p⟩ fun h' eb => ⟨rfl, I.turned (t' := s.toks) (fun b o hb q => eb b o hb q) f0 f1 f3 f4 f5⟩
  self := fun A i s Q E st h => by
    obtain ⟨⟨_, he⟩, _⟩ := st
    exact wpAny_pyIter_enum he h
def iEnumT (K : PySem.W.Frag) (ta : TA) : TI := fun σ H R => ta σ H fun vs H1 => ∃ a xs, vs = [.ref a] ∧ SqT K H1 a xs ∧ R (IteT K a) H1
theorem pi_enumT {X : Cx} {e : Expr} {ta : TA} {p pos tpos : Pos} {elts : List Expr} {kk : Nat} (hg : Gl X "enumerate") (hm : X.mg "enumerate" = none) (ha : PA X [e] ta) (hs : starEach [e] X.env = [(false, eval e X.env)] := by rfl) :
    PI X (.Tuple elts kk tpos) (.Call (.Name "enumerate" p) [e] [] pos) (iEnumT X.K ta) := by
  refine ⟨fun pins s σ H R I h => ?_⟩
  refine Call_ (ld_blt I hg hm boot_enumerate (PyProof.Rows.callWith_type1 (thn (ha.run pos pins s σ H _ I h) fun us s1 got => ?_) hs rfl))
  obtain ⟨vs, H1, I1, r1, a, xs, rfl, hq, q⟩ := got
  obtain ⟨u, rfl, ru⟩ := vals1 r1
  cases ru
  obtain ⟨its, rv, p', hz⟩ := I1.tuple hq
  obtain ⟨oa, hoa, _⟩ := id p'
  have hal : a < s1.heap.objs.size := Heap.lt_size hoa
  refine call_enumT (show s1.heap.IsTuple a its.toArray from p') fun h' he hit hsz hk => wpAny_pyIter_enum he ?_
  have I2 : Inv X pins σ H1 { s1 with heap := h' } := I1.kept (t' := s1.toks) hk
  refine ⟨s1.heap.objs.size + 1, [s1.heap.objs.size + 1, s1.heap.objs.size], _, _, H1, rfl, I2, turn_enumT a (s1.heap.objs.size + 1) s1.heap.objs.size, ⟨⟨.none, he⟩, hit, Nat.succ_ne_self _, Nat.ne_of_lt hal, Nat.ne_of_gt (Nat.lt_succ_of_lt hal)⟩, fun b hb => ?_, q⟩
  have hle : s1.heap.objs.size ≤ b := by
    rcases (by simpa using hb : b = s1.heap.objs.size + 1 ∨ b = s1.heap.objs.size) with rfl | rfl
    · exact Nat.le_add_right _ _
    · exact Nat.le_refl _
  exact I1.fpOk hle (I1.hok.fresh hle)
theorem walk_enumT {K : PySem.W.Frag} {a : Addr} {xs : List V} : Walk (IteT K a) xs.length (fun H => SqT K H a xs) (YPair (fun i => some (.int (i : Nat))) (fun i => xs[i]?)) := by
  refine ⟨fun i H hi q => ⟨xs, xs[i], q, List.getElem?_eq_getElem hi⟩, fun H q => ⟨xs, q, rfl⟩, fun i H v H' hi q y => ?_⟩
  obtain ⟨T, x, h1, h2, h3, h4⟩ := y
  exact ⟨T, .int (i : Nat), x, h1, h2, h3, rfl, h4 xs q⟩
end Ow
/-! == of an instance of an own class with whatever else. -/
namespace Ow
open PySem PySem.Spec PyProof.Rows L2
section
variable {X : Cx} {CX : CXT} {k : Nat} {C f : Addr} {fd : FuncData} {ps : List Str} {sp : Sp} {E : XK}
/-- x == y, x an instance of C with its own ==, y of a type t that is no subclass of it -/
def rEqI (K : PySem.W.Frag) (C : Addr) (sp : Sp) (E : XK) : R2 := fun x y H Q => ∃ a dx fs t, x = .ref a ∧ H a = some (.ins C dx fs) ∧ TyX K H y t ∧ PySem.W.notFirst K C t = true ∧ sp [.ref a, y] H Q E
theorem op_eqI (o : OpOf X.K C "__eq__" f) (F : FnOk X.prog X.w X.K X.mg X.base CX k f fd ps sp) (hr : Room k X.A) (hb : Binds X.K fd ps []) (hx : Passes CX X E) : OpR X (compareOp .Eq) (rEqI X.K C sp E) := by
  intro pins s σ H x y u v Q I rx ry hq
  obtain ⟨a, dx, fs, t, rfl, ea, ty, hn, q⟩ := hq
  cases rx
  obtain ⟨od, J⟩ := inst_of I ea
  obtain ⟨m, hF⟩ := I.fr
  obtain ⟨P, kx, hp, _⟩ := kit_of I ry ty
  exact PySem.W.cmp_ofEq (PySem.W.cmp_K (op := .Eq) hr.units0 hF I.ok.mod.kin J (kx.ty _ _ I.kIn hp) hn o.at_ o.fn (run_back (vs := [.ref a, y]) F hr hb hx I (.cons rfl (.cons ry .nil)) q))
end
end Ow
namespace Ow
open PySem PySem.Spec PyProof.Rows L2
section
variable {prog : Program} {w : World} {A : Around} {E : Value → Shared → Prop} {s : Shared} {K : PySem.W.Frag} {x C f : Addr} {ox : Obj} {od : Option Obj}
open PySem.W in
/-- a built-in on the left declines, the instance's own == decides -/
theorem eq_right {T id : String} {v : Value} {Q : Value → Shared → Prop} (hu : A.units < cLine) (X : K.In s.heap) (I : InstAt s.heap x ox C od) (hv : s.TypeIs v T) (hone : oneThing? .Eq v (.ref x) = none)
    (hsub : subIn K (.ref C) (.type T) = some false) (slot : Slot T "__eq__" id) (hd : wpAny (model prog w) A (call (.builtin id) [v, .ref x]) (fun r s' => r = .notImplemented ∧ s' = s) E s)
    (hs : findIn K (.ref C) "__eq__" = some (some (.ref f))) (hf : isFn K (.ref f) = true) (h : wpAny (model prog w) A (call (.ref f) [.ref x, v]) (PySem.W.CmpBack Q) E s) : wpAny (model prog w) A (richCompare .Eq v (.ref x)) Q E s := by
  have one : wpAny (model prog w) A (tryCompare (.ref x) (cmpInfo .Eq).2.2 v) (fun r s' => ∃ y, r = some y ∧ Q y s') E s := by
    unfold tryCompare
    refine wpAny_bind (ifBound_K X I hs hf (wpAny_mono h (fun y s' hy => ?_) fun _ _ e => e))
    cases y <;> first | exact hy.elim | exact wpAny_pure ⟨_, rfl, hy⟩
  unfold richCompare
  simp only [hone]
  refine wpAny_holding (wpAny_bind (wpAny_cRoomFor hu ?_))
  refine wpAny_bind (wpAny_typeOf hv (wpAny_bind (I.type.here ?_)))
  have ne : (Value.type T != Value.ref C) = true := rfl
  rw [if_pos ne]
  refine wpAny_bind ((looks_subIn X hsub).here ?_)
  simp only [Bool.false_eq_true, if_false]
  refine wpAny_bind (wpAny_tryCompare_declines hv slot (wpAny_mono hd (fun r s' q => ⟨q.1, ?_⟩) fun _ _ e => e))
  obtain ⟨_, rfl⟩ := q
  simp only [Bool.not_false, if_true]
  refine wpAny_bind (wpAny_mono one (fun r s' z => ?_) fun _ _ e => e)
  obtain ⟨y, rfl, hq⟩ := z
  exact wpAny_pure hq
end
end Ow
namespace Ow
open PySem PySem.Spec PyProof.Rows L2
open Builtin
theorem int_eq_ref (C dx : Addr) (a : Int) (t : Tok) (l : Addr) :
    Meets (Builtin.«int.__eq__» ⟨[.int a t, .ref l], []⟩) (fun _ R s => s.heap.get? l = some (PySem.W.instObj C dx) ∧ R (.ok (.ret Value.notImplemented)) s) :=
  .of_wp fun prog w A R s h => by obtain ⟨hp, g, d, tk, os⟩ := s; obtain ⟨hl, h⟩ := h; wp_walk; exact ⟨_, rfl, h⟩
theorem str_eq_ref (C dx : Addr) (a : Str) (t : Tok) (l : Addr) :
    Meets (Builtin.«str.__eq__» ⟨[.str a t, .ref l], []⟩) (fun _ R s => s.heap.get? l = some (PySem.W.instObj C dx) ∧ R (.ok (.ret Value.notImplemented)) s) :=
  .of_wp fun prog w A R s h => by obtain ⟨hp, g, d, tk, os⟩ := s; obtain ⟨hl, h⟩ := h; wp_walk; exact ⟨_, rfl, h⟩
section
variable {X : Cx} {CX : CXT} {k : Nat} {C f : Addr} {fd : FuncData} {ps : List Str} {sp : Sp} {E : XK}
/-- i == x, x an instance with its own == -/
def rEqIr (C : Addr) (sp : Sp) (E : XK) : R2 := fun v y H Q => ∃ a dx fs i, v = .int i ∧ y = .ref a ∧ H a = some (.ins C dx fs) ∧ sp [.ref a, .int i] H Q E
def rEqSr (C : Addr) (sp : Sp) (E : XK) : R2 := fun v y H Q => ∃ a dx fs z, v = .str z ∧ y = .ref a ∧ H a = some (.ins C dx fs) ∧ sp [.ref a, .str z] H Q E
theorem op_eqIr (o : OpOf X.K C "__eq__" f) (hsub : PySem.W.subIn X.K (.ref C) (.type "int") = some false) (F : FnOk X.prog X.w X.K X.mg X.base CX k f fd ps sp) (hr : Room k X.A) (hb : Binds X.K fd ps []) (hx : Passes CX X E) : OpR X (compareOp .Eq) (rEqIr C sp E) := by
  intro pins s σ H v y u w_ Q I rx ry hq
  obtain ⟨a, dx, fs, i, rfl, rfl, ea, q⟩ := hq
  obtain ⟨t, rfl⟩ := rx
  cases ry
  obtain ⟨od, J⟩ := inst_of I ea
  obtain ⟨mA, O, _⟩ := ins_get I.hok ea
  exact PySem.W.cmp_ofEq (eq_right hr.units0 I.kIn J (typeIs_int s i t) rfl hsub PySem.F.slot_int_eq
    (call_meets PySem.F.slot_int_eq (typeIs_int s i t) PySem.F.entry_int_eq (PySem.F.args_int_eq_2 _ _) (int_eq_ref C dx i t a) ⟨O.obj, rfl, rfl⟩)
    o.at_ o.fn (run_back (vs := [.ref a, .int i]) F hr hb hx I (.cons rfl (.cons ⟨t, rfl⟩ .nil)) q))
theorem op_eqSr (o : OpOf X.K C "__eq__" f) (hsub : PySem.W.subIn X.K (.ref C) (.type "str") = some false) (F : FnOk X.prog X.w X.K X.mg X.base CX k f fd ps sp) (hr : Room k X.A) (hb : Binds X.K fd ps []) (hx : Passes CX X E) : OpR X (compareOp .Eq) (rEqSr C sp E) := by
  intro pins s σ H v y u w_ Q I rx ry hq
  obtain ⟨a, dx, fs, z, rfl, rfl, ea, q⟩ := hq
  obtain ⟨t, rfl⟩ := rx
  cases ry
  obtain ⟨od, J⟩ := inst_of I ea
  obtain ⟨mA, O, _⟩ := ins_get I.hok ea
  exact PySem.W.cmp_ofEq (eq_right hr.units0 I.kIn J (typeIs_str s z t) rfl hsub PySem.F.slot_str_eq
    (call_meets PySem.F.slot_str_eq (typeIs_str s z t) PySem.F.entry_str_eq (PySem.F.args_str_eq_2 _ _) (str_eq_ref C dx z t a) ⟨O.obj, rfl, rfl⟩)
    o.at_ o.fn (run_back (vs := [.ref a, .str z]) F hr hb hx I (.cons rfl (.cons ⟨t, rfl⟩ .nil)) q))
end
end Ow
/-! built-ins on the left of ==, an instance on the right: they decline. -/
namespace Ow
open PySem PySem.Spec PyProof.Rows L2
open Builtin
theorem bool_eq_ref (C dx : Addr) (b : Bool) (l : Addr) :
    Meets (Builtin.«int.__eq__» ⟨[.bool b, .ref l], []⟩) (fun _ R s => s.heap.get? l = some (PySem.W.instObj C dx) ∧ R (.ok (.ret Value.notImplemented)) s) :=
  .of_wp fun prog w A R s h => by obtain ⟨hp, g, d, tk, os⟩ := s; obtain ⟨hl, h⟩ := h; wp_walk; exact ⟨_, rfl, h⟩
theorem non_eq_ref (C dx : Addr) (l : Addr) :
    Meets (Builtin.«NoneType.__eq__» ⟨[.none, .ref l], []⟩) (fun _ R s => s.heap.get? l = some (PySem.W.instObj C dx) ∧ R (.ok (.ret Value.notImplemented)) s) :=
  .of_wp fun prog w A R s h => by obtain ⟨hp, g, d, tk, os⟩ := s; obtain ⟨hl, h⟩ := h; wp_walk; exact ⟨_, rfl, h⟩
end Ow
/-! != of an instance whose class has an own == and no own !=. -/
namespace Ow
open PySem PySem.Spec PyProof.Rows L2
open Builtin
section
variable {prog : Program} {w : World} {A : Around} {E : Value → Shared → Prop} {s : Shared} {K : PySem.W.Frag} {x C f : Addr} {ox : Obj} {od : Option Obj} {y : Value}
open PySem.W in
theorem check_ne (X : K.In s.heap) (I : InstAt s.heap x ox C od) (hm : mroIn K C (.type "object") = some true) {Q : Unit → Shared → Prop} (q : Q () s) :
    wpAny (model prog w) A (checkBuiltinCall "object.__ne__" ⟨[.ref x, y], []⟩) Q E s := by
  simp only [checkBuiltinCall, F.cmpKind_ne, F.cmpSplit_ne]
  refine wpAny_bind ?_
  unfold isInstance
  refine wpAny_bind (I.type.here ?_)
  refine (looks_mroIn X hm).here ?_
  simp only [Bool.not_true, Bool.false_eq_true, if_false]
  exact wpAny_of_eq (F.cmpArgs_ne (.ref x) y) q
open PySem.W in
theorem body_ne (hu : A.units < cLine) (X : K.In s.heap) (I : InstAt s.heap x ox C od) (hs : findIn K (.ref C) "__eq__" = some (some (.ref f))) (hf : isFn K (.ref f) = true) {Q : Fin → Shared → Prop}
    (h : wpAny (model prog w) A (call (.ref f) [.ref x, y]) (fun v s' => ∃ b, v = .bool b ∧ Q (.done (.ret (.bool (!b)))) s') E s) :
    wpAny (model prog w) A (Builtin.«object.__ne__» ⟨[.ref x, y], []⟩) Q E s := by
  unfold Builtin.«object.__ne__»
  repeat (first
    | with_reducible refine wpAny_cRoomFor hu ?_
    | (refine wpAny_bind (m := callSpecialIfBound? (.ref x) (Str.ofString "__eq__") [y]) (ifBound_K X I hs hf (wpAny_mono h (fun r s' hr => by
        obtain ⟨b, rfl, hq⟩ := hr
        repeat (first | exact hq | exact wpAny_pure hq | exact wpAny_truthy_bool hq | (refine wpAny_bind (m := truthy (.bool _)) (wpAny_truthy_bool ?_)) | wp_step)) fun _ _ e => e)))
    | wp_step)
open PySem.W in
theorem ifBound_ne {M : Model} {Q : Option Value → Shared → Prop} (X : K.In s.heap) (I : InstAt s.heap x ox C od) (hne : findIn K (.ref C) "__ne__" = some (some (.builtin "object.__ne__")))
    (h : wpAny M A (call (.builtin "object.__ne__") [.ref x, y]) (fun v => Q (some v)) E s) : wpAny M A (callSpecialIfBound? (.ref x) "__ne__" [y]) Q E s := by
  simp only [callSpecialIfBound?, bindSpecialIfBound?]
  refine wpAny_holding (wpAny_bind (wpAny_bind (wpAny_bind (I.type.here ((looks_findIn X hne).here ?_)))))
  simp only [F.cmp_object.ne.bind]
  refine wpAny_bind (wpAny_askSetting (wpAny_ite ?_))
  have fin : wpAny M A (call (.builtin "object.__ne__") ([.ref x] ++ [y]) >>= fun v => pure (some v)) Q E s := wpAny_bind (wpAny_mono h (fun v s' q => wpAny_pure q) fun _ _ e => e)
  split
  · exact wpAny_bind (wpAny_pure (wpAny_pure fin))
  · exact wpAny_tryCatch (wpAny_bind (wpAny_pure (wpAny_pure fin)))
open PySem.W in
theorem rc_ne (hu : A.units + 1 < cLine) {tb : Value} (X : K.In s.heap) (I : InstAt s.heap x ox C od) (hb : Looks (model prog w) s.heap (typeOf y) tb) (hn : notFirst K C tb = true) (hm : mroIn K C (.type "object") = some true)
    (hne : findIn K (.ref C) "__ne__" = some (some (.builtin "object.__ne__"))) (hs : findIn K (.ref C) "__eq__" = some (some (.ref f))) (hf : isFn K (.ref f) = true) {Q : Value → Shared → Prop}
    (h : wpAny (model prog w) A.in1 (call (.ref f) [.ref x, y]) (fun v s' => ∃ b, v = .bool b ∧ Q (.bool (!b)) s') E s) : wpAny (model prog w) A (richCompare .NotEq (.ref x) y) Q E s := by
  have go : wpAny (model prog w) A (call (.builtin "object.__ne__") [.ref x, y]) (fun v s' => ∃ b, v = .bool b ∧ Q (.bool b) s') E s := by
    refine wpAny_call (codeAny_call_builtin F.cmp_object.ne.plain F.cmpEntry_ne (check_ne X I hm (body_ne (A := A.in1) hu X I hs hf (wpAny_mono h (fun v s' hv => ?_) fun _ _ e => e))))
    obtain ⟨b, rfl, hq⟩ := hv
    exact ⟨b, rfl, _, rfl, hq⟩
  have one : wpAny (model prog w) A (tryCompare (.ref x) (cmpInfo .NotEq).2.1 y) (fun r s' => ∃ v, r = some v ∧ Q v s') E s := by
    unfold tryCompare
    refine wpAny_bind (ifBound_ne X I hne (wpAny_mono go (fun v s' q => ?_) fun _ _ e => e))
    obtain ⟨b, rfl, hq⟩ := q
    exact wpAny_pure ⟨_, rfl, hq⟩
  have ends : ∀ next : Option Value → Sem Value, (∀ v s', Q v s' → wpAny (model prog w) A (next (some v)) Q E s') → wpAny (model prog w) A (tryCompare (.ref x) (cmpInfo .NotEq).2.1 y >>= next) Q E s :=
    fun next hk => wpAny_bind (wpAny_mono one (fun r s' z => z.elim fun v zv => zv.1 ▸ hk v s' zv.2) fun _ _ e => e)
  unfold richCompare
  simp only [oneThing_ref]
  refine wpAny_holding (wpAny_bind (wpAny_cRoomFor (Nat.lt_of_succ_lt hu) (wpAny_bind (I.type.here (wpAny_bind (hb.here ?_))))))
  by_cases same : tb = .ref C
  · rw [if_neg (by rw [same]; simp)]
    exact wpAny_bind (wpAny_pure (ends _ fun v s' hq => wpAny_pure hq))
  · have esub : subIn K tb (.ref C) = some false := by
      have y := hn
      unfold notFirst at y
      rw [beq_false_of_ne same, Bool.false_or] at y
      exact beq_iff_eq.mp y
    rw [if_pos (by simpa using fun z : Value.ref C = tb => same z.symm)]
    exact wpAny_bind ((looks_subIn X esub).here (ends _ fun v s' hq => wpAny_pure hq))
end
section
variable {X : Cx} {CX : CXT} {k : Nat} {C f : Addr} {fd : FuncData} {ps : List Str} {sp : Sp} {E : XK}
/-- x != y, x an instance of C with its own ==, which tells a truth -/
def rNeI (K : PySem.W.Frag) (C : Addr) (sp : Sp) (E : XK) : R2 := fun x y H Q => ∃ a dx fs t, x = .ref a ∧ H a = some (.ins C dx fs) ∧ TyX K H y t ∧ PySem.W.notFirst K C t = true ∧ sp [.ref a, y] H (fun v H' => ∃ b, v = .bl b ∧ Q (.bl (!b)) H') E
theorem op_neI (o : OpOf X.K C "__eq__" f) (hne : PySem.W.findIn X.K (.ref C) "__ne__" = some (some (.builtin "object.__ne__"))) (hm : PySem.W.mroIn X.K C (.type "object") = some true)
    (F : FnOk X.prog X.w X.K X.mg X.base CX k f fd ps sp) (hr : Room (k + 1) X.A) (hb : Binds X.K fd ps []) (hx : Passes CX X E) : OpR X (compareOp .NotEq) (rNeI X.K C sp E) := by
  intro pins s σ H x y u v Q I rx ry hq
  obtain ⟨a, dx, fs, t, rfl, ea, ty, hn, q⟩ := hq
  cases rx
  obtain ⟨od, J⟩ := inst_of I ea
  obtain ⟨P, kx, hp, _⟩ := kit_of I ry ty
  refine PySem.W.cmp_ofNotEq (rc_ne (by have := hr.in1.units0; exact this) I.kIn J (kx.ty _ _ I.kIn hp) hn hm hne o.at_ o.fn ?_)
  refine wpAny_mono (run_in (vs := [.ref a, y]) F hr.in1 rfl hb hx I (.cons rfl (.cons ry .nil)) q) (fun z s' got => ?_) fun _ _ e => e
  obtain ⟨v, H', I', rv, b, rfl, q'⟩ := got
  cases (show z = Value.bool b from rv)
  exact ⟨b, rfl, .bl (!b), H', I', rfl, q'⟩
end
end Ow
/-! lists, tuples on the left of ==, an instance on the right: they decline. -/
namespace Ow
open PySem PySem.Spec PyProof.Rows L2
open Builtin
section
variable {prog : Program} {w : World} {A : Around} {K : PySem.W.Frag} {x C : Addr} {ox : Obj} {od : Option Obj}
theorem not_inst {E : Value → Shared → Prop} {s : Shared} {T : String} {Q : Bool → Shared → Prop} (X : K.In s.heap) (I : PySem.W.InstAt s.heap x ox C od) (hsub : PySem.W.subIn K (.ref C) (.type T) = some false) (q : Q false s) : wpAny (model prog w) A (isInstance (.ref x) (.type T)) Q E s := by
  unfold isInstance
  exact wpAny_bind (I.type.here ((PySem.W.looks_subIn X hsub).here q))
theorem list_decl {R : Result → Shared → Prop} {s : Shared} {l : Addr} (X : K.In s.heap) (I : PySem.W.InstAt s.heap x ox C od) (hsub : PySem.W.subIn K (.ref C) (.type "list") = some false) (q : R (.ok (.ret Value.notImplemented)) s) :
    wpAny (model prog w) A.in1 (Builtin.«list.__eq__» ⟨[.ref l, .ref x], []⟩) (GQ.FinOf prog w A R) (fun e s' => R (.error e) s') s := by
  obtain ⟨hp, g, d, tk, os⟩ := s
  have isI : ∀ {B : Around} {E : Value → Shared → Prop} {Q : Bool → Shared → Prop}, Q false ⟨hp, g, d, tk, os⟩ → wpAny (model prog w) B (isInstance (.ref x) (.type "list")) Q E ⟨hp, g, d, tk, os⟩ := fun z => not_inst X I hsub z
  wp_walk using isI
  exact q
theorem tup_decl {R : Result → Shared → Prop} {s : Shared} {l : Addr} (X : K.In s.heap) (I : PySem.W.InstAt s.heap x ox C od) (hsub : PySem.W.subIn K (.ref C) (.type "tuple") = some false) (q : R (.ok (.ret Value.notImplemented)) s) :
    wpAny (model prog w) A.in1 (Builtin.«tuple.__eq__» ⟨[.ref l, .ref x], []⟩) (GQ.FinOf prog w A R) (fun e s' => R (.error e) s') s := by
  obtain ⟨hp, g, d, tk, os⟩ := s
  have isI : ∀ {B : Around} {E : Value → Shared → Prop} {Q : Bool → Shared → Prop}, Q false ⟨hp, g, d, tk, os⟩ → wpAny (model prog w) B (isInstance (.ref x) (.type "tuple")) Q E ⟨hp, g, d, tk, os⟩ := fun z => not_inst X I hsub z
  wp_walk using isI
  exact q
end
section
variable {X : Cx} {CX : CXT} {k : Nat} {C f : Addr} {fd : FuncData} {ps : List Str} {sp : Sp} {E : XK}
/-- l == x, l a list, x an instance with its own == -/
def rEqLr (C : Addr) (sp : Sp) (E : XK) : R2 := fun v y H Q => ∃ a dx fs l xs, v = .ref l ∧ H l = some (.lst xs) ∧ y = .ref a ∧ H a = some (.ins C dx fs) ∧ sp [.ref a, .ref l] H Q E
def rEqTr (C : Addr) (sp : Sp) (E : XK) : R2 := fun v y H Q => ∃ a dx fs l xs, v = .ref l ∧ H l = some (.tup xs) ∧ y = .ref a ∧ H a = some (.ins C dx fs) ∧ sp [.ref a, .ref l] H Q E
theorem op_eqLr (o : OpOf X.K C "__eq__" f) (hsub : PySem.W.subIn X.K (.ref C) (.type "list") = some false) (F : FnOk X.prog X.w X.K X.mg X.base CX k f fd ps sp) (hr : Room k X.A) (hb : Binds X.K fd ps []) (hx : Passes CX X E) : OpR X (compareOp .Eq) (rEqLr C sp E) := by
  intro pins s σ H v y u w_ Q I rx ry hq
  obtain ⟨a, dx, fs, l, xs, rfl, hl, rfl, ea, q⟩ := hq
  cases rx
  cases ry
  obtain ⟨od, J⟩ := inst_of I ea
  obtain ⟨its, rv, pl, _⟩ := I.list (SqL.of hl)
  obtain ⟨ob, ho, hc, _⟩ := pl.isList
  have hT : s.TypeIs (.ref l) "list" := ⟨ob, ho, hc⟩
  refine PySem.W.cmp_ofEq (eq_right hr.units0 I.kIn J hT (oneThing_ref _ _ _) hsub PySem.F.slot_list_eq ?_
    o.at_ o.fn (run_back (vs := [.ref a, .ref l]) F hr hb hx I (.cons rfl (.cons rfl .nil)) q))
  exact GQ.call_here PySem.F.slot_list_eq hT PySem.F.entry_list_eq (PySem.F.args_list_eq_2 _ _) (list_decl (R := wants (fun v s' => v = .notImplemented ∧ s' = s) X.xe) I.kIn J hsub ⟨rfl, rfl⟩)
theorem op_eqTr (o : OpOf X.K C "__eq__" f) (hsub : PySem.W.subIn X.K (.ref C) (.type "tuple") = some false) (F : FnOk X.prog X.w X.K X.mg X.base CX k f fd ps sp) (hr : Room k X.A) (hb : Binds X.K fd ps []) (hx : Passes CX X E) : OpR X (compareOp .Eq) (rEqTr C sp E) := by
  intro pins s σ H v y u w_ Q I rx ry hq
  obtain ⟨a, dx, fs, l, xs, rfl, hl, rfl, ea, q⟩ := hq
  cases rx
  cases ry
  obtain ⟨od, J⟩ := inst_of I ea
  obtain ⟨its, rv, pl, _⟩ := I.tuple (SqT.of hl)
  obtain ⟨ob, ho, hc, _⟩ := id pl
  have hT : s.TypeIs (.ref l) "tuple" := ⟨ob, ho, hc⟩
  refine PySem.W.cmp_ofEq (eq_right hr.units0 I.kIn J hT (oneThing_ref _ _ _) hsub PySem.F.slot_tuple_eq ?_
    o.at_ o.fn (run_back (vs := [.ref a, .ref l]) F hr hb hx I (.cons rfl (.cons rfl .nil)) q))
  exact GQ.call_here PySem.F.slot_tuple_eq hT PySem.F.entry_tuple_eq (PySem.F.args_tuple_eq_2 _ _) (tup_decl (R := wants (fun v s' => v = .notImplemented ∧ s' = s) X.xe) I.kIn J hsub ⟨rfl, rfl⟩)
/-- None == x, b == x -/
def rEqNr (C : Addr) (sp : Sp) (E : XK) : R2 := fun v y H Q => ∃ a dx fs, v = .non ∧ y = .ref a ∧ H a = some (.ins C dx fs) ∧ sp [.ref a, .non] H Q E
def rEqBr (C : Addr) (sp : Sp) (E : XK) : R2 := fun v y H Q => ∃ a dx fs b, v = .bl b ∧ y = .ref a ∧ H a = some (.ins C dx fs) ∧ sp [.ref a, .bl b] H Q E
theorem op_eqNr (o : OpOf X.K C "__eq__" f) (hsub : PySem.W.subIn X.K (.ref C) (.type "NoneType") = some false) (F : FnOk X.prog X.w X.K X.mg X.base CX k f fd ps sp) (hr : Room k X.A) (hb : Binds X.K fd ps []) (hx : Passes CX X E) : OpR X (compareOp .Eq) (rEqNr C sp E) := by
  intro pins s σ H v y u w_ Q I rx ry hq
  obtain ⟨a, dx, fs, rfl, rfl, ea, q⟩ := hq
  cases rx
  cases ry
  obtain ⟨od, J⟩ := inst_of I ea
  obtain ⟨mA, O, _⟩ := ins_get I.hok ea
  have hT : s.TypeIs Value.none "NoneType" := rfl
  exact PySem.W.cmp_ofEq (eq_right hr.units0 I.kIn J hT rfl hsub PySem.F.slot_NoneType_eq
    (call_meets PySem.F.slot_NoneType_eq hT PySem.F.entry_NoneType_eq (PySem.F.args_NoneType_eq_2 _ _) (non_eq_ref C dx a) ⟨O.obj, rfl, rfl⟩)
    o.at_ o.fn (run_back (vs := [.ref a, .non]) F hr hb hx I (.cons rfl (.cons rfl .nil)) q))
theorem op_eqBr (o : OpOf X.K C "__eq__" f) (hsub : PySem.W.subIn X.K (.ref C) (.type "bool") = some false) (F : FnOk X.prog X.w X.K X.mg X.base CX k f fd ps sp) (hr : Room k X.A) (hb : Binds X.K fd ps []) (hx : Passes CX X E) : OpR X (compareOp .Eq) (rEqBr C sp E) := by
  intro pins s σ H v y u w_ Q I rx ry hq
  obtain ⟨a, dx, fs, b, rfl, rfl, ea, q⟩ := hq
  cases (show u = Value.bool b from rx)
  cases ry
  obtain ⟨od, J⟩ := inst_of I ea
  obtain ⟨mA, O, _⟩ := ins_get I.hok ea
  have hT : s.TypeIs (Value.bool b) "bool" := rfl
  exact PySem.W.cmp_ofEq (eq_right hr.units0 I.kIn J hT rfl hsub PySem.F.slot_bool_eq
    (call_meets PySem.F.slot_bool_eq hT PySem.F.entry_int_eq (PySem.F.args_int_eq_2 _ _) (bool_eq_ref C dx b a) ⟨O.obj, rfl, rfl⟩)
    o.at_ o.fn (run_back (vs := [.ref a, .bl b]) F hr hb hx I (.cons rfl (.cons rfl .nil)) q))
end
end Ow
namespace Ow
open PySem PySem.Spec PyProof.Rows L2
open Builtin
section
variable {prog : Program} {w : World} {A : Around} {K : PySem.W.Frag} {x C : Addr} {ox : Obj} {od : Option Obj}
theorem dict_decl {R : Result → Shared → Prop} {s : Shared} {l : Addr} (X : K.In s.heap) (I : PySem.W.InstAt s.heap x ox C od) (hT : s.TypeIs (.ref l) "dict") (hsub : PySem.W.subIn K (.ref C) (.type "dict") = some false) (q : R (.ok (.ret Value.notImplemented)) s) :
    wpAny (model prog w) A.in1 (Builtin.«dict.__eq__» ⟨[.ref l, .ref x], []⟩) (GQ.FinOf prog w A R) (fun e s' => R (.error e) s') s := by
  obtain ⟨hp, g, d, tk, os⟩ := s
  have isI : ∀ {B : Around} {E : Value → Shared → Prop} {Q : Bool → Shared → Prop}, Q false ⟨hp, g, d, tk, os⟩ → wpAny (model prog w) B (isInstance (.ref x) (.type "dict")) Q E ⟨hp, g, d, tk, os⟩ := fun z => not_inst X I hsub z
  wp_walk using isI
  exact q
end
section
variable {X : Cx} {CX : CXT} {k : Nat} {C f : Addr} {fd : FuncData} {ps : List Str} {sp : Sp} {E : XK}
/-- d == x, d a dict, x an instance with its own == -/
def rEqDr (C : Addr) (sp : Sp) (E : XK) : R2 := fun v y H Q => ∃ a dx fs l kvs, v = .ref l ∧ H l = some (.dK kvs) ∧ y = .ref a ∧ H a = some (.ins C dx fs) ∧ sp [.ref a, .ref l] H Q E
theorem op_eqDr (o : OpOf X.K C "__eq__" f) (hsub : PySem.W.subIn X.K (.ref C) (.type "dict") = some false) (F : FnOk X.prog X.w X.K X.mg X.base CX k f fd ps sp) (hr : Room k X.A) (hb : Binds X.K fd ps []) (hx : Passes CX X E) : OpR X (compareOp .Eq) (rEqDr C sp E) := by
  intro pins s σ H v y u w_ Q I rx ry hq
  obtain ⟨a, dx, fs, l, kvs, rfl, hl, rfl, ea, q⟩ := hq
  cases rx
  cases ry
  obtain ⟨od, J⟩ := inst_of I ea
  obtain ⟨_, _, _, _, ob, _, _, ho, ex, _⟩ := I.hok l _ hl
  have hT : s.TypeIs (.ref l) "dict" := ⟨ob, ho, ex.1⟩
  refine PySem.W.cmp_ofEq (eq_right hr.units0 I.kIn J hT (oneThing_ref _ _ _) hsub PySem.F.slot_dict_eq ?_
    o.at_ o.fn (run_back (vs := [.ref a, .ref l]) F hr hb hx I (.cons rfl (.cons rfl .nil)) q))
  exact GQ.call_here PySem.F.slot_dict_eq hT PySem.F.entry_dict_eq (PySem.F.args_dict_eq_2 _ _) (dict_decl (R := wants (fun v s' => v = .notImplemented ∧ s' = s) X.xe) I.kIn J hT hsub ⟨rfl, rfl⟩)
end
end Ow
/-! ==, in, index of lists whose items have their own ==, the answer a truth. -/
namespace Ow
open PySem PySem.Spec PyProof.Rows L2 PySem.SeqAt
open AutoSeq1 (wpAny_loadPart')
open MeetsSeq MeetsSeq2 MeetsSeq3 SeqRoads2
section
variable {prog : Program} {w : World} {A : Around} {R : Result → Shared → Prop}
abbrev FO (prog : Program) (w : World) (A : Around) (R : Result → Shared → Prop) := GQ.FinOf prog w A R
/-- a list of N items stands at l; each item beside the value answers e i -/
def HasI (prog : Program) (w : World) (A : Around) (E : Value → Shared → Prop) (l : Addr) (x : Value) (N : Nat) (e : Nat → Bool) (I : Shared → Prop) : Prop :=
  ∀ s, I s → ∃ (items : Array Value) (n : Nat), s.heap.get? l = some { cls := .type "list", data := .seq items n } ∧ items.size = N ∧
    ∀ (i : Nat) (h : i < items.size), wpAny (model prog w) A.in1 (eqBool items[i] x) (fun r s' => r = e i ∧ I s') E s
theorem has_loop (l : Addr) (x : Value) (N : Nat) (e : Nat → Bool) (I : Shared → Prop) (hl : HasI prog w A (fun e s' => R (.error e) s') l x N e I) (k : Nat) :
    ∀ i : Nat, N - i = k → ∀ s, I s → (∀ s', I s' → R (.ok (.ret (.bool (((List.range N).drop i).any e)))) s') →
      wpAny (model prog w) A.in1 (Builtin.«list.__contains__.loop» ⟨[.ref l, x, rawInt i], []⟩) (FO prog w A R) (fun e s' => R (.error e) s') s := by
  induction k with
  | zero =>
    intro i hk s h fin
    obtain ⟨items, n, g1, hs, _⟩ := hl _ h
    have q := fin s h
    obtain ⟨hp, g, d, tk, os⟩ := s
    wp_walk using wpAny_loadPart' g1
    have hi : items[((i : Nat) : Int).toNat]? = none := by simp; omega
    have hd : (List.range N).drop i = [] := by simp; omega
    rw [hd] at q
    rw [hi]
    wp_walk
    exact q
  | succ k ih =>
    intro i hk s h fin
    obtain ⟨items, n, g1, hs, turn⟩ := hl _ h
    have hlt : i < items.size := by omega
    have tr := turn i hlt
    have hd : (List.range N).drop i = i :: (List.range N).drop (i + 1) := by simp [List.drop_eq_getElem_cons, show i < N by omega]
    rw [hd] at fin
    obtain ⟨hp, g, d, tk, os⟩ := s
    wp_walk using wpAny_loadPart' g1
    have hi : items[((i : Nat) : Int).toNat]? = some items[i] := by simp [hlt]
    rw [hi]
    refine wpAny_bind (wpAny_mono tr (fun r s2 q2 => ?_) fun _ _ z => z)
    obtain ⟨rfl, q2⟩ := q2
    cases hb : e i with
    | true =>
      have q := fin s2 q2
      rw [List.any_cons, hb] at q
      obtain ⟨hp2, g2, d2, tk2, os2⟩ := s2
      wp_walk
      exact q
    | false =>
      have hrec := ih (i + 1) (by omega) s2 q2 (fun s' q => by
        have z := fin s' q
        rw [List.any_cons, hb, Bool.false_or] at z
        exact z)
      have hc : ((i : Int) + 1) = ((i + 1 : Nat) : Int) := by push_cast; rfl
      obtain ⟨hp2, g2, d2, tk2, os2⟩ := s2
      wp_walk
      rw [hc]
      exact ⟨plainId_quiet plain_contains_loop _, codeAny_builtin entry_contains_loop (by
        rw [Around.under_plainId plain_contains_loop _]
        exact hrec)⟩
theorem has_all (l : Addr) (x : Value) (N : Nat) (e : Nat → Bool) (I : Shared → Prop) (hl : HasI prog w A (fun e s' => R (.error e) s') l x N e I) {s : Shared} (h : I s)
    (fin : ∀ s', I s' → R (.ok (.ret (.bool ((List.range N).any e)))) s') : wpAny (model prog w) A.in1 (Builtin.«list.__contains__» ⟨[.ref l, x], []⟩) (FO prog w A R) (fun e s' => R (.error e) s') s := by
  obtain ⟨items, n, g1, hs, _⟩ := hl _ h
  have hrec := has_loop (R := R) l x N e I hl _ 0 rfl s h (by simpa using fin)
  obtain ⟨hp, g, d, tk, os⟩ := s
  wp_walk using wpAny_loadPart' g1
  exact ⟨plainId_quiet plain_contains_loop _, codeAny_builtin entry_contains_loop (by
    rw [Around.under_plainId plain_contains_loop _]
    exact hrec)⟩
/-- the index of the first that answers True -/
theorem ix_loop (l : Addr) (x : Value) (N : Nat) (e : Nat → Bool) (I : Shared → Prop) (hl : HasI prog w A (fun e s' => R (.error e) s') l x N e I) (upto : Int) (j : Nat) (hj : j < N) (hu : (j : Int) < upto) (hit : e j = true) (k : Nat) :
    ∀ i : Nat, j - i = k → i ≤ j → (∀ m, i ≤ m → m < j → e m = false) → ∀ s, I s → (∀ s', I s' → R (.ok (.ret (.int j s'.toks))) { s' with toks := s'.toks + 1 }) →
      wpAny (model prog w) A.in1 (Builtin.«list.index.loop» ⟨[.ref l, x, rawInt i, rawInt upto], []⟩) (FO prog w A R) (fun e s' => R (.error e) s') s := by
  induction k with
  | zero =>
    intro i hk hij hno s h fin
    obtain ⟨items, n, g1, hs, turn⟩ := hl _ h
    have hij' : i = j := by omega
    subst hij'
    have hlt : i < items.size := by omega
    have tr := turn i hlt
    obtain ⟨hp, g, d, tk, os⟩ := s
    wp_walk using wpAny_loadPart' g1
    have hi : (if (i : Int) < upto then items[((i : Nat) : Int).toNat]? else none) = some items[i] := by simp [hu, hlt]
    rw [hi]
    refine wpAny_bind (wpAny_mono tr (fun r s2 q2 => ?_) fun _ _ z => z)
    obtain ⟨rfl, q2⟩ := q2
    have q := fin s2 q2
    rw [hit]
    obtain ⟨hp2, g2, d2, tk2, os2⟩ := s2
    wp_walk
    exact q
  | succ k ih =>
    intro i hk hij hno s h fin
    obtain ⟨items, n, g1, hs, turn⟩ := hl _ h
    have hlt : i < items.size := by omega
    have hst : (i : Int) < upto := by omega
    have tr := turn i hlt
    obtain ⟨hp, g, d, tk, os⟩ := s
    wp_walk using wpAny_loadPart' g1
    have hi : (if (i : Int) < upto then items[((i : Nat) : Int).toNat]? else none) = some items[i] := by simp [hst, hlt]
    have hc : ((i : Int) + 1) = ((i + 1 : Nat) : Int) := by push_cast; rfl
    rw [hi]
    refine wpAny_bind (wpAny_mono tr (fun r s2 q2 => ?_) fun _ _ z => z)
    obtain ⟨rfl, q2⟩ := q2
    rw [hno i (Nat.le_refl _) (by omega)]
    have hrec := ih (i + 1) (by omega) (by omega) (fun m h1 h2 => hno m (by omega) h2) s2 q2 fin
    obtain ⟨hp2, g2, d2, tk2, os2⟩ := s2
    wp_walk
    rw [hc]
    exact ⟨plainId_quiet plain_index_loop _, codeAny_builtin entry_index_loop (by
      rw [Around.under_plainId plain_index_loop _]
      exact hrec)⟩
theorem ix_all (l : Addr) (x : Value) (N : Nat) (e : Nat → Bool) (I : Shared → Prop) (hl : HasI prog w A (fun e s' => R (.error e) s') l x N e I) (j : Nat) (hj : j < N) (hsm : (j : Int) < 2 ^ 63 - 1) (hit : e j = true) (hno : ∀ m, m < j → e m = false)
    {s : Shared} (h : I s) (fin : ∀ s', I s' → R (.ok (.ret (.int j s'.toks))) { s' with toks := s'.toks + 1 }) : wpAny (model prog w) A.in1 (Builtin.«list.index» ⟨[.ref l, x], []⟩) (FO prog w A R) (fun e s' => R (.error e) s') s := by
  obtain ⟨items, n, g1, hs, _⟩ := hl _ h
  have hrec := ix_loop (R := R) l x N e I hl (2 ^ 63 - 1) j hj hsm hit _ 0 rfl (Nat.zero_le _) (fun m _ h2 => hno m h2) s h fin
  obtain ⟨hp, g, d, tk, os⟩ := s
  wp_walk using wpAny_loadPart' g1
  have a1 : ((fun i : Int => if i < 0 then max 0 (i + (items.size : Int)) else i) ((none : Option Int).getD 0)) = ((0 : Nat) : Int) := by simp
  have a2 : ((fun i : Int => if i < 0 then max 0 (i + (items.size : Int)) else i) ((none : Option Int).getD (2 ^ 63 - 1))) = 2 ^ 63 - 1 := by simp
  rw [a1, a2]
  exact ⟨plainId_quiet plain_index_loop _, codeAny_builtin entry_index_loop (by
    rw [Around.under_plainId plain_index_loop _]
    exact hrec)⟩
/-- two lists of N items stand at l and b; the i-th two answer e i -/
def TwoI (prog : Program) (w : World) (A : Around) (E : Value → Shared → Prop) (l b : Addr) (N : Nat) (e : Nat → Bool) (I : Shared → Prop) : Prop :=
  ∀ s, I s → ∃ (items items2 : Array Value) (n n2 : Nat), s.heap.get? l = some { cls := .type "list", data := .seq items n } ∧ s.heap.get? b = some { cls := .type "list", data := .seq items2 n2 } ∧ items.size = N ∧ items2.size = N ∧
    ∀ (i : Nat) (h1 : i < items.size) (h2 : i < items2.size), wpAny (model prog w) A.in1 (eqBool items[i] items2[i]) (fun r s' => r = e i ∧ I s') E s
theorem two_loop (l b : Addr) (N : Nat) (e : Nat → Bool) (I : Shared → Prop) (hl : TwoI prog w A (fun e s' => R (.error e) s') l b N e I) (k : Nat) :
    ∀ i : Nat, N - i = k → ∀ s, I s → (∀ s', I s' → R (.ok (.ret (.bool (((List.range N).drop i).all e)))) s') →
      wpAny (model prog w) A.in1 (Builtin.«list.__eq__.loop» ⟨[.ref l, .ref b, rawInt i, rawInt 2], []⟩) (FO prog w A R) (fun e s' => R (.error e) s') s := by
  induction k with
  | zero =>
    intro i hk s h fin
    obtain ⟨items, items2, n, n2, g1, g2, hs1, hs2, _⟩ := hl _ h
    have q := fin s h
    obtain ⟨hp, g, d, tk, os⟩ := s
    wp_walk using wpAny_loadPart' g1, wpAny_loadPart' g2
    have hi1 : items[((i : Nat) : Int).toNat]? = none := by simp; omega
    have hi2 : items2[((i : Nat) : Int).toNat]? = none := by simp; omega
    have hd : (List.range N).drop i = [] := by simp; omega
    rw [hd] at q
    rw [hi1, hi2]
    wp_walk using wpAny_loadPart' g1, wpAny_loadPart' g2
    show R (.ok (.ret (.bool (items.size == items2.size)))) _
    rw [hs1, hs2]
    simpa using q
  | succ k ih =>
    intro i hk s h fin
    obtain ⟨items, items2, n, n2, g1, g2, hs1, hs2, turn⟩ := hl _ h
    have hlt : i < items.size := by omega
    have hlt2 : i < items2.size := by omega
    have tr := turn i hlt hlt2
    have hd : (List.range N).drop i = i :: (List.range N).drop (i + 1) := by simp [List.drop_eq_getElem_cons, show i < N by omega]
    rw [hd] at fin
    obtain ⟨hp, g, d, tk, os⟩ := s
    wp_walk using wpAny_loadPart' g1, wpAny_loadPart' g2
    have hi1 : items[((i : Nat) : Int).toNat]? = some items[i] := by simp [hlt]
    have hi2 : items2[((i : Nat) : Int).toNat]? = some items2[i] := by simp [hlt2]
    have hc : ((i : Int) + 1) = ((i + 1 : Nat) : Int) := by push_cast; rfl
    rw [hi1, hi2]
    refine wpAny_bind (wpAny_mono tr (fun r s2 q2 => ?_) fun _ _ z => z)
    obtain ⟨rfl, q2⟩ := q2
    cases hb : e i with
    | true =>
      have hrec := ih (i + 1) (by omega) s2 q2 (fun s' q => by
        have z := fin s' q
        rw [List.all_cons, hb, Bool.true_and] at z
        exact z)
      obtain ⟨hp2, g3, d2, tk2, os2⟩ := s2
      wp_walk
      rw [hc]
      exact ⟨plainId_quiet plain_eq_loop _, codeAny_builtin entry_eq_loop (by
        rw [Around.under_plainId plain_eq_loop _]
        exact hrec)⟩
    | false =>
      have q := fin s2 q2
      rw [List.all_cons, hb, Bool.false_and] at q
      obtain ⟨jt, jt2, m, m2, k1, k2, ks1, ks2, _⟩ := hl _ q2
      have lt3 : i < jt.size := by omega
      have lt4 : i < jt2.size := by omega
      have hj1 : jt[((i : Nat) : Int).toNat]? = some jt[i] := by simp [lt3]
      have hj2 : jt2[((i : Nat) : Int).toNat]? = some jt2[i] := by simp [lt4]
      obtain ⟨hp2, g3, d2, tk2, os2⟩ := s2
      wp_walk using wpAny_loadPart' k1, wpAny_loadPart' k2
      rw [hj1, hj2]
      wp_walk
      exact q
theorem two_all (l b : Addr) (N : Nat) (e : Nat → Bool) (I : Shared → Prop) (hl : TwoI prog w A (fun e s' => R (.error e) s') l b N e I) {s : Shared} (h : I s)
    (fin : ∀ s', I s' → R (.ok (.ret (.bool ((List.range N).all e)))) s') : wpAny (model prog w) A.in1 (Builtin.«list.__eq__» ⟨[.ref l, .ref b], []⟩) (FO prog w A R) (fun e s' => R (.error e) s') s := by
  obtain ⟨items, items2, n, n2, g1, g2, hs1, hs2, _⟩ := hl _ h
  have hrec := two_loop (R := R) l b N e I hl _ 0 rfl s h (by simpa using fin)
  obtain ⟨hp, g, d, tk, os⟩ := s
  have f3 := AutoSeq1.sub_list_list
  have hne : ¬ (items.size != items2.size) = true := by simp [hs1, hs2]
  wp_walk using wpAny_loadPart' g1, wpAny_loadPart' g2
  exact ⟨plainId_quiet plain_eq_loop _, codeAny_builtin entry_eq_loop (by
    rw [Around.under_plainId plain_eq_loop _]
    exact hrec)⟩
end
end Ow
namespace Ow
open PySem PySem.Spec PyProof.Rows L2
/-- how two values compare by ==: the answer -/
abbrev EqD := V → V → Bool → Hp → Prop
def MonB (D : EqD) : Prop := ∀ x y b H H', Ext H H' → D x y b H → D x y b H'
def EqB (X : Cx) (n : Nat) (D : EqD) : Prop :=
  ∀ (A : Around) (pins : List (Addr × Obj)) (s : Shared) (σ : L2.St) (H : Hp) (x y : V) (u v : Value) (b : Bool), Sub X n A → Inv X pins σ H s → RelV x u → RelV y v → D x y b H →
    wpAny (model X.prog X.w) A (eqBool u v) (fun r s' => r = b ∧ LoopI X pins σ H s') X.xe s
section
variable {X : Cx} {n : Nat} {D : EqD}
/-- what the own == is asked and answers -/
structure OwnB (K : PySem.W.Frag) (C : Addr) (sp : Sp) (E : XK) (D : EqD) : Prop where
  ex : ∀ x y b H, D x y b H → ∃ a c dx fs t, x = .ref a ∧ y = .ref c ∧ H a = some (.ins C dx fs) ∧ TyX K H y t ∧ PySem.W.notFirst K C t = true ∧ (a = c → b = true) ∧ ∀ Q : VK, (∀ H', Ext H H' → Q (.bl b) H') → sp [.ref a, .ref c] H Q E
theorem eqB_own {CX : CXT} {C f : Addr} {fd : FuncData} {ps : List Str} {sp : Sp} {E : XK} (W : OwnB X.K C sp E D) (o : OpOf X.K C "__eq__" f) (F : FnOk X.prog X.w X.K X.mg X.base CX n f fd ps sp) (hb : Binds X.K fd ps []) (hx : Passes CX X E) : EqB X n D := by
  intro A pins s σ H x y u v b sb I rx ry d
  obtain ⟨a, c, dx, fs, t, rfl, rfl, ea, ty, hn, hac, hsp⟩ := W.ex _ _ _ _ d
  cases rx
  cases ry
  by_cases hab : a = c
  · subst hab
    rw [hac rfl]
    exact SeqAt.EqAt.same (A := A) (s := s) (.ref a) X.prog X.w X.xe _ ⟨rfl, H, I, Ext.rfl'⟩
  · obtain ⟨od, J⟩ := inst_of I ea
    obtain ⟨m, hF⟩ := I.fr
    obtain ⟨P, kx, hp, _⟩ := kit_of I (show RelV (.ref c) (.ref c) from rfl) ty
    have call := run_in F sb.room sb.fr hb hx I (vs := [.ref a, .ref c]) (.cons rfl (.cons rfl .nil)) (hsp (fun z H' => z = .bl b ∧ Ext H H') fun H' e => ⟨rfl, e⟩)
    refine GQ.eqBool_refG hab (PySem.W.cmp_K (op := .Eq) (Q := fun r s' => ∃ q, r = .bool q ∧ q = b ∧ LoopI X pins σ H s') sb.room.units0 hF I.ok.mod.kin J (kx.ty _ _ I.kIn hp) hn o.at_ o.fn (wpAny_mono call (fun z s' q => ?_) fun _ _ e => e))
    obtain ⟨z', H', I', rz, ez, e⟩ := q
    cases ez
    cases rz
    exact back (v := .bl b) rfl ⟨b, rfl, rfl, H', I', e⟩
theorem hasI_of (hD : MonB D) (h : EqB X n D) {A : Around} (sb : Sub X (n + 1) A) {pins : List (Addr × Obj)} {σ : L2.St} {H : Hp} {p : Addr} {xs : List V} {x : V} {u : Value} {e : Nat → Bool} (hp : H p = some (.lst xs)) (rx : RelV x u)
    (d : ∀ (i : Nat) z, xs[i]? = some z → D z x (e i) H) : HasI X.prog X.w A X.xe p u xs.length e (LoopI X pins σ H) := by
  intro s' q
  obtain ⟨H1, I1, e1⟩ := id q
  obtain ⟨z, its, k, r, g⟩ := I1.hok p _ (e1 _ _ hp)
  refine ⟨its.toArray, k, g, by rw [List.size_toArray, ← r.length], fun i hi => ?_⟩
  have hl : i < xs.length := by rw [r.length]; simpa using hi
  obtain ⟨w1, hw, rw1⟩ := r.get (List.getElem?_eq_getElem hl)
  have g1 : its[i]? = some its.toArray[i] := by
    have h1' : i < its.length := by simpa using hi
    rw [List.getElem?_eq_getElem h1']; simp
  rw [g1] at hw
  rw [Option.some.inj hw]
  refine wpAny_mono (h A.in1 pins s' σ H1 _ _ _ _ _ sb.in1 I1 rw1 rx (hD _ _ _ _ _ e1 (d i _ (List.getElem?_eq_getElem hl)))) (fun r2 s2 q2 => ?_) fun _ _ z => z
  obtain ⟨hr2, H2, I2, e2⟩ := q2
  exact ⟨hr2, H2, I2, e1.trans e2⟩
/-- x in xs -/
def rInB (D : EqD) : R2 := fun x y H Q => ∃ (p : Addr) (xs : List V) (es : Nat → Bool), y = .ref p ∧ H p = some (.lst xs) ∧ (∀ (i : Nat) z, xs[i]? = some z → D z x (es i) H) ∧ ∀ H', Ext H H' → Q (.bl ((List.range xs.length).any es)) H'
theorem op_inB (hD : MonB D) (h : EqB X n D) (hr : Room (n + 1) X.A) : OpR X (compareOp .In) (rInB D) := by
  intro pins s σ H x y u v Q I rx ry hq
  obtain ⟨p, xs, es, rfl, hp, d, q⟩ := hq
  cases ry
  obtain ⟨z, its, k, r, g⟩ := I.hok p _ hp
  have HI := hasI_of (pins := pins) (σ := σ) hD h (A := X.A) ⟨hr, rfl⟩ hp rx d
  show wpAny (model X.prog X.w) X.A (do return Value.bool (← contains (Value.ref p) u) : Sem Value) (EP X pins σ Q) X.xe s
  refine wpAny_bind (wpAny_contains_slot ⟨_, g, rfl⟩ PySem.F.slot_list_contains (wpAny_mono (GQ.call_here (Q := fun v s' => v = .bool ((List.range xs.length).any es) ∧ LoopI X pins σ H s') PySem.F.slot_list_contains ⟨_, g, rfl⟩ PySem.F.entry_list_contains (PySem.F.args_list_contains_2 _ _)
    (has_all (R := wants (fun v s' => v = .bool ((List.range xs.length).any es) ∧ LoopI X pins σ H s') X.xe) p u xs.length es (LoopI X pins σ H) HI ⟨H, I, Ext.rfl'⟩ fun s' q => ⟨rfl, q⟩)) (fun v s' hv => ?_) fun _ _ e => e))
  obtain ⟨rfl, H', I', e'⟩ := hv
  exact wpAny_truthy_bool (wpAny_pure ⟨.bl _, H', I', rfl, q H' e'⟩)
/-- xs.index(x): the first that is equal -/
def rIxB (D : EqD) : V → List V → Hp → VK → Prop := fun x vs H Q => ∃ (p : Addr) (xs : List V) (y : V) (es : Nat → Bool) (j : Nat), x = .ref p ∧ vs = [y] ∧ H p = some (.lst xs) ∧ (∀ (i : Nat) z, xs[i]? = some z → D z y (es i) H) ∧ j < xs.length ∧ es j = true ∧ (∀ m, m < j → es m = false) ∧ ∀ H', Ext H H' → Q (.int (j : Nat)) H'
theorem mt_indexB (hD : MonB D) (h : EqB X n D) (hr : Room (n + 1) X.A) : MtR X "list.index" (rIxB D) := by
  intro pins s σ H x xs v us Q I rx rxs hq
  obtain ⟨p, ys, y, es, j, rfl, rfl, hp, d, hj, hit, hno, q⟩ := hq
  cases rx
  cases rxs with
  | cons ry rt =>
    rename_i uy ut
    cases rt
    obtain ⟨z, its, k, r, g⟩ := I.hok p _ hp
    have HI := hasI_of (pins := pins) (σ := σ) hD h (A := X.A) ⟨hr, rfl⟩ hp ry d
    have hsl := sizeLine_eq
    have hz : ys.length ≤ sizeLine := z
    refine GQ.call_here (Q := EP X pins σ Q) PySem.F.slot_list_index ⟨_, g, rfl⟩ PySem.F.entry_list_index (PySem.F.args_list_index_2 _ _)
      (ix_all (R := wants (EP X pins σ Q) X.xe) p uy ys.length es (LoopI X pins σ H) HI j hj (by omega) hit hno ⟨H, I, Ext.rfl'⟩ fun s' q2 => ?_)
    obtain ⟨H', I', e'⟩ := q2
    exact ⟨.int (j : Nat), H', I'.tok _, ⟨_, rfl⟩, q H' e'⟩
/-- xs == ys, lists of one length -/
def DListB (D : EqD) : EqD := fun x y b H => ∃ (a c : Addr) (xs ys : List V) (es : Nat → Bool), x = .ref a ∧ y = .ref c ∧ H a = some (.lst xs) ∧ H c = some (.lst ys) ∧ xs.length = ys.length ∧ (∀ (i : Nat) z w, xs[i]? = some z → ys[i]? = some w → D z w (es i) H) ∧ b = (List.range xs.length).all es
def rEqB (D : EqD) : R2 := fun x y H Q => ∃ b, D x y b H ∧ ∀ H', Ext H H' → Q (.bl b) H'
theorem twoI_of (hD : MonB D) (h : EqB X n D) {A : Around} (sb : Sub X (n + 1) A) {pins : List (Addr × Obj)} {σ : L2.St} {H : Hp} {a c : Addr} {xs ys : List V} {e : Nat → Bool} (ha : H a = some (.lst xs)) (hc : H c = some (.lst ys)) (hl : xs.length = ys.length)
    (d : ∀ (i : Nat) z w, xs[i]? = some z → ys[i]? = some w → D z w (e i) H) : TwoI X.prog X.w A X.xe a c xs.length e (LoopI X pins σ H) := by
  intro s' q
  obtain ⟨H1, I1, e1⟩ := id q
  obtain ⟨z, its, k, r, g⟩ := I1.hok a _ (e1 _ _ ha)
  obtain ⟨z2, its2, k2, r2, g2⟩ := I1.hok c _ (e1 _ _ hc)
  refine ⟨its.toArray, its2.toArray, k, k2, g, g2, by rw [List.size_toArray, ← r.length], by rw [List.size_toArray, ← r2.length, hl], fun i hi hi2 => ?_⟩
  have hl1 : i < xs.length := by rw [r.length]; simpa using hi
  have hl2 : i < ys.length := by rw [r2.length]; simpa using hi2
  obtain ⟨w1, hw, rw1⟩ := r.get (List.getElem?_eq_getElem hl1)
  obtain ⟨w2, hw2, rw2⟩ := r2.get (List.getElem?_eq_getElem hl2)
  have k1 : its[i]? = some its.toArray[i] := by
    have h1' : i < its.length := by simpa using hi
    rw [List.getElem?_eq_getElem h1']; simp
  have k2 : its2[i]? = some its2.toArray[i] := by
    have h1' : i < its2.length := by simpa using hi2
    rw [List.getElem?_eq_getElem h1']; simp
  rw [k1] at hw
  rw [k2] at hw2
  rw [Option.some.inj hw, Option.some.inj hw2]
  refine wpAny_mono (h A.in1 pins s' σ H1 _ _ _ _ _ sb.in1 I1 rw1 rw2 (hD _ _ _ _ _ e1 (d i _ _ (List.getElem?_eq_getElem hl1) (List.getElem?_eq_getElem hl2)))) (fun r2 s2 q2 => ?_) fun _ _ z => z
  obtain ⟨hr2, H2, I2, e2⟩ := q2
  exact ⟨hr2, H2, I2, e1.trans e2⟩
theorem rcB_list (hD : MonB D) (h : EqB X n D) {A : Around} (sb : Sub X (n + 1) A) {pins : List (Addr × Obj)} {s : Shared} {σ : L2.St} {H : Hp} {x y : V} {u v : Value} {b : Bool} (I : Inv X pins σ H s) (rx : RelV x u) (ry : RelV y v) (d : DListB D x y b H) :
    wpAny (model X.prog X.w) A (richCompare .Eq u v) (fun r s' => r = .bool b ∧ LoopI X pins σ H s') X.xe s := by
  obtain ⟨a, c, xs, ys, es, rfl, rfl, ha, hc, hl, d, rfl⟩ := d
  cases rx
  cases ry
  obtain ⟨z, its, k, r, g⟩ := I.hok a _ ha
  obtain ⟨z2, its2, k2, r2, g2⟩ := I.hok c _ hc
  have TI := twoI_of (pins := pins) (σ := σ) hD h (A := A) sb ha hc hl d
  refine wpAny_richCompare_same_room (op := .Eq) ⟨_, g, rfl⟩ ⟨_, g2, rfl⟩ PySem.F.slot_list_eq (GQ.call_here PySem.F.slot_list_eq ⟨_, g, rfl⟩ PySem.F.entry_list_eq (PySem.F.args_list_eq_2 _ _) ?_) sb.room.units0
  exact two_all (R := wants (fun v s' => v ≠ .notImplemented ∧ v = .bool ((List.range xs.length).all es) ∧ LoopI X pins σ H s') X.xe) a c xs.length es (LoopI X pins σ H) TI ⟨H, I, Ext.rfl'⟩ (fun s' q => ⟨(fun x => nomatch x), rfl, q⟩)
theorem op_eqLB (hD : MonB D) (h : EqB X n D) (hr : Room (n + 1) X.A) : OpR X (compareOp .Eq) (rEqB (DListB D)) := by
  intro pins s σ H x y u v Q I rx ry hq
  obtain ⟨b, d, q⟩ := hq
  refine PySem.W.cmp_ofEq (wpAny_mono (rcB_list hD h (A := X.A) ⟨hr, rfl⟩ I rx ry d) (fun r s' z => ?_) fun _ _ e => e)
  obtain ⟨rfl, H', I', e⟩ := z
  exact ⟨.bl b, H', I', rfl, q H' e⟩
theorem op_or {f : Value → Value → Sem Value} {r r' : R2} (a : OpR X f r) (b : OpR X f r') : OpR X f (fun x y H Q => r x y H Q ∨ r' x y H Q) := fun pins s σ H x y v u Q I rx ry h =>
  h.elim (a pins s σ H x y v u Q I rx ry) (b pins s σ H x y v u Q I rx ry)
end
end Ow
/-! Displays of many things of a kind O, read while I holds. -/
namespace Ow
open PySem PySem.Spec PyProof.Rows L2
def OdE (O : Hp → V → Prop) (I : Hp → Prop) (σ : L2.St) (te : TE) : Prop := ∀ (H : Hp) (Q : VK), I H → (∀ v H', O H' v → Same H H' → Q v H') → te σ H Q
def OdA (O : Hp → V → Prop) (I : Hp → Prop) (σ : L2.St) (t : TA) (n : Nat) : Prop := ∀ (H : Hp) (Q : List V → Hp → Prop), I H → (∀ vs H', vs.length = n → (∀ v ∈ vs, O H' v) → Same H H' → Q vs H') → t σ H Q
def StV (O : Hp → V → Prop) : Prop := ∀ H H' v, O H v → Same H H' → O H' v
def StI (I : Hp → Prop) : Prop := ∀ H H', I H → Same H H' → I H'
theorem sm_upd {H : Hp} {p : Addr} {o : HO} (h : H p = none) : Same H (upd H p o) := fun b u e => by
  rw [upd_ne (ne_of_none e h)]
  exact e
theorem tyof_same {K : PySem.W.Frag} {H H' : Hp} {x : V} {t : Value} (s : Same H H') (h : TyOf K H x t) : TyOf K H' x t := by
  cases h with
  | non => exact .non
  | bl b => exact .bl b
  | int i => exact .int i
  | str z => exact .str z
  | flt z => exact .flt z
  | lst e => exact .lst (s _ _ e)
  | frz e => exact .frz (s _ _ e)
  | tup e => exact .tup (s _ _ e)
  | dK e => exact .dK (s _ _ e)
  | dT e => exact .dT (s _ _ e)
  | ins e a b c d g => exact .ins (s _ _ e) a b c d g
theorem ty_ext {K : PySem.W.Frag} {H H' : Hp} {x : V} {t : Value} (s : Same H H') (h : TyX K H x t) : TyX K H' x t := by
  cases h with
  | base b => exact .base (tyof_same s b)
  | byt b => exact .byt b
  | set e => exact .set (s _ _ e)
  | kList e c => exact .kList e c
  | kTuple e c => exact .kTuple e c
  | kDict e c => exact .kDict e c
  | fTuple e => exact .fTuple (s _ _ e)
  | fDict e => exact .fDict (s _ _ e)
section
variable {O : Hp → V → Prop} {I : Hp → Prop} {σ : L2.St} {te : TE} {t : TA} {n : Nat}
theorem od_nil : OdA O I σ tNil 0 := fun H Q _ h => h [] H rfl (fun v hv => absurd hv List.not_mem_nil) (Same.refl H)
theorem od_cons (hO : StV O) (hI : StI I) (a : OdE O I σ te) (b : OdA O I σ t n) : OdA O I σ (tCons te t) (n + 1) := fun H Q i h => a H _ i fun v H1 h1 s1 => b H1 _ (hI _ _ i s1) fun vs H2 hl h2 s2 =>
  h (v :: vs) H2 (by rw [List.length_cons, hl]) (fun y hy => by
    rcases List.mem_cons.mp hy with e | e
    · rw [e]; exact hO _ _ _ h1 s2
    · exact h2 y e) (s1.trans s2)
/-- what is told by a constant -/
theorem od_c {v : V} (h : ∀ H, I H → O H v) : OdE O I σ (tC v) := fun H Q i k => k v H (h H i) (Same.refl H)
theorem od_var {i : Nat} {v : V} (e : σ[i]? = some (some v)) (h : ∀ H, I H → O H v) : OdE O I σ (tVar i) := fun H Q j k => ⟨v, e, k v H (h H j) (Same.refl H)⟩
/-- a list, a tuple of what leaves all else as it was -/
def QuA (I : Hp → Prop) (σ : L2.St) (t : TA) : Prop := ∀ (H : Hp) (Q : List V → Hp → Prop), I H → (∀ vs H', vs.length ≤ 9 → Same H H' → Q vs H') → t σ H Q
theorem qu_nil : QuA I σ tNil := fun H Q _ h => h [] H (by decide) (Same.refl H)
theorem qu_c (v : V) : QuA I σ (tCons (tC v) tNil) := fun H Q _ h => h [v] H (by show 1 ≤ 9; decide) (Same.refl H)
theorem qu_c2 (v w : V) : QuA I σ (tCons (tC v) (tCons (tC w) tNil)) := fun H Q _ h => h [v, w] H (by show 2 ≤ 9; decide) (Same.refl H)
theorem qu_v {i : Nat} {v : V} (e : σ[i]? = some (some v)) : QuA I σ (tCons (tVar i) tNil) := fun H Q _ h => ⟨v, e, h [v] H (by show 1 ≤ 9; decide) (Same.refl H)⟩
theorem od_lst (q : QuA I σ t) (h : ∀ (H : Hp) (p : Addr) (xs : List V), H p = some (.lst xs) → O H (.ref p)) : OdE O I σ (tLst t) := fun H Q i k => q H _ i fun vs H1 hl s1 => ⟨Nat.le_trans hl (by decide), fun p hp => k _ _ (h _ p vs upd_same) (s1.trans (sm_upd hp))⟩
theorem od_tup (q : QuA I σ t) (h : ∀ (H : Hp) (p : Addr) (xs : List V), H p = some (.tup xs) → O H (.ref p)) : OdE O I σ (tTup t) := fun H Q i k => q H _ i fun vs H1 hl s1 => ⟨Nat.le_trans hl (by decide), fun p hp => k _ _ (h _ p vs upd_same) (s1.trans (sm_upd hp))⟩
theorem od_dict (h : ∀ (H : Hp) (p : Addr) (kvs : List (Key × V)), H p = some (.dK kvs) → O H (.ref p)) : OdE O I σ tDNewK := fun H Q i k p hp => k _ _ (h _ p [] upd_same) (sm_upd hp)
theorem od_disp (z : Key) {tk : TE} {v : V} (hk : ∀ (H : Hp) (Q : VK), Q (kV z) H → tk σ H Q) (h : ∀ (H : Hp) (p : Addr) (kvs : List (Key × V)), H p = some (.dK kvs) → O H (.ref p)) : OdE O I σ (tDisp [(tk, tC v)]) := fun H Q i k p hp =>
  hk _ _ ⟨upd_same, [(z, v)], by cases z <;> rfl, (by show 1 ≤ 15; decide), k _ _ (h _ p _ upd_same) (by rw [upd_upd]; exact sm_upd hp)⟩
theorem od_seq {g : TG} {b : TS} {D : Ends} {H : Hp} (hn : n ≤ 100) (i : I H) (o : OdA O I σ t n)
    (h : ∀ vs H1 l, vs.length = n → (∀ v ∈ vs, O H1 v) → Same H H1 → H1 l = none → g (.ref l) σ (upd H1 l (.lst vs)) fun σ2 H2 => b D σ2 H2) : tSeq (tAsg (tLst t) g) b D σ H :=
  o H _ i fun vs H1 hl ho s => ⟨Nat.le_trans (Nat.le_of_eq hl) (Nat.le_trans hn (by decide)), fun l hp => h vs H1 l hl ho s hp⟩
end
end Ow
/-! Comprehensions: each turn leaves the heap related, and an item that says El. -/
namespace Ow
open PySem PySem.Spec PyProof.Rows L2
/-- len of a list, a tuple -/
def rLenS (K : PySem.W.Frag) : List V → Hp → VK → Prop := fun xs H Q => ∃ (p : Addr) (ys : List V), xs = [V.ref p] ∧ (SqL K H p ys ∨ SqT K H p ys) ∧ Q (.int ys.length) H
structure RelD (Rl : Hp → Hp → Prop) (H1 : Hp) (D : Addr) : Prop where
  tr : ∀ {a b c : Hp}, Rl a b → Rl b c → Rl a c
  ats : ∀ {a b : Hp} {l : List V}, Rl a b → a D = some (.lst l) → b D = some (.lst l)
  up : ∀ {b : Hp} {l l' : List V}, Rl H1 b → b D = some (.lst l) → Rl H1 (upd b D (.lst l'))
  st : Rl H1 (upd H1 D (.lst []))
theorem same_at {H1 H : Hp} {D : Addr} {o : HO} (s : Same H1 H) (hD : H1 D = none) : Same H1 (upd H D o) := fun b u e => by
  rw [upd_ne (ne_of_none e hD)]
  exact s _ _ e
theorem rel_same {H1 : Hp} {D : Addr} (hD : H1 D = none) : RelD Same H1 D := ⟨fun a b => a.trans b, fun s e => s _ _ e, fun s _ => same_at s hD, same_at (Same.refl H1) hD⟩
section
variable {J : It} {n : Nat} {G : Hp → Prop} {Y : Nat → Hp → V → Hp → Prop} {g : TG} {te : TE} {vs : List Nat} {σ : L2.St} {H1 : Hp} {D : Addr} {Qd : Hp → Prop} {Rl : Hp → Hp → Prop}
theorem lc_el (w : Walk J n G Y) (rd : RelD Rl H1 D) (hn : n ≤ 100000) (El : Nat → V → Hp → Prop) (hE1 : ∀ j v H H', Rl H H' → El j v H → El j v H') (hE2 : ∀ j v H l l', H D = some (.lst l) → El j v H → El j v (upd H D (.lst l')))
    (hG : ∀ H, Rl H1 H → G H)
    (hs : ∀ i x H H', i < n → Rl H1 H → (∃ acc, H D = some (.lst acc) ∧ acc.length = i ∧ ∀ (j : Nat) v, acc[j]? = some v → El j v H) → Y i H x H' → ∀ R : VK, (∀ y H4, Rl H H4 → El i y H4 → R y H4) → g x (wipe σ vs) H' fun σ2 H2 => wipe σ2 vs = wipe σ vs ∧ te σ2 H2 R)
    (hd : ∀ H acc, Rl H1 H → H D = some (.lst acc) → acc.length = n → (∀ (j : Nat) v, acc[j]? = some v → El j v H) → Qd H) :
    ∃ W : Nat → Nat → Hp → Prop, (∃ m, W 0 m (upd H1 D (.lst []))) ∧ ∀ i m H, W i m H →
      (J.stop i H ∧ Qd H) ∨ (J.go i H ∧ ∃ Nx : Hp → Prop, (∀ H', Nx H' → ∃ m', m' < m ∧ W (i + 1) m' H') ∧ ∀ x H', J.yld i H x H' → g x (wipe σ vs) H' fun σ2 H2 => wipe σ2 vs = wipe σ vs ∧ tYes σ2 H2 fun b H3 =>
        if b = true then te σ2 H3 fun y H4 => ∃ acc, H4 D = some (.lst acc) ∧ acc.length < sizeLine ∧ Nx (upd H4 D (.lst (acc ++ [y]))) else Nx H3) := by
  refine lc_it w (fun i H => Rl H1 H ∧ ∃ acc, H D = some (.lst acc) ∧ acc.length = i ∧ ∀ (j : Nat) v, acc[j]? = some v → El j v H) ⟨rd.st, [], upd_same, rfl, fun j v e => by simp at e⟩ (fun i H _ h => hG H h.1) ?_ ?_
  · intro i x H H' hi h y
    obtain ⟨r1, acc, ha, hl, he⟩ := id h
    have := hs i x H H' hi r1 h.2 y (fun y H4 => ∃ acc, H4 D = some (.lst acc) ∧ acc.length < sizeLine ∧ (Rl H1 (upd H4 D (.lst (acc ++ [y]))) ∧ ∃ acc2, (upd H4 D (.lst (acc ++ [y]))) D = some (.lst acc2) ∧ acc2.length = i + 1 ∧ ∀ (j : Nat) v, acc2[j]? = some v → El j v (upd H4 D (.lst (acc ++ [y])))))
      (fun y H4 r4 e4 => ⟨acc, rd.ats r4 ha, Nat.lt_of_le_of_lt (show acc.length ≤ 100000 by omega) (by decide), rd.up (rd.tr r1 r4) (rd.ats r4 ha), acc ++ [y], upd_same, by rw [List.length_append, hl]; rfl, fun j v ev => by
        rcases Nat.lt_or_ge j acc.length with c | c
        · rw [List.getElem?_append_left c] at ev
          exact hE2 _ _ _ _ _ (rd.ats r4 ha) (hE1 _ _ _ _ r4 (he j v ev))
        · rw [List.getElem?_append_right c] at ev
          have : j - acc.length = 0 := by
            rcases Nat.eq_zero_or_pos (j - acc.length) with z | z
            · exact z
            · rw [List.getElem?_eq_none (by simp; omega)] at ev
              exact nomatch ev
          rw [this] at ev
          have ej : j = i := by omega
          cases ev
          rw [ej]
          exact hE2 _ _ _ _ _ (rd.ats r4 ha) e4⟩)
    exact this
  · rintro H ⟨r, acc, ha, hl, he⟩
    exact hd H acc r ha hl he
/-- the items known ahead -/
theorem lc_vals (w : Walk J n G Y) (rd : RelD Rl H1 D) (vals : List V) (hn : vals.length = n) (hz : n ≤ 100000) (hG : ∀ H, Rl H1 H → G H)
    (hs : ∀ i x H H' v, i < n → vals[i]? = some v → Rl H1 H → (∃ acc, H D = some (.lst acc)) → Y i H x H' → ∀ R : VK, (∀ H4, Rl H H4 → R v H4) → g x (wipe σ vs) H' fun σ2 H2 => wipe σ2 vs = wipe σ vs ∧ te σ2 H2 R)
    (hd : ∀ H, Rl H1 H → H D = some (.lst vals) → Qd H) :
    ∃ W : Nat → Nat → Hp → Prop, (∃ m, W 0 m (upd H1 D (.lst []))) ∧ ∀ i m H, W i m H →
      (J.stop i H ∧ Qd H) ∨ (J.go i H ∧ ∃ Nx : Hp → Prop, (∀ H', Nx H' → ∃ m', m' < m ∧ W (i + 1) m' H') ∧ ∀ x H', J.yld i H x H' → g x (wipe σ vs) H' fun σ2 H2 => wipe σ2 vs = wipe σ vs ∧ tYes σ2 H2 fun b H3 =>
        if b = true then te σ2 H3 fun y H4 => ∃ acc, H4 D = some (.lst acc) ∧ acc.length < sizeLine ∧ Nx (upd H4 D (.lst (acc ++ [y]))) else Nx H3) := by
  refine lc_el w rd hz (fun j v _ => vals[j]? = some v) (fun _ _ _ _ _ e => e) (fun _ _ _ _ _ _ e => e) hG (fun i x H H' hi r ha y R k => ?_) (fun H acc r ha hl he => hd H r ?_)
  · obtain ⟨acc, ha, _⟩ := ha
    have hv : vals[i]? = some vals[i] := List.getElem?_eq_getElem (by omega)
    exact hs i x H H' _ hi hv r ⟨acc, ha⟩ y R fun H4 r4 => k _ H4 r4 hv
  · rw [ha]
    have : acc = vals := by
      apply List.ext_getElem?
      intro j
      rcases Nat.lt_or_ge j n with c | c
      · rw [List.getElem?_eq_getElem (show j < acc.length by omega)]
        exact (he j _ (List.getElem?_eq_getElem (by omega))).symm
      · rw [List.getElem?_eq_none (by omega), List.getElem?_eq_none (by omega)]
    rw [this]
/-- those of the first i that are kept -/
def kept (keep : Nat → Bool) (vals : List V) (i : Nat) : List V := ((List.range i).filter keep).filterMap fun j => vals[j]?
theorem kept_succ (keep : Nat → Bool) (vals : List V) (i : Nat) (v : V) (h : vals[i]? = some v) : kept keep vals (i + 1) = if keep i = true then kept keep vals i ++ [v] else kept keep vals i := by
  unfold kept
  rw [List.range_succ, List.filter_append, List.filterMap_append]
  by_cases c : keep i = true
  · rw [if_pos c, List.filter_cons_of_pos c, List.filter_nil]
    simp [h]
  · rw [if_neg c, List.filter_cons_of_neg c, List.filter_nil]
    simp
theorem kept_len (keep : Nat → Bool) (vals : List V) (i : Nat) (h : i ≤ vals.length) : (kept keep vals i).length = ((List.range i).filter keep).length := by
  induction i with
  | zero => rfl
  | succ i ih =>
    rw [kept_succ keep vals i vals[i] (List.getElem?_eq_getElem (by omega)), List.range_succ, List.filter_append]
    by_cases c : keep i = true
    · rw [if_pos c, List.filter_cons_of_pos c, List.filter_nil, List.length_append, List.length_append, ih (by omega)]
      rfl
    · rw [if_neg c, List.filter_cons_of_neg c, List.filter_nil, List.append_nil, ih (by omega)]
theorem kept_le (keep : Nat → Bool) (vals : List V) (i : Nat) (h : i ≤ vals.length) : (kept keep vals i).length ≤ i := by
  rw [kept_len keep vals i h]
  exact Nat.le_trans (List.length_filter_le ..) (by simp)
/-- with a test: those of the walked that are kept -/
theorem lc_filter {tt : TT} (w : Walk J n G Y) (rd : RelD Rl H1 D) (vals : List V) (keep : Nat → Bool) (hn : vals.length = n) (hz : n ≤ 100000) (hG : ∀ H, Rl H1 H → G H)
    (hs : ∀ i x H H' v, i < n → vals[i]? = some v → Rl H1 H → (∃ acc, H D = some (.lst acc)) → Y i H x H' → ∀ (RR : VK) (SS : Hp → Prop), (keep i = true → ∀ H4, Rl H H4 → RR v H4) → (keep i = false → ∀ H4, Rl H H4 → SS H4) →
      g x (wipe σ vs) H' fun σ2 H2 => wipe σ2 vs = wipe σ vs ∧ tt σ2 H2 fun b H3 => if b = true then te σ2 H3 RR else SS H3)
    (hd : ∀ H, Rl H1 H → H D = some (.lst (kept keep vals n)) → Qd H) :
    ∃ W : Nat → Nat → Hp → Prop, (∃ m, W 0 m (upd H1 D (.lst []))) ∧ ∀ i m H, W i m H →
      (J.stop i H ∧ Qd H) ∨ (J.go i H ∧ ∃ Nx : Hp → Prop, (∀ H', Nx H' → ∃ m', m' < m ∧ W (i + 1) m' H') ∧ ∀ x H', J.yld i H x H' → g x (wipe σ vs) H' fun σ2 H2 => wipe σ2 vs = wipe σ vs ∧ tt σ2 H2 fun b H3 =>
        if b = true then te σ2 H3 fun y H4 => ∃ acc, H4 D = some (.lst acc) ∧ acc.length < sizeLine ∧ Nx (upd H4 D (.lst (acc ++ [y]))) else Nx H3) := by
  refine lc_it w (fun i H => Rl H1 H ∧ H D = some (.lst (kept keep vals i)) ∧ i ≤ n) ⟨rd.st, upd_same, Nat.zero_le _⟩ (fun i H _ h => hG H h.1) ?_ ?_
  · rintro i x H H' hi ⟨r1, ha, _⟩ y
    have hv : vals[i]? = some vals[i] := List.getElem?_eq_getElem (by omega)
    have ks := kept_succ keep vals i _ hv
    refine hs i x H H' _ hi hv r1 ⟨_, ha⟩ y _ _ (fun c H4 r4 => ?_) (fun c H4 r4 => ?_)
    · rw [if_pos c] at ks
      refine ⟨_, rd.ats r4 ha, Nat.lt_of_le_of_lt (show _ ≤ 100000 from Nat.le_trans (kept_le keep vals i (by omega)) (by omega)) (by decide), rd.up (rd.tr r1 r4) (rd.ats r4 ha), ?_, hi⟩
      rw [upd_same, ks]
    · rw [if_neg (by rw [c]; exact Bool.false_ne_true)] at ks
      refine ⟨rd.tr r1 r4, ?_, hi⟩
      rw [ks]
      exact rd.ats r4 ha
  · rintro H ⟨r, ha, _⟩
    exact hd H r ha
end
end Ow
/-! An instance's own [], in, len. -/
namespace Ow
open PySem PySem.Spec PyProof.Rows L2
section
variable {X : Cx} {CX : CXT} {k : Nat} {C f : Addr} {fd : FuncData} {ps : List Str} {sp : Sp} {E : XK} {a b : Expr} {ta tb : TE} {pos : Pos}
/-- x[y], x an instance with its own [] -/
def rIxO (C : Addr) (sp : Sp) (E : XK) : R2 := fun x y H Q => ∃ a dx fs, x = .ref a ∧ H a = some (.ins C dx fs) ∧ sp [.ref a, y] H Q E
theorem pe_ixO (o : OpOf X.K C "__getitem__" f) (hf : PySem.W.fnIn X.K f = true) (F : FnOk X.prog X.w X.K X.mg X.base CX k f fd ps sp) (hr : Room (k + 1) X.A) (hb : Binds X.K fd ps []) (hx : Passes CX X E) (ha : PE X a ta) (hbb : PE X b tb)
    (hsl : ∀ x i, subscripted b true (.ref x) i = runValue (.builtin "lifetime.subscript" ⟨[.ref x, i], []⟩) := by intro x i; with_unfolding_all rfl) : PE X (.Subscript a b pos) (tOp (rIxO C sp E) ta tb) := by
  refine ⟨fun pins s σ H Q I h => ?_⟩
  refine Subscript_ (binT ha hbb I h fun v u s2 x y H2 I2 rx ry q => ?_)
  obtain ⟨a, dx, fs, rfl, ea, q⟩ := q
  cases rx
  obtain ⟨od, J⟩ := inst_of I2 ea
  obtain ⟨m, hF⟩ := I2.fr
  exact PySem.W.sub_K hF I2.ok.mod.kin J o.at_ hf o.fn (run_in (vs := [.ref a, y]) F hr.in1 rfl hb hx I2 (.cons rfl (.cons ry .nil)) q) (hsl a u)
/-- x in y, y an instance with its own in, which tells a truth -/
def rInO (C : Addr) (sp : Sp) (E : XK) : R2 := fun x y H Q => ∃ a dx fs, y = .ref a ∧ H a = some (.ins C dx fs) ∧ sp [.ref a, x] H (fun v H' => ∃ t, v = .bl t ∧ Q (.bl t) H') E
def rNotInO (C : Addr) (sp : Sp) (E : XK) : R2 := fun x y H Q => ∃ a dx fs, y = .ref a ∧ H a = some (.ins C dx fs) ∧ sp [.ref a, x] H (fun v H' => ∃ t, v = .bl t ∧ Q (.bl (!t)) H') E
theorem op_inO (o : OpOf X.K C "__contains__" f) (F : FnOk X.prog X.w X.K X.mg X.base CX k f fd ps sp) (hr : Room k X.A) (hb : Binds X.K fd ps []) (hx : Passes CX X E) : OpR X (compareOp .In) (rInO C sp E) := by
  intro pins s σ H x y v u Q I rx ry hq
  obtain ⟨a, dx, fs, rfl, ea, q⟩ := hq
  cases ry
  obtain ⟨od, J⟩ := inst_of I ea
  obtain ⟨m, hF⟩ := I.fr
  refine PySem.W.in_K hF I.ok.mod.kin J o.at_ o.fn (wpAny_mono (run_in (vs := [.ref a, x]) F hr rfl hb hx I (.cons rfl (.cons rx .nil)) q) (fun r s' z => ?_) fun _ _ e => e)
  obtain ⟨w, H', I', rw', t, rfl, q⟩ := z
  cases rw'
  exact wpAny_truthy_bool ⟨.bl t, H', I', rfl, q⟩
theorem op_notInO (o : OpOf X.K C "__contains__" f) (F : FnOk X.prog X.w X.K X.mg X.base CX k f fd ps sp) (hr : Room k X.A) (hb : Binds X.K fd ps []) (hx : Passes CX X E) : OpR X (compareOp .NotIn) (rNotInO C sp E) := by
  intro pins s σ H x y v u Q I rx ry hq
  obtain ⟨a, dx, fs, rfl, ea, q⟩ := hq
  cases ry
  obtain ⟨od, J⟩ := inst_of I ea
  obtain ⟨m, hF⟩ := I.fr
  refine PySem.W.notIn_K hF I.ok.mod.kin J o.at_ o.fn (wpAny_mono (run_in (vs := [.ref a, x]) F hr rfl hb hx I (.cons rfl (.cons rx .nil)) q) (fun r s' z => ?_) fun _ _ e => e)
  obtain ⟨w, H', I', rw', t, rfl, q⟩ := z
  cases rw'
  exact wpAny_truthy_bool ⟨.bl (!t), H', I', rfl, q⟩
/-- len(x), x an instance with its own len -/
def rLenO (C : Addr) (sp : Sp) (E : XK) : List V → Hp → VK → Prop := fun vs H Q => ∃ a dx fs, vs = [.ref a] ∧ H a = some (.ins C dx fs) ∧ sp [.ref a] H (fun v H' => ∃ n : Nat, v = .int n ∧ n ≤ sizeLine ∧ Q (.int n) H') E
theorem call_len_own (o : OpOf X.K C "__len__" f) (F : FnOk X.prog X.w X.K X.mg X.base CX k f fd ps sp) (hr : Room (k + 1) X.A) (hb : Binds X.K fd ps []) (hx : Passes CX X E) : CallR X (.builtin "len") (rLenO C sp E) := by
  intro pins s σ H vs us Q I r hq
  obtain ⟨a, dx, fs, rfl, ea, q⟩ := hq
  obtain ⟨u, rfl, rx⟩ := vals1 r
  cases rx
  obtain ⟨od, J⟩ := inst_of I ea
  obtain ⟨m, hF⟩ := I.fr
  refine PySem.W.len_K hF I.ok.mod.kin J o.at_ o.fn (wpAny_mono (run_in (vs := [.ref a]) F hr.in1 rfl hb hx I (.cons rfl .nil) q) (fun r s' z => ?_) fun _ _ e => e)
  obtain ⟨w, H', I', rw', n, rfl, hn, q⟩ := z
  obtain ⟨t, rfl⟩ := rw'
  have hl := line63
  exact ⟨⟨by omega, by omega⟩, .int n, H', I'.tok _, ⟨_, rfl⟩, q⟩
end
end Ow
/-! len(set(xs)), xs a list of any texts. -/
namespace Ow
open PySem PySem.Spec PyProof.Rows L2
/-- the texts met so far, each once -/
def met (xs : List Str) : Nat → List Str
  | 0 => []
  | i + 1 => if (met xs i).any (· == xs.getD i Str.empty) then met xs i else met xs i ++ [xs.getD i Str.empty]
theorem met_le (xs : List Str) : ∀ i, (met xs i).length ≤ i
  | 0 => Nat.le_refl _
  | i + 1 => by
    have h := met_le xs i
    unfold met
    split
    · omega
    · rw [List.length_append]; simp; omega
theorem met_any (xs : List Str) (i : Nat) (k : Str) : (met xs (i + 1)).any (· == k) = ((met xs i).any (· == k) || decide (k = xs.getD i Str.empty)) := by
  rw [show met xs (i + 1) = if (met xs i).any (· == xs.getD i Str.empty) then met xs i else met xs i ++ [xs.getD i Str.empty] from rfl]
  by_cases c : (met xs i).any (· == xs.getD i Str.empty) = true
  · rw [if_pos c]
    by_cases e : k = xs.getD i Str.empty
    · rw [e, c]; simp
    · rw [decide_eq_false e, Bool.or_false]
  · rw [if_neg c, List.any_append]
    by_cases e : k = xs.getD i Str.empty
    · rw [e]; simp
    · have : (xs.getD i Str.empty == k) = false := beq_eq_false_iff_ne.mpr fun z => e z.symm
      rw [decide_eq_false e, List.any_cons, List.any_nil, this]
      rfl
theorem met_len (xs : List Str) (i : Nat) : (met xs (i + 1)).length = if (met xs i).any (· == xs.getD i Str.empty) then (met xs i).length else (met xs i).length + 1 := by
  show (if _ then _ else _ : List Str).length = _
  split <;> simp
theorem met_mem (xs : List Str) : ∀ i, i ≤ xs.length → ∀ k, k ∈ met xs i ↔ k ∈ xs.take i
  | 0, _, k => by simp [met]
  | i + 1, h, k => by
    have e := met_mem xs i (by omega) k
    have g : xs.getD i Str.empty = xs[i] := by rw [List.getD_eq_getElem?_getD, List.getElem?_eq_getElem (by omega)]; rfl
    rw [List.take_add_one, List.getElem?_eq_getElem (by omega)]
    unfold met
    rw [g]
    simp only [Option.toList_some, List.mem_append, List.mem_singleton]
    by_cases c : (met xs i).any (· == xs[i]) = true
    · rw [if_pos c, e]
      refine ⟨.inl, fun z => z.elim id fun z => ?_⟩
      obtain ⟨y, hy, e2⟩ := List.any_eq_true.mp c
      rw [z, ← beq_iff_eq.mp e2]
      exact (met_mem xs i (by omega) y).mp hy
    · rw [if_neg c, List.mem_append, e, List.mem_singleton]
theorem met_nodup (xs : List Str) : ∀ i, i ≤ xs.length → ((met xs i).length = i ↔ (xs.take i).Nodup)
  | 0, _ => by simp [met]
  | i + 1, h => by
    have ih := met_nodup xs i (by omega)
    have g : xs.getD i Str.empty = xs[i] := by rw [List.getD_eq_getElem?_getD, List.getElem?_eq_getElem (by omega)]; rfl
    have le := met_le xs i
    rw [List.take_add_one, List.getElem?_eq_getElem (by omega), met_len, g, Option.toList_some, List.nodup_append]
    by_cases c : (met xs i).any (· == xs[i]) = true
    · rw [if_pos c]
      refine ⟨fun z => by omega, fun z => ?_⟩
      obtain ⟨y, hy, e2⟩ := List.any_eq_true.mp c
      exact absurd (beq_iff_eq.mp e2) (z.2.2 y ((met_mem xs i (by omega) y).mp hy) _ List.mem_cons_self)
    · rw [if_neg c]
      refine ⟨fun z => ⟨ih.mp (by omega), by simp, fun a ha b hb e => ?_⟩, fun z => by rw [ih.mpr z.1]⟩
      rw [List.mem_singleton] at hb
      subst hb
      exact c (List.any_eq_true.mpr ⟨a, (met_mem xs i (by omega) a).mpr ha, beq_iff_eq.mpr e⟩)
theorem met_all (xs : List Str) : (met xs xs.length).length = xs.length ↔ xs.Nodup := by
  have := met_nodup xs xs.length (Nat.le_refl _)
  rw [List.take_length] at this
  exact this
section
variable {prog : Program} {w : World} {A : Around} {R : Result → Shared → Prop} {I : Addr} {fp wr : List Addr} {G : Array GenState → Array GenState → Prop} {n : Nat} {P : Nat → Value → Prop} {St : Nat → Shared → Prop}
abbrev SOf (prog : Program) (w : World) (h : Heap) (S : Addr) (xs : List Str) (i : Nat) : Prop := h.SetOf (PySem.strKind prog w) S (fun k' => (met xs i).any (· == k')) (met xs i).length
theorem upd_texts (W : WalksS prog w A.in1 I fp wr G n P St) (S : Addr) (hSf : S ∉ fp) (xs : List Str) (hsz : xs.length = n) (hb : n + 1 < scanBound) (hval : ∀ i v, P i v → ∃ t, v = .str (xs.getD i Str.empty) t) : ∀ (k i : Nat) (s : Shared), n - i = k → i ≤ n → St i s →
      SOf prog w s.heap S xs i → (∀ s', Moved (S :: wr) G s s' → SOf prog w s'.heap S xs n → R (.ok (.ret .none)) s') → codeAny (model prog w) A (.builtin "set.update.loop" ⟨[.ref S, .ref I], []⟩) R s := by
  have nS : S ∉ wr := fun z => hSf (W.sub _ z)
  have up : ∀ b ∈ wr, b ∈ S :: wr := fun b z => List.mem_cons_of_mem _ z
  have stay : ∀ {s s' : Shared} {i : Nat}, Moved wr G s s' → SOf prog w s.heap S xs i → SOf prog w s'.heap S xs i := fun hm ⟨o, es, ep, t, ho, r⟩ => ⟨o, es, ep, t, hm.heap S _ nS ho, r⟩
  intro k
  induction k with
  | zero =>
    intro i s hk hi hst hS hR
    have e : i = n := by omega
    subst e
    refine codeAny_builtin PyProof.Rows.F.entry_set_update_loop (by
      rw [Around.under_plainId PyProof.Rows.F.plain_set_update_loop _]
      exact wpAny_bind (m := pyNext (.ref I)) (W.done s _ _ hst fun s' hm => wpAny_pure (hR s' (hm.mono up) (stay hm hS))))
  | succ k ih =>
    intro i s hk hi hst hS hR
    have hlt : i < n := by omega
    have hroom : (met xs i).length + 1 < scanBound := by have := met_le xs i; omega
    refine codeAny_builtin PyProof.Rows.F.entry_set_update_loop ?_
    rw [Around.under_plainId PyProof.Rows.F.plain_set_update_loop _]
    refine wpAny_bind (m := pyNext (.ref I)) (W.item i s _ _ hlt hst fun v s' hP hst' hm => ?_)
    obtain ⟨t, rfl⟩ := hval i v hP
    refine wpAny_bind (m := holding [Value.str (xs.getD i Str.empty) t] (setAdd S (.str (xs.getD i Str.empty) t))) (wpAny_holding ?_)
    unfold setAdd
    refine wpAny_holding (wpAny_bind ((PySem.strKind prog w).pyHash (k := xs.getD i Str.empty) (strKind_is _ _ _ _) ?_))
    refine wpAny_setAddHashed_of (knd := PySem.strKind prog w) (s := { s' with toks := s'.toks + 1 }) (strKind_is _ _ _ _) rfl (show SOf prog w s'.heap S xs i from stay hm hS) hroom fun h' hsb hS2 => ?_
    have nb : ∀ {b : Addr}, b ∈ fp → b ≠ S := fun hb z => hSf (z ▸ hb)
    refine wpAny_pure ⟨plainId_quiet PyProof.Rows.F.plain_set_update_loop _, ih (i + 1) _ (by omega) hlt (W.frame _ s' _ _ hst' (Nat.le_succ _) fun b hb o e => by rw [hsb.2 b (nb hb)]; exact e) (PyProof.Rows.SetOf_congr hS2 (fun k' => (met_any xs i k').symm) (met_len xs i).symm) fun s'' hm'' hS'' => ?_⟩
    refine hR s'' (Moved.trans W.gtrans ((hm.mono up).then_heap (Nat.le_succ _) fun b o hb e => ?_) hm'') hS''
    rw [hsb.2 b (fun z => hb (by rw [z]; exact List.mem_cons_self))]
    exact e
end
section
variable {prog : Program} {w : World} {A : Around} {E : Value → Shared → Prop} {s : Shared}
/-- set(l), l a list of texts -/
theorem set_texts {l : Addr} {items : Array Value} {xs : List Str} {Q : Value → Shared → Prop} (hh : A.handled = none) (hl : s.heap.IsList l items) (hi : PyProof.Rows.StrsAre items.toList xs) (hb : xs.length + 1 < scanBound)
    (h : ∀ (h' : Heap) (tk : Nat), SOf prog w h' s.heap.objs.size xs xs.length → (∀ b o, b < s.heap.objs.size → s.heap.get? b = some o → h'.get? b = some o) → Q (.ref s.heap.objs.size) { s with heap := h', toks := tk }) :
    wpAny (model prog w) A (call (.type "set") [.ref l]) Q E s := by
  obtain ⟨c, tl, hmro⟩ := PySem.F.called_set.mro
  have made := PySem.F.called_set.made
  have sub := PySem.F.called_set.sub
  have nt := PySem.F.called_set.notType
  have can := PySem.F.called_set.canCreate
  have tc := PySem.F.typeCall_set_1 (.ref l)
  have hsz : xs.length = items.size := by rw [← StrsAre.len_eq hi, Array.length_toList]
  refine wpAny_call (codeAny_of_tree ?_)
  refine (show wpAny _ _ (callAny (.type "set") _) _ _ _ from wpAny_pure ⟨Code.quiet_builtin _ (by decide +kernel), codeAny_builtin PySem.F.entry_type_call ?_⟩)
  rw [Around.under_plain (weight_type_call_type "set" [.ref l] []) rfl]
  repeat (any_goals (first | assumption | wp_step))
  refine codeAny_mono (code_set_new_1 (.ref l) (E := E) (Q₁ := fun obj s₁ => ∃ led : Bool, obj = .ref s.heap.objs.size ∧ s₁ = { s with heap := s.heap.push { cls := .type "set", dict := none, data := .set #[] 0 (.fresh 0 0 led) } }) fun led => ⟨led, rfl, rfl⟩) fun r s₁ hr => ?_
  cases r with
  | error e => exact hr
  | ok fl => cases fl with
    | next => exact hr.elim
    | brk => exact hr.elim
    | cont => exact hr.elim
    | ret obj =>
      obtain ⟨led, rfl, rfl⟩ := hr
      have hS : (s.heap.push { cls := .type "set", dict := none, data := .set #[] 0 (.fresh 0 0 led) }).get? s.heap.objs.size = some { cls := .type "set", dict := none, data := .set #[] 0 (.fresh 0 0 led) } := Heap.get?_push_size _ rfl
      have hT : Shared.TypeIs { s with heap := s.heap.push { cls := .type "set", dict := none, data := .set #[] 0 (.fresh 0 0 led) } } (.ref s.heap.objs.size) "set" := ⟨_, hS, rfl⟩
      have lk := PySem.F.called_set.init.lookup
      have bd := PySem.F.called_set.init.bind (.ref s.heap.objs.size)
      repeat (any_goals (first | assumption | wp_step))
      refine codeAny_mono (codeAny_call_builtin (R := wants (fun r s₂ => r = .none ∧ ∃ h' tk, s₂ = { s with heap := h', toks := tk } ∧ SOf prog w h' s.heap.objs.size xs xs.length ∧ (∀ b o, b < s.heap.objs.size → s.heap.get? b = some o → h'.get? b = some o)) E)
        PySem.F.called_set.init.plain PySem.F.entry_set_init (check_set_init_1 hT ?_)) fun r₂ s₂ hr₂ => ?_
      · obtain ⟨⟨cl, dd, data, sl⟩, hol, hc, nl, hd⟩ := id hl
        simp only at hc hd
        subst hc hd
        have hol' : (s.heap.push { cls := .type "set", dict := none, data := .set #[] 0 (.fresh 0 0 led) }).get? l = some { cls := .type "list", dict := dd, data := .seq items nl, slots := sl } := Heap.get?_push_of_some _ hol
        have s1 := PySem.F.sub_list_set
        have s2 := PySem.F.sub_list_frozenset
        have ne : (Value.type "list" == Value.type "dict") = false := by decide
        have hl1 : (s.heap.push { cls := .type "set", dict := none, data := .set #[] 0 (.fresh 0 0 led) }).IsList l items := ⟨_, hol', rfl, nl, rfl⟩
        have hlS : l < s.heap.objs.size := Heap.lt_size hol
        unfold Builtin.«set.__init__» noKeywords Builtin.Frozenset.updateFrom
        generalize hPI : pyIter = PI
        wp_walk
        subst hPI
        refine wpAny_pyIter_list hl1 (wpAny_bind (wpAny_runValue ?_))
        have hh3 : A.in1.in1.in1.handled = none := by simp [hh]
        have nI : l ≠ (s.heap.push { cls := .type "set", dict := none, data := .set #[] 0 (.fresh 0 0 led) }).objs.size := by
          rw [Heap.size_push]
          exact Nat.ne_of_lt (Nat.lt_succ_of_lt hlS)
        have nS : s.heap.objs.size ∉ [(s.heap.push { cls := .type "set", dict := none, data := .set #[] 0 (.fresh 0 0 led) }).objs.size, l] := by
          rw [Heap.size_push]
          simp only [List.mem_cons, List.mem_singleton, List.not_mem_nil, or_false, not_or]
          exact ⟨Nat.ne_of_lt (Nat.lt_succ_self _), Nat.ne_of_gt hlS⟩
        refine upd_texts ((Walks.list hh3 _ l nI items).toS) s.heap.objs.size nS xs hsz (by rw [← hsz]; exact hb) (fun i v hv => SS.strs_at hi i v (by rw [Array.getElem?_toList]; exact hv)) (items.size - 0) 0 _ (by omega) (Nat.zero_le _) ⟨⟨_, Heap.get?_push_size _ rfl, rfl, rfl⟩, (hl1.push _)⟩ ?hS0 ?hR
        case hS0 =>
          exact PyProof.Rows.SetOf_congr ((PyProof.Rows.setObjOf_fresh (knd := PySem.strKind prog w) led).setOf (Heap.get?_push_of_some _ hS) (by unfold scanBound; omega)) (fun _ => rfl) rfl
        case hR =>
          intro s' hm hS'
          obtain ⟨h', g', d', tk', os'⟩ := s'
          have eg : g' = s.gens := hm.gens
          have ed : d' = s.drawn := hm.drawn
          have eo : os' = s.os := hm.os
          subst eg ed eo
          refine wpAny_pure (wpAny_pure ⟨rfl, h', tk', rfl, (by rw [hsz]; exact hS'), fun b o hb e => ?_⟩)
          have b1 : b ≠ s.heap.objs.size := Nat.ne_of_lt hb
          have b2 : b ≠ (s.heap.push { cls := .type "set", dict := none, data := .set #[] 0 (.fresh 0 0 led) }).objs.size := by
            rw [Heap.size_push]
            exact Nat.ne_of_lt (Nat.lt_succ_of_lt hb)
          refine hm.heap b o ?_ (Heap.get?_push_of_some _ (Heap.get?_push_of_some _ e))
          simp only [List.mem_cons, List.mem_singleton, List.not_mem_nil, or_false, not_or]
          exact ⟨b1, b2⟩
      · cases r₂ with
        | error e => exact hr₂
        | ok f2 => cases f2 with
          | next => exact hr₂.elim
          | brk => exact hr₂.elim
          | cont => exact hr₂.elim
          | ret r =>
            obtain ⟨rfl, h', tk, rfl, hS', hk'⟩ := hr₂
            repeat (any_goals (first | assumption | wp_step))
            exact h _ _ hS' hk'
end
section
variable {X : Cx}
/-- len(set(xs)): how many unlike texts -/
def tLenSetT (K : PySem.W.Frag) (ta : TE) : TE := fun σ H Q => ta σ H fun x H1 => ∃ (l : Addr) (xs : List Str), x = .ref l ∧ SqL K H1 l (xs.map V.str) ∧ xs.length ≤ 1000 ∧ Q (.int ((met xs xs.length).length : Nat)) H1
theorem pe_lenSetT {a : Expr} {ta : TE} {p p2 q pos : Pos} (hg : Gl X "len") (hm : X.mg "len" = none) (hg2 : Gl X "set") (hm2 : X.mg "set" = none) (ha : PE X a ta) (hc : X.calm = true := by rfl)
    (na : starEach [a] X.env = (false, eval a X.env) :: starEach [] X.env := by rfl) : PE X (.Call (.Name "len" p) [.Call (.Name "set" p2) [a] [] q] [] pos) (tLenSetT X.K ta) := by
  refine ⟨fun pins s σ H Q I h => ?_⟩
  refine Call_ (ld_blt I hg hm boot_len (PyProof.Rows.callWith_builtin1 (PyProof.Rows.args_cons ?_ rfl) rfl rfl))
  refine Call_ (ld_blt I hg2 hm2 boot_set (PyProof.Rows.callWith_type1 (PyProof.Rows.args_cons (thn (ha.run pins s σ H _ I h) fun v s1 got => PyProof.Rows.args_nil ?_) na) na rfl))
  obtain ⟨x, H1, I1, r1, l, xs, rfl, hq, hl, q1⟩ := got
  cases r1
  obtain ⟨its, r, pl, hz⟩ := I1.list hq
  have hs : xs.length + 1 < scanBound := by unfold scanBound; omega
  refine set_texts (I1.ok.hd hc) pl.isList (by simpa using strsAre_of r) hs fun h' tk hS hk => PyProof.Rows.args_nil ?_
  obtain ⟨o, es, ep, t, ho, hex, hd, _, _, _, hf, hn⟩ := hS
  have I2 : Inv X pins σ H1 { s1 with heap := h', toks := tk } := I1.kept fun b o e => hk b o (Heap.lt_size e) e
  have ml := met_le xs xs.length
  exact call_len_set ho hex hd hf (by rw [hn]; omega) ⟨.int ((met xs xs.length).length : Nat), H1, I2.tok _, ⟨_, by rw [hn]⟩, q1⟩
end
end Ow
/-! Pots, and what stands while they are drawn from; data that lies in the heap. -/
namespace Pt
open PySem PySem.Spec PyProof.Rows L2 Ow
abbrev FnP (K : PySem.W.Frag) (x qual : Str) (st : Stmt) (dvs : List V) (f : Addr) (fd : FuncData) : Prop := FunD K x qual (defArgs st) (defBody st) (defScope st) dvs [] f fd
/-- a def of the text, as others call it -/
structure Dfn (P : Program) (w : World) (K : PySem.W.Frag) (mg : Str → Option Value) (base : Heap) (k : Nat) (x : Str) (ps : List Str) (sp : Sp) : Prop where
  ex : ∃ f fd, FnOk P w K mg base CX0 k f fd ps sp ∧ mg x = some (.ref f) ∧ PySem.W.keepIn K (.ref f) = true ∧ Binds K fd ps []
theorem pe_use {X : Cx} {k : Nat} {x : Str} {ps : List Str} {sp : Sp} {p pos : Pos} {e : Expr} {es : List Expr} {t : TA} (D : Dfn X.prog X.w X.K X.mg X.base k x ps sp) (hr : Room k X.A) (hg : Gl X x) (ha : PA X (e :: es) t)
    (hdb : (x == ("__debug__" : Str)) = false := by decide) (he : starEach (e :: es) X.env = (false, eval e X.env) :: starEach es X.env := by rfl) (hpl : (backTo pos (starEach es X.env)).any (·.1) = false := by rfl) :
    PE X (.Call (.Name x p) (e :: es) [] pos) (tCall sp [] E0 t) := by
  obtain ⟨f, fd, F, hm, hk, hb⟩ := D.ex
  exact pe_call F hr hg hm hk hb .nil pass0 ha hdb he hpl
structure DfnG (P : Program) (w : World) (K : PySem.W.Frag) (mg : Str → Option Value) (base : Heap) (k : Nat) (x : Str) (ps : List Str) (sp : Sp) : Prop where
  ex : ∃ f fd, FnG P w K mg base CX0 k f fd ps sp ∧ mg x = some (.ref f) ∧ PySem.W.keepIn K (.ref f) = true ∧ Binds K fd ps []
theorem pe_useG {X : Cx} {k : Nat} {x : Str} {ps : List Str} {sp : Sp} {p pos : Pos} {e : Expr} {es : List Expr} {t : TA} (D : DfnG X.prog X.w X.K X.mg X.base k x ps sp) (hr : Room k X.A) (hgu : X.A.guards = some []) (hg : Gl X x) (ha : PA X (e :: es) t)
    (hdb : (x == ("__debug__" : Str)) = false := by decide) (he : starEach (e :: es) X.env = (false, eval e X.env) :: starEach es X.env := by rfl) (hpl : (backTo pos (starEach es X.env)).any (·.1) = false := by rfl) :
    PE X (.Call (.Name x p) (e :: es) [] pos) (tCall sp [] E0 t) := by
  obtain ⟨f, fd, F, hm, hk, hb⟩ := D.ex
  exact pe_callG F hr hgu hg hm hk hb pass0 ha hdb he hpl
/-- a method, as others call it -/
structure Mtd (P : Program) (w : World) (K : PySem.W.Frag) (mg : Str → Option Value) (base : Heap) (k : Nat) (C : Addr) (m : Str) (ps : List Str) (sp : Sp) : Prop where
  ex : ∃ f fd, Meth K C m f ∧ FnOk P w K mg base CX0 k f fd ps sp ∧ Binds K fd ps []
/-- an own operator, as others use it -/
structure Opr (P : Program) (w : World) (K : PySem.W.Frag) (mg : Str → Option Value) (base : Heap) (k : Nat) (C : Addr) (m : Str) (ps : List Str) (sp : Sp) : Prop where
  ex : ∃ f fd, OpOf K C m f ∧ FnOk P w K mg base CX0 k f fd ps sp ∧ Binds K fd ps []
section
variable {X : Cx} {C : Addr} {m : Str} {k : Nat} {ps : List Str} {sp : Sp} {o e : Expr} {es : List Expr} {ta : TE} {t : TA} {apos pos : Pos}
theorem pe_mt {pl : Sem Bool} (c : Cls X.K C) (M : Mtd X.prog X.w X.K X.mg X.base k C m ps sp) (hr : Room k X.A) (he : PE X o ta) (ha : PA X (e :: es) t)
    (hst : starEach (e :: es) X.env = (false, eval e X.env) :: starEach es X.env := by rfl) (hpl : (backTo pos (starEach es X.env)).any (·.1) = false := by rfl)
    (ht : eval (.Call (.Attribute o m apos) (e :: es) [] pos) X.env = (do
      let ov ← eval o X.env
      standAt apos.atName
      let (f, first) ← holding [ov] (getMethod ov m pl)
      callWith pos f first (backTo pos (starEach (e :: es) X.env)) (backToKw pos (keywordEach [] X.env))) := by rfl) :
    PE X (.Call (.Attribute o m apos) (e :: es) [] pos) (tMeth C m sp [] E0 ta t) := by
  obtain ⟨f, fd, hm, F, hb⟩ := M.ex
  exact pe_meth (pl := pl) he c hm F hr hb .nil pass0 ha hst hpl ht
theorem pe_mt0 {pl : Sem Bool} (c : Cls X.K C) (M : Mtd X.prog X.w X.K X.mg X.base k C m ps sp) (hr : Room k X.A) (he : PE X o ta)
    (ht : eval (.Call (.Attribute o m apos) [] [] pos) X.env = (do
      let ov ← eval o X.env
      standAt apos.atName
      let (f, first) ← holding [ov] (getMethod ov m pl)
      callWith pos f first (backTo pos (starEach [] X.env)) (backToKw pos (keywordEach [] X.env))) := by rfl) :
    PE X (.Call (.Attribute o m apos) [] [] pos) (tMeth C m sp [] E0 ta tNil) := by
  obtain ⟨f, fd, hm, F, hb⟩ := M.ex
  exact pe_meth0 (pl := pl) he c hm F hr hb .nil pass0 ht
end
/-! ### own operators -/
structure OpX (P : Program) (w : World) (K : PySem.W.Frag) (mg : Str → Option Value) (base : Heap) (C : Addr) (op : Operator) (k : Nat) (sp : Sp) : Prop where
  ex : ∃ f fd, OpOf K C (PySem.dunder op.info.2) f ∧ FnOk P w K mg base CX0 k f fd ["self", "other"] sp ∧ Binds K fd ["self", "other"] []
  rf : ∃ rc, PySem.W.findIn K (.ref C) (dunderR op.info.2) = some rc ∧ (rc = none ∨ ∃ g : Addr, rc = some (.ref g))
  i1 : ∃ fo, PySem.W.findIn K (.type "int") (PySem.dunder op.info.2) = some fo
  i2 : ∃ ro, PySem.W.findIn K (.type "int") (dunderR op.info.2) = some ro
structure OpY (P : Program) (w : World) (K : PySem.W.Frag) (mg : Str → Option Value) (base : Heap) (C : Addr) (op : Operator) (k : Nat) (sp : Sp) : Prop where
  at_ : ∃ f, OpOf K C (PySem.dunder op.info.2) f
  ex : ∃ g gd, OpOf K C (dunderR op.info.2) g ∧ FnOk P w K mg base CX0 k g gd ["self", "other"] sp ∧ Binds K gd ["self", "other"] []
section
variable {X : Cx} {C : Addr} {k : Nat} {sp : Sp} {op : Operator}
theorem op_xx (O : OpX X.prog X.w X.K X.mg X.base C op k sp) (n : Num X.K C) (hr : Room k X.A) : OpR X (binaryOp op) (rOwn C sp E0) := by
  obtain ⟨f, fd, o, F, hb⟩ := O.ex
  exact op_own n.sf o F hr hb pass0
theorem op_xi (O : OpX X.prog X.w X.K X.mg X.base C op k sp) (n : Num X.K C) (hr : Room k X.A) : OpR X (binaryOp op) (rOwnI C sp E0) := by
  obtain ⟨f, fd, o, F, hb⟩ := O.ex
  obtain ⟨rc, h1, h2⟩ := O.rf
  obtain ⟨fo, h3⟩ := O.i1
  obtain ⟨ro, h4⟩ := O.i2
  exact op_ownI n o F hr hb pass0 h1 h2 h3 h4
theorem op_ixM (O : OpY X.prog X.w X.K X.mg X.base C .Mult k sp) (n : Num X.K C) (hr : Room k X.A) : OpR X (binaryOp .Mult) (rIOwn C sp E0) := by
  obtain ⟨f, o⟩ := O.at_
  obtain ⟨g, gd, og, F, hb⟩ := O.ex
  exact op_Iown n o og F hr hb pass0 PySem.F.fills_int_mul PySem.F.slot_int_mul decl_mul
end
/-! ### pots -/
/-- a pot: two numbers, the first one from 0 on -/
def Pot (H : Hp) (p : Addr) : Prop := ∃ a b : Int, H p = some (.lst [.int a, .int b]) ∧ 0 ≤ a
/-- all but the pot at p is as it was -/
structure Stp (p : Addr) (H H' : Hp) : Prop where
  keep : ∀ q o, q ≠ p → H q = some o → H' q = some o
  pot : Pot H' p
section
variable {p q : Addr} {H H' H1 H2 : Hp} {K : PySem.W.Frag} {o : HO} {a : Addr} {xs : List V}
theorem Stp.trans (a : Stp p H H1) (b : Stp p H1 H2) : Stp p H H2 := ⟨fun q o n e => b.keep q o n (a.keep q o n e), b.pot⟩
theorem Stp.refl (h : Pot H p) : Stp p H H := ⟨fun _ _ _ e => e, h⟩
theorem Pot.same (h : Pot H p) (s : Same H H') : Pot H' p := by
  obtain ⟨a, b, e, h0⟩ := h
  exact ⟨a, b, s _ _ e, h0⟩
theorem Stp.of (s : Same H H') (h : Pot H p) : Stp p H H' := ⟨fun _ _ _ e => s _ _ e, h.same s⟩
theorem Stp.sm (a : Stp p H H1) (s : Same H1 H2) : Stp p H H2 := a.trans (Stp.of s a.pot)
theorem Stp.new (a : Stp p H H1) (h : H1 q = none) : Stp p H (upd H1 q o) := a.sm (sm_upd h)
theorem pot_ne (h : Pot H p) (hq : H q = none) : q ≠ p := fun z => by
  obtain ⟨x, y, e, _⟩ := h
  rw [← z, hq] at e
  exact nomatch e
theorem Stp.none (s : Stp p H H') (n : q ≠ p) (h : H' q = none) : H q = none := by
  cases e : H q with
  | none => rfl
  | some o =>
    rw [s.keep q o n e] at h
    exact nomatch h
/-- a store to what was not there at the start -/
theorem Stp.upd (s : Stp p H H') (hl : H q = .none) (n : q ≠ p) : Stp p H (L2.upd H' q o) := by
  refine ⟨fun x u nx ex => by rw [upd_ne (ne_of_none ex hl)]; exact s.keep x u nx ex, ?_⟩
  obtain ⟨a, b, e, h0⟩ := s.pot
  exact ⟨a, b, by rw [upd_ne n.symm]; exact e, h0⟩
theorem same_none (s : Same H H') (h : H' q = none) : H q = none := by
  cases e : H q with
  | none => rfl
  | some o =>
    rw [s q o e] at h
    exact nomatch h
/-- a step that leaves the pot a pot -/
def SP (p : Addr) (a b : Hp) : Prop := Pot a p ∧ Stp p a b
theorem SP.refl (h : Pot H p) : SP p H H := ⟨h, Stp.refl h⟩
theorem SP.of (s : Same H H') (h : Pot H p) : SP p H H' := ⟨h, Stp.of s h⟩
theorem SP.trans (a : SP p H H1) (b : SP p H1 H2) : SP p H H2 := ⟨a.1, a.2.trans b.2⟩
theorem rel_sp {D : Addr} (hp : Pot H1 p) (hD : H1 D = none) : RelD (SP p) H1 D :=
  have n := pot_ne hp hD
  ⟨fun a b => ⟨a.1, a.2.trans b.2⟩, fun s e => s.2.keep _ _ n e, fun s _ => ⟨s.1, s.2.upd hD n⟩, hp, (Stp.refl hp).upd hD n⟩
/-! ### lists that are no pots -/
def NotTwo (xs : List V) : Prop := ∀ i j : Int, xs ≠ [.int i, .int j]
theorem at_st {u : HO} (h : H a = some u) (n : ∀ i j : Int, u ≠ .lst [.int i, .int j]) (hp : Pot H p) (s : Stp p H H') : H' a = some u := by
  refine s.keep a u (fun z => ?_) h
  obtain ⟨x, y, e, _⟩ := hp
  rw [z, e] at h
  exact n x y (Option.some.inj h).symm
theorem lst_st (h : H a = some (.lst xs)) (n : NotTwo xs) (hp : Pot H p) (s : Stp p H H') : H' a = some (.lst xs) := at_st h (fun i j z => n i j (HO.lst.inj z)) hp s
theorem sql_st (h : SqL K H a xs) (n : NotTwo xs) (hp : Pot H p) (s : Stp p H H') : SqL K H' a xs := by
  rcases h with (h | ⟨ob, h⟩) | h
  · exact .inl (.inl (lst_st h n hp s))
  · exact .inl (.inr ⟨ob, at_st h (fun i j z => nomatch z) hp s⟩)
  · exact .inr h
theorem sqt_st (h : SqT K H a xs) (hp : Pot H p) (s : Stp p H H') : SqT K H' a xs := by
  rcases h with (h | ⟨ob, h⟩) | h
  · exact .inl (.inl (at_st h (fun i j z => nomatch z) hp s))
  · exact .inl (.inr ⟨ob, at_st h (fun i j z => nomatch z) hp s⟩)
  · exact .inr h
theorem nt_map {α : Type} (f : α → V) (hf : ∀ x i, f x ≠ .int i) (l : List α) : NotTwo (l.map f) := fun i j z => by
  cases l with
  | nil => exact nomatch z
  | cons x l =>
    rw [List.map_cons] at z
    exact hf x i (List.cons.inj z).1
theorem nt_ref (l : List Addr) : NotTwo (l.map V.ref) := nt_map _ (by intro x i z; cases z) l
theorem nt_str (l : List Str) : NotTwo (l.map V.str) := nt_map _ (by intro x i z; cases z) l
end
/-! ### data: what Same keeps, what is told of it -/
section
variable {K : PySem.W.Frag} {H H' : Hp}
mutual
theorem dpd_same (s : Same H H') : ∀ (d : PyData) (v : V), Dp K H v d → Dp K H' v d
  | .none, _, h => by cases h; exact .non
  | .bool b, _, h => by cases h; exact .bl b
  | .int i, _, h => by cases h; exact .int i
  | .str x, _, h => by cases h; exact .str x
  | .list ds, _, h => by
    cases h with
    | lst h t => exact .lst (SqL.ext h s) (dpd_all s ds _ t)
  | .tuple ds, _, h => by
    cases h with
    | tup h t => exact .tup (SqT.ext h s) (dpd_all s ds _ t)
  | .dict kvs, _, h => by cases h
theorem dpd_all (s : Same H H') : ∀ (ds : List PyData) (vs : List V), DpAll K H vs ds → DpAll K H' vs ds
  | [], _, h => by cases h; exact .nil
  | d :: ds, _, h => by
    cases h with
    | cons h t => exact .cons (dpd_same s d _ h) (dpd_all s ds _ t)
end
theorem dp_same {v : V} {d : PyData} (s : Same H H') (h : Dp K H v d) : Dp K H' v d := dpd_same s d v h
theorem dpa_same {vs : List V} {ds : List PyData} (s : Same H H') (h : DpAll K H vs ds) : DpAll K H' vs ds := dpd_all s ds vs h
theorem dp_list {v : V} {ds : List PyData} (h : Dp K H v (.list ds)) : ∃ a xs, v = .ref a ∧ SqL K H a xs ∧ DpAll K H xs ds := by
  cases h with
  | lst h t => exact ⟨_, _, rfl, h, t⟩
theorem dp_tup {v : V} {ds : List PyData} (h : Dp K H v (.tuple ds)) : ∃ a xs, v = .ref a ∧ SqT K H a xs ∧ DpAll K H xs ds := by
  cases h with
  | tup h t => exact ⟨_, _, rfl, h, t⟩
theorem dpa_len : ∀ {vs : List V} {ds : List PyData}, DpAll K H vs ds → vs.length = ds.length
  | _, _, .nil => rfl
  | _, _, .cons _ t => by rw [List.length_cons, List.length_cons, dpa_len t]
theorem dpa_get : ∀ {vs : List V} {ds : List PyData}, DpAll K H vs ds → ∀ (i : Nat) v d, vs[i]? = some v → ds[i]? = some d → Dp K H v d
  | _, _, .nil, i, v, d, h, _ => by simp at h
  | _, _, .cons h t, 0, v, d, h1, h2 => by
    simp at h1 h2
    rw [← h1, ← h2]
    exact h
  | _, _, .cons h t, i + 1, v, d, h1, h2 => dpa_get t i v d (by simpa using h1) (by simpa using h2)
theorem dpa_of : ∀ {vs : List V} {ds : List PyData}, vs.length = ds.length → (∀ (i : Nat) v d, vs[i]? = some v → ds[i]? = some d → Dp K H v d) → DpAll K H vs ds
  | [], [], _, _ => .nil
  | v :: vs, d :: ds, hl, h => .cons (h 0 v d rfl rfl) (dpa_of (by simpa using hl) fun i v d h1 h2 => h (i + 1) v d (by simpa using h1) (by simpa using h2))
theorem dpa_app : ∀ {xs ys : List V} {ds es : List PyData}, DpAll K H xs ds → DpAll K H ys es → DpAll K H (xs ++ ys) (ds ++ es)
  | _, _, _, _, .nil, b => b
  | _, _, _, _, .cons h t, b => .cons h (dpa_app t b)
theorem dp_str {v : V} {z : Str} (h : Dp K H v (.str z)) : v = .str z := by cases h; rfl
theorem dp_int {v : V} {n : Int} (h : Dp K H v (.int n)) : v = .int n := by cases h; rfl
theorem dp_non {v : V} (h : Dp K H v .none) : v = .non := by cases h; rfl
theorem dpa_map {α : Type} {f : α → V} {g : α → PyData} (h : ∀ x, Dp K H (f x) (g x)) : ∀ l : List α, DpAll K H (l.map f) (l.map g)
  | [] => .nil
  | x :: l => .cons (h x) (dpa_map h l)
theorem dpa_inv {α : Type} {f : α → V} {g : α → PyData} (h : ∀ v x, Dp K H v (g x) → v = f x) : ∀ {vs : List V} (l : List α), DpAll K H vs (l.map g) → vs = l.map f
  | _, [], .nil => rfl
  | _, x :: l, .cons a t => by rw [List.map_cons, h _ _ a, dpa_inv h l t]
end
end Pt
/-! What a text's top leaves behind, as tests of the written part of the heap. -/
namespace Hd
open PySem PySem.Spec PyProof.Rows L2 Ow
abbrev Fr := PySem.W.Frag
abbrev Ask := Fr → Bool
/-- the tests' answers, what stands at each def -/
def look (cs : List Ask) (ds : List He5.DefA) (K : Fr) : He.AlD := (cs.all (fun c => c K) && ds.all (fun d => d.ok K), ds.map (fun d => He5.fnA K (d.at_ K)))
def good (ds : List He5.DefA) : He.AlD := (true, ds.map (fun d => d.val))
def Says (cs : List Ask) (ds : List He5.DefA) (K : Fr) : Prop := look cs ds K = good ds
def lookG (n : Nat) (cs : List Ask) (ds : List He5.DefA) (g : Addr → Option Obj) : He.AlD := look cs ds (He.frG g (He5.asA g n))
def hkOf (n : Nat) (cs : List Ask) (ds : List He5.DefA) : PySem.W.Hook :=
  { α := He.AlD, obs := fun s => lookG n cs ds s.heap.get?, val := fun _ => good ds, says := fun _ h => ∃ K : Fr, K.In h ∧ Says cs ds K,
    of := fun _ _ e => ⟨_, He.frG_in, e⟩, keeps := fun _ _ _ z k => z.elim fun K c => ⟨K, PySem.W.Frag.In.keeps c.1 k, c.2⟩ }
theorem lookG_eq {n : Nat} {cs : List Ask} {ds : List He5.DefA} {g : Addr → Option Obj} {s : Shared} (h : ∀ a, g a = s.heap.get? a) : lookG n cs ds g = (hkOf n cs ds).obs s := by
  rw [show g = s.heap.get? from funext h]
  rfl
theorem Says.ask {cs : List Ask} {ds : List He5.DefA} {K : Fr} (c : Says cs ds K) (i : Nat) {a : Ask} (h : cs[i]? = some a := by rfl) : a K = true := by
  have c1 := congrArg Prod.fst c
  exact List.all_eq_true.mp (He.ba c1).1 a (List.mem_of_getElem? h)
theorem Says.dfn {cs : List Ask} {ds : List He5.DefA} {K : Fr} (c : Says cs ds K) (i : Nat) {d : He5.DefA} (h : ds[i]? = some d := by rfl) : ∃ fd, FunD K d.name d.qual d.params d.body d.scope (d.dvs K) (d.kws K) (d.at_ K) fd := by
  have c1 := List.all_eq_true.mp (He.ba (congrArg Prod.fst c)).2 d (List.mem_of_getElem? h)
  have c2 : (ds.map (fun d => He5.fnA K (d.at_ K)))[i]? = (ds.map (fun d => d.val))[i]? := congrArg (fun z : He.AlD => z.2[i]?) c
  rw [List.getElem?_map, List.getElem?_map, h] at c2
  exact He5.DefA.funD (Option.some.inj c2) c1
/-! ### where things are -/
def pac (cl x : Str) (K : Fr) : Addr := He.ma K (He.ga K cl) x
def getac (cl x : Str) (K : Fr) : Addr := match PySem.W.recIn K (pac cl x K) "property" with
  | some (.ref g :: _) => g
  | _ => 0
def aGlo (x : Str) : Ask := fun K => (He.Fa.glo x).ok K
def aFree (x : Str) : Ask := fun K => (He.Fa.free x).ok K
def aBlt (x : Str) (id : String) : Ask := fun K => He.eqO (PySem.W.nsIn K mainGlobals x) (some (some (.builtin id)))
def vc (cl : Str) : Fr → Value := fun K => .ref (He.ga K cl)
def vb (n : String) : Fr → Value := fun _ => .type n
def aSelf (cl : Str) : Ask := fun K => PySem.W.selfFirst K (He.ga K cl)
def aSub (s t : Fr → Value) (b : Bool) : Ask := fun K => decide (PySem.W.subIn K (s K) (t K) = some b)
def aKit (s t : Fr → Value) (b : Bool) : Ask := fun K => decide (PySem.W.kitOne K (s K) (t K) = some b)
def aNF (cl : Str) (t : Fr → Value) : Ask := fun K => PySem.W.notFirst K (He.ga K cl) (t K)
def aFindB (cl x : Str) (id : String) : Ask := fun K => He.eqO (PySem.W.findIn K (.ref (He.ga K cl)) x) (some (some (.builtin id)))
def aObjG : Ask := fun K => He.eqO (PySem.W.specialIn K (.builtin "object.__class__") "__get__") (some (some (.builtin "getset_descriptor.__get__")))
def aObjT : Ask := fun K => decide (PySem.W.takesIn K (.builtin "object.__class__") = some true)
def aMro (cl : Str) : Ask := fun K => decide (PySem.W.mroIn K (He.ga K cl) (.type "object") = some true)
def aPrp (cl x : Str) : Ask := fun K => He.eqO (PySem.W.findIn K (.ref (He.ga K cl)) x) (some (some (.ref (pac cl x K)))) && (He.eqO (PySem.W.specialIn K (.ref (pac cl x K)) "__get__") (some (some (.builtin "property.__get__"))) &&
  (decide (PySem.W.takesIn K (.ref (pac cl x K)) = some true) && (match PySem.W.recIn K (pac cl x K) "property" with
    | some (.ref _ :: _) => true
    | _ => false)))
def aOp (cl x : Str) : Ask := fun K => He.eqO (PySem.W.findIn K (.ref (He.ga K cl)) x) (some (some (.ref (pac cl x K)))) && PySem.W.isFn K (.ref (pac cl x K))
def aIntS (x : Str) : Ask := fun K => (PySem.W.findIn K (.type "int") x).isSome
def aCls (cl : Str) : Ask := fun K => (He.Fa.cls cl).ok K
def aNoat (cl x : Str) : Ask := fun K => (He.Fa.noat cl x).ok K
def aMkr (cl : Str) : Ask := fun K => (He.Fa.mkr cl).ok K
def aMeth (cl x : Str) : Ask := fun K => (He.Fa.meth cl x).ok K
def aStr (x v : Str) : Ask := fun K => (He.Fa.str x v).ok K
def aInt (x : Str) (v : Int) : Ask := fun K => (He.Fa.int x v).ok K
section
variable {K : Fr}
theorem sub_of {s t : Fr → Value} {b : Bool} (h : aSub s t b K = true) : PySem.W.subIn K (s K) (t K) = some b := of_decide_eq_true h
theorem kit_of' {s t : Fr → Value} {b : Bool} (h : aKit s t b K = true) : PySem.W.kitOne K (s K) (t K) = some b := of_decide_eq_true h
theorem mro_of {cl : Str} (h : aMro cl K = true) : PySem.W.mroIn K (He.ga K cl) (.type "object") = some true := of_decide_eq_true h
theorem num_of {cl : Str} (a : aSelf cl K = true) (b : aSub (vb "int") (vc cl) false K = true) (c : aSub (vc cl) (vb "int") false K = true) : Num K (He.ga K cl) := ⟨a, sub_of b, sub_of c⟩
theorem prp_of {cl x : Str} (c : aPrp cl x K = true) : PropOf K (He.ga K cl) x (pac cl x K) (getac cl x K) := by
  obtain ⟨h1, h⟩ := He.ba c
  obtain ⟨h2, h⟩ := He.ba h
  obtain ⟨h3, h4⟩ := He.ba h
  refine ⟨He.eqO_ok h1, He.eqO_ok h2, of_decide_eq_true h3, ?_⟩
  unfold getac
  split at h4
  · rename_i g r e
    exact ⟨r, by rw [e]⟩
  · exact nomatch h4
theorem op_of {cl x : Str} (c : aOp cl x K = true) : OpOf K (He.ga K cl) x (pac cl x K) := ⟨He.eqO_ok (He.ba c).1, (He.ba c).2⟩
theorem int_of {x : Str} (c : aIntS x K = true) : ∃ v, PySem.W.findIn K (.type "int") x = some v := Option.isSome_iff_exists.mp c
end
theorem kb_plain {K : PySem.W.Frag} {x qual : Str} {pa : Arguments} {bd : List Stmt} {sc : Scope} {kws : List (Str × V)} {f : Addr} {fd : FuncData} {ps : List Str} (F : FunD K x qual pa bd sc [] kws f fd) (n : Nat) (ks : List Str)
    (h : ∀ (kV doc pm : Value) (an : Option Addr) (cdv ct : Value) (us ws : List Value), us.length = n → ws.length = ks.length → bindArgs (PySem.W.fnOf x qual pa bd sc .none kV doc pm an cdv ct) ⟨us, ks.zip ws⟩ = pure (ps.zip (us ++ ws))) :
    KBn K fd ps n ks (fun us ws => us ++ ws) (fun vs zs => vs ++ zs) := by
  obtain ⟨oc, od, dV, kV, doc, pm, an, cdv, ct, osl, rfl, lk, hcd, hD, hK⟩ := F.ex
  rcases hD with ⟨_, rfl⟩ | ⟨e, _⟩
  · exact ⟨fun s us ws _ l1 l2 => .of_eq (h kV doc pm an cdv ct us ws l1 l2), fun a b => a.append b⟩
  · exact absurd rfl e
/-- Ratio(bottom=.., top=..): the parameters' order -/
def mix {α : Type} (us its ws : List α) : List α := match us, ws with
  | [a], [b, c] => [a, c, b]
  | _, _ => []
theorem mix_ok {vs ds zs : List V} {us its ws : List Value} (h1 : Vals vs us) (h2 : Vals ds its) (h3 : Vals zs ws) : Vals (mix vs ds zs) (mix us its ws) := by
  cases h1 with
  | nil => exact .nil
  | cons a r1 => cases r1 with
    | cons _ _ => exact .nil
    | nil => cases h3 with
      | nil => exact .nil
      | cons b r3 => cases r3 with
        | nil => exact .nil
        | cons c r4 => cases r4 with
          | cons _ _ => exact .nil
          | nil => exact .cons a (.cons c (.cons b .nil))
end Hd
/-! Fractions in lowest terms, as plain integers. -/
namespace Rm
def sg (b : Int) : Int := if 0 < b then 1 else -1
def byv (t b : Int) : Int := (Int.gcd t b : Int) * sg b
def low (t b : Int) : Int × Int := (t.fdiv (byv t b), b.fdiv (byv t b))
structure Lw (n d : Int) : Prop where
  pos : 0 < d
  cop : Int.gcd n d = 1

theorem sg_ne (b : Int) : sg b ≠ 0 := by unfold sg; split <;> omega
theorem gcd_pos {t b : Int} (hb : b ≠ 0) : 0 < Int.gcd t b := Int.gcd_pos_of_ne_zero_right t hb
theorem byv_ne {t b : Int} (hb : b ≠ 0) : byv t b ≠ 0 := by
  have h := gcd_pos (t := t) hb
  unfold byv sg
  split <;> omega
theorem byv_eq {t b : Int} (hb : b ≠ 0) : (if b < 0 then -(Int.gcd t b : Int) else (Int.gcd t b : Int)) = byv t b := by
  unfold byv sg
  by_cases h : b < 0
  · rw [if_pos h, if_neg (by omega)]; omega
  · rw [if_neg h, if_pos (by omega)]; omega
theorem byv_natAbs {t b : Int} : (byv t b).natAbs = Int.gcd t b := by
  unfold byv sg
  split <;> simp [Int.natAbs_mul]
theorem byv_le {t b : Int} (hb : b ≠ 0) : (byv t b).natAbs ≤ b.natAbs := by
  rw [byv_natAbs]
  exact Nat.le_of_dvd (by omega) (Nat.gcd_dvd_right _ _)
theorem byv_dvd_t (t b : Int) : byv t b ∣ t := by
  have h : (Int.gcd t b : Int) ∣ t := Int.gcd_dvd_left ..
  unfold byv sg
  split
  · rw [Int.mul_one]; exact h
  · rw [Int.mul_neg, Int.mul_one]; exact Int.neg_dvd.mpr h
theorem byv_dvd_b (t b : Int) : byv t b ∣ b := by
  have h : (Int.gcd t b : Int) ∣ b := Int.gcd_dvd_right ..
  unfold byv sg
  split
  · rw [Int.mul_one]; exact h
  · rw [Int.mul_neg, Int.mul_one]; exact Int.neg_dvd.mpr h
theorem fdiv_mul_of_dvd {t g : Int} (h : g ∣ t) : t.fdiv g * g = t := Int.fdiv_mul_cancel h
theorem low_t {t b : Int} : (low t b).1 * byv t b = t := fdiv_mul_of_dvd (byv_dvd_t t b)
theorem low_b {t b : Int} : (low t b).2 * byv t b = b := fdiv_mul_of_dvd (byv_dvd_b t b)
theorem low_lw (t : Int) {b : Int} (hb : b ≠ 0) : Lw (low t b).1 (low t b).2 := by
  have e1 := low_t (t := t) (b := b)
  have e2 := low_b (t := t) (b := b)
  have hg := gcd_pos (t := t) hb
  refine ⟨?_, ?_⟩
  · unfold byv sg at e2
    by_cases h : 0 < b
    · rw [if_pos h, Int.mul_one] at e2
      have : 0 < (low t b).2 * (Int.gcd t b : Int) := by rw [e2]; exact h
      exact Int.pos_of_mul_pos_left this (by omega) |> fun z => z
    · rw [if_neg h, Int.mul_neg, Int.mul_one, Int.mul_neg] at e2
      have : 0 < (low t b).2 * (Int.gcd t b : Int) := by omega
      exact Int.pos_of_mul_pos_left this (by omega)
  · have e : Int.gcd ((low t b).1 * byv t b) ((low t b).2 * byv t b) = Int.gcd t b := by rw [e1, e2]
    rw [Int.gcd_mul_right, byv_natAbs] at e
    exact Nat.eq_of_mul_eq_mul_right hg (by rw [e, Nat.one_mul])
theorem byv_lw {n d : Int} (h : Lw n d) : byv n d = 1 := by
  unfold byv sg
  rw [h.cop, if_pos h.pos]
  rfl
theorem low_id {n d : Int} (h : Lw n d) : low n d = (n, d) := by
  unfold low
  rw [byv_lw h, Int.fdiv_one, Int.fdiv_one]
theorem lw_int (n : Int) : Lw n 1 := ⟨by omega, by simp⟩
theorem low_int (n : Int) : low n 1 = (n, 1) := low_id (lw_int n)
theorem lw_neg {n d : Int} (h : Lw n d) : Lw (-n) d := ⟨h.pos, by rw [Int.neg_gcd]; exact h.cop⟩
theorem low_neg {n d : Int} (h : Lw n d) : low (-n) d = (-n, d) := low_id (lw_neg h)
theorem natAbs_le_mul {a g : Int} (hg : g ≠ 0) : a.natAbs ≤ (a * g).natAbs := by
  rw [Int.natAbs_mul]
  exact Nat.le_mul_of_pos_right _ (by omega)
theorem low_le1 (t : Int) {b : Int} (hb : b ≠ 0) : (low t b).1.natAbs ≤ t.natAbs := by
  have := natAbs_le_mul (a := (low t b).1) (byv_ne (t := t) hb)
  rw [low_t] at this
  exact this
theorem low_le2 (t : Int) {b : Int} (hb : b ≠ 0) : (low t b).2.natAbs ≤ b.natAbs := by
  have := natAbs_le_mul (a := (low t b).2) (byv_ne (t := t) hb)
  rw [low_b] at this
  exact this

/-! sums, differences, products of fractions -/
def plus (a b : Int × Int) : Int × Int := low (a.1 * b.2 + b.1 * a.2) (a.2 * b.2)
def minus (a b : Int × Int) : Int × Int := low (a.1 * b.2 - b.1 * a.2) (a.2 * b.2)
def times (a b : Int × Int) : Int × Int := low (a.1 * b.1) (a.2 * b.2)
def over (a b : Int × Int) : Int × Int := low (a.1 * b.2) (a.2 * b.1)

/-- below 2 ^ k -/
def Bd (k : Nat) (x : Int) : Prop := x.natAbs < 2 ^ k
theorem Bd.mono {j k : Nat} {x : Int} (h : Bd j x) (l : j ≤ k) : Bd k x := Nat.lt_of_lt_of_le h (Nat.pow_le_pow_right (by decide) l)
theorem Bd.neg {k : Nat} {x : Int} (h : Bd k x) : Bd k (-x) := by unfold Bd at *; rw [Int.natAbs_neg]; exact h
theorem Bd.mul {j k : Nat} {x y : Int} (h : Bd j x) (h' : Bd k y) : Bd (j + k) (x * y) := by
  unfold Bd at *
  rw [Int.natAbs_mul, Nat.pow_add]
  exact Nat.mul_lt_mul'' h h'
theorem Bd.add {k : Nat} {x y : Int} (h : Bd k x) (h' : Bd k y) : Bd (k + 1) (x + y) := by
  unfold Bd at *
  have := Int.natAbs_add_le x y
  rw [Nat.pow_succ]
  omega
theorem Bd.sub {k : Nat} {x y : Int} (h : Bd k x) (h' : Bd k y) : Bd (k + 1) (x - y) := by
  rw [Int.sub_eq_add_neg]
  exact h.add h'.neg
theorem Bd.le {k : Nat} {x y : Int} (h : Bd k y) (l : x.natAbs ≤ y.natAbs) : Bd k x := Nat.lt_of_le_of_lt l h
theorem Bd.log2 {k : Nat} {x : Int} (h : Bd k x) (hk : 0 < k) : x.natAbs.log2 < k := by
  unfold Bd at h
  by_cases h0 : x.natAbs = 0
  · rw [h0]; simpa using hk
  · exact (Nat.log2_lt h0).mpr h
theorem bd_low1 {k : Nat} {t b : Int} (hb : b ≠ 0) (h : Bd k t) : Bd k (low t b).1 := h.le (low_le1 t hb)
theorem bd_low2 {k : Nat} {t b : Int} (hb : b ≠ 0) (h : Bd k b) : Bd k (low t b).2 := h.le (low_le2 t hb)
theorem mul_ne {a b : Int} (ha : 0 < a) (hb : 0 < b) : a * b ≠ 0 := Int.ne_of_gt (Int.mul_pos ha hb)
theorem bd_one {k : Nat} (h : 0 < k) : Bd k 1 := by
  unfold Bd
  exact Nat.one_lt_two_pow (by omega)
theorem bd_zero {k : Nat} : Bd k 0 := by
  unfold Bd
  exact Nat.pow_pos (by decide)
end Rm
/-! Comprehensions over a list whose items are told by a list. -/
namespace Ow
open PySem PySem.Spec PyProof.Rows L2
/-- list(xs), tuple(xs) of a list, a tuple -/
def rListOf (K : PySem.W.Frag) : List V → Hp → VK → Prop := fun xs H Q => ∃ p ys, xs = [V.ref p] ∧ (SqL K H p ys ∨ SqT K H p ys) ∧ ∀ l, H l = none → Q (.ref l) (upd H l (.lst ys))
theorem mt_indexK {X : Cx} {K : PySem.W.Frag} (h : X.K = K := by rfl) : MtR X "list.index" (rIndex K) := by
  subst h
  exact mt_index
theorem pe_bmK {X : Cx} {K : PySem.W.Frag} {o e : Expr} {es : List Expr} {to : TE} {t : TA} {name : Str} {apos cpos : Pos} {T id : String} {r : V → List V → Hp → VK → Prop} (pa : PlainAttrs T) (slot : Slot T name id) (hty : typeOf (.builtin id) = pure (.type "method_descriptor")) (hm : MtR X id r) (ho : PE X o to) (ha : PA X (e :: es) t)
    (hK : X.K = K := by rfl) (hbase : attributeBase o name X.env (eval o X.env) = eval o X.env := by rfl)
    (hfew : ((backTo cpos (starEach (e :: es) X.env)).all (fun x => !x.1) && (backToKw cpos (keywordEach [] X.env)).all (fun x => x.1.isSome)
      && decide ((e :: es).length + ([] : List Keyword).length + (if ([] : List Keyword).isEmpty then 0 else 1) < 30)) = true := by rfl)
    (hline : (apos.endLine == cpos.line) = true := by rfl) (hs : starEach (e :: es) X.env = (false, eval e X.env) :: starEach es X.env := by rfl) (hplain : (backTo cpos (starEach es X.env)).any (·.1) = false := by rfl) :
    PE X (.Call (.Attribute o name apos) (e :: es) [] cpos) (tBM K T r to t) := by
  subst hK
  exact pe_bm pa slot hty hm ho ha hbase hfew hline hs hplain
theorem pe_fldK {X : Cx} {K : PySem.W.Frag} {e : Expr} {ta : TE} {f : Str} {pos : Pos} (he : PE X e ta) (hb : attributeBase e f X.env (eval e X.env) = eval e X.env) (hK : X.K = K := by rfl) : PE X (.Attribute e f pos) (tFld K ta f) := by
  subst hK
  exact pe_fld he hb
theorem map_at {α : Type} {f g : α → V} {l : List α} {i : Nat} {x v : V} (h1 : (l.map f)[i]? = some x) (h2 : (l.map g)[i]? = some v) : ∃ a, l[i]? = some a ∧ a ∈ l ∧ x = f a ∧ v = g a := by
  rw [List.getElem?_map] at h1 h2
  cases c : l[i]? with
  | none => rw [c] at h1; exact nomatch h1
  | some a =>
    rw [c] at h1 h2
    cases h1
    cases h2
    exact ⟨a, rfl, List.mem_of_getElem? c, rfl, rfl⟩
theorem map_at1 {α : Type} {f : α → V} {l : List α} {i : Nat} {x : V} (h1 : (l.map f)[i]? = some x) : ∃ a, l[i]? = some a ∧ a ∈ l ∧ x = f a := by
  obtain ⟨a, h, m, e, _⟩ := map_at h1 h1
  exact ⟨a, h, m, e⟩
/-- whether the i-th is kept -/
def keepAt {α : Type} (p : α → Bool) (l : List α) (i : Nat) : Bool := (l[i]?.map p).getD false
theorem kept_filter {α : Type} (p : α → Bool) (f : α → V) (l : List α) : ∀ n, n ≤ l.length → kept (keepAt p l) (l.map f) n = ((l.take n).filter p).map f
  | 0, _ => rfl
  | n + 1, h => by
    have e : l[n]? = some l[n] := List.getElem?_eq_getElem (by omega)
    have ih := kept_filter p f l n (by omega)
    rw [kept_succ (keepAt p l) (l.map f) n (f l[n]) (by rw [List.getElem?_map, e]; rfl), ih, List.take_add_one, e, Option.toList_some, List.filter_append, List.map_append]
    have k : keepAt p l n = p l[n] := by unfold keepAt; rw [e]; rfl
    rw [k]
    cases c : p l[n] with
    | true => rw [if_pos rfl, List.filter_cons_of_pos c]; rfl
    | false => rw [if_neg Bool.false_ne_true, List.filter_cons_of_neg (by rw [c]; exact Bool.false_ne_true)]; simp
section
variable {K : PySem.W.Frag} {a : Addr} {g : TG} {te : TE} {vs : List Nat} {σ : L2.St} {H1 : Hp} {D : Addr} {Qd : Hp → Prop} {Rl : Hp → Hp → Prop} {α : Type} {l : List α}
/-- [e for x in xs] -/
theorem lcm (f h : α → V) (rd : RelD Rl H1 D) (hz : l.length ≤ 100000) (hG : ∀ H, Rl H1 H → SqL K H a (l.map f))
    (hs : ∀ x ∈ l, ∀ H, Rl H1 H → (∃ acc, H D = some (.lst acc)) → ∀ R : VK, (∀ H4, Rl H H4 → R (h x) H4) → g (f x) (wipe σ vs) H fun σ2 H2 => wipe σ2 vs = wipe σ vs ∧ te σ2 H2 R)
    (hd : ∀ H, Rl H1 H → H D = some (.lst (l.map h)) → Qd H) :
    ∃ W : Nat → Nat → Hp → Prop, (∃ m, W 0 m (upd H1 D (.lst []))) ∧ ∀ i m H, W i m H →
      ((Itl K a).stop i H ∧ Qd H) ∨ ((Itl K a).go i H ∧ ∃ Nx : Hp → Prop, (∀ H', Nx H' → ∃ m', m' < m ∧ W (i + 1) m' H') ∧ ∀ x H', (Itl K a).yld i H x H' → g x (wipe σ vs) H' fun σ2 H2 => wipe σ2 vs = wipe σ vs ∧ tYes σ2 H2 fun b H3 =>
        if b = true then te σ2 H3 fun y H4 => ∃ acc, H4 D = some (.lst acc) ∧ acc.length < sizeLine ∧ Nx (upd H4 D (.lst (acc ++ [y]))) else Nx H3) := by
  refine lc_vals (walk_list (xs := l.map f)) rd (l.map h) (by rw [List.length_map, List.length_map]) (by rw [List.length_map]; exact hz) hG (fun i x H H' v hi hv r ha y R k => ?_) hd
  obtain ⟨rfl, hx⟩ := y
  obtain ⟨c, _, m, rfl, rfl⟩ := map_at hx hv
  exact hs c m _ r ha R k
/-- [e for x in xs if t] -/
theorem lcf {tt : TT} (f h : α → V) (p : α → Bool) (rd : RelD Rl H1 D) (hz : l.length ≤ 100000) (hG : ∀ H, Rl H1 H → SqL K H a (l.map f))
    (hs : ∀ x ∈ l, ∀ H, Rl H1 H → (∃ acc, H D = some (.lst acc)) → ∀ (RR : VK) (SS : Hp → Prop), (p x = true → ∀ H4, Rl H H4 → RR (h x) H4) → (p x = false → ∀ H4, Rl H H4 → SS H4) →
      g (f x) (wipe σ vs) H fun σ2 H2 => wipe σ2 vs = wipe σ vs ∧ tt σ2 H2 fun b H3 => if b = true then te σ2 H3 RR else SS H3)
    (hd : ∀ H, Rl H1 H → H D = some (.lst ((l.filter p).map h)) → Qd H) :
    ∃ W : Nat → Nat → Hp → Prop, (∃ m, W 0 m (upd H1 D (.lst []))) ∧ ∀ i m H, W i m H →
      ((Itl K a).stop i H ∧ Qd H) ∨ ((Itl K a).go i H ∧ ∃ Nx : Hp → Prop, (∀ H', Nx H' → ∃ m', m' < m ∧ W (i + 1) m' H') ∧ ∀ x H', (Itl K a).yld i H x H' → g x (wipe σ vs) H' fun σ2 H2 => wipe σ2 vs = wipe σ vs ∧ tt σ2 H2 fun b H3 =>
        if b = true then te σ2 H3 fun y H4 => ∃ acc, H4 D = some (.lst acc) ∧ acc.length < sizeLine ∧ Nx (upd H4 D (.lst (acc ++ [y]))) else Nx H3) := by
  refine lc_filter (walk_list (xs := l.map f)) rd (l.map h) (keepAt p l) (by rw [List.length_map, List.length_map]) (by rw [List.length_map]; exact hz) hG (fun i x H H' v hi hv r ha y RR SS k1 k2 => ?_) (fun H r e => hd H r ?_)
  · obtain ⟨rfl, hx⟩ := y
    obtain ⟨c, hc, m, rfl, rfl⟩ := map_at hx hv
    have ek : keepAt p l i = p c := by unfold keepAt; rw [hc]; rfl
    rw [ek] at k1 k2
    exact hs c m _ r ha RR SS k1 k2
  · rw [List.length_map, kept_filter p h l l.length (Nat.le_refl _), List.take_length] at e
    exact e
/-- [e for x in xs], whose items are told by a property -/
theorem lce (f : α → V) (rd : RelD Rl H1 D) (hz : l.length ≤ 100000) (El : α → V → Hp → Prop) (hE1 : ∀ c v H H', Rl H H' → El c v H → El c v H') (hE2 : ∀ c v H xs ys, H D = some (.lst xs) → El c v H → El c v (upd H D (.lst ys))) (hG : ∀ H, Rl H1 H → SqL K H a (l.map f))
    (hs : ∀ x ∈ l, ∀ H, Rl H1 H → (∃ acc, H D = some (.lst acc)) → ∀ R : VK, (∀ y H4, Rl H H4 → El x y H4 → R y H4) → g (f x) (wipe σ vs) H fun σ2 H2 => wipe σ2 vs = wipe σ vs ∧ te σ2 H2 R)
    (hd : ∀ H acc, Rl H1 H → H D = some (.lst acc) → acc.length = l.length → (∀ (j : Nat) v, acc[j]? = some v → ∃ c, l[j]? = some c ∧ El c v H) → Qd H) :
    ∃ W : Nat → Nat → Hp → Prop, (∃ m, W 0 m (upd H1 D (.lst []))) ∧ ∀ i m H, W i m H →
      ((Itl K a).stop i H ∧ Qd H) ∨ ((Itl K a).go i H ∧ ∃ Nx : Hp → Prop, (∀ H', Nx H' → ∃ m', m' < m ∧ W (i + 1) m' H') ∧ ∀ x H', (Itl K a).yld i H x H' → g x (wipe σ vs) H' fun σ2 H2 => wipe σ2 vs = wipe σ vs ∧ tYes σ2 H2 fun b H3 =>
        if b = true then te σ2 H3 fun y H4 => ∃ acc, H4 D = some (.lst acc) ∧ acc.length < sizeLine ∧ Nx (upd H4 D (.lst (acc ++ [y]))) else Nx H3) := by
  refine lc_el (walk_list (xs := l.map f)) rd (by rw [List.length_map]; exact hz) (fun j v H => ∃ c, l[j]? = some c ∧ El c v H) (fun j v H H' r ⟨c, e, k⟩ => ⟨c, e, hE1 c v H H' r k⟩) (fun j v H xs ys e ⟨c, ec, k⟩ => ⟨c, ec, hE2 c v H xs ys e k⟩) hG (fun i x H H' hi r ha y R k => ?_) (fun H acc r e hl he => hd H acc r e (by rw [hl, List.length_map]) he)
  obtain ⟨rfl, hx⟩ := y
  obtain ⟨c, hc, m, rfl⟩ := map_at1 hx
  obtain ⟨acc, hacc, _⟩ := ha
  exact hs c m _ r ⟨acc, hacc⟩ R fun y H4 r4 el => k y H4 r4 ⟨c, hc, el⟩
end
theorem all_rep : ∀ n, (List.replicate n true).all id = true
  | 0 => rfl
  | n + 1 => by rw [List.replicate_succ, List.all_cons, all_rep n]; rfl
theorem all_map_true {α : Type} (l : List α) : (l.map fun _ => true).all id = true := by
  rw [List.all_map]
  exact List.all_eq_true.mpr fun _ _ => rfl
end Ow
namespace Ow
open PySem PySem.Spec PyProof.Rows L2
theorem els {α : Type} (f : α → V) (P : α → Prop) : ∀ acc : List V, (∀ (j : Nat) v, acc[j]? = some v → ∃ c, v = f c ∧ P c) → ∃ cs : List α, acc = cs.map f ∧ cs.length = acc.length ∧ ∀ c ∈ cs, P c
  | [], _ => ⟨[], rfl, rfl, fun c h => absurd h List.not_mem_nil⟩
  | v :: acc, h => by
    obtain ⟨c, rfl, hc⟩ := h 0 v rfl
    obtain ⟨cs, e, l, hp⟩ := els f P acc fun j v hv => h (j + 1) v hv
    refine ⟨c :: cs, by rw [e]; rfl, by rw [List.length_cons, List.length_cons, l], fun d hd => ?_⟩
    rcases List.mem_cons.mp hd with rfl | hd
    · exact hc
    · exact hp d hd
end Ow
/-! repr of a list whose items show themselves by defs of their own. -/
namespace Ow
open PySem PySem.Spec PyProof.Rows L2
/-- how a value shows itself -/
abbrev ShD := V → Str → Hp → Prop
def MonS (D : ShD) : Prop := ∀ x t H H', Ext H H' → D x t H → D x t H'
def ShB (X : Cx) (n : Nat) (D : ShD) : Prop :=
  ∀ (A : Around) (pins : List (Addr × Obj)) (s : Shared) (σ : L2.St) (H : Hp) (x : V) (u : Value) (t : Str) (b : Nat), Sub X n A → Inv X pins σ H s → RelV x u → D x t H → b + t.length ≤ sizeLine →
    wpAny (model X.prog X.w) A (pyReprUnder b u) (fun r s' => r = t ∧ LoopI X pins σ H s') X.xe s
theorem shB_or {X : Cx} {n : Nat} {D1 D2 : ShD} (h1 : ShB X n D1) (h2 : ShB X n D2) : ShB X n (fun x t H => D1 x t H ∨ D2 x t H) := fun A pins s σ H x u t b sb I r d hb =>
  d.elim (fun d => h1 A pins s σ H x u t b sb I r d hb) fun d => h2 A pins s σ H x u t b sb I r d hb
theorem monS_or {D1 D2 : ShD} (h1 : MonS D1) (h2 : MonS D2) : MonS (fun x t H => D1 x t H ∨ D2 x t H) := fun x t H H' e d => d.imp (h1 x t H H' e) (h2 x t H H' e)
/-- plain things -/
def leafS : ShD := fun x t _ => (∃ i : Int, x = .int i ∧ i.natAbs.log2 < 1920 ∧ t = toString i) ∨ (∃ b : Bool, x = .bl b ∧ t = (if b then Str.ofString "True" else Str.ofString "False")) ∨ (x = .non ∧ t = Str.ofString "None") ∨ ∃ z : Str, x = .str z ∧ (reprText z).length ≤ sizeLine ∧ t = reprText z
theorem mon_leaf : MonS leafS := fun _ _ _ _ _ d => d
theorem shB_leaf {X : Cx} {n : Nat} : ShB X n leafS := by
  intro A pins s σ H x u t b sb I r d hb
  have fin : ∀ tk : Nat, t = t ∧ LoopI X pins σ H { s with toks := tk } := fun tk => ⟨rfl, H, I.tok tk, Ext.rfl'⟩
  rcases d with ⟨i, rfl, hi, rfl⟩ | ⟨c, rfl, rfl⟩ | ⟨rfl, rfl⟩ | ⟨z, rfl, hz, rfl⟩
  · obtain ⟨tk, rfl⟩ := r
    exact ReprIs.int tk hi b hb A X.xe s _ fin
  · cases r
    exact ReprIs.bool c b hb A X.xe s _ fin
  · cases r
    exact ReprIs.none b hb A X.xe s _ fin
  · obtain ⟨tk, rfl⟩ := r
    exact ReprIs.str z tk hz b hb A X.xe s _ fin
/-- an instance whose class has its own def for it -/
structure OwnS (C : Addr) (sp : Sp) (E : XK) (D : ShD) : Prop where
  ex : ∀ x t H, D x t H → ∃ a dx fs, x = .ref a ∧ H a = some (.ins C dx fs) ∧ ∀ Q : VK, (∀ H', Ext H H' → Q (.str t) H') → sp [.ref a] H Q E
theorem under_own {K : PySem.W.Frag} {prog : Program} {w : World} {A : Around} {E : Value → Shared → Prop} {s : Shared} {x f C : Addr} {ox : Obj} {od : Option Obj} {b : Nat} {Q : Str → Shared → Prop}
    (hu : A.units < cLine) (hb : b ≤ sizeLine) (X : K.In s.heap) (I : PySem.W.InstAt s.heap x ox C od) (hs : PySem.W.findIn K (.ref C) "__repr__" = some (some (.ref f))) (hf : PySem.W.isFn K (.ref f) = true)
    (h : wpAny (model prog w) A (call (.ref f) [.ref x]) (fun v s' => ∃ t u, v = .str t u ∧ Q t s') E s) : wpAny (model prog w) A (pyReprUnder b (.ref x)) Q E s := by
  refine wpAny_pyReprUnder_ref hb ?_
  unfold pyReprObjUnder pyReprObjBy
  refine wpAny_bind (wpAny_cRoomFor hu ?_)
  refine wpAny_bind (wpAny_bind (I.type.here ((PySem.W.looks_findIn X hs).here ?_)))
  show wpAny _ _ (if (some (Value.ref f)).isNone = true then _ else _) _ _ _
  rw [if_neg (by simp)]
  refine wpAny_bind ?_
  simp only [callSpecialIfBoundBy?, bindSpecialIfBound?]
  refine wpAny_holding (wpAny_bind (wpAny_bind (wpAny_bind (I.type.here ((PySem.W.looks_findIn X hs).here ?_)))))
  refine wpAny_bind (wpAny_askSetting (wpAny_ite ?_))
  have fin : wpAny (model prog w) A (call (.ref f) [.ref x] >>= fun v => pure (some v)) (fun r s' => wpAny (model prog w) A (match r with
      | some r => (do if (← isInstance r (.type "str")) = true then pure r else raiseError "TypeError" s!"__repr__ returned non-string (type {← typeNameOf r})")
      | none => unsupported "repr:special-get-raises") (fun v s' => ∃ x u, v = .str x u ∧ Q x s') E s') E s := by
    refine wpAny_bind (wpAny_mono h (fun v s' hv => wpAny_pure ?_) fun _ _ e => e)
    obtain ⟨t, u, rfl, q⟩ := hv
    exact wpAny_bind (wpAny_isInstance (T := "str") (b := true) rfl isSubtype_str_str (wpAny_pure ⟨t, u, rfl, q⟩))
  split
  · exact wpAny_bind ((PySem.W.bind_fn X _ (beq_iff_eq.mp hf)).here (wpAny_pure (by exact fin)))
  · exact wpAny_tryCatch (wpAny_bind ((PySem.W.bind_fn X _ (beq_iff_eq.mp hf)).here (wpAny_pure (by exact fin))))
theorem shB_own {X : Cx} {n : Nat} {D : ShD} {CX : CXT} {C f : Addr} {fd : FuncData} {ps : List Str} {sp : Sp} {E : XK} (W : OwnS C sp E D) (o : OpOf X.K C "__repr__" f) (F : FnOk X.prog X.w X.K X.mg X.base CX n f fd ps sp) (hb : Binds X.K fd ps []) (hx : Passes CX X E) : ShB X n D := by
  intro A pins s σ H x u t b sb I r d hz
  obtain ⟨a, dx, fs, rfl, ea, hsp⟩ := W.ex _ _ _ d
  cases r
  obtain ⟨od, J⟩ := inst_of I ea
  have call := run_in F sb.room sb.fr hb hx I (vs := [.ref a]) (.cons rfl .nil) (hsp (fun z H' => z = .str t ∧ Ext H H') fun H' e => ⟨rfl, e⟩)
  refine under_own sb.room.units0 (by omega) I.kIn J o.at_ o.fn (wpAny_mono call (fun z s' q => ?_) fun _ _ e => e)
  obtain ⟨z', H', I', rz, ez, e⟩ := q
  cases ez
  obtain ⟨tk, rfl⟩ := rz
  exact ⟨t, tk, rfl, rfl, H', I', e⟩
end Ow
namespace Ow
open PySem PySem.Spec PyProof.Rows L2
theorem under_sub {X : Cx} {n : Nat} {A : Around} {args : Args} (sb : Sub X (n + 1) A) : Sub X n (A.under (.builtin "list.__repr__.loop" args)) := by
  refine ⟨⟨?_, ?_, ?_⟩, ?_⟩
  · have := sb.room.hd
    first | exact this | (simp [Around.under, Code.weight, Code.isCreation, Code.isGuard, Code.isCaller, Code.frames, Code.isFrame]; exact this)
  · have := sb.room.dp
    have e : (A.under (.builtin "list.__repr__.loop" args)).depth = A.depth + 1 := by
      have g := isGuard_list_loop args
      simp [Around.under, Code.weight, Code.isCreation, g, Code.isCaller, Code.frames, Code.isFrame]
    rw [e]
    omega
  · have := sb.room.un
    rw [units_under_list_loop]
    omega
  · first | exact sb.fr | (simp [Around.under, Code.frames, Code.isFrame]; exact sb.fr)
abbrev pObj (acc : Array Value) (c : Nat) : Obj := { cls := .type "list", dict := none, data := .seq acc c, slots := #[] }
section
variable {X : Cx} {n : Nat} {D : ShD}
/-- what is known of the place where the parts are gathered -/
structure Place (X : Cx) (pins : List (Addr × Obj)) (P : Addr) : Prop where
  yg : P ∈ X.ex ∨ X.s_0.heap.objs.size ≤ P
  nc : ∀ x c, X.env.cells.lookup x = some c → c ≠ P
  np : ∀ p ∈ X.pn ++ pins, p.1 ≠ P
theorem place_step {P : Addr} {o o' : Obj} {pins : List (Addr × Obj)} {σ : L2.St} {H : Hp} {s : Shared} {h' : Heap} {t' : Nat} (I : Inv X ((P, o) :: pins) σ H s) (pl : Place X pins P) (kp : ∀ b u, b ≠ P → s.heap.get? b = some u → h'.get? b = some u)
    (hn : h'.get? P = some o') (nc : ∀ v, o'.data ≠ .cell v) : Inv X ((P, o') :: pins) σ H { s with heap := h', toks := t' } := by
  obtain ⟨_, nP, nL, nF, nV⟩ := I.pin (P, o) (List.mem_append_right _ List.mem_cons_self)
  have J := (ClX.unpin I).turned (t' := t') (it := P) (h' := h') kp nP nL pl.yg pl.nc pl.np
  refine J.pins_of fun p hp => ?_
  rcases List.mem_cons.mp hp with rfl | hp
  · exact ⟨hn, nP, nL, nF, nc⟩
  · exact J.pin p (List.mem_append_right _ hp)
theorem sh_loop (hD : MonS D) (hs : ShB X n D) {A : Around} (sb : Sub X (n + 1) A) {a P : Addr} {pins : List (Addr × Obj)} {σ : L2.St} {H0 : Hp} {xs : List V} {ts : List Str} {Q : VK}
    (hx : SqL X.K H0 a xs) (hlen : ts.length = xs.length) (hT : ∀ (i : Nat) x t, xs[i]? = some x → ts[i]? = some t → D x t H0) (pl : Place X pins P) (hz : (listText ts).length ≤ sizeLine)
    (q : ∀ H', Ext H0 H' → Q (.str (listText ts)) H') :
    ∀ (k i : Nat) (s : Shared) (H : Hp) (acc : Array Value) (c : Nat) (dn : List (Str × Tok)), xs.length - i = k → i ≤ xs.length → Ext H0 H → Inv X ((P, pObj acc c) :: pins) σ H s → acc.toList = strValues dn → dn.map (·.1) = ts.take i →
      codeAny (model X.prog X.w) A (.builtin "list.__repr__.loop" ⟨[.ref a, rawInt i, .ref P, rawInt ((piled (ts.take i) : Nat) : Int)], []⟩) (callEnd (EP X pins σ Q) X.xe) s := by
  have hp3 := piled_le_listText ts
  intro k
  induction k with
  | zero =>
    intro i s H acc c dn hk hi e I ha hd
    obtain ⟨its, r, ⟨oa, na, ga, _, _, da⟩, _⟩ := I.list (SqL.ext hx e)
    have gP : s.heap.get? P = some (pObj acc c) := ClX.pin_at I
    refine codeAny_builtin F.entry_list_repr_loop ?_
    show wpAny _ _ (Builtin.«list.__repr__.loop» ⟨[.ref a, .int (i : Nat) 0, .ref P, .int ((piled (ts.take i) : Nat) : Int) 0], []⟩) _ _ s
    rw [repr_loop_tree]
    refine wpAny_bind (wpAny_listItems ga da ?_)
    have none_ : its.toArray[(i : Int).toNat]? = none := by
      have := r.length
      simp
      omega
    simp only [none_]
    unfold reprEnd
    refine wpAny_bind (wpAny_listItems gP rfl ?_)
    rw [ha, repr_fold]
    refine wpAny_bind (wpAny_pure ?_)
    have all : dn.map (·.1) = ts := by rw [hd, show i = ts.length by omega, List.take_length]
    rw [all]
    refine wpAny_bind (wpAny_mkStr (wpAny_pure ?_) hz)
    exact ⟨.str (listText ts), H, (ClX.unpin I).tok _, ⟨_, rfl⟩, q H e⟩
  | succ k ih =>
    intro i s H acc c dn hk hi e I ha hd
    have hlt : i < xs.length := by omega
    have hltT : i < ts.length := by omega
    obtain ⟨its, r, ⟨oa, na, ga, _, _, da⟩, _⟩ := I.list (SqL.ext hx e)
    have hl2 : i < its.length := by rw [← r.length]; exact hlt
    obtain ⟨u, hu, ru⟩ := r.get (List.getElem?_eq_getElem hlt)
    rw [List.getElem?_eq_getElem hl2] at hu
    cases hu
    have gP : s.heap.get? P = some (pObj acc c) := ClX.pin_at I
    have ht := List.getElem?_eq_getElem hltT
    have d := hD _ _ _ _ e (hT i _ _ (List.getElem?_eq_getElem hlt) ht)
    have hp1 := piled_take_succ ht
    have hp2 := piled_take_le ts (i + 1)
    have szT : ts[i].length ≤ sizeLine := by omega
    refine codeAny_builtin F.entry_list_repr_loop ?_
    show wpAny _ _ (Builtin.«list.__repr__.loop» ⟨[.ref a, .int (i : Nat) 0, .ref P, .int ((piled (ts.take i) : Nat) : Int) 0], []⟩) _ _ s
    rw [repr_loop_tree]
    refine wpAny_bind (wpAny_listItems ga da ?_)
    have some_ : its.toArray[(i : Int).toNat]? = some its[i] := by
      simp [hl2]
    simp only [some_]
    rw [Int.toNat_natCast]
    refine wpAny_bind (wpAny_holding (wpAny_mono (hs _ _ s σ H _ _ _ (piled (ts.take i) + 1) (under_sub sb) I ru d (by omega)) (fun z s1 got => ?_) fun _ _ z => z))
    obtain ⟨rfl, H1, I1, e1⟩ := got
    refine wpAny_bind (wpAny_mkStr ?_ szT)
    refine wpAny_bind ?_
    show wpAny _ _ (updateSeq P _) _ _ _
    have gP1 : s1.heap.get? P = some (pObj acc c) := ClX.pin_at I1
    have hasz : acc.size ≤ sizeLine := by
      have e1 : acc.toList.length = acc.size := by simp
      have e2 : (strValues dn).length = dn.length := by simp [strValues]
      have e3 : dn.length = (ts.take i).length := by rw [← hd, List.length_map]
      have e4 : (ts.take i).length ≤ i := by rw [List.length_take]; omega
      have e5 : ∀ l : List Str, 2 * l.length ≤ piled l := by
        intro l
        induction l with
        | nil => exact Nat.le_refl 0
        | cons t l ih => rw [piled_cons, List.length_cons]; omega
      have e6 := e5 ts
      rw [ha] at e1
      omega
    refine wpAny_updateSeq gP1 rfl (wpAny_pure ⟨F.quiet_list_repr_loop _, ?_⟩) hasz
    have c1 : ((i : Int) + 1) = ((i + 1 : Nat) : Int) := by omega
    have c2 : piled (ts.take i) + (ts[i].length + 2) = piled (ts.take (i + 1)) := by omega
    rw [c1, c2]
    refine ih (i + 1) _ H1 (acc.push (.str ts[i] s1.toks)) ?c (dn ++ [(ts[i], s1.toks)]) (by omega) hlt (e.trans e1) ?inv ?t1 ?t2
    case t1 =>
      rw [Array.toList_push, ha]
      unfold strValues
      rw [List.map_append]
      rfl
    case t2 =>
      rw [List.map_append, hd, List.take_add_one, ht]
      rfl
    case inv =>
      refine place_step (I1.tok (s1.toks + 1)) pl ?_ ?_ ?_
      · exact fun b o hb eb => (Heap.get?_update_other _ _ (fun z : P = b => hb z.symm)).trans eb
      · refine Heap.get?_update_self _ gP1 ?_
        rfl
      · exact fun v z => by cases z
def rShL (K : PySem.W.Frag) (D : ShD) : List V → Hp → VK → Prop := fun vs H Q => ∃ (a : Addr) (xs : List V) (ts : List Str), vs = [.ref a] ∧ SqL K H a xs ∧ ts.length = xs.length ∧ (∀ (i : Nat) x t, xs[i]? = some x → ts[i]? = some t → D x t H) ∧ (listText ts).length ≤ sizeLine ∧
  ∀ H', Ext H H' → Q (.str (listText ts)) H'
theorem call_repr_lst (hD : MonS D) (hs : ShB X n D) (hg : X.A.guards = some []) (hr : Room (n + 3) X.A) : CallR X (.builtin "repr") (rShL X.K D) := by
  intro pins s σ H vs us Q I r hq
  obtain ⟨a, xs, ts, rfl, hx, hlen, hT, hz, q⟩ := hq
  obtain ⟨u, rfl, ru⟩ := vals1 r
  cases ru
  obtain ⟨its, rv, ⟨oa, na, ga, ca, _, da⟩, _⟩ := I.list hx
  have hu := hr.un
  have hTy : s.TypeIs (.ref a) "list" := ⟨oa, ga, ca⟩
  refine call_repr_slot (by omega) hTy F.slot_list_repr.toG ?_
  cases xs with
  | nil =>
    cases rv
    obtain rfl : ts = [] := List.length_eq_zero_iff.mp hlen
    refine call_list_repr_empty hTy ga da ⟨_, _, rfl, .str (listText []), H, I.tok _, ⟨s.toks, by rw [listText_nil]⟩, q H Ext.rfl'⟩
  | cons x xs =>
    cases rv with
    | cons rx rt =>
      rename_i u0 ut
      have sb : Sub X (n + 2) X.A.in1 := ⟨hr.in1, rfl⟩
      refine wpAny_call (codeAny_call_builtin F.slot_list_repr.plain F.entry_list_repr (F.slot_list_repr.check _ _ _ _ _ _ _ _ hTy (F.args_list_repr_1 _) ?_))
      refine wpAny_list_repr_head (A := X.A.in1.in1) (g := []) hg (fun v rest kw hm => absurd hm List.not_mem_nil) ga da ?_
      refine wpAny_bind (m := newList []) (wpAny_newObj_type ?_)
      refine wpAny_pure ⟨F.quiet_list_repr_loop _, ?_⟩
      have nP : H s.heap.objs.size = none := I.hok.fresh (Nat.le_refl _)
      have nL : s.heap.objs.size ≠ X.env.locals := Nat.ne_of_gt I.lt
      have pl : Place X pins s.heap.objs.size := ⟨.inr I.sz, fun y c ey z => ?_, fun p hp z => ?_⟩
      · have I1 : Inv X pins σ H { s with heap := s.heap.push (pObj #[] 0), toks := s.toks } := I.kept fun b o e => Heap.get?_push_of_some _ e
        refine codeAny_mono (sh_loop (X := X) (pins := pins) (σ := σ) (Q := fun z H' => (∃ t, z = .str t) ∧ Q z H') (P := s.heap.objs.size) hD hs (sb.mono (by omega)) hx hlen hT pl hz (fun H' e => ⟨⟨_, rfl⟩, q H' e⟩) _ 0 _ H #[] 0 [] rfl (Nat.zero_le _) Ext.rfl' ?_ rfl (by simp)) fun r s' h => ?_
        · refine I1.pins_of fun p hp => ?_
          rcases List.mem_cons.mp hp with rfl | hp
          · exact ⟨Heap.get?_push_size _ rfl, nP, nL, I.nofs (Nat.le_refl _), fun v z => nomatch z⟩
          · exact I1.pin p (List.mem_append_right _ hp)
        · cases r with
          | error e => exact h
          | ok fl => cases fl with
            | ret u => 
              obtain ⟨v, H', I', rv, ⟨z, rfl⟩, qq⟩ := h
              obtain ⟨t, rfl⟩ := rv
              exact ⟨z, t, rfl, .str z, H', I', ⟨t, rfl⟩, qq⟩
            | next => exact h
            | brk => exact h
            | cont => exact h
      · obtain ⟨v, o, ho, _⟩ := I.cell y c ey
        rw [z] at ho
        exact absurd (Heap.lt_size ho) (Nat.lt_irrefl _)
      · have ho := (I.pin p hp).1
        rw [z] at ho
        exact absurd (Heap.lt_size ho) (Nat.lt_irrefl _)
end
end Ow
/-! xs[:0:-1] -/
namespace Ow
open PySem PySem.Spec PyProof.Rows L2
theorem fm_all {α : Type} : ∀ (zs : List α), (List.range zs.length).filterMap (fun k => zs[k]?) = zs := by
  intro zs
  induction zs with
  | nil => rfl
  | cons z zs ih =>
    rw [List.length_cons, List.range_succ_eq_map, List.filterMap_cons]
    simp only [List.getElem?_cons_zero]
    rw [List.filterMap_map]
    congr 1
theorem fm_congr {α β : Type} {f g : α → Option β} : ∀ l : List α, (∀ x ∈ l, f x = g x) → l.filterMap f = l.filterMap g
  | [], _ => rfl
  | x :: l, h => by
    rw [List.filterMap_cons, List.filterMap_cons, h x List.mem_cons_self, fm_congr l fun y hy => h y (List.mem_cons_of_mem _ hy)]
theorem fm_of {α : Type} {h : Nat → Option α} {zs : List α} {m : Nat} (hm : zs.length = m) (e : ∀ k, k < m → h k = zs[k]?) : (List.range m).filterMap h = zs := by
  subst hm
  rw [fm_congr (List.range zs.length) fun k hk => e k (List.mem_range.mp hk), fm_all]
theorem pick_back (l : List Value) : slicePick l.toArray none (some 0) (some (-1)) = (l.drop 1).reverse.toArray := by
  unfold slicePick
  congr 1
  cases l with
  | nil => decide +kernel
  | cons y ys =>
    have hs : (y :: ys).toArray.size = ys.length + 1 := by simp
    rw [hs]
    have b : sliceBounds none (some 0) (some (-1)) (ys.length + 1) = ((ys.length : Int), 0, -1) := by
      unfold sliceBounds
      simp
      try omega
    rw [b]
    show (sliceRange (ys.length : Int) 0 (-1)).filterMap _ = _
    unfold sliceRange
    simp only [List.filterMap_map]
    have c : ((if (-1 : Int) > 0 then (if (ys.length : Int) < 0 then (0 - (ys.length : Int) + -1 - 1) / -1 else 0) else (if (ys.length : Int) > 0 then ((ys.length : Int) - 0 - -1 - 1) / (- -1) else 0)) : Int).toNat = ys.length := by
      rw [if_neg (by decide)]
      split
      · simp
      · omega
    rw [c]
    refine fm_of (by simp) fun k hk => ?_
    have e : ((ys.length : Int) + -1 * (k : Int)).toNat = ys.length - k := by omega
    show (y :: ys).toArray[((ys.length : Int) + -1 * (k : Int)).toNat]? = _
    rw [e, show ys.length - k = (ys.length - 1 - k) + 1 by omega]
    simp
    rw [List.getElem?_reverse (by omega)]
def tBack (K : PySem.W.Frag) (te : TE) : TE := fun σ H Q => te σ H fun x H1 => ∃ a xs, x = .ref a ∧ SqL K H1 a xs ∧ ∀ p, H1 p = none → Q (.ref p) (upd H1 p (.lst (xs.drop 1).reverse))
theorem vals_drop {xs : List V} {us : List Value} (r : Vals xs us) : Vals (xs.drop 1) (us.drop 1) := by
  cases r with
  | nil => exact .nil
  | cons _ t => exact t
section
variable {X : Cx}
theorem pe_back {e : Expr} {te : TE} {k k0 : Nat} {p0 p1 p2 p3 pos : Pos} (he : PE X e te) : PE X (.Subscript e (.Slice none (some (.Constant (.int 0) k0 p0)) (some (.UnaryOp .USub (.Constant (.int 1) k p1) p2)) p3) pos) (tBack X.K te) := by
  refine ⟨fun pins s σ H Q I h => ?_⟩
  refine Subscript_ (thn (he.run pins s σ H _ I h) fun v w1 ⟨x, G1, I1, r1, q1⟩ => ?_)
  obtain ⟨a, xs, ex, hx, q⟩ := q1
  subst ex
  cases r1
  have up : PO X (some (.Constant (.int 0) k0 p0)) (tPart (tC (.int 0))) := po_some pe_int
  have st : PO X (some (.UnaryOp .USub (.Constant (.int 1) k p1) p2)) (tPart (tUn (rU fun i => .int (-i)) (tC (.int 1)))) := po_some (pe_un un_neg pe_int)
  refine wpAny_Slice (thn (po_none.run pins w1 σ G1 (fun o G2 => o = none ∧ G2 = G1) I1 ⟨rfl, rfl⟩) fun vl w2 ⟨l, G2, I2, pl, el, e2⟩ => ?_)
  subst el e2
  refine thn (up.run pins w2 σ G2 (fun o G3 => o = some 0 ∧ G3 = G2) I2 ⟨0, rfl, rfl, rfl⟩) fun vu w3 ⟨u, G3, I3, pu, eu, e3⟩ => ?_
  subst eu e3
  refine thn (st.run pins w3 σ G3 (fun o G4 => o = some (-1) ∧ G4 = G3) I3 ⟨1, rfl, -1, rfl, rfl, rfl⟩) fun vs w4 ⟨o, G4, I4, ps, eo, e4⟩ => ?_
  subst eo e4
  have J : Inv X pins σ G4 { w4 with heap := w4.heap.push { cls := .type "slice", data := .fields #[vl, vu, vs] } } := I4.kept (t' := w4.toks) fun b ob q => Heap.get?_push_of_some _ q
  obtain ⟨its, r, ht, hz⟩ := J.list hx
  have hlen := r.length
  show wpAny _ _ (subscriptTail e (.Slice none (some (.Constant (.int 0) k0 p0)) (some (.UnaryOp .USub (.Constant (.int 1) k p1) p2)) p3) (.ref a) (.ref w4.heap.objs.size)) _ _ _
  refine tail_any (ops := [.ref a, .ref w4.heap.objs.size]) ht.isList.typeIs (PySem.slot_list_getitem.lookup) ?_ (by with_unfolding_all rfl)
  refine wpAny_getItem_list_slice ht.isList (Heap.IsSliceOf.new _ vl vu vs) pl pu ps (by decide) ?_ (by rw [List.size_toArray]; omega)
  rw [pick_back]
  refine ⟨.ref _, _, J.laid (t' := w4.toks) (o := .lst (xs.drop 1).reverse) (fun b ob q => Heap.get?_push_of_some _ q) (Nat.le_refl _) ?_, rfl, q _ (J.hok.fresh (Nat.le_refl _))⟩
  exact ⟨by rw [List.length_reverse, List.length_drop]; omega, _, 0, (vals_drop r).reverse, Heap.get?_push_size _ rfl⟩
end
end Ow
/-! A class called with a starred list alone; a classmethod called so, and by keywords. -/
namespace Ow
open PySem PySem.Spec PyProof.Rows L2
/-- x(*e), x a local name that holds the class at C; Name(*e) -/
def tMakeS (K : PySem.W.Frag) (C : Addr) (sp : Sp) (E : XK) (te : TE) : TE := fun σ H Q => te σ H fun y H1 => ∃ a xs, y = V.ref a ∧ (SqT K H1 a xs ∨ SqL K H1 a xs) ∧
  ∀ x dx, H1 x = Option.none → H1 dx = Option.none → dx ≠ x → sp (V.ref x :: xs) (upd (upd H1 dx (.own x)) x (.ins C dx [])) (fun v H2 => v = .non ∧ Q (.ref x) H2) E
def tMakeLS (K : PySem.W.Frag) (i : Nat) (C : Addr) (sp : Sp) (E : XK) (te : TE) : TE := fun σ H Q => σ[i]? = some (some (.ref C)) ∧ tMakeS K C sp E te σ H Q
section
variable {X : Cx} {CX : CXT} {k i : Nat} {C f : Addr} {sp : Sp} {E : XK} {x : Str} {p pos ps : Pos} {e : Expr} {te : TE}
theorem pe_makeLS (M : Mk X.K C f) (F : FnR X.prog X.w X.K X.mg X.base CX k f sp) (hr : Room (k + 1) X.A) (hN : X.N[i]? = some x) (hv : Vis X.env.scope x) (hx : Passes CX X E) (he : PE X e te)
    (hdb : (x == ("__debug__" : Str)) = false := by decide) (hcd : (x == ("__classdict__" : Str)) = false := by decide) (hse : starEach [.Starred e ps] X.env = [(true, eval e X.env)] := by rfl) :
    PE X (.Call (.Name x p) [.Starred e ps] [] pos) (tMakeLS X.K i C sp E te) := by
  refine ⟨fun pins s σ H Q I h => ?_⟩
  obtain ⟨hs, ht⟩ := h
  have var := (pe_var (pos := p) hN hv hdb hcd).run pins s σ H (fun v H1 => v = .ref C ∧ H1 = H) I ⟨.ref C, hs, rfl, rfl⟩
  refine wpAny_Call_Name_kw (thn var fun u s1 got => ?_)
  obtain ⟨v, H1, I1, r1, q1⟩ := got
  obtain ⟨rfl, rfl⟩ := q1
  cases r1
  refine PySem.W.callWith_S (h₀ := X.base) I.ok.mod.kin M.kp (thn (he.run pins s1 σ _ _ I1 ht) fun v s2 got => ?_) hse
  obtain ⟨y, H2, I2, ry, a, xs, ey, hxs, q⟩ := got
  subst ey
  cases ry
  exact StX.star_any I2 hxs fun us s3 I3 rv => ⟨I3.kIn, StX.run_makeR M F hr hx I3 rv q⟩
theorem pe_makeGS (M : Mk X.K C f) (F : FnR X.prog X.w X.K X.mg X.base CX k f sp) (hr : Room (k + 1) X.A) (hg : Gl X x) (hm : X.mg x = some (.ref C)) (hx : Passes CX X E) (he : PE X e te)
    (hdb : (x == ("__debug__" : Str)) = false := by decide) (hse : starEach [.Starred e ps] X.env = [(true, eval e X.env)] := by rfl) :
    PE X (.Call (.Name x p) [.Starred e ps] [] pos) (tMakeS X.K C sp E te) := by
  refine ⟨fun pins s σ H Q I h => ?_⟩
  refine wpAny_Call_Name_kw (ld_glob I hg hm ?_ hdb)
  refine PySem.W.callWith_S (h₀ := X.base) I.ok.mod.kin M.kp (thn (he.run pins s σ H _ I h) fun v s2 got => ?_) hse
  obtain ⟨y, H2, I2, ry, a, xs, ey, hxs, q⟩ := got
  subst ey
  cases ry
  exact StX.star_any I2 hxs fun us s3 I3 rv => ⟨I3.kIn, StX.run_makeR M F hr hx I3 rv q⟩
end
/-- C.m(*e), m a classmethod -/
def tCMethS (K : PySem.W.Frag) (C : Addr) (sp : Sp) (E : XK) (ta te : TE) : TE := fun σ H Q => ta σ H fun x H1 => x = .ref C ∧ te σ H1 fun y H2 => ∃ a xs, y = V.ref a ∧ (SqT K H2 a xs ∨ SqL K H2 a xs) ∧ sp (.ref C :: xs) H2 Q E
section
open ClX
variable {X : Cx} {CX : CXT} {k : Nat} {C p g : Addr} {mc : Value} {sp : Sp} {E : XK} {o e : Expr} {m : Str} {pos apos ps : Pos} {ta te : TE} {pl : Sem Bool}
/-- o.m(*e): the callee is read as a value -/
theorem lone_call {M : Model} {A : Around} {E' : Value → Shared → Prop} {s : Shared} {env : Env} {Q : Value → Shared → Prop} (hb : attributeBase o m env (eval o env) = eval o env) (hs : starEach [.Starred e ps] env = [(true, eval e env)])
    (h : wpAny M A (eval o env) (fun ov s1 => wpAny M A (getAttr ov m true) (fun fv s2 => wpAny M A (callWith pos fv [] (backTo pos [(true, eval e env)]) []) Q E' s2) E' s1) E' s) : wpAny M A (eval (.Call (.Attribute o m apos) [.Starred e ps] [] pos) env) Q E' s := by
  have k1 : backToKw pos (keywordEach [] env) = ([] : List (Option Str × Sem Value)) := rfl
  have k2 : methodCallForm ([Expr.Starred e ps].length + ([] : List Keyword).length) (backTo pos [(true, eval e env)]) [] = false := rfl
  have k3 : methodCallPos false o env apos pos = pure pos := by rfl
  have k4 : ∀ x, calleeOf false o env x m = (getAttr x m true >>= fun v => pure (v, [])) := fun x => by rfl
  rw [arm_eval_Call, hb, hs, k1]
  refine wpAny_bind (wpAny_mono h (fun x s1 z => wpAny_bind (wpAny_standAt ?_)) fun _ _ y => y)
  unfold methodCall
  rw [k2, k3, k4]
  exact wpAny_bind (wpAny_holding (wpAny_bind (wpAny_mono z (fun fv s2 z2 => wpAny_pure (wpAny_bind (wpAny_pure z2))) fun _ _ y => y)))
theorem pe_cmethS (he : PE X o ta) (r : CRead X.K C mc) (c : CMet X.K C mc m p g) (F : FnR X.prog X.w X.K X.mg X.base CX k g sp) (hr : Room k X.A) (hx : Passes CX X E) (ha : PE X e te) (hbase : attributeBase o m X.env (eval o X.env) = eval o X.env := by rfl)
    (hse : starEach [.Starred e ps] X.env = [(true, eval e X.env)] := by rfl) : PE X (.Call (.Attribute o m apos) [.Starred e ps] [] pos) (tCMethS X.K C sp E ta te) := by
  refine ⟨fun pins s σ H Q I h => ?_⟩
  refine lone_call hbase hse (thn (he.run pins s σ H _ I h) fun u s1 got => ?_)
  obtain ⟨x, H1, I1, rx, rfl, q⟩ := got
  cases rx
  refine getcmet_ok I1 r c fun s2 I2 => ?_
  refine PySem.W.ks_call (P := PySem.W.MethP X.K _ g (.ref C)) rfl (PySem.W.keeps_M c.fi) (PySem.W.ks_lone (thn (ha.run _ s2 σ H1 _ I2 q) fun v s3 got => ?_))
  obtain ⟨y, H3, I3, ry, a, xs, ey, hxs, q3⟩ := got
  subst ey
  cases ry
  refine StX.star_any I3 hxs fun us s4 I4 rv => ⟨⟨pin_at I4, I4.kIn⟩, ?_⟩
  exact run_cm F hr hx I4 rv q3
end
end Ow
/-! A classmethod called by keywords alone; one without stars by position. -/
namespace Ow
open PySem PySem.Spec PyProof.Rows L2
def tCMethK (C : Addr) (n : Nat) (sp : Sp) (gV : List V → List V → List V) (E : XK) (ta : TE) (tk : TA) : TE := fun σ H Q => ta σ H fun x H1 => x = .ref C ∧ tk σ H1 fun zs H2 => zs.length = n ∧ sp (gV [.ref C] zs) H2 Q E
section
open ClX
variable {X : Cx} {CX : CXT} {k : Nat} {C p g : Addr} {mc : Value} {fd : FuncData} {ps ks : List Str} {sp : Sp} {E : XK} {o : Expr} {m : Str} {pos apos : Pos} {ta : TE} {tk : TA} {pl : Sem Bool} {kws : List Keyword} {gf : List Value → List Value → List Value} {gV : List V → List V → List V}
/-- a classmethod's promise by position -/
theorem fnR_of {P : Program} {w : World} {K : PySem.W.Frag} {mg : Str → Option Value} {base : Heap} (F : FnOk P w K mg base CX k g fd ps sp) (hb : Binds K fd ps []) (kin : K.In base) : FnR P w K mg base CX k g sp := by
  intro A outer s H us vs Q E hr e0 r h
  have hl : us.length = ps.length := by rw [← r.length]; exact F.len _ _ _ _ h
  have b := hb s us (kin.keeps fun b o e => (e0.bs b o e).1) (by rw [List.append_nil]; exact hl)
  rw [List.append_nil] at b
  exact F.run A outer s H ⟨us, []⟩ us vs Q E hr e0 b r h
theorem run_cmK {pins : List (Addr × Obj)} {σ : L2.St} {H : Hp} {s : Shared} {Q : VK} {q : Addr} {ws : List Value} {zs : List V} (F : FnOk X.prog X.w X.K X.mg X.base CX k g fd ps sp) (hr : Room k X.A) (hb : KBn X.K fd ps 1 ks gf gV) (hx : Passes CX X E)
    (I : Inv X ((q, PySem.W.methodObj (.ref g) (.ref C)) :: pins) σ H s) (rz : Vals zs ws) (hl : zs.length = ks.length) (h : sp (gV [.ref C] zs) H Q E) : wpAny (model X.prog X.w) X.A (call (.ref q) [] (ks.zip ws)) (EP X pins σ Q) X.xe s := by
  have z : wpAny (model X.prog X.w) X.A (call (.ref q) [] (ks.zip ws)) (EP X ((q, PySem.W.methodObj (.ref g) (.ref C)) :: pins) σ Q) X.xe s := by
    refine wpAny_call (PySem.W.method_call (pin_at I) (codeAny_mono (F.run X.A X.stack s H ⟨[.ref C], ks.zip ws⟩ (gf [.ref C] ws) (gV [.ref C] zs) Q E hr I.env0 (hb.to s [.ref C] ws I.kIn rfl (rz.length.symm.trans hl)) (hb.rel (.cons rfl .nil) rz) h) fun res s' hq => ?_))
    cases res with
    | error e => exact hx _ σ H s e s' I hq
    | ok fl =>
      cases fl with
      | ret u => exact I.after hq
      | next => exact hq.elim
      | brk => exact hq.elim
      | cont => exact hq.elim
  exact thn z fun _ _ y => unpinE y
theorem pe_cmethK0 (he : PE X o ta) (r : CRead X.K C mc) (c : CMet X.K C mc m p g) (F : FnOk X.prog X.w X.K X.mg X.base CX k g fd ps sp) (hr : Room k X.A) (hb : KBn X.K fd ps 1 ks gf gV) (hx : Passes CX X E) (hkw : PK X kws tk)
    (hall : (backToKw pos (keywordEach kws X.env)).all (·.1.isSome) = true := by rfl) (hks : (backToKw pos (keywordEach kws X.env)).filterMap (·.1) = ks := by rfl)
    (hpl : ((backTo pos (starEach [] X.env)).any (·.1) || (backToKw pos (keywordEach kws X.env)).any (·.1.isNone)) = false := by rfl)
    (ht : eval (.Call (.Attribute o m apos) [] kws pos) X.env = (do
      let ov ← eval o X.env
      standAt apos.atName
      let (f, first) ← holding [ov] (getMethod ov m pl)
      callWith pos f first (backTo pos (starEach [] X.env)) (backToKw pos (keywordEach kws X.env))) := by rfl) :
    PE X (.Call (.Attribute o m apos) [] kws pos) (tCMethK C ks.length sp gV E ta tk) := by
  refine ⟨fun pins s σ H Q I h => PySem.W.methodCall_KW (pl := pl) (thn (he.run pins s σ H _ I h) fun u s1 got => ?_) ht⟩
  obtain ⟨x, H1, I1, rx, rfl, q⟩ := got
  cases rx
  refine getmethcm_ok I1 r c fun s2 I2 => ?_
  refine PySem.W.callWith_of (P := PySem.W.MethP X.K _ g (.ref C)) hpl (PySem.W.keeps_M c.fi) (evalArgs_kw2_nil hall (thn (hkw.run pos _ s2 σ H1 _ I2 q) fun ws s3 got => ?_))
  obtain ⟨zs, H3, I3, rz, hl, q3⟩ := got
  refine ⟨⟨pin_at I3, I3.kIn⟩, ?_⟩
  rw [hks]
  exact run_cmK F hr hb hx I3 rz hl q3
end
/-- a classmethod, as others call it -/
structure CMS (P : Program) (w : World) (K : PySem.W.Frag) (mg : Str → Option Value) (base : Heap) (k : Nat) (C : Addr) (m : Str) (sp : Sp) : Prop where
  ex : ∃ mc p g, ClX.CRead K C mc ∧ ClX.CMet K C mc m p g ∧ FnR P w K mg base CX0 k g sp
structure CMK (P : Program) (w : World) (K : PySem.W.Frag) (mg : Str → Option Value) (base : Heap) (k : Nat) (C : Addr) (m : Str) (ps ks : List Str) (gV : List V → List V → List V) (sp : Sp) : Prop where
  ex : ∃ mc p g fd gf, ClX.CRead K C mc ∧ ClX.CMet K C mc m p g ∧ FnOk P w K mg base CX0 k g fd ps sp ∧ KBn K fd ps 1 ks gf gV
section
variable {X : Cx} {k : Nat} {C : Addr} {ps ks : List Str} {sp : Sp} {o e : Expr} {es : List Expr} {m : Str} {pos apos sp_ : Pos} {ta te : TE} {t tk : TA} {pl : Sem Bool} {kws : List Keyword} {gV : List V → List V → List V}
theorem pe_cmR (c : CMS X.prog X.w X.K X.mg X.base k C m sp) (hr : Room k X.A) (he : PE X o ta) (ha : PA X (e :: es) t)
    (hst : starEach (e :: es) X.env = (false, eval e X.env) :: starEach es X.env := by rfl) (hpl : (backTo pos (starEach es X.env)).any (·.1) = false := by rfl)
    (ht : eval (.Call (.Attribute o m apos) (e :: es) [] pos) X.env = (do
      let ov ← eval o X.env
      standAt apos.atName
      let (f, first) ← holding [ov] (getMethod ov m pl)
      callWith pos f first (backTo pos (starEach (e :: es) X.env)) (backToKw pos (keywordEach [] X.env))) := by rfl) :
    PE X (.Call (.Attribute o m apos) (e :: es) [] pos) (ClX.tCMeth C sp E0 ta t) := by
  obtain ⟨mc, p, g, r, cm, F⟩ := c.ex
  exact ClX.pe_cmeth (pl := pl) he r cm F hr pass0 ha hst hpl ht
theorem pe_cmS (c : CMS X.prog X.w X.K X.mg X.base k C m sp) (hr : Room k X.A) (he : PE X o ta) (ha : PE X e te) (hbase : attributeBase o m X.env (eval o X.env) = eval o X.env := by rfl) (hse : starEach [.Starred e sp_] X.env = [(true, eval e X.env)] := by rfl) :
    PE X (.Call (.Attribute o m apos) [.Starred e sp_] [] pos) (tCMethS X.K C sp E0 ta te) := by
  obtain ⟨mc, p, g, r, cm, F⟩ := c.ex
  exact pe_cmethS he r cm F hr pass0 ha hbase hse
theorem pe_cmK (c : CMK X.prog X.w X.K X.mg X.base k C m ps ks gV sp) (hr : Room k X.A) (he : PE X o ta) (hkw : PK X kws tk)
    (hall : (backToKw pos (keywordEach kws X.env)).all (·.1.isSome) = true := by rfl) (hks : (backToKw pos (keywordEach kws X.env)).filterMap (·.1) = ks := by rfl)
    (hpl : ((backTo pos (starEach [] X.env)).any (·.1) || (backToKw pos (keywordEach kws X.env)).any (·.1.isNone)) = false := by rfl)
    (ht : eval (.Call (.Attribute o m apos) [] kws pos) X.env = (do
      let ov ← eval o X.env
      standAt apos.atName
      let (f, first) ← holding [ov] (getMethod ov m pl)
      callWith pos f first (backTo pos (starEach [] X.env)) (backToKw pos (keywordEach kws X.env))) := by rfl) :
    PE X (.Call (.Attribute o m apos) [] kws pos) (tCMethK C ks.length sp gV E0 ta tk) := by
  obtain ⟨mc, p, g, fd, gf, r, cm, F, hb⟩ := c.ex
  exact pe_cmethK0 (pl := pl) he r cm F hr hb pass0 hkw hall hks hpl ht
end
end Ow
/-! Two lists side by side. -/
namespace Ow
def Par {α β : Type} (R : α → β → Prop) (as : List α) (bs : List β) : Prop := as.length = bs.length ∧ ∀ (i : Nat) a b, as[i]? = some a → bs[i]? = some b → R a b
section
variable {α β : Type} {R S : α → β → Prop} {as cs : List α} {bs ds : List β}
theorem Par.imp (h : Par R as bs) (k : ∀ a b, R a b → S a b) : Par S as bs := ⟨h.1, fun i a b e1 e2 => k a b (h.2 i a b e1 e2)⟩
theorem Par.nil : Par R [] [] := ⟨rfl, fun i a b e _ => by simp at e⟩
theorem Par.app (h : Par R as bs) (g : Par R cs ds) : Par R (as ++ cs) (bs ++ ds) := by
  refine ⟨by rw [List.length_append, List.length_append, h.1, g.1], fun i a b e1 e2 => ?_⟩
  rcases Nat.lt_or_ge i as.length with c | c
  · rw [List.getElem?_append_left c] at e1
    rw [List.getElem?_append_left (by rw [← h.1]; exact c)] at e2
    exact h.2 i a b e1 e2
  · rw [List.getElem?_append_right c] at e1
    rw [List.getElem?_append_right (by rw [← h.1]; exact c), ← h.1] at e2
    exact g.2 _ a b e1 e2
theorem Par.one {a : α} {b : β} (h : R a b) : Par R [a] [b] := ⟨rfl, fun i x y e1 e2 => by
  rcases i with _ | i
  · cases e1
    cases e2
    exact h
  · simp at e1⟩
theorem Par.cons {a : α} {b : β} (h : R a b) (t : Par R as bs) : Par R (a :: as) (b :: bs) := (Par.one h).app t
theorem Par.head {a : α} {b : β} (h : Par R (a :: as) (b :: bs)) : R a b := h.2 0 a b rfl rfl
theorem Par.tail {a : α} {b : β} (h : Par R (a :: as) (b :: bs)) : Par R as bs := ⟨by simpa using h.1, fun i x y e1 e2 => h.2 (i + 1) x y (by simpa using e1) (by simpa using e2)⟩
theorem Par.take (h : Par R as bs) (n : Nat) : Par R (as.take n) (bs.take n) := by
  refine ⟨by rw [List.length_take, List.length_take, h.1], fun i x r e1 e2 => ?_⟩
  rw [List.getElem?_take] at e1 e2
  by_cases c : i < n
  · rw [if_pos c] at e1 e2
    exact h.2 i x r e1 e2
  · rw [if_neg c] at e1
    exact nomatch e1
theorem Par.drop (h : Par R as bs) (n : Nat) : Par R (as.drop n) (bs.drop n) := by
  refine ⟨by rw [List.length_drop, List.length_drop, h.1], fun i x r e1 e2 => ?_⟩
  rw [List.getElem?_drop] at e1 e2
  exact h.2 _ x r e1 e2
theorem Par.rev (h : Par R as bs) : Par R as.reverse bs.reverse := by
  refine ⟨by rw [List.length_reverse, List.length_reverse, h.1], fun i x r e1 e2 => ?_⟩
  have hi : i < as.length := by
    rcases Nat.lt_or_ge i as.length with c | c
    · exact c
    · rw [List.getElem?_eq_none (by rw [List.length_reverse]; exact c)] at e1
      exact nomatch e1
  rw [List.getElem?_reverse hi] at e1
  rw [List.getElem?_reverse (by rw [← h.1]; exact hi), ← h.1] at e2
  exact h.2 _ x r e1 e2
theorem Par.getL (h : Par R as bs) {i : Nat} {a : α} (e : as[i]? = some a) : ∃ b, bs[i]? = some b ∧ R a b := by
  have hi := (List.getElem?_eq_some_iff.mp e).1
  have hb : i < bs.length := by rw [← h.1]; exact hi
  exact ⟨bs[i], List.getElem?_eq_getElem hb, h.2 i a _ e (List.getElem?_eq_getElem hb)⟩
theorem Par.getR (h : Par R as bs) {i : Nat} {b : β} (e : bs[i]? = some b) : ∃ a, as[i]? = some a ∧ R a b := by
  have hi := (List.getElem?_eq_some_iff.mp e).1
  have hb : i < as.length := by rw [h.1]; exact hi
  exact ⟨as[i], List.getElem?_eq_getElem hb, h.2 i _ b (List.getElem?_eq_getElem hb) e⟩
theorem Par.map {γ : Type} {T : γ → β → Prop} {f : α → γ} (h : Par R as bs) (k : ∀ a b, R a b → T (f a) b) : Par T (as.map f) bs := by
  refine ⟨by rw [List.length_map]; exact h.1, fun i x b e1 e2 => ?_⟩
  rw [List.getElem?_map] at e1
  cases c : as[i]? with
  | none => rw [c] at e1; exact nomatch e1
  | some a =>
    rw [c] at e1
    cases e1
    exact k a b (h.2 i a b c e2)
theorem Par.mapR {γ : Type} {T : α → γ → Prop} {f : β → γ} (h : Par R as bs) (k : ∀ a b, R a b → T a (f b)) : Par T as (bs.map f) := by
  refine ⟨by rw [List.length_map]; exact h.1, fun i a x e1 e2 => ?_⟩
  rw [List.getElem?_map] at e2
  cases c : bs[i]? with
  | none => rw [c] at e2; exact nomatch e2
  | some b =>
    rw [c] at e2
    cases e2
    exact k a b (h.2 i a b e1 c)
theorem Par.set {a : α} {b : β} (h : Par R as bs) (j : Nat) (r : R a b) : Par R (as.set j a) (bs.set j b) := by
  refine ⟨by rw [List.length_set, List.length_set]; exact h.1, fun i x y e1 e2 => ?_⟩
  rw [List.getElem?_set] at e1 e2
  by_cases c : j = i
  · rw [if_pos c] at e1 e2
    split at e1
    · split at e2
      · cases e1
        cases e2
        exact r
      · exact nomatch e2
    · exact nomatch e1
  · rw [if_neg c] at e1 e2
    exact h.2 i x y e1 e2
/-- each thing on the left has one on the right -/
theorem par_of {as : List α} (h : ∀ a ∈ as, ∃ b, R a b) : ∃ bs, Par R as bs := by
  induction as with
  | nil => exact ⟨[], Par.nil⟩
  | cons a as ih =>
    obtain ⟨b, hb⟩ := h a List.mem_cons_self
    obtain ⟨bs, hbs⟩ := ih fun x hx => h x (List.mem_cons_of_mem _ hx)
    exact ⟨b :: bs, Par.cons hb hbs⟩
end
end Ow
/-! Fractions in lowest terms and rational numbers. -/
namespace Rm
theorem low_mul {n d m : Int} (h : Lw n d) (hm : m ≠ 0) : low (n * m) (d * m) = (n, d) := by
  have hd : d * m ≠ 0 := Int.mul_ne_zero (by have := h.pos; omega) hm
  have e : byv (n * m) (d * m) = m := by
    unfold byv sg
    rw [Int.gcd_mul_right, h.cop, Nat.one_mul]
    have hp := h.pos
    by_cases c : 0 < m
    · rw [if_pos (Int.mul_pos hp c)]; omega
    · rw [if_neg (by
        have : d * m < 0 := Int.mul_neg_of_pos_of_neg hp (by omega)
        omega)]
      omega
  unfold low
  rw [e, Int.mul_fdiv_cancel _ hm, Int.mul_fdiv_cancel _ hm]
def qv (a : Int × Int) : Rat := (a.1 : Rat) / (a.2 : Rat)
theorem cast_ne {n : Int} (h : n ≠ 0) : (n : Rat) ≠ 0 := by
  intro e
  exact h (by exact_mod_cast e)
theorem cross {a b : Int × Int} (la : Lw a.1 a.2) (lb : Lw b.1 b.2) (h : a.1 * b.2 = b.1 * a.2) : a = b := by
  have e1 := low_mul la (m := b.2) (by have := lb.pos; omega)
  have e2 := low_mul lb (m := a.2) (by have := la.pos; omega)
  rw [h, Int.mul_comm a.2 b.2, e2] at e1
  exact e1.symm
theorem q_inj {a b : Int × Int} (la : Lw a.1 a.2) (lb : Lw b.1 b.2) (h : qv a = qv b) : a = b := by
  have h1 := cast_ne (n := a.2) (by have := la.pos; omega)
  have h2 := cast_ne (n := b.2) (by have := lb.pos; omega)
  refine cross la lb ?_
  unfold qv at h
  have e : (a.1 : Rat) * (b.2 : Rat) = (b.1 : Rat) * (a.2 : Rat) := by grind
  exact_mod_cast e
theorem q_low (t : Int) {b : Int} (hb : b ≠ 0) : qv (low t b) = (t : Rat) / (b : Rat) := by
  have e1 : ((low t b).1 : Rat) * (byv t b : Rat) = (t : Rat) := by exact_mod_cast low_t (t := t) (b := b)
  have e2 : ((low t b).2 : Rat) * (byv t b : Rat) = (b : Rat) := by exact_mod_cast low_b (t := t) (b := b)
  have h1 := cast_ne (byv_ne (t := t) hb)
  have h2 := cast_ne (n := (low t b).2) (by have := (low_lw t hb).pos; omega)
  have h3 := cast_ne hb
  unfold qv
  grind
theorem q_plus {a b : Int × Int} (la : Lw a.1 a.2) (lb : Lw b.1 b.2) : qv (plus a b) = qv a + qv b := by
  have h1 := cast_ne (n := a.2) (by have := la.pos; omega)
  have h2 := cast_ne (n := b.2) (by have := lb.pos; omega)
  unfold plus
  rw [q_low _ (mul_ne la.pos lb.pos)]
  unfold qv
  rw [Rat.intCast_add, Rat.intCast_mul, Rat.intCast_mul, Rat.intCast_mul]
  grind
theorem q_minus {a b : Int × Int} (la : Lw a.1 a.2) (lb : Lw b.1 b.2) : qv (minus a b) = qv a - qv b := by
  have h1 := cast_ne (n := a.2) (by have := la.pos; omega)
  have h2 := cast_ne (n := b.2) (by have := lb.pos; omega)
  unfold minus
  rw [q_low _ (mul_ne la.pos lb.pos)]
  unfold qv
  rw [Rat.intCast_sub, Rat.intCast_mul, Rat.intCast_mul, Rat.intCast_mul]
  grind
theorem q_times {a b : Int × Int} (la : Lw a.1 a.2) (lb : Lw b.1 b.2) : qv (times a b) = qv a * qv b := by
  have h1 := cast_ne (n := a.2) (by have := la.pos; omega)
  have h2 := cast_ne (n := b.2) (by have := lb.pos; omega)
  unfold times
  rw [q_low _ (mul_ne la.pos lb.pos)]
  unfold qv
  rw [Rat.intCast_mul, Rat.intCast_mul]
  grind
theorem lw_plus {a b : Int × Int} (la : Lw a.1 a.2) (lb : Lw b.1 b.2) : Lw (plus a b).1 (plus a b).2 := low_lw _ (mul_ne la.pos lb.pos)
theorem lw_minus {a b : Int × Int} (la : Lw a.1 a.2) (lb : Lw b.1 b.2) : Lw (minus a b).1 (minus a b).2 := low_lw _ (mul_ne la.pos lb.pos)
theorem lw_times {a b : Int × Int} (la : Lw a.1 a.2) (lb : Lw b.1 b.2) : Lw (times a b).1 (times a b).2 := low_lw _ (mul_ne la.pos lb.pos)
theorem pos_q {n : Int} (h : 0 < n) : (0 : Rat) < (n : Rat) := by exact_mod_cast h
theorem q_lt {a b : Int × Int} (la : Lw a.1 a.2) (lb : Lw b.1 b.2) : a.1 * b.2 < b.1 * a.2 ↔ qv a < qv b := by
  have h1 := pos_q la.pos
  have h2 := pos_q lb.pos
  have e : a.1 * b.2 < b.1 * a.2 ↔ (a.1 : Rat) * (b.2 : Rat) < (b.1 : Rat) * (a.2 : Rat) := by
    rw [← Rat.intCast_mul, ← Rat.intCast_mul, Rat.intCast_lt_intCast]
  rw [e]
  unfold qv
  rw [Rat.div_lt_iff h1]
  have e3 : (b.1 : Rat) / (b.2 : Rat) * (a.2 : Rat) = ((b.1 : Rat) * (a.2 : Rat)) / (b.2 : Rat) := by grind
  rw [e3, Rat.lt_div_iff h2]
theorem q_zero : qv (0, 1) = 0 := by show ((0 : Int) : Rat) / ((1 : Int) : Rat) = 0; decide +kernel
theorem q_pos {a : Int × Int} (la : Lw a.1 a.2) : 0 < a.1 ↔ 0 < qv a := by
  have := q_lt (a := (0, 1)) (b := a) (lw_int 0) la
  rw [q_zero] at this
  rw [← this]
  simp
theorem q_neg {a : Int × Int} (la : Lw a.1 a.2) : a.1 < 0 ↔ qv a < 0 := by
  have := q_lt (a := a) (b := (0, 1)) la (lw_int 0)
  rw [q_zero] at this
  rw [← this]
  simp
end Rm
/-! The mathematics of tables: points, steps. -/
namespace Rm
abbrev Fr2 := Int × Int
abbrev z01 : Fr2 := (0, 1)
def Lws (ps : List Fr2) : Prop := ∀ p ∈ ps, Lw p.1 p.2
def Bds (k : Nat) (ps : List Fr2) : Prop := ∀ p ∈ ps, Bd k p.1 ∧ Bd k p.2
theorem Lws.get {ps : List Fr2} (h : Lws ps) {i : Nat} {p : Fr2} (e : ps[i]? = some p) : Lw p.1 p.2 := h p (List.mem_of_getElem? e)
theorem Bds.get {k : Nat} {ps : List Fr2} (h : Bds k ps) {i : Nat} {p : Fr2} (e : ps[i]? = some p) : Bd k p.1 ∧ Bd k p.2 := h p (List.mem_of_getElem? e)
/-- what points a table may have -/
structure Desc' (ps : List Fr2) : Prop where
  one : 1 ≤ ps.length
  five : ps.length ≤ 5
  pos : ∀ (i : Nat) p, ps[i]? = some p → 0 ≤ p.1
  first : ∀ p, ps[0]? = some p → p.1 ≠ 0
  down : ∀ (i : Nat) p r, ps[i]? = some p → ps[i + 1]? = some r → ¬ (p.1 * r.2 < r.1 * p.2)
def pad (ps : List Fr2) : List Fr2 := ps ++ List.replicate (5 - ps.length) z01
theorem pad_len {ps : List Fr2} (h : ps.length ≤ 5) : (pad ps).length = 5 := by
  unfold pad
  rw [List.length_append, List.length_replicate]
  omega
theorem pad_get {ps : List Fr2} {i : Nat} {p : Fr2} (e : (pad ps)[i]? = some p) : ps[i]? = some p ∨ (ps.length ≤ i ∧ p = z01) := by
  unfold pad at e
  rcases Nat.lt_or_ge i ps.length with c | c
  · rw [List.getElem?_append_left c] at e
    exact .inl e
  · rw [List.getElem?_append_right c, List.getElem?_replicate] at e
    split at e
    · exact .inr ⟨c, (Option.some.inj e).symm⟩
    · exact nomatch e
theorem pad_lws {ps : List Fr2} (h : Lws ps) : Lws (pad ps) := fun p hp => by
  unfold pad at hp
  rcases List.mem_append.mp hp with c | c
  · exact h p c
  · rw [List.eq_of_mem_replicate c]
    exact lw_int 0
theorem pad_desc {ps : List Fr2} (h : Desc' ps) (l : Lws ps) : Desc' (pad ps) := by
  refine ⟨by rw [pad_len h.five]; decide, by rw [pad_len h.five]; exact Nat.le_refl 5, fun i p e => ?_, fun p e => ?_, fun i p r e1 e2 => ?_⟩
  · rcases pad_get e with c | ⟨_, rfl⟩
    · exact h.pos i p c
    · exact Int.le_refl 0
  · rcases pad_get e with c | ⟨c, _⟩
    · exact h.first p c
    · have := h.one
      omega
  · rcases pad_get e2 with c2 | ⟨_, rfl⟩
    · rcases pad_get e1 with c1 | ⟨c1, _⟩
      · exact h.down i p r c1 c2
      · have := (List.getElem?_eq_some_iff.mp c2).1
        omega
    · have p0 : 0 ≤ p.1 := by
        rcases pad_get e1 with c1 | ⟨_, rfl⟩
        · exact h.pos i p c1
        · exact Int.le_refl 0
      show ¬ (p.1 * 1 < 0 * p.2)
      omega
/-- the points by the steps: sums from behind -/
def ptsR : List Fr2 → List Fr2
  | [] => []
  | s :: ss => plus ((ptsR ss).headD z01) s :: ptsR ss
theorem pts_len : ∀ ss : List Fr2, (ptsR ss).length = ss.length
  | [] => rfl
  | s :: ss => by
    show (ptsR ss).length + 1 = ss.length + 1
    rw [pts_len ss]
theorem lw_z : Lw z01.1 z01.2 := lw_int 0
theorem lws_head {ps : List Fr2} (h : Lws ps) : Lw (ps.headD z01).1 (ps.headD z01).2 := by
  cases ps with
  | nil => exact lw_z
  | cons p ps => exact h p List.mem_cons_self
theorem pts_lws : ∀ {ss : List Fr2}, Lws ss → Lws (ptsR ss)
  | [], _ => fun p hp => absurd hp List.not_mem_nil
  | s :: ss, h => fun p hp => by
    have ih : Lws (ptsR ss) := pts_lws fun x hx => h x (List.mem_cons_of_mem _ hx)
    rcases List.mem_cons.mp hp with rfl | hp
    · exact lw_plus (lws_head ih) (h s List.mem_cons_self)
    · exact ih p hp
/-- sums of values -/
def sumq (ss : List Fr2) : Rat := (ss.map qv).sum
theorem sumq_cons (s : Fr2) (ss : List Fr2) : sumq (s :: ss) = qv s + sumq ss := by
  unfold sumq
  rw [List.map_cons, List.sum_cons]
theorem q_head {ss : List Fr2} (h : Lws ss) : qv ((ptsR ss).headD z01) = sumq ss := by
  induction ss with
  | nil => exact q_zero
  | cons s ss ih =>
    have hs : Lws ss := fun x hx => h x (List.mem_cons_of_mem _ hx)
    show qv (plus ((ptsR ss).headD z01) s) = _
    rw [q_plus (lws_head (pts_lws hs)) (h s List.mem_cons_self), ih hs, sumq_cons]
    grind
theorem pts_drop : ∀ (ss : List Fr2) (i : Nat), (ptsR ss).drop i = ptsR (ss.drop i)
  | ss, 0 => by simp
  | [], i + 1 => by simp [ptsR]
  | s :: ss, i + 1 => by
    show (ptsR ss).drop i = ptsR (ss.drop i)
    exact pts_drop ss i
theorem pts_get {ss : List Fr2} {i : Nat} {p : Fr2} (e : (ptsR ss)[i]? = some p) : p = (ptsR (ss.drop i)).headD z01 := by
  rw [← pts_drop]
  have h : ((ptsR ss).drop i)[0]? = some p := by rw [List.getElem?_drop]; exact e
  cases c : (ptsR ss).drop i with
  | nil => rw [c] at h; exact nomatch h
  | cons x xs => rw [c] at h; cases h; rfl
theorem lws_drop {ss : List Fr2} (h : Lws ss) (i : Nat) : Lws (ss.drop i) := fun x hx => h x (List.mem_of_mem_drop hx)
theorem lws_take {ss : List Fr2} (h : Lws ss) (i : Nat) : Lws (ss.take i) := fun x hx => h x (List.mem_of_mem_take hx)
theorem q_pts {ss : List Fr2} (h : Lws ss) {i : Nat} {p : Fr2} (e : (ptsR ss)[i]? = some p) : qv p = sumq (ss.drop i) := by
  rw [pts_get e]
  exact q_head (lws_drop h i)
def sumL (ps : List Fr2) : Fr2 := ps.foldl plus z01
theorem fold_q : ∀ (ps : List Fr2) (a : Fr2), Lws ps → Lw a.1 a.2 → Lw (ps.foldl plus a).1 (ps.foldl plus a).2 ∧ qv (ps.foldl plus a) = qv a + sumq ps
  | [], a, _, la => ⟨la, by show qv a = qv a + sumq []; unfold sumq; simp; grind⟩
  | p :: ps, a, h, la => by
    have lp := h p List.mem_cons_self
    obtain ⟨l, q⟩ := fold_q ps (plus a p) (fun x hx => h x (List.mem_cons_of_mem _ hx)) (lw_plus la lp)
    refine ⟨l, ?_⟩
    show qv (ps.foldl plus (plus a p)) = _
    rw [q, q_plus la lp, sumq_cons]
    grind
theorem q_sumL {ps : List Fr2} (h : Lws ps) : Lw (sumL ps).1 (sumL ps).2 ∧ qv (sumL ps) = sumq ps := by
  obtain ⟨l, q⟩ := fold_q ps z01 h lw_z
  refine ⟨l, ?_⟩
  show qv (ps.foldl plus z01) = _
  rw [q, q_zero]
  grind
theorem sumL_pts {ss : List Fr2} (h : Lws ss) {i : Nat} {p : Fr2} (e : (ptsR ss)[i]? = some p) : sumL (ss.drop i) = p := by
  obtain ⟨l, q⟩ := q_sumL (lws_drop h i)
  refine q_inj l (pts_lws h |>.get e) ?_
  rw [q, q_pts h e]
theorem minus_pts {ss : List Fr2} (h : Lws ss) {i : Nat} {p s : Fr2} (e : (ptsR ss)[i]? = some p) (es : ss[i]? = some s) : minus p ((ptsR ss)[i + 1]?.getD z01) = s := by
  have lp := pts_lws h |>.get e
  have ls := h.get es
  have hi := (List.getElem?_eq_some_iff.mp es)
  obtain ⟨hi, he⟩ := hi
  have ed : ss.drop i = s :: ss.drop (i + 1) := by rw [List.drop_eq_getElem_cons hi, he]
  have lr : Lw ((ptsR ss)[i + 1]?.getD z01).1 ((ptsR ss)[i + 1]?.getD z01).2 ∧ qv ((ptsR ss)[i + 1]?.getD z01) = sumq (ss.drop (i + 1)) := by
    cases c : (ptsR ss)[i + 1]? with
    | none =>
      have : (ptsR ss).length ≤ i + 1 := List.getElem?_eq_none_iff.mp c
      rw [pts_len] at this
      rw [List.drop_of_length_le this]
      exact ⟨lw_z, q_zero⟩
    | some r => exact ⟨(pts_lws h).get c, q_pts h c⟩
  refine q_inj (lw_minus lp lr.1) ls ?_
  rw [q_minus lp lr.1, lr.2, q_pts h e, ed, sumq_cons]
  grind
/-- steps: from 0 on -/
def Nng (ss : List Fr2) : Prop := ∀ s ∈ ss, 0 ≤ s.1
theorem q_nn {a : Fr2} (la : Lw a.1 a.2) : 0 ≤ a.1 ↔ 0 ≤ qv a := by
  have := q_neg la
  constructor
  · intro h
    exact Rat.not_lt.mp fun c => by have := this.mpr c; omega
  · intro h
    exact Int.not_lt.mp fun c => Rat.not_lt.mpr h (this.mp c)
theorem sum_nn {ss : List Fr2} (h : Lws ss) (n : Nng ss) : 0 ≤ sumq ss := by
  induction ss with
  | nil => unfold sumq; simp
  | cons s ss ih =>
    rw [sumq_cons]
    have h1 := (q_nn (h s List.mem_cons_self)).mp (n s List.mem_cons_self)
    have h2 := ih (fun x hx => h x (List.mem_cons_of_mem _ hx)) (fun x hx => n x (List.mem_cons_of_mem _ hx))
    grind
theorem q_eq0 {a : Fr2} (la : Lw a.1 a.2) : a.1 = 0 ↔ qv a = 0 := by
  have h1 := q_neg la
  have h2 := q_pos la
  constructor
  · intro h
    have e : a = z01 := cross la lw_z (by show a.1 * 1 = 0 * a.2; omega)
    rw [e]
    exact q_zero
  · intro h
    rw [h] at h1 h2
    have a1 : ¬ a.1 < 0 := fun c => absurd (h1.mp c) (Rat.lt_irrefl)
    have a2 : ¬ 0 < a.1 := fun c => absurd (h2.mp c) (Rat.lt_irrefl)
    omega
theorem lw0 {a : Fr2} (la : Lw a.1 a.2) (h : a.1 = 0) : a = z01 := cross la lw_z (by show a.1 * 1 = 0 * a.2; omega)
theorem sum_pos {ss : List Fr2} (h : Lws ss) (n : Nng ss) (ex : ∃ s ∈ ss, s.1 ≠ 0) : 0 < sumq ss := by
  induction ss with
  | nil =>
    obtain ⟨s, hs, _⟩ := ex
    exact absurd hs List.not_mem_nil
  | cons s ss ih =>
    rw [sumq_cons]
    have hs : Lws ss := fun x hx => h x (List.mem_cons_of_mem _ hx)
    have ns : Nng ss := fun x hx => n x (List.mem_cons_of_mem _ hx)
    have h1 := (q_nn (h s List.mem_cons_self)).mp (n s List.mem_cons_self)
    have h2 := sum_nn hs ns
    obtain ⟨t, ht, t0⟩ := ex
    rcases List.mem_cons.mp ht with rfl | ht
    · have n0 := n t List.mem_cons_self
      have h3 := (q_pos (h t List.mem_cons_self)).mp (by omega)
      grind
    · have h3 := ih hs ns ⟨t, ht, t0⟩
      grind
theorem sum_zero {ss : List Fr2} (h : Lws ss) (n : ∀ s ∈ ss, s.1 = 0) : sumq ss = 0 := by
  induction ss with
  | nil => unfold sumq; simp
  | cons s ss ih =>
    rw [sumq_cons, ih (fun x hx => h x (List.mem_cons_of_mem _ hx)) (fun x hx => n x (List.mem_cons_of_mem _ hx)), (q_eq0 (h s List.mem_cons_self)).mp (n s List.mem_cons_self)]
    grind
end Rm
namespace Rm
theorem desc_pts {ss : List Fr2} (h : Lws ss) (n : Nng ss) (h1 : 1 ≤ ss.length) (h5 : ss.length ≤ 5) (ex : ∃ s ∈ ss, s.1 ≠ 0) : Desc' (ptsR ss) := by
  have L := pts_lws h
  refine ⟨by rw [pts_len]; exact h1, by rw [pts_len]; exact h5, fun i p e => ?_, fun p e => ?_, fun i p r e1 e2 => ?_⟩
  · refine (q_nn (L.get e)).mpr ?_
    rw [q_pts h e]
    exact sum_nn (lws_drop h i) fun s hs => n s (List.mem_of_mem_drop hs)
  · have q := q_pts h e
    rw [List.drop_zero] at q
    have := sum_pos h n ex
    rw [← q] at this
    have := (q_pos (L.get e)).mpr this
    omega
  · rw [q_lt (L.get e1) (L.get e2), q_pts h e1, q_pts h e2]
    have hi : i < ss.length := by rw [← pts_len ss]; exact (List.getElem?_eq_some_iff.mp e1).1
    rw [List.drop_eq_getElem_cons hi, sumq_cons]
    have := (q_nn (h.get (List.getElem?_eq_getElem hi))).mp (n _ (List.getElem_mem hi))
    grind
def paidN (ps : List Fr2) : Nat := (ps.filter fun p => decide (0 < p.1)).length
/-- never below 0, never rising -/
structure Dn (ps : List Fr2) : Prop where
  pos : ∀ (i : Nat) p, ps[i]? = some p → 0 ≤ p.1
  down : ∀ (i : Nat) p r, ps[i]? = some p → ps[i + 1]? = some r → ¬ (p.1 * r.2 < r.1 * p.2)
theorem Desc'.dn {ps : List Fr2} (h : Desc' ps) : Dn ps := ⟨h.pos, h.down⟩
theorem Dn.tail {p : Fr2} {ps : List Fr2} (h : Dn (p :: ps)) : Dn ps := ⟨fun i x e => h.pos (i + 1) x e, fun i x y e1 e2 => h.down (i + 1) x y e1 e2⟩
theorem dn_zero : ∀ {ps : List Fr2} {p : Fr2}, Lws (p :: ps) → Dn (p :: ps) → p.1 = 0 → ∀ x ∈ ps, x = z01
  | [], _, _, _, _ => fun x hx => absurd hx List.not_mem_nil
  | r :: ps, p, l, d, h0 => by
    have lp := l p List.mem_cons_self
    have lr := l r (List.mem_cons_of_mem _ List.mem_cons_self)
    have h1 := d.down 0 p r rfl rfl
    have h2 := d.pos 1 r rfl
    have e0 := lw0 lp h0
    rw [e0] at h1
    have r0 : r.1 = 0 := by
      have : ¬ (0 * r.2 < r.1 * 1) := h1
      omega
    intro x hx
    rcases List.mem_cons.mp hx with rfl | hx
    · exact lw0 lr r0
    · exact dn_zero (fun y hy => l y (List.mem_cons_of_mem _ hy)) d.tail r0 x hx
theorem paid_split : ∀ {ps : List Fr2}, Lws ps → Dn ps → ps.filter (fun p => decide (0 < p.1)) = ps.take (paidN ps) ∧ ∀ x ∈ ps.drop (paidN ps), x = z01
  | [], _, _ => ⟨rfl, fun x hx => absurd hx (by simp)⟩
  | p :: ps, l, d => by
    have ih := paid_split (ps := ps) (fun y hy => l y (List.mem_cons_of_mem _ hy)) d.tail
    by_cases c : 0 < p.1
    · have e : paidN (p :: ps) = paidN ps + 1 := by
        unfold paidN
        rw [List.filter_cons_of_pos (by simpa using c), List.length_cons]
      rw [e, List.filter_cons_of_pos (by simpa using c), List.take_succ_cons, List.drop_succ_cons]
      exact ⟨by rw [ih.1], ih.2⟩
    · have p0 := d.pos 0 p rfl
      have pz : p.1 = 0 := by omega
      have z := dn_zero l d pz
      have e1 : ps.filter (fun p => decide (0 < p.1)) = [] := List.filter_eq_nil_iff.mpr fun x hx => by rw [z x hx]; decide
      have e : paidN (p :: ps) = 0 := by
        unfold paidN
        rw [List.filter_cons_of_neg (by simpa using c), e1]
        rfl
      rw [e, List.filter_cons_of_neg (by simpa using c), e1]
      refine ⟨rfl, fun x hx => ?_⟩
      rw [List.drop_zero] at hx
      rcases List.mem_cons.mp hx with rfl | hx
      · exact lw0 (l x List.mem_cons_self) pz
      · exact z x hx
theorem paid_le (ps : List Fr2) : paidN ps ≤ ps.length := List.length_filter_le _ _
theorem paid_pos {ps : List Fr2} (h : Desc' ps) : 1 ≤ paidN ps := by
  have h1 := h.one
  have hm : ps[0] ∈ ps := List.getElem_mem (by omega)
  have a := h.pos 0 ps[0] (List.getElem?_eq_getElem (by omega))
  have b := h.first ps[0] (List.getElem?_eq_getElem (by omega))
  have : ps[0] ∈ ps.filter fun p => decide (0 < p.1) := List.mem_filter.mpr ⟨hm, by simp; omega⟩
  exact List.length_pos_of_mem this
theorem pad_take {ps : List Fr2} (l : Lws ps) (d : Dn ps) (h5 : ps.length = 5) {m : Nat} (hm : paidN ps ≤ m) (m5 : m ≤ 5) : pad (ps.take m) = ps := by
  have z := (paid_split l d).2
  have e : ps.drop m = List.replicate (5 - m) z01 := by
    have k := List.eq_replicate_of_mem (a := z01) (l := ps.drop m) fun x hx => z x (List.drop_subset_drop_left _ hm hx)
    rw [List.length_drop, h5] at k
    exact k
  unfold pad
  rw [List.length_take, h5, Nat.min_eq_left m5, ← e, List.take_append_drop]
theorem desc_take {ps : List Fr2} (h : Desc' ps) {m : Nat} (m1 : 1 ≤ m) (m5 : m ≤ 5) : Desc' (ps.take m) := by
  have g : ∀ (i : Nat) p, (ps.take m)[i]? = some p → ps[i]? = some p := fun i p e => by
    rw [List.getElem?_take] at e
    split at e
    · exact e
    · exact nomatch e
  have := h.one
  refine ⟨by rw [List.length_take]; omega, by rw [List.length_take]; omega, fun i p e => h.pos i p (g i p e), fun p e => h.first p (g 0 p e), fun i p r e1 e2 => h.down i p r (g _ _ e1) (g _ _ e2)⟩
theorem sumq_app (a b : List Fr2) : sumq (a ++ b) = sumq a + sumq b := by
  unfold sumq
  rw [List.map_append, List.sum_append]
/-- all but the first steps are none -/
theorem rest_zero {ss : List Fr2} (l : Lws ss) (n : Nng ss) {m : Nat} (hm : paidN (ptsR ss) ≤ m) (d : Dn (ptsR ss)) : ∀ x ∈ ss.drop m, x = z01 := by
  have L := pts_lws l
  have z := (paid_split L d).2
  have s0 : sumq (ss.drop m) = 0 := by
    rcases Nat.lt_or_ge m ss.length with c | c
    · have hi : m < (ptsR ss).length := by rw [pts_len]; exact c
      have e := List.getElem?_eq_getElem hi
      rw [← q_pts l e]
      have : (ptsR ss)[m] ∈ (ptsR ss).drop (paidN (ptsR ss)) := by
        refine List.mem_iff_getElem?.mpr ⟨m - paidN (ptsR ss), ?_⟩
        rw [List.getElem?_drop, show paidN (ptsR ss) + (m - paidN (ptsR ss)) = m by omega]
        exact e
      rw [z _ this]
      exact q_zero
    · rw [List.drop_of_length_le c]
      unfold sumq
      simp
  intro x hx
  have lx := lws_drop l m x hx
  refine lw0 lx ?_
  refine Classical.byContradiction fun c => ?_
  have := sum_pos (lws_drop l m) (fun s hs => n s (List.mem_of_mem_drop hs)) ⟨x, hx, c⟩
  rw [s0] at this
  exact absurd this Rat.lt_irrefl
theorem pts_take {ss : List Fr2} (l : Lws ss) (h5 : ss.length = 5) {m : Nat} (m5 : m ≤ 5) (z : ∀ x ∈ ss.drop m, x = z01) : pad (ptsR (ss.take m)) = ptsR ss := by
  have s0 : sumq (ss.drop m) = 0 := sum_zero (lws_drop l m) fun x hx => by rw [z x hx]
  have len : (pad (ptsR (ss.take m))).length = (ptsR ss).length := by
    rw [pad_len (by rw [pts_len, List.length_take]; omega), pts_len, h5]
  refine List.ext_getElem? fun i => ?_
  rcases Nat.lt_or_ge i 5 with c | c
  · have hi : i < (ptsR ss).length := by rw [pts_len, h5]; exact c
    have hi2 : i < (pad (ptsR (ss.take m))).length := by rw [len]; exact hi
    rw [List.getElem?_eq_getElem hi, List.getElem?_eq_getElem hi2]
    congr 1
    have e1 := List.getElem?_eq_getElem hi
    have e2 := List.getElem?_eq_getElem hi2
    have Lt := pts_lws (lws_take l m)
    have L := pts_lws l
    refine q_inj (pad_lws Lt |>.get e2) (L.get e1) ?_
    rw [q_pts l e1]
    rcases pad_get e2 with g | ⟨g, gz⟩
    · rw [q_pts (lws_take l m) g]
      have hm : i < m := by
        have := (List.getElem?_eq_some_iff.mp g).1
        rw [pts_len, List.length_take] at this
        omega
      have sp : ss.drop i = (ss.take m).drop i ++ ss.drop m := by
        have h := congrArg (List.drop i) (List.take_append_drop m ss)
        rw [List.drop_append_of_le_length (by rw [List.length_take]; omega)] at h
        exact h.symm
      rw [sp, sumq_app, s0]
      grind
    · rw [gz]
      rw [pts_len, List.length_take] at g
      have sp : ss.drop i = (ss.drop m).drop (i - m) := by
        rw [List.drop_drop]
        congr 1
        omega
      rw [sp, sum_zero (lws_drop (lws_drop l m) _) fun x hx => by rw [z x (List.mem_of_mem_drop hx)]]
      exact q_zero
  · rw [List.getElem?_eq_none (by rw [len, pts_len, h5]; exact c), List.getElem?_eq_none (by rw [pts_len, h5]; exact c)]
/-- the steps by the points -/
def stepsOf (ps : List Fr2) : List Fr2 := List.zipWith minus ps (ps.drop 1 ++ [z01])
theorem steps_len (ps : List Fr2) : (stepsOf ps).length = ps.length := by
  unfold stepsOf
  rw [List.length_zipWith, List.length_append, List.length_drop, List.length_singleton]
  omega
theorem next_get (ps : List Fr2) {i : Nat} (hi : i < ps.length) : (ps.drop 1 ++ [z01])[i]? = some (ps[i + 1]?.getD z01) := by
  rcases Nat.lt_or_ge (i + 1) ps.length with c | c
  · rw [List.getElem?_append_left (by rw [List.length_drop]; omega), List.getElem?_drop, Nat.add_comm 1 i, List.getElem?_eq_getElem c]
    rfl
  · rw [List.getElem?_append_right (by rw [List.length_drop]; omega), List.getElem?_eq_none c, List.length_drop, show i - (ps.length - 1) = 0 by omega]
    rfl
theorem steps_get {ps : List Fr2} {i : Nat} {p : Fr2} (e : ps[i]? = some p) : (stepsOf ps)[i]? = some (minus p (ps[i + 1]?.getD z01)) := by
  unfold stepsOf
  rw [List.getElem?_zipWith, e, next_get ps (List.getElem?_eq_some_iff.mp e).1]
theorem steps_pts {ss : List Fr2} (l : Lws ss) : stepsOf (ptsR ss) = ss := by
  refine List.ext_getElem? fun i => ?_
  rcases Nat.lt_or_ge i ss.length with c | c
  · have hi : i < (ptsR ss).length := by rw [pts_len]; exact c
    rw [steps_get (List.getElem?_eq_getElem hi), minus_pts l (List.getElem?_eq_getElem hi) (List.getElem?_eq_getElem c), List.getElem?_eq_getElem c]
  · rw [List.getElem?_eq_none (by rw [steps_len, pts_len]; exact c), List.getElem?_eq_none c]
end Rm
namespace Ow
open PySem PySem.Spec PyProof.Rows L2
/-! ### lists of truths, shown -/
def bdt (bs : List Bool) : PyData := .list (bs.map PyData.bool)
theorem bl_show : ∀ bs : List Bool, PyData.showableAll (bs.map PyData.bool) = true
  | [] => rfl
  | b :: bs => by
    rw [List.map_cons]
    simp only [PyData.showableAll, PyData.showable, bl_show bs, Bool.and_self]
theorem bl_dict : ∀ bs : List Bool, PyData.hasDictAll (bs.map PyData.bool) = false
  | [] => rfl
  | b :: bs => by
    rw [List.map_cons]
    simp only [PyData.hasDictAll, PyData.hasDict, bl_dict bs, Bool.or_self]
theorem bl_depth : ∀ bs : List Bool, PyData.depthAll (bs.map PyData.bool) ≤ 1
  | [] => by simp [PyData.depthAll]
  | b :: bs => by
    rw [List.map_cons]
    have := bl_depth bs
    simp only [PyData.depthAll, PyData.depth]
    omega
theorem bl_len : ∀ bs : List Bool, ((PyData.shownAll (bs.map PyData.bool)).map fun z => z.length + 2).sum ≤ 10 * bs.length
  | [] => by simp [PyData.shownAll]
  | b :: bs => by
    have h := bl_len bs
    have hb : (PyData.bool b).shown.length ≤ 5 := by cases b <;> decide +kernel
    rw [List.map_cons]
    simp only [PyData.shownAll, List.map_cons, List.sum_cons, List.length_cons]
    omega
theorem bl_dp {K : PySem.W.Frag} {H : Hp} : ∀ bs : List Bool, DpAll K H (bs.map V.bl) (bs.map PyData.bool)
  | [] => .nil
  | b :: bs => .cons (.bl b) (bl_dp bs)
theorem sum_two : ∀ ts : List Str, (ts.map fun z => z.length + 2).sum = (ts.map fun z => z.length).sum + 2 * ts.length
  | [] => rfl
  | t :: ts => by
    rw [List.map_cons, List.sum_cons, sum_two ts, List.map_cons, List.sum_cons, List.length_cons]
    omega
structure Shb (K : PySem.W.Frag) (H : Hp) (a : Addr) (bs : List Bool) : Prop where
  dp : Dp K H (.ref a) (bdt bs)
  sh : (bdt bs).showable = true
  di : (bdt bs).hasDict = false
  de : (bdt bs).depth ≤ 20
  le : (bdt bs).shown.length ≤ sizeLine
theorem shb {K : PySem.W.Frag} {H : Hp} {a : Addr} {bs : List Bool} (h : H a = some (.lst (bs.map V.bl))) (l : bs.length ≤ 50) : Shb K H a bs := by
  refine ⟨.lst (SqL.of h) (bl_dp bs), bl_show bs, bl_dict bs, ?_, ?_⟩
  · have := bl_depth bs
    show PyData.depth (.list (bs.map PyData.bool)) ≤ 20
    simp only [PyData.depth]
    omega
  · show (PyData.shown (.list (bs.map PyData.bool))).length ≤ sizeLine
    simp only [PyData.shown]
    refine Nat.le_trans (listText_len_le _) (Nat.le_trans (show _ ≤ 1000 from ?_) (by decide))
    have e := bl_len bs
    rw [sum_two] at e
    omega
end Ow
namespace Ra
open PySem PySem.Spec PyProof.Rows L2 Ow Pt

/-! ### the text by places -/
def top (i : Nat) : Stmt := PySem.Challenge.pw_anypoints_k15_tables_told.main.body.getD i (.Pass ⟨0, 0, 0, 0⟩)
abbrev sIsInt : Stmt := top 11
abbrev sAsRatio : Stmt := top 13
abbrev sNumber : Stmt := top 12
abbrev sInit : Stmt := inClass (top 14) 0
abbrev sTop : Stmt := inClass (top 14) 1
abbrev sBottom : Stmt := inClass (top 14) 2
abbrev sSign : Stmt := inClass (top 14) 3
abbrev sTotal : Stmt := inClass (top 14) 4
abbrev sAdd : Stmt := inClass (top 14) 5
abbrev sRadd : Stmt := inClass (top 14) 6
abbrev sSub : Stmt := inClass (top 14) 7
abbrev sRsub : Stmt := inClass (top 14) 8
abbrev sMul : Stmt := inClass (top 14) 9
abbrev sRmul : Stmt := inClass (top 14) 10
abbrev sNeg : Stmt := inClass (top 14) 11
abbrev sOver : Stmt := inClass (top 14) 12
abbrev sBelow : Stmt := inClass (top 14) 13
abbrev sEq : Stmt := inClass (top 14) 14
abbrev sStr : Stmt := inClass (top 14) 15
abbrev sRepr : Stmt := inClass (top 14) 16
abbrev sMany : Stmt := top 19
abbrev sCheck : Stmt := top 20
abbrev sTInit : Stmt := inClass (top 22) 0
abbrev sPot : Stmt := top 24
abbrev sDraw : Stmt := top 25
abbrev sPick : Stmt := top 26
abbrev sCommon : Stmt := top 27
abbrev sLow : Stmt := top 28
abbrev sPlus : Stmt := top 29
abbrev sMinus : Stmt := top 30
abbrev sTimes : Stmt := top 31
abbrev sRight : Stmt := top 43
abbrev sLaw : Stmt := top 44
abbrev d__wall : Stmt := top 1
abbrev d_InvalidNumber___init__ : Stmt := inClass (top 4) 0
abbrev d_InvalidPoints___init__ : Stmt := inClass (top 5) 0
abbrev d_InvalidPlace___init__ : Stmt := inClass (top 6) 0
abbrev d_InvalidTable___init__ : Stmt := inClass (top 7) 0
abbrev d_DividedByZero___init__ : Stmt := inClass (top 9) 0
abbrev d_is_integer : Stmt := top 11
abbrev d_is_number : Stmt := top 12
abbrev d_as_ratio : Stmt := top 13
abbrev d_Ratio___init__ : Stmt := inClass (top 14) 0
abbrev d_Ratio_top : Stmt := inClass (top 14) 1
abbrev d_Ratio_bottom : Stmt := inClass (top 14) 2
abbrev d_Ratio_sign : Stmt := inClass (top 14) 3
abbrev d_Ratio_total : Stmt := inClass (top 14) 4
abbrev d_Ratio___add__ : Stmt := inClass (top 14) 5
abbrev d_Ratio___radd__ : Stmt := inClass (top 14) 6
abbrev d_Ratio___sub__ : Stmt := inClass (top 14) 7
abbrev d_Ratio___rsub__ : Stmt := inClass (top 14) 8
abbrev d_Ratio___mul__ : Stmt := inClass (top 14) 9
abbrev d_Ratio___rmul__ : Stmt := inClass (top 14) 10
abbrev d_Ratio___neg__ : Stmt := inClass (top 14) 11
abbrev d_Ratio_over : Stmt := inClass (top 14) 12
abbrev d_Ratio_is_below : Stmt := inClass (top 14) 13
abbrev d_Ratio___eq__ : Stmt := inClass (top 14) 14
abbrev d_Ratio___str__ : Stmt := inClass (top 14) 15
abbrev d_Ratio___repr__ : Stmt := inClass (top 14) 16
abbrev d_is_place : Stmt := top 17
abbrev d_check_table : Stmt := top 18
abbrev d_check_many : Stmt := top 19
abbrev d_check_points : Stmt := top 20
abbrev d_check_steps : Stmt := top 21
abbrev d_Table___init__ : Stmt := inClass (top 22) 0
abbrev d_Table_of_steps : Stmt := inClass (top 22) 1
abbrev d_Table_first_places : Stmt := inClass (top 22) 2
abbrev d_Table_steep : Stmt := inClass (top 22) 3
abbrev d_Table_points : Stmt := inClass (top 22) 4
abbrev d_Table_steps : Stmt := inClass (top 22) 5
abbrev d_Table___getitem__ : Stmt := inClass (top 22) 6
abbrev d_Table___iter__ : Stmt := inClass (top 22) 7
abbrev d_Table_paid : Stmt := inClass (top 22) 8
abbrev d_Table_is_like : Stmt := inClass (top 22) 9
abbrev d_Table_reduced : Stmt := inClass (top 22) 10
abbrev d_Table___add__ : Stmt := inClass (top 22) 11
abbrev d_Table___mul__ : Stmt := inClass (top 22) 12
abbrev d_Table___rmul__ : Stmt := inClass (top 22) 13
abbrev d_Table___eq__ : Stmt := inClass (top 22) 14
abbrev d_Table___repr__ : Stmt := inClass (top 22) 15
abbrev d__law_pot : Stmt := top 24
abbrev d__law_draw : Stmt := top 25
abbrev d__law_pick : Stmt := top 26
abbrev d__law_common : Stmt := top 27
abbrev d__law_low : Stmt := top 28
abbrev d__law_plus : Stmt := top 29
abbrev d__law_minus : Stmt := top 30
abbrev d__law_times : Stmt := top 31
abbrev d__law_steps : Stmt := top 32
abbrev d__law_points : Stmt := top 33
abbrev d__law_number : Stmt := top 34
abbrev d__law_paid : Stmt := top 35
abbrev d__law_shown : Stmt := top 36
abbrev d__law_is : Stmt := top 37
abbrev d__law_by_points : Stmt := top 38
abbrev d__law_by_steps : Stmt := top 39
abbrev d__law_both : Stmt := top 40
abbrev d__law_equal_right : Stmt := top 41
abbrev d__law_fixed_right : Stmt := top 42
abbrev d__law_right : Stmt := top 43
abbrev d_law : Stmt := top 44

/-! ### what a ratio looks like -/
theorem bt_ : ¬ (("_bottom" : Str) = "_top") := by decide +kernel
theorem tb_ : ¬ (("_top" : Str) = "_bottom") := by decide +kernel
def rf (n d : Int) : List (Str × V) := putF "_bottom" (.int d) (putF "_top" (.int n) [])
theorem rf_top (n d : Int) : (rf n d).lookup ("_top" : Str) = some (.int n) := by
  unfold rf; rw [lookup_putF, if_neg tb_, lookup_putF, if_pos rfl]
theorem rf_bottom (n d : Int) : (rf n d).lookup ("_bottom" : Str) = some (.int d) := by
  unfold rf; rw [lookup_putF, if_pos rfl]
theorem rf_no (n d : Int) {m : Str} (h1 : ¬ m = "_bottom") (h2 : ¬ m = "_top") : (rf n d).lookup m = none := by
  unfold rf; rw [lookup_putF, if_neg h1, lookup_putF, if_neg h2]; rfl
def RatAt (C : Addr) (H : Hp) (p : Addr) (n d : Int) : Prop := ∃ dx, H p = some (.ins C dx (rf n d))
theorem RatAt.same {C : Addr} {H H' : Hp} {p : Addr} {n d : Int} (h : RatAt C H p n d) (s : Same H H') : RatAt C H' p n d := by
  obtain ⟨dx, e⟩ := h
  exact ⟨dx, s _ _ e⟩

/-! ### what the walk asks of the class -/
structure RT (K : PySem.W.Frag) (mg : Str → Option Value) (C : Addr) : Prop where
  cl : Cls K C
  nT : NoAttr K C "_top"
  nB : NoAttr K C "_bottom"
  mgC : mg "Ratio" = some (.ref C)
  num : Num K C
  ca : PySem.W.findIn K (.ref C) "__class__" = some (some (.builtin "object.__class__"))
  cg : PySem.W.specialIn K (.builtin "object.__class__") "__get__" = some (some (.builtin "getset_descriptor.__get__"))
  ct : PySem.W.takesIn K (.builtin "object.__class__") = some true
  cm : PySem.W.mroIn K C (.type "object") = some true
  kCC : PySem.W.kitOne K (.ref C) (.ref C) = some true
  kIC : PySem.W.kitOne K (.type "int") (.ref C) = some false
  isi : mg "isinstance" = none
  int : mg "int" = none
  bool : mg "bool" = none
  str : mg "str" = none
  gcd : mg "gcd" = some (.builtin "math.gcd")

section
variable {P : Program} {w : World} {K : PySem.W.Frag} {mg : Str → Option Value} {base : Heap}

/-! ### is_integer -/
def spInt (K : PySem.W.Frag) : Sp := fun vs H Q _ => ∃ (x : V) (t : Value) (a b : Bool), vs = [x] ∧ TyX K H x t ∧ PySem.W.kitOne K t (.type "int") = some a ∧ PySem.W.kitOne K t (.type "bool") = some b ∧ Q (.bl (a && !b)) H
theorem scInt : FnScope ["value"] ["value"] (defScope sIsInt) := ⟨rfl, rfl, rfl, by decide +kernel, rfl, by decide +kernel, by decide +kernel⟩
theorem ok_isint {f C : Addr} {fd : FuncData} (F : FnP K "is_integer" "is_integer" sIsInt [] f fd) (T : RT K mg C) : FnOk P w K mg base CX0 1 f fd ["value"] (spInt K) := by
  refine F.ok scInt (fun vs H Q E h => ?_) (fun cdv A outer s H vs Q E hr h => ?_)
  · obtain ⟨x, t, a, b, rfl, _⟩ := h
    rfl
  · obtain ⟨x, t, a, b, rfl, ty, ha, hb, q⟩ := h
    refine ⟨_, PSs.nox (pss_one (ps_ret (pe_and (pe_callB call_isi (by rfl) T.isi boot_isinstance (pa_cons (pv 0) (pa_cons (pe_bltn (v := .ty "int") rfl T.int PyProof.Rows.boot_int rfl) pa_nil)))
      (pe_one (pe_not (pe_callB call_isi (by rfl) T.isi boot_isinstance (pa_cons (pv 0) (pa_cons (pe_bltn (v := .ty "bool") rfl T.bool PyProof.Rows.boot_bool rfl) pa_nil)))))))), ?_⟩
    refine ⟨_, rfl, x, .ty "int", t, _, a, rfl, .ty _, ty, ha, a, rfl, ?_⟩
    cases a with
    | false => exact q
    | true => exact ⟨_, rfl, x, .ty "bool", t, _, b, rfl, .ty _, ty, hb, b, rfl, q⟩
theorem kII : PySem.W.kitOne K (.type "int") (.type "int") = some true := kit_ty (by decide +kernel)
theorem kIB : PySem.W.kitOne K (.type "int") (.type "bool") = some false := kit_ty (by decide +kernel)
end
end Ra
namespace Ra
open PySem PySem.Spec PyProof.Rows L2 Ow Pt Rm

/-- // by an integer of either sign -/
def CDivZ (_ j : Int) : Prop := j ≠ 0 ∧ j.natAbs.log2 < 9000
section
variable {X : Cx}
theorem op_fdivZ : OpR X (binaryOp .FloorDiv) (rI CDivZ fun i j => .int (i.fdiv j)) := opI fun i j _ _ _ _ _ hc q => floordiv_int hc.1 q (.inl (PyProof.noPylong_of_log2 hc.2))
theorem cdivZ {t b : Int} {k : Nat} (hb : b ≠ 0) (h : Bd k b) (h0 : 0 < k) (h9 : k ≤ 9000) : CDivZ t (byv t b) :=
  ⟨byv_ne hb, Nat.lt_of_lt_of_le (Bd.log2 (h.le (byv_le hb)) h0) h9⟩
theorem cdivZ' {x t b : Int} {k : Nat} (hb : b ≠ 0) (h : Bd k b) (h0 : 0 < k) (h9 : k ≤ 9000) : CDivZ x (byv t b) :=
  ⟨byv_ne hb, Nat.lt_of_lt_of_le (Bd.log2 (h.le (byv_le hb)) h0) h9⟩
end

section
variable {P : Program} {w : World} {K : PySem.W.Frag} {mg : Str → Option Value} {base : Heap}
abbrev DInt (P : Program) (w : World) (K : PySem.W.Frag) (mg : Str → Option Value) (base : Heap) : Prop := Dfn P w K mg base 1 "is_integer" ["value"] (spInt K)

/-! ### Ratio(n, d) -/
def spInit (C : Addr) : Sp := fun vs H Q _ => ∃ (p dx : Addr) (n d : Int), vs = [.ref p, .int n, .int d] ∧ d ≠ 0 ∧ Bd 8000 d ∧ H p = some (.ins C dx []) ∧ Q .non (upd H p (.ins C dx (rf (low n d).1 (low n d).2)))
theorem scInit : FnScope ["self", "top", "bottom", "shared"] ["self", "top", "bottom"] (defScope sInit) := ⟨rfl, rfl, rfl, by decide +kernel, rfl, by decide +kernel, by decide +kernel⟩
theorem ok_init {f C : Addr} {fd : FuncData} (F : FnP K "__init__" "Ratio.__init__" sInit [.int 1] f fd) (T : RT K mg C) (D : DInt P w K mg base) : FnOk P w K mg base CX0 2 f fd ["self", "top", "bottom"] (spInit C) := by
  refine F.ok scInit (fun vs H Q E h => ?_) (fun cdv A outer s H vs Q E hr h => ?_)
  · obtain ⟨p, dx, n, d, rfl, _⟩ := h
    rfl
  · obtain ⟨p, dx, n, d, rfl, hd, hb, hp, q⟩ := h
    have ne0 : decide (V.int d = V.int 0) = false := decide_eq_false fun z => hd (by cases z; rfl)
    refine ⟨_, PSs.nox (pss_cons (ps_if (pt_not (pt_val (pe_use D hr rfl (pa_cons (pv 1) pa_nil)))) pss_never pss_nil)
      (pss_cons (ps_if (PW.pt (pw_or (pt_not (pt_val (pe_use D hr rfl (pa_cons (pv 2) pa_nil)))) (pw_or1 (pt_cmpR op_eq (pv 2) pe_int (nomark _))))) pss_never pss_nil)
      (pss_cons (ps_set (i := 3) scInit.nd rfl (Or.inl rfl) (pe_callBfun cr_gcd rfl T.gcd (pa_cons (pv 1) (pa_cons (pv 2) pa_nil))))
      (pss_cons (ps_if (pt_cmpR op_lt (pv 2) pe_int (nomark _)) (pss_one (ps_set (i := 3) scInit.nd rfl (Or.inl rfl) (pe_un un_neg (pv 3)))) pss_nil)
      (pss_cons (ps_fld (pv 0) (pe_op op_fdivZ (pv 1) (pv 3)) rfl)
      (pss_one (ps_fld (pv 0) (pe_op op_fdivZ (pv 2) (pv 3)) rfl))))))), ?_⟩
    have fin : ∀ g : Int, g = byv n d → (tSeq (sFld K (tVar 0) (tOp (rI CDivZ fun i j => .int (i.fdiv j)) (tVar 1) (tVar 3)) "_top") (sFld K (tVar 0) (tOp (rI CDivZ fun i j => .int (i.fdiv j)) (tVar 2) (tVar 3)) "_bottom"))
        { nx := fun _ H' => Q .non H', rt := Q } [some (.ref p), some (.int n), some (.int d), some (.int g)] H := by
      rintro g rfl
      refine ⟨_, rfl, _, rfl, _, _, rfl, rfl, cdivZ' hd hb (by decide) (by decide), _, rfl, p, C, dx, [], rfl, hp, T.cl, T.nT, (by show 0 < 1000; decide), ?_⟩
      refine ⟨_, rfl, _, rfl, _, _, rfl, rfl, cdivZ' hd hb (by decide) (by decide), _, rfl, p, C, dx, _, rfl, upd_same, T.cl, T.nB, (by show 1 < 1000; decide), ?_⟩
      rw [upd_upd]
      exact q
    refine ⟨_, rfl, ?_⟩
    refine ⟨_, .type "int", true, false, rfl, .base (.int _), kII, kIB, true, rfl, ?_⟩
    refine iteF ?_
    refine ⟨_, rfl, ?_⟩
    refine ⟨_, .type "int", true, false, rfl, .base (.int _), kII, kIB, true, rfl, ?_⟩
    refine iteF ?_
    refine ⟨_, rfl, rfl, _, rfl, ?_⟩
    rw [ne0]
    refine iteF ?_
    refine ⟨_, rfl, _, rfl, n, d, rfl, ?_⟩
    refine ⟨_, rfl, _, _, rfl, rfl, _, rfl, ?_⟩
    have hg := byv_eq (t := n) hd
    refine ite2 (fun c => ?_) (fun c => ?_)
    · have c' : d < 0 := of_decide_eq_true c
      rw [if_pos c'] at hg
      exact ⟨_, rfl, _, rfl, fin _ hg⟩
    · have c' : ¬ d < 0 := fun z => c (decide_eq_true z)
      rw [if_neg c'] at hg
      exact fin _ hg
end
end Ra
namespace Ra
open PySem PySem.Spec PyProof.Rows L2 Ow Pt Rm

/-- a number: a ratio, or an integer -/
def NumAt (C : Addr) (H : Hp) (v : V) (n d : Int) : Prop := (∃ p, v = .ref p ∧ RatAt C H p n d) ∨ (v = .int n ∧ d = 1)
theorem NumAt.same {C : Addr} {H H' : Hp} {v : V} {n d : Int} (h : NumAt C H v n d) (s : Same H H') : NumAt C H' v n d := by
  rcases h with ⟨p, e, r⟩ | ⟨e, r⟩
  · exact .inl ⟨p, e, r.same s⟩
  · exact .inr ⟨e, r⟩
theorem same_upd {H : Hp} {p : Addr} {o : HO} (h : H p = none) : Same H (upd H p o) := fun b u e => by
  rw [upd_ne (ne_of_none e h)]
  exact e

/-- Ratio(..), as others make it -/
structure RMk (P : Program) (w : World) (K : PySem.W.Frag) (mg : Str → Option Value) (base : Heap) (C : Addr) : Prop where
  ex : ∃ f fd, Mk K C f ∧ FnOk P w K mg base CX0 2 f fd ["self", "top", "bottom"] (spInit C) ∧ Binds K fd ["self", "top", "bottom"] [] ∧ (∃ ds, Vals [V.int 1] ds ∧ Binds K fd ["self", "top", "bottom"] ds) ∧
    (∃ g gV, KBn K fd ["self", "top", "bottom"] 1 ["bottom", "top"] g gV ∧ ∀ a b c, gV [a] [b, c] = [a, c, b])
/-- a property, as others read it -/
structure Prp (P : Program) (w : World) (K : PySem.W.Frag) (mg : Str → Option Value) (base : Heap) (C : Addr) (x : Str) (sp : Sp) : Prop where
  ex : ∃ p g fd, PropOf K C x p g ∧ FnOk P w K mg base CX0 1 g fd ["self"] sp ∧ Binds K fd ["self"] []
def spTop (C : Addr) : Sp := fun vs H Q _ => ∃ p n d, vs = [.ref p] ∧ RatAt C H p n d ∧ Q (.int n) H
def spBottom (C : Addr) : Sp := fun vs H Q _ => ∃ p n d, vs = [.ref p] ∧ RatAt C H p n d ∧ Q (.int d) H
def spSign (C : Addr) : Sp := fun vs H Q _ => ∃ p n d, vs = [.ref p] ∧ RatAt C H p n d ∧ Q (.int n.sign) H

section
variable {X : Cx} {C : Addr} {x : Str} {sp : Sp} {p pos : Pos} {e e2 : Expr} {t : TA} {ta tb : TE}
theorem pe_rat2 (M : RMk X.prog X.w X.K X.mg X.base C) (hr : Room 3 X.A) (hg : Gl X "Ratio") (hm : X.mg "Ratio" = some (.ref C)) (ha : PE X e ta) (hb : PE X e2 tb)
    (he : starEach [e, e2] X.env = (false, eval e X.env) :: starEach [e2] X.env := by rfl) (he2 : starEach [e2] X.env = (false, eval e2 X.env) :: starEach [] X.env := by rfl) (hpl : (backTo pos (starEach [e2] X.env)).any (·.1) = false := by rfl) :
    PE X (.Call (.Name "Ratio" p) [e, e2] [] pos) (tMake C (spInit C) [] E0 (tCons ta (tCons tb tNil))) := by
  obtain ⟨f, fd, m, F, b2, _, _⟩ := M.ex
  exact pe_make m F hr hg hm b2 .nil pass0 (pa_cons ha (pa_cons hb pa_nil he2) he) (by decide) he hpl
theorem pe_rat1 (M : RMk X.prog X.w X.K X.mg X.base C) (hr : Room 3 X.A) (hg : Gl X "Ratio") (hm : X.mg "Ratio" = some (.ref C)) (ha : PE X e ta)
    (he : starEach [e] X.env = (false, eval e X.env) :: starEach [] X.env := by rfl) (hpl : (backTo pos (starEach [] X.env)).any (·.1) = false := by rfl) :
    PE X (.Call (.Name "Ratio" p) [e] [] pos) (tMake C (spInit C) [.int 1] E0 (tCons ta tNil)) := by
  obtain ⟨f, fd, m, F, _, ⟨ds, hv, b1⟩, _⟩ := M.ex
  exact pe_make m F hr hg hm b1 hv pass0 (pa_cons ha pa_nil he) (by decide) he hpl
theorem pe_prp (D : Prp X.prog X.w X.K X.mg X.base C x sp) (he : PE X e ta) (c : Cls X.K C) (hr : Room 2 X.A) (hab : attributeBase e x X.env (eval e X.env) = eval e X.env) : PE X (.Attribute e x pos) (tProp C sp [] E0 ta) := by
  obtain ⟨p, g, fd, hp, F, hb⟩ := D.ex
  exact pe_prop he c hp F hr hb .nil pass0 hab
end

/-- a new ratio, as its maker reads it -/
theorem rat_new {C : Addr} {H : Hp} {n d : Int} {Q : Addr → Hp → Prop} (hd : d ≠ 0) (hb : Bd 8000 d) (q : ∀ p H', RatAt C H' p (low n d).1 (low n d).2 → Same H H' → H p = none → Q p H') :
    ∀ x dx, H x = none → H dx = none → dx ≠ x → spInit C [.ref x, .int n, .int d] (upd (upd H dx (.own x)) x (.ins C dx [])) (fun v H2 => v = .non ∧ Q x H2) E0 := by
  intro x dx hx hdx ne
  refine ⟨x, dx, n, d, rfl, hd, hb, upd_same, rfl, ?_⟩
  refine q x _ ⟨dx, upd_same⟩ (fun b o e => ?_) hx
  rw [upd_upd, upd_ne (ne_of_none e hx), upd_ne (ne_of_none e hdx)]
  exact e

section
variable {P : Program} {w : World} {K : PySem.W.Frag} {mg : Str → Option Value} {base : Heap}

/-! ### properties -/
theorem scTop : FnScope ["self"] ["self"] (defScope sTop) := ⟨rfl, rfl, rfl, by decide +kernel, rfl, by decide +kernel, by decide +kernel⟩
theorem scBottom : FnScope ["self"] ["self"] (defScope sBottom) := ⟨rfl, rfl, rfl, by decide +kernel, rfl, by decide +kernel, by decide +kernel⟩
theorem scSign : FnScope ["self"] ["self"] (defScope sSign) := ⟨rfl, rfl, rfl, by decide +kernel, rfl, by decide +kernel, by decide +kernel⟩
theorem ok_top {f C : Addr} {fd : FuncData} (F : FnP K "top" "Ratio.top" sTop [] f fd) (T : RT K mg C) : FnOk P w K mg base CX0 1 f fd ["self"] (spTop C) := by
  refine F.ok scTop (fun vs H Q E h => ?_) (fun cdv A outer s H vs Q E hr h => ?_)
  · obtain ⟨p, n, d, rfl, _⟩ := h
    rfl
  · obtain ⟨p, n, d, rfl, ⟨dx, hp⟩, q⟩ := h
    exact ⟨_, PSs.nox (pss_one (ps_ret (pe_fld (pv 0) rfl))), _, rfl, p, C, dx, _, _, rfl, hp, T.cl, T.nT, rf_top _ _, q⟩
theorem ok_bottom {f C : Addr} {fd : FuncData} (F : FnP K "bottom" "Ratio.bottom" sBottom [] f fd) (T : RT K mg C) : FnOk P w K mg base CX0 1 f fd ["self"] (spBottom C) := by
  refine F.ok scBottom (fun vs H Q E h => ?_) (fun cdv A outer s H vs Q E hr h => ?_)
  · obtain ⟨p, n, d, rfl, _⟩ := h
    rfl
  · obtain ⟨p, n, d, rfl, ⟨dx, hp⟩, q⟩ := h
    exact ⟨_, PSs.nox (pss_one (ps_ret (pe_fld (pv 0) rfl))), _, rfl, p, C, dx, _, _, rfl, hp, T.cl, T.nB, rf_bottom _ _, q⟩
theorem ok_sign {f C : Addr} {fd : FuncData} (F : FnP K "sign" "Ratio.sign" sSign [] f fd) (T : RT K mg C) : FnOk P w K mg base CX0 1 f fd ["self"] (spSign C) := by
  refine F.ok scSign (fun vs H Q E h => ?_) (fun cdv A outer s H vs Q E hr h => ?_)
  · obtain ⟨p, n, d, rfl, _⟩ := h
    rfl
  · obtain ⟨p, n, d, rfl, ⟨dx, hp⟩, q⟩ := h
    refine ⟨_, PSs.nox (pss_cons (ps_if (pt_cmpR op_lt (pe_fld (pv 0) rfl) pe_int (nomark _)) (pss_one (ps_ret (pe_un un_neg pe_int))) pss_nil)
      (pss_cons (ps_if (pt_cmpR op_gt (pe_fld (pv 0) rfl) pe_int (nomark _)) (pss_one (ps_ret pe_int)) pss_nil)
      (pss_one (ps_ret pe_int)))), ?_⟩
    refine ⟨_, rfl, p, C, dx, _, _, rfl, hp, T.cl, T.nT, rf_top _ _, _, _, rfl, rfl, _, rfl, ?_⟩
    refine ite2 (fun c => ?_) (fun c => ?_)
    · have c' : n < 0 := of_decide_eq_true c
      refine ⟨_, rfl, ?_⟩
      rw [Int.sign_eq_neg_one_of_neg c'] at q
      exact q
    · have c' : ¬ n < 0 := fun z => c (decide_eq_true z)
      refine ⟨_, rfl, p, C, dx, _, _, rfl, hp, T.cl, T.nT, rf_top _ _, _, _, rfl, rfl, _, rfl, ?_⟩
      refine ite2 (fun e => ?_) (fun e => ?_)
      · have e' : 0 < n := of_decide_eq_true e
        rw [Int.sign_eq_one_of_pos e'] at q
        exact q
      · have e' : ¬ 0 < n := fun z => e (decide_eq_true z)
        have e0 : n = 0 := by omega
        rw [e0] at q
        exact q

/-! ### as_ratio -/
def spAs (C : Addr) : Sp := fun vs H Q _ => ∃ v n d, vs = [v] ∧ NumAt C H v n d ∧ ∀ q H', RatAt C H' q n d → Same H H' → Q (.ref q) H'
theorem scAs : FnScope ["value"] ["value"] (defScope sAsRatio) := ⟨rfl, rfl, rfl, by decide +kernel, rfl, by decide +kernel, by decide +kernel⟩
theorem ok_as {f C : Addr} {fd : FuncData} (F : FnP K "as_ratio" "as_ratio" sAsRatio [] f fd) (T : RT K mg C) (M : RMk P w K mg base C) : FnOk P w K mg base CX0 4 f fd ["value"] (spAs C) := by
  refine F.ok scAs (fun vs H Q E h => ?_) (fun cdv A outer s H vs Q E hr h => ?_)
  · obtain ⟨v, n, d, rfl, _⟩ := h
    rfl
  · obtain ⟨v, n, d, rfl, hv, q⟩ := h
    refine ⟨_, PSs.nox (pss_cons (ps_if (pt_val (pe_callB call_isi (by rfl) T.isi boot_isinstance (pa_cons (pv 0) (pa_cons (pe_glob (v := .ref C) rfl T.mgC rfl) pa_nil)))) (pss_one (ps_ret (pv 0))) pss_nil)
      (pss_one (ps_ret (pe_rat1 M hr rfl T.mgC (pv 0))))), ?_⟩
    rcases hv with ⟨p, rfl, ⟨dx, hp⟩⟩ | ⟨rfl, rfl⟩
    · refine ⟨_, rfl, _, .ref C, .ref C, _, true, rfl, .own C, .base (.ins hp T.cl T.ca T.cg T.ct T.cm), T.kCC, true, rfl, ?_⟩
      refine iteT ?_
      exact ⟨_, rfl, q p H ⟨dx, hp⟩ (Same.refl H)⟩
    · refine ⟨_, rfl, _, .ref C, .type "int", _, false, rfl, .own C, .base (.int n), T.kIC, false, rfl, ?_⟩
      refine iteF ?_
      refine ⟨_, rfl, ?_⟩
      refine rat_new (by decide) (bd_one (by decide)) fun p H' r sm _ => ?_
      rw [low_int] at r
      exact q p H' r sm
end
end Ra
namespace Ra
open PySem PySem.Spec PyProof.Rows L2 Ow Pt Rm

/-- a number in lowest terms, not too great -/
structure Nm (C : Addr) (H : Hp) (v : V) (n d : Int) : Prop where
  at_ : NumAt C H v n d
  lw : Lw n d
  b1 : Bd 2500 n
  b2 : Bd 2500 d
theorem Nm.same {C : Addr} {H H' : Hp} {v : V} {n d : Int} (h : Nm C H v n d) (s : Same H H') : Nm C H' v n d := ⟨h.at_.same s, h.lw, h.b1, h.b2⟩
theorem Nm.rat {C : Addr} {H : Hp} {p : Addr} {n d : Int} (h : Nm C H (.ref p) n d) : RatAt C H p n d := by
  rcases h.at_ with ⟨q, e, r⟩ | ⟨e, _⟩
  · cases e
    exact r
  · exact nomatch e
theorem cmul {j k : Nat} {x y : Int} (h : Bd j x) (h' : Bd k y) (hj : 0 < j := by decide) (hk : 0 < k := by decide) (l : j + k ≤ 1000000 := by decide) : CMulW x y := by
  have a := h.log2 hj
  have b := h'.log2 hk
  unfold CMulW
  omega
def spBin (op : Int × Int → Int × Int → Int × Int) (C : Addr) : Sp := fun vs H Q _ => ∃ p v n d m e, vs = [.ref p, v] ∧ Nm C H (.ref p) n d ∧ Nm C H v m e ∧
  ∀ q H', RatAt C H' q (op (n, d) (m, e)).1 (op (n, d) (m, e)).2 → Same H H' → Q (.ref q) H'
def spNeg (C : Addr) : Sp := fun vs H Q _ => ∃ p n d, vs = [.ref p] ∧ Nm C H (.ref p) n d ∧ ∀ q H', RatAt C H' q (-n) d → Same H H' → Q (.ref q) H'

section
variable {P : Program} {w : World} {K : PySem.W.Frag} {mg : Str → Option Value} {base : Heap}
abbrev DAs (P : Program) (w : World) (K : PySem.W.Frag) (mg : Str → Option Value) (base : Heap) (C : Addr) : Prop := Dfn P w K mg base 4 "as_ratio" ["value"] (spAs C)
abbrev PT_ (P : Program) (w : World) (K : PySem.W.Frag) (mg : Str → Option Value) (base : Heap) (C : Addr) : Prop := Prp P w K mg base C "top" (spTop C)
abbrev PB_ (P : Program) (w : World) (K : PySem.W.Frag) (mg : Str → Option Value) (base : Heap) (C : Addr) : Prop := Prp P w K mg base C "bottom" (spBottom C)
abbrev PS_ (P : Program) (w : World) (K : PySem.W.Frag) (mg : Str → Option Value) (base : Heap) (C : Addr) : Prop := Prp P w K mg base C "sign" (spSign C)

theorem scAdd : FnScope ["self", "other", "right", "top"] ["self", "other"] (defScope sAdd) := ⟨rfl, rfl, rfl, by decide +kernel, rfl, by decide +kernel, by decide +kernel⟩
theorem ok_add {f C : Addr} {fd : FuncData} (F : FnP K "__add__" "Ratio.__add__" sAdd [] f fd) (T : RT K mg C) (M : RMk P w K mg base C) (D : DAs P w K mg base C) (pT : PT_ P w K mg base C) (pB : PB_ P w K mg base C) :
    FnOk P w K mg base CX0 5 f fd ["self", "other"] (spBin plus C) := by
  refine F.ok scAdd (fun vs H Q E h => ?_) (fun cdv A outer s H vs Q E hr h => ?_)
  · obtain ⟨p, v, n, d, m, e, rfl, _⟩ := h
    rfl
  · obtain ⟨p, v, n, d, m, e, rfl, hp, hv, q⟩ := h
    have hr2 := hr.mono (by decide : 2 ≤ 4)
    have hr3 := hr.mono (by decide : 3 ≤ 4)
    refine ⟨_, PSs.nox (pss_cons (ps_set (i := 2) scAdd.nd rfl (Or.inl rfl) (pe_use D hr rfl (pa_cons (pv 1) pa_nil)))
      (pss_cons (ps_set (i := 3) scAdd.nd rfl (Or.inl rfl) (pe_op op_add (pe_op op_mulW (pe_fld (pv 0) rfl) (pe_prp pB (pv 2) T.cl hr2 rfl)) (pe_op op_mulW (pe_prp pT (pv 2) T.cl hr2 rfl) (pe_fld (pv 0) rfl))))
      (pss_one (ps_ret (pe_rat2 M hr3 rfl T.mgC (pv 3) (pe_op op_mulW (pe_fld (pv 0) rfl) (pe_prp pB (pv 2) T.cl hr2 rfl))))))), ?_⟩
    refine ⟨_, rfl, v, m, e, rfl, hv.at_, fun r H1 hr1 s1 => ?_⟩
    obtain ⟨dx, h1⟩ := (hp.rat.same s1)
    obtain ⟨dy, h2⟩ := id hr1
    refine ⟨_, rfl, p, C, dx, _, _, rfl, h1, T.cl, T.nT, rf_top _ _, _, rfl, r, dy, _, rfl, h2, r, m, e, rfl, hr1, _, _, rfl, rfl, cmul hp.b1 hv.b2, ?_⟩
    refine ⟨_, rfl, r, dy, _, rfl, h2, r, m, e, rfl, hr1, _, rfl, p, C, dx, _, _, rfl, h1, T.cl, T.nB, rf_bottom _ _, _, _, rfl, rfl, cmul hv.b1 hp.b2, _, _, rfl, rfl, ?_⟩
    refine ⟨_, rfl, _, rfl, p, C, dx, _, _, rfl, h1, T.cl, T.nB, rf_bottom _ _, _, rfl, r, dy, _, rfl, h2, r, m, e, rfl, hr1, _, _, rfl, rfl, cmul hp.b2 hv.b2, ?_⟩
    exact rat_new (mul_ne hp.lw.pos hv.lw.pos) ((hp.b2.mul hv.b2).mono (by decide)) fun z H2 hz s2 _ => q z H2 hz (s1.trans s2)

theorem scMul : FnScope ["self", "other", "right"] ["self", "other"] (defScope sMul) := ⟨rfl, rfl, rfl, by decide +kernel, rfl, by decide +kernel, by decide +kernel⟩
theorem ok_mul {f C : Addr} {fd : FuncData} (F : FnP K "__mul__" "Ratio.__mul__" sMul [] f fd) (T : RT K mg C) (M : RMk P w K mg base C) (D : DAs P w K mg base C) (pT : PT_ P w K mg base C) (pB : PB_ P w K mg base C) :
    FnOk P w K mg base CX0 5 f fd ["self", "other"] (spBin times C) := by
  refine F.ok scMul (fun vs H Q E h => ?_) (fun cdv A outer s H vs Q E hr h => ?_)
  · obtain ⟨p, v, n, d, m, e, rfl, _⟩ := h
    rfl
  · obtain ⟨p, v, n, d, m, e, rfl, hp, hv, q⟩ := h
    have hr2 := hr.mono (by decide : 2 ≤ 4)
    have hr3 := hr.mono (by decide : 3 ≤ 4)
    refine ⟨_, PSs.nox (pss_cons (ps_set (i := 2) scMul.nd rfl (Or.inl rfl) (pe_use D hr rfl (pa_cons (pv 1) pa_nil)))
      (pss_one (ps_ret (pe_rat2 M hr3 rfl T.mgC (pe_op op_mulW (pe_fld (pv 0) rfl) (pe_prp pT (pv 2) T.cl hr2 rfl)) (pe_op op_mulW (pe_fld (pv 0) rfl) (pe_prp pB (pv 2) T.cl hr2 rfl)))))), ?_⟩
    refine ⟨_, rfl, v, m, e, rfl, hv.at_, fun r H1 hr1 s1 => ?_⟩
    obtain ⟨dx, h1⟩ := (hp.rat.same s1)
    obtain ⟨dy, h2⟩ := id hr1
    refine ⟨_, rfl, p, C, dx, _, _, rfl, h1, T.cl, T.nT, rf_top _ _, _, rfl, r, dy, _, rfl, h2, r, m, e, rfl, hr1, _, _, rfl, rfl, cmul hp.b1 hv.b1, ?_⟩
    refine ⟨_, rfl, p, C, dx, _, _, rfl, h1, T.cl, T.nB, rf_bottom _ _, _, rfl, r, dy, _, rfl, h2, r, m, e, rfl, hr1, _, _, rfl, rfl, cmul hp.b2 hv.b2, ?_⟩
    exact rat_new (mul_ne hp.lw.pos hv.lw.pos) ((hp.b2.mul hv.b2).mono (by decide)) fun z H2 hz s2 _ => q z H2 hz (s1.trans s2)

theorem scNeg : FnScope ["self"] ["self"] (defScope sNeg) := ⟨rfl, rfl, rfl, by decide +kernel, rfl, by decide +kernel, by decide +kernel⟩
theorem ok_neg {f C : Addr} {fd : FuncData} (F : FnP K "__neg__" "Ratio.__neg__" sNeg [] f fd) (T : RT K mg C) (M : RMk P w K mg base C) : FnOk P w K mg base CX0 4 f fd ["self"] (spNeg C) := by
  refine F.ok scNeg (fun vs H Q E h => ?_) (fun cdv A outer s H vs Q E hr h => ?_)
  · obtain ⟨p, n, d, rfl, _⟩ := h
    rfl
  · obtain ⟨p, n, d, rfl, hp, q⟩ := h
    refine ⟨_, PSs.nox (pss_one (ps_ret (pe_rat2 M hr rfl T.mgC (pe_un un_neg (pe_fld (pv 0) rfl)) (pe_fld (pv 0) rfl)))), ?_⟩
    obtain ⟨dx, h1⟩ := hp.rat
    refine ⟨_, rfl, p, C, dx, _, _, rfl, h1, T.cl, T.nT, rf_top _ _, _, rfl, _, rfl, p, C, dx, _, _, rfl, h1, T.cl, T.nB, rf_bottom _ _, ?_⟩
    refine rat_new (by have := hp.lw.pos; omega) (hp.b2.mono (by decide)) fun z H2 hz s2 _ => ?_
    rw [low_neg hp.lw] at hz
    exact q z H2 hz s2

theorem scOver : FnScope ["self", "other", "right"] ["self", "other"] (defScope sOver) := ⟨rfl, rfl, rfl, by decide +kernel, rfl, by decide +kernel, by decide +kernel⟩
/-- over: by a number that is not 0 -/
def spOver (C : Addr) : Sp := fun vs H Q _ => ∃ p v n d m e, vs = [.ref p, v] ∧ Nm C H (.ref p) n d ∧ Nm C H v m e ∧ m ≠ 0 ∧
  ∀ q H', RatAt C H' q (over (n, d) (m, e)).1 (over (n, d) (m, e)).2 → Same H H' → Q (.ref q) H'
theorem ok_over {f C : Addr} {fd : FuncData} (F : FnP K "over" "Ratio.over" sOver [] f fd) (T : RT K mg C) (M : RMk P w K mg base C) (D : DAs P w K mg base C) (pT : PT_ P w K mg base C) (pB : PB_ P w K mg base C) (pS : PS_ P w K mg base C) :
    FnOk P w K mg base CX0 5 f fd ["self", "other"] (spOver C) := by
  refine F.ok scOver (fun vs H Q E h => ?_) (fun cdv A outer s H vs Q E hr h => ?_)
  · obtain ⟨p, v, n, d, m, e, rfl, _⟩ := h
    rfl
  · obtain ⟨p, v, n, d, m, e, rfl, hp, hv, hm, q⟩ := h
    have hr2 := hr.mono (by decide : 2 ≤ 4)
    have hr3 := hr.mono (by decide : 3 ≤ 4)
    refine ⟨_, PSs.nox (pss_cons (ps_set (i := 2) scOver.nd rfl (Or.inl rfl) (pe_use D hr rfl (pa_cons (pv 1) pa_nil)))
      (pss_cons (ps_if (pt_cmpR op_eq (pe_prp pS (pv 2) T.cl hr2 rfl) pe_int (nomark _)) pss_never pss_nil)
      (pss_one (ps_ret (pe_rat2 M hr3 rfl T.mgC (pe_op op_mulW (pe_fld (pv 0) rfl) (pe_prp pB (pv 2) T.cl hr2 rfl)) (pe_op op_mulW (pe_fld (pv 0) rfl) (pe_prp pT (pv 2) T.cl hr2 rfl))))))), ?_⟩
    refine ⟨_, rfl, v, m, e, rfl, hv.at_, fun r H1 hr1 s1 => ?_⟩
    obtain ⟨dx, h1⟩ := (hp.rat.same s1)
    obtain ⟨dy, h2⟩ := id hr1
    have hs : decide (V.int m.sign = V.int 0) = false := decide_eq_false fun z => hm (Int.sign_eq_zero_iff_zero.mp (V.int.inj z))
    refine ⟨_, rfl, r, dy, _, rfl, h2, r, m, e, rfl, hr1, rfl, _, rfl, ?_⟩
    rw [hs]
    refine iteF ?_
    refine ⟨_, rfl, p, C, dx, _, _, rfl, h1, T.cl, T.nT, rf_top _ _, _, rfl, r, dy, _, rfl, h2, r, m, e, rfl, hr1, _, _, rfl, rfl, cmul hp.b1 hv.b2, ?_⟩
    refine ⟨_, rfl, p, C, dx, _, _, rfl, h1, T.cl, T.nB, rf_bottom _ _, _, rfl, r, dy, _, rfl, h2, r, m, e, rfl, hr1, _, _, rfl, rfl, cmul hp.b2 hv.b1, ?_⟩
    exact rat_new (Int.mul_ne_zero (by have := hp.lw.pos; omega) hm) ((hp.b2.mul hv.b1).mono (by decide)) fun z H2 hz s2 _ => q z H2 hz (s1.trans s2)
end
end Ra
namespace Ra
open PySem PySem.Spec PyProof.Rows L2 Ow Pt Rm

structure OpN (P : Program) (w : World) (K : PySem.W.Frag) (mg : Str → Option Value) (base : Heap) (C : Addr) (k : Nat) (sp : Sp) : Prop where
  ex : ∃ f fd, OpOf K C "__neg__" f ∧ FnOk P w K mg base CX0 k f fd ["self"] sp ∧ Binds K fd ["self"] []

/-- ratio op number -/
def rNm (C : Addr) (sp : Sp) : R2 := fun x y H Q => ∃ p n d m e, x = .ref p ∧ RatAt C H p n d ∧ NumAt C H y m e ∧ sp [.ref p, y] H Q E0
section
variable {X : Cx} {C : Addr} {op : Operator} {k : Nat} {sp : Sp}
theorem op_nm (O : OpX X.prog X.w X.K X.mg X.base C op k sp) (n : Num X.K C) (hr : Room k X.A) : OpR X (binaryOp op) (rNm C sp) := by
  obtain ⟨f, fd, o, F, hb⟩ := O.ex
  obtain ⟨rc, h1, h2⟩ := O.rf
  obtain ⟨fo, h3⟩ := O.i1
  obtain ⟨ro, h4⟩ := O.i2
  intro pins s σ H x y u v Q I rx ry hq
  obtain ⟨p, a, b, m, e, rfl, ⟨dx, hp⟩, hy, q⟩ := hq
  rcases hy with ⟨r, rfl, ⟨dy, hr'⟩⟩ | ⟨rfl, _⟩
  · exact op_own n.sf o F hr hb pass0 pins s σ H _ _ u v Q I rx ry ⟨p, dx, _, r, dy, _, rfl, hp, rfl, hr', q⟩
  · exact op_ownI n o F hr hb pass0 h1 h2 h3 h4 pins s σ H _ _ u v Q I rx ry ⟨p, dx, _, m, rfl, hp, rfl, q⟩
theorem op_radd (O : OpY X.prog X.w X.K X.mg X.base C .Add k sp) (n : Num X.K C) (hr : Room k X.A) : OpR X (binaryOp .Add) (rIOwn C sp E0) := by
  obtain ⟨f, o⟩ := O.at_
  obtain ⟨g, gd, og, F, hb⟩ := O.ex
  exact op_Iown n o og F hr hb pass0 PySem.F.fills_int_add PySem.F.slot_int_add decl_add
theorem op_rsub (O : OpY X.prog X.w X.K X.mg X.base C .Sub k sp) (n : Num X.K C) (hr : Room k X.A) : OpR X (binaryOp .Sub) (rIOwn C sp E0) := by
  obtain ⟨f, o⟩ := O.at_
  obtain ⟨g, gd, og, F, hb⟩ := O.ex
  exact op_Iown n o og F hr hb pass0 PySem.F.fills_int_sub PySem.F.slot_int_sub decl_sub
theorem op_rmul (O : OpY X.prog X.w X.K X.mg X.base C .Mult k sp) (n : Num X.K C) (hr : Room k X.A) : OpR X (binaryOp .Mult) (rIOwn C sp E0) := by
  obtain ⟨f, o⟩ := O.at_
  obtain ⟨g, gd, og, F, hb⟩ := O.ex
  exact op_Iown n o og F hr hb pass0 PySem.F.fills_int_mul PySem.F.slot_int_mul decl_mul
theorem un_nm (O : OpN X.prog X.w X.K X.mg X.base C k sp) (hr : Room k X.A) : UnR X (unaryOp .USub) (rNegOwn C sp E0) := by
  obtain ⟨f, fd, o, F, hb⟩ := O.ex
  exact un_own o F hr hb pass0
end

theorem plus_neg (n d m e : Int) : plus (n, d) (-m, e) = minus (n, d) (m, e) := by
  unfold plus minus
  simp only [Int.neg_mul, Int.sub_eq_add_neg]
theorem plus_rsub (n d m : Int) : plus (-n, d) (m, 1) = minus (m, 1) (n, d) := by
  unfold plus minus
  simp only [Int.mul_one, Int.one_mul, Int.sub_eq_add_neg]
  rw [Int.add_comm]
theorem nm_neg {C : Addr} {H : Hp} {q p : Addr} {n d : Int} {v : V} (h : Nm C H v n d) {H' : Hp} (r : RatAt C H' q (-n) d) : Nm C H' (.ref q) (-n) d := ⟨.inl ⟨q, rfl, r⟩, lw_neg h.lw, h.b1.neg, h.b2⟩
theorem nm_rat {C : Addr} {H H' : Hp} {q : Addr} {n d : Int} {v : V} (h : Nm C H v n d) (r : RatAt C H' q n d) : Nm C H' (.ref q) n d := ⟨.inl ⟨q, rfl, r⟩, h.lw, h.b1, h.b2⟩

section
variable {P : Program} {w : World} {K : PySem.W.Frag} {mg : Str → Option Value} {base : Heap}
/-- i op x -/
def spRef (op : Int × Int → Int × Int → Int × Int) (C : Addr) : Sp := fun vs H Q _ => ∃ p n d m, vs = [.ref p, .int m] ∧ Nm C H (.ref p) n d ∧ Bd 2500 m ∧
  ∀ q H', RatAt C H' q (op (n, d) (m, 1)).1 (op (n, d) (m, 1)).2 → Same H H' → Q (.ref q) H'
def spRsub (C : Addr) : Sp := fun vs H Q _ => ∃ p n d m, vs = [.ref p, .int m] ∧ Nm C H (.ref p) n d ∧ Bd 2500 m ∧
  ∀ q H', RatAt C H' q (minus (m, 1) (n, d)).1 (minus (m, 1) (n, d)).2 → Same H H' → Q (.ref q) H'
theorem nm_int {C : Addr} {H : Hp} {m : Int} (h : Bd 2500 m) : Nm C H (.int m) m 1 := ⟨.inr ⟨rfl, rfl⟩, lw_int m, h, bd_one (by decide)⟩

theorem scRadd : FnScope ["self", "other"] ["self", "other"] (defScope sRadd) := ⟨rfl, rfl, rfl, by decide +kernel, rfl, by decide +kernel, by decide +kernel⟩
theorem ok_radd {f C : Addr} {fd : FuncData} (F : FnP K "__radd__" "Ratio.__radd__" sRadd [] f fd) (T : RT K mg C) (O : OpX P w K mg base C .Add 5 (spBin plus C)) : FnOk P w K mg base CX0 6 f fd ["self", "other"] (spRef plus C) := by
  refine F.ok scRadd (fun vs H Q E h => ?_) (fun cdv A outer s H vs Q E hr h => ?_)
  · obtain ⟨p, n, d, m, rfl, _⟩ := h
    rfl
  · obtain ⟨p, n, d, m, rfl, hp, hm, q⟩ := h
    exact ⟨_, PSs.nox (pss_one (ps_ret (pe_op (op_nm O T.num hr) (pv 0) (pv 1)))), _, rfl, _, rfl, p, n, d, m, 1, rfl, hp.rat, .inr ⟨rfl, rfl⟩, p, _, n, d, m, 1, rfl, hp, nm_int hm, q⟩
theorem scRmul : FnScope ["self", "other"] ["self", "other"] (defScope sRmul) := ⟨rfl, rfl, rfl, by decide +kernel, rfl, by decide +kernel, by decide +kernel⟩
theorem ok_rmul {f C : Addr} {fd : FuncData} (F : FnP K "__rmul__" "Ratio.__rmul__" sRmul [] f fd) (T : RT K mg C) (O : OpX P w K mg base C .Mult 5 (spBin times C)) : FnOk P w K mg base CX0 6 f fd ["self", "other"] (spRef times C) := by
  refine F.ok scRmul (fun vs H Q E h => ?_) (fun cdv A outer s H vs Q E hr h => ?_)
  · obtain ⟨p, n, d, m, rfl, _⟩ := h
    rfl
  · obtain ⟨p, n, d, m, rfl, hp, hm, q⟩ := h
    exact ⟨_, PSs.nox (pss_one (ps_ret (pe_op (op_nm O T.num hr) (pv 0) (pv 1)))), _, rfl, _, rfl, p, n, d, m, 1, rfl, hp.rat, .inr ⟨rfl, rfl⟩, p, _, n, d, m, 1, rfl, hp, nm_int hm, q⟩
theorem scSub : FnScope ["self", "other"] ["self", "other"] (defScope sSub) := ⟨rfl, rfl, rfl, by decide +kernel, rfl, by decide +kernel, by decide +kernel⟩
theorem ok_sub {f C : Addr} {fd : FuncData} (F : FnP K "__sub__" "Ratio.__sub__" sSub [] f fd) (T : RT K mg C) (O : OpX P w K mg base C .Add 5 (spBin plus C)) (N : OpN P w K mg base C 4 (spNeg C)) (D : DAs P w K mg base C) :
    FnOk P w K mg base CX0 6 f fd ["self", "other"] (spBin minus C) := by
  refine F.ok scSub (fun vs H Q E h => ?_) (fun cdv A outer s H vs Q E hr h => ?_)
  · obtain ⟨p, v, n, d, m, e, rfl, _⟩ := h
    rfl
  · obtain ⟨p, v, n, d, m, e, rfl, hp, hv, q⟩ := h
    have hr4 := hr.mono (by decide : 4 ≤ 5)
    refine ⟨_, PSs.nox (pss_one (ps_ret (pe_op (op_nm O T.num hr) (pv 0) (pe_un (un_nm N hr4) (pe_use D hr4 rfl (pa_cons (pv 1) pa_nil)))))), ?_⟩
    refine ⟨_, rfl, _, rfl, v, m, e, rfl, hv.at_, fun r H1 h1 s1 => ?_⟩
    obtain ⟨dx, hx⟩ := id h1
    refine ⟨r, dx, _, rfl, hx, r, m, e, rfl, nm_rat hv h1, fun z H2 h2 s2 => ?_⟩
    refine ⟨p, n, d, -m, e, rfl, hp.rat.same (s1.trans s2), .inl ⟨z, rfl, h2⟩, p, _, n, d, -m, e, rfl, hp.same (s1.trans s2), nm_neg (p := p) hv h2, fun y H3 h3 s3 => ?_⟩
    rw [plus_neg] at h3
    exact q y H3 h3 ((s1.trans s2).trans s3)
theorem scRsub : FnScope ["self", "other"] ["self", "other"] (defScope sRsub) := ⟨rfl, rfl, rfl, by decide +kernel, rfl, by decide +kernel, by decide +kernel⟩
theorem ok_rsub {f C : Addr} {fd : FuncData} (F : FnP K "__rsub__" "Ratio.__rsub__" sRsub [] f fd) (T : RT K mg C) (O : OpX P w K mg base C .Add 5 (spBin plus C)) (N : OpN P w K mg base C 4 (spNeg C)) :
    FnOk P w K mg base CX0 6 f fd ["self", "other"] (spRsub C) := by
  refine F.ok scRsub (fun vs H Q E h => ?_) (fun cdv A outer s H vs Q E hr h => ?_)
  · obtain ⟨p, n, d, m, rfl, _⟩ := h
    rfl
  · obtain ⟨p, n, d, m, rfl, hp, hm, q⟩ := h
    have hr4 := hr.mono (by decide : 4 ≤ 5)
    refine ⟨_, PSs.nox (pss_one (ps_ret (pe_op (op_nm O T.num hr) (pe_un (un_nm N hr4) (pv 0)) (pv 1)))), ?_⟩
    obtain ⟨dx, hx⟩ := hp.rat
    refine ⟨_, rfl, p, dx, _, rfl, hx, p, n, d, rfl, hp, fun z H2 h2 s2 => ?_⟩
    refine ⟨_, rfl, z, -n, d, m, 1, rfl, h2, .inr ⟨rfl, rfl⟩, z, _, -n, d, m, 1, rfl, nm_neg (p := p) hp h2, nm_int hm, fun y H3 h3 s3 => ?_⟩
    rw [plus_rsub] at h3
    exact q y H3 h3 (s2.trans s3)

/-! ### texts -/
def it (n : Int) : Str := Str.ofString (toString n)
def txt (n d : Int) : Str := if d = 1 then it n else (it n ++ "/") ++ it d
def shw (n d : Int) : Str := ((("Ratio(" ++ it n) ++ ", ") ++ it d) ++ ")"
def spText (g : Int → Int → Str) (C : Addr) : Sp := fun vs H Q _ => ∃ p n d, vs = [.ref p] ∧ RatAt C H p n d ∧ Bd 1900 n ∧ Bd 1900 d ∧ Q (.str (g n d)) H
theorem it_len {n : Int} (h : Bd 1900 n) : (it n).length ≤ 1901 := by
  have e := int_text_length_le (a := n) (k := 1900) (by decide) (h.log2 (by decide))
  unfold it
  rw [PySem.ofString_length]
  exact e
theorem lt1920 {n : Int} (h : Bd 1900 n) : n.natAbs.log2 < 1920 := Nat.lt_trans (h.log2 (by decide)) (by decide)
theorem len1 : (Str.ofString "/").length = 1 := by decide +kernel
theorem len2 : (Str.ofString ", ").length = 2 := by decide +kernel
theorem len3 : (Str.ofString ")").length = 1 := by decide +kernel
theorem len6 : (Str.ofString "Ratio(").length = 6 := by decide +kernel
theorem line (n : Nat) (h : n ≤ 100000) : n ≤ sizeLine := Nat.le_trans h (by decide)

theorem scStr : FnScope ["self"] ["self"] (defScope sStr) := ⟨rfl, rfl, rfl, by decide +kernel, rfl, by decide +kernel, by decide +kernel⟩
theorem ok_str {f C : Addr} {fd : FuncData} (F : FnP K "__str__" "Ratio.__str__" sStr [] f fd) (T : RT K mg C) : FnOk P w K mg base CX0 1 f fd ["self"] (spText txt C) := by
  refine F.ok scStr (fun vs H Q E h => ?_) (fun cdv A outer s H vs Q E hr h => ?_)
  · obtain ⟨p, n, d, rfl, _⟩ := h
    rfl
  · obtain ⟨p, n, d, rfl, ⟨dx, hp⟩, hn, hd, q⟩ := h
    refine ⟨_, PSs.nox (pss_cons (ps_if (pt_cmpR op_eq (pe_fld (pv 0) rfl) pe_int (nomark _)) (pss_one (ps_ret (pe_callTy call_str_int rfl T.str PyProof.Rows.boot_str (pa_cons (pe_fld (pv 0) rfl) pa_nil)))) pss_nil)
      (pss_one (ps_ret (pe_joined (.cons (pe_fmt (pe_fld (pv 0) rfl)) (.cons pe_str (.cons (pe_fmt (pe_fld (pv 0) rfl)) .nil))))))), ?_⟩
    have h1 := it_len hn
    have h2 := it_len hd
    refine ⟨_, rfl, p, C, dx, _, _, rfl, hp, T.cl, T.nB, rf_bottom _ _, rfl, _, rfl, ?_⟩
    refine ite2 (fun c => ?_) (fun c => ?_)
    · have c' : d = 1 := V.int.inj (of_decide_eq_true c)
      unfold txt at q
      rw [if_pos c'] at q
      exact ⟨_, rfl, p, C, dx, _, _, rfl, hp, T.cl, T.nT, rf_top _ _, n, rfl, lt1920 hn, q⟩
    · have c' : ¬ d = 1 := fun z => c (decide_eq_true (by rw [z]))
      unfold txt at q
      rw [if_neg c'] at q
      refine ⟨_, rfl, p, C, dx, _, _, rfl, hp, T.cl, T.nT, rf_top _ _, .inr ⟨n, rfl, lt1920 hn, _, rfl, ?_, ?_⟩⟩
      · rw [PySem.Str.empty_append]
        exact line _ (Nat.le_trans h1 (by decide))
      refine ⟨_, rfl, ?_, ?_⟩
      · rw [PySem.Str.empty_append, strLen_append, len1]
        exact line _ (Nat.le_trans (Nat.add_le_add_right h1 1) (by decide))
      refine ⟨_, rfl, p, C, dx, _, _, rfl, hp, T.cl, T.nB, rf_bottom _ _, .inr ⟨d, rfl, lt1920 hd, _, rfl, ?_, ?_⟩⟩
      · rw [PySem.Str.empty_append, strLen_append, strLen_append, len1]
        exact line _ (Nat.le_trans (Nat.add_le_add (Nat.add_le_add_right h1 1) h2) (by decide))
      · rw [PySem.Str.empty_append]
        exact q
theorem scRepr : FnScope ["self"] ["self"] (defScope sRepr) := ⟨rfl, rfl, rfl, by decide +kernel, rfl, by decide +kernel, by decide +kernel⟩
theorem ok_repr {f C : Addr} {fd : FuncData} (F : FnP K "__repr__" "Ratio.__repr__" sRepr [] f fd) (T : RT K mg C) : FnOk P w K mg base CX0 1 f fd ["self"] (spText shw C) := by
  refine F.ok scRepr (fun vs H Q E h => ?_) (fun cdv A outer s H vs Q E hr h => ?_)
  · obtain ⟨p, n, d, rfl, _⟩ := h
    rfl
  · obtain ⟨p, n, d, rfl, ⟨dx, hp⟩, hn, hd, q⟩ := h
    refine ⟨_, PSs.nox (pss_one (ps_ret (pe_joined (.cons pe_str (.cons (pe_fmt (pe_fld (pv 0) rfl)) (.cons pe_str (.cons (pe_fmt (pe_fld (pv 0) rfl)) (.cons pe_str .nil)))))))), ?_⟩
    have h1 := it_len hn
    have h2 := it_len hd
    refine ⟨_, rfl, ?_, ?_⟩
    · rw [PySem.Str.empty_append, len6]
      exact line _ (by decide)
    refine ⟨_, rfl, p, C, dx, _, _, rfl, hp, T.cl, T.nT, rf_top _ _, .inr ⟨n, rfl, lt1920 hn, _, rfl, ?_, ?_⟩⟩
    · rw [PySem.Str.empty_append, strLen_append, len6]
      exact line _ (Nat.le_trans (Nat.add_le_add_left h1 6) (by decide))
    refine ⟨_, rfl, ?_, ?_⟩
    · rw [PySem.Str.empty_append, strLen_append, strLen_append, len6, len2]
      exact line _ (Nat.le_trans (Nat.add_le_add_right (Nat.add_le_add_left h1 6) 2) (by decide))
    refine ⟨_, rfl, p, C, dx, _, _, rfl, hp, T.cl, T.nB, rf_bottom _ _, .inr ⟨d, rfl, lt1920 hd, _, rfl, ?_, ?_⟩⟩
    · rw [PySem.Str.empty_append, strLen_append, strLen_append, strLen_append, len6, len2]
      exact line _ (Nat.le_trans (Nat.add_le_add (Nat.add_le_add_right (Nat.add_le_add_left h1 6) 2) h2) (by decide))
    refine ⟨_, rfl, ?_, ?_⟩
    · rw [PySem.Str.empty_append, strLen_append, strLen_append, strLen_append, strLen_append, len6, len2, len3]
      exact line _ (Nat.le_trans (Nat.add_le_add_right (Nat.add_le_add (Nat.add_le_add_right (Nat.add_le_add_left h1 6) 2) h2) 1) (by decide))
    · rw [PySem.Str.empty_append]
      exact q
end
end Ra
namespace Ra
open PySem PySem.Spec PyProof.Rows L2 Ow Pt Rm

/-- x(e), x a local name that holds the class at C -/
def tMakeL (i : Nat) (C : Addr) (sp : Sp) (dvs : List V) (E : XK) (t : TA) : TE := fun σ H Q => σ[i]? = some (some (.ref C)) ∧ tMake C sp dvs E t σ H Q
section
variable {X : Cx} {CX : CXT} {k i : Nat} {C f : Addr} {fd : FuncData} {ps : List Str} {sp : Sp} {dvs : List V} {ds : List Value} {E : XK} {x : Str} {p pos : Pos} {e : Expr} {es : List Expr} {t : TA}
theorem pe_makeL (M : Mk X.K C f) (F : FnOk X.prog X.w X.K X.mg X.base CX k f fd ps sp) (hr : Room (k + 1) X.A) (hN : X.N[i]? = some x) (hv : Vis X.env.scope x) (hb : Binds X.K fd ps ds) (hd : Vals dvs ds) (hx : Passes CX X E) (ha : PA X (e :: es) t)
    (hdb : (x == ("__debug__" : Str)) = false := by decide) (hcd : (x == ("__classdict__" : Str)) = false := by decide)
    (he : starEach (e :: es) X.env = (false, eval e X.env) :: starEach es X.env := by rfl) (hpl : (backTo pos (starEach es X.env)).any (·.1) = false := by rfl) : PE X (.Call (.Name x p) (e :: es) [] pos) (tMakeL i C sp dvs E t) := by
  refine ⟨fun pins s σ H Q I h => ?_⟩
  obtain ⟨hs, ht⟩ := h
  have var := (pe_var (pos := p) hN hv hdb hcd).run pins s σ H (fun v H1 => v = .ref C ∧ H1 = H) I ⟨.ref C, hs, rfl, rfl⟩
  refine wpAny_Call_Name_kw (thn var fun u s1 got => ?_)
  obtain ⟨v, H1, I1, r1, q1⟩ := got
  obtain ⟨rfl, rfl⟩ := q1
  cases r1
  refine PySem.W.callWith_K (h₀ := X.base) I.ok.mod.kin M.kp (thn (ha.run pos pins s1 σ _ _ I1 ht) fun us s2 got => ?_) he hpl
  obtain ⟨vs, H2, I2, r, q⟩ := got
  exact ⟨I2.kIn, run_make M F hr hb hd hx I2 r q⟩
end

section
variable {X : Cx} {CX : CXT} {k : Nat} {C p g : Addr} {mc : Value} {sp : Sp} {E : XK} {o e : Expr} {es : List Expr} {f m : Str} {pos apos : Pos} {ta : TE} {t : TA} {pl : Sem Bool}
open ClX in
/-- C.m(), m a classmethod -/
theorem pe_cmeth0 (he : PE X o ta) (r : CRead X.K C mc) (c : CMet X.K C mc m p g) (F : FnR X.prog X.w X.K X.mg X.base CX k g sp) (hr : Room k X.A) (hx : Passes CX X E)
    (ht : eval (.Call (.Attribute o m apos) [] [] pos) X.env = (do
      let ov ← eval o X.env
      standAt apos.atName
      let (f, first) ← holding [ov] (getMethod ov m pl)
      callWith pos f first (backTo pos (starEach [] X.env)) (backToKw pos (keywordEach [] X.env))) := by rfl) :
    PE X (.Call (.Attribute o m apos) [] [] pos) (tCMeth C sp E ta tNil) := by
  refine ⟨fun pins s σ H Q I h => PySem.W.methodCall_KW (pl := pl) (thn (he.run pins s σ H _ I h) fun u s1 got => ?_) ht⟩
  obtain ⟨x, H1, I1, rx, rfl, q⟩ := got
  cases rx
  refine getmethcm_ok I1 r c fun s2 I2 => ?_
  exact PySem.W.callWith_M0 ⟨pin_at I2, I2.kIn⟩ c.fi (run_cm (us := []) (vs := []) F hr hx I2 .nil q)
end

/-! ### Ratio.total -/
/-- a number in lowest terms, a small one -/
structure Sm (C : Addr) (H : Hp) (v : V) (n d : Int) : Prop where
  at_ : NumAt C H v n d
  lw : Lw n d
  b1 : Bd 300 n
  b2 : Bd 300 d
theorem Sm.same {C : Addr} {H H' : Hp} {v : V} {n d : Int} (h : Sm C H v n d) (s : Same H H') : Sm C H' v n d := ⟨h.at_.same s, h.lw, h.b1, h.b2⟩
theorem Sm.nm {C : Addr} {H : Hp} {v : V} {n d : Int} (h : Sm C H v n d) : Nm C H v n d := ⟨h.at_, h.lw, h.b1.mono (by decide), h.b2.mono (by decide)⟩
def Sms (C : Addr) (H : Hp) (xs : List V) (ps : List (Int × Int)) : Prop := xs.length = ps.length ∧ ∀ (i : Nat) (x : V) (p : Int × Int), xs[i]? = some x → ps[i]? = some p → Sm C H x p.1 p.2
theorem Sms.same {C : Addr} {H H' : Hp} {xs : List V} {ps : List (Int × Int)} (h : Sms C H xs ps) (s : Same H H') : Sms C H' xs ps := ⟨h.1, fun i x p h1 h2 => (h.2 i x p h1 h2).same s⟩
def sumP (ps : List (Int × Int)) : Int × Int := ps.foldl plus (0, 1)
/-- how great the sum of some may be -/
structure SB (i : Nat) (a : Int × Int) : Prop where
  lw : Lw a.1 a.2
  b1 : Bd (1 + 301 * i) a.1
  b2 : Bd (1 + 301 * i) a.2
theorem sb_zero : SB 0 (0, 1) := ⟨lw_int 0, bd_zero, bd_one (by decide)⟩
theorem sb_plus {i : Nat} {a p : Int × Int} (h : SB i a) (lp : Lw p.1 p.2) (b1 : Bd 300 p.1) (b2 : Bd 300 p.2) : SB (i + 1) (plus a p) := by
  have hd : a.2 * p.2 ≠ 0 := mul_ne h.lw.pos lp.pos
  refine ⟨low_lw _ hd, bd_low1 hd ?_, bd_low2 hd ?_⟩
  · have x := (h.b1.mul b2).add ((b1.mul h.b2).mono (show 300 + (1 + 301 * i) ≤ 1 + 301 * i + 300 by omega))
    exact x.mono (by omega)
  · exact (h.b2.mul b2).mono (by omega)
theorem sumP_snoc (ps : List (Int × Int)) (p : Int × Int) : sumP (ps ++ [p]) = plus (sumP ps) p := by
  unfold sumP
  rw [List.foldl_append]
  rfl
theorem sb_sum {C : Addr} {H : Hp} {xs : List V} {ps : List (Int × Int)} (h : Sms C H xs ps) : ∀ i, i ≤ ps.length → SB i (sumP (ps.take i)) := by
  intro i
  induction i with
  | zero =>
    intro _
    rw [List.take_zero]
    exact sb_zero
  | succ i ih =>
    intro hi
    have hlt : i < ps.length := hi
    have hx : i < xs.length := by rw [h.1]; exact hlt
    have s := h.2 i xs[i] ps[i] (List.getElem?_eq_getElem hx) (List.getElem?_eq_getElem hlt)
    rw [List.take_succ, List.getElem?_eq_getElem hlt]
    show SB (i + 1) (sumP (ps.take i ++ [ps[i]]))
    rw [sumP_snoc]
    exact sb_plus (ih (Nat.le_of_lt hlt)) s.lw s.b1 s.b2
theorem sb_nm {C : Addr} {H : Hp} {q : Addr} {i : Nat} {a : Int × Int} (h : SB i a) (hi : i ≤ 6) (r : RatAt C H q a.1 a.2) : Nm C H (.ref q) a.1 a.2 :=
  ⟨.inl ⟨q, rfl, r⟩, h.lw, h.b1.mono (by omega), h.b2.mono (by omega)⟩

section
variable {P : Program} {w : World} {K : PySem.W.Frag} {mg : Str → Option Value} {base : Heap}
/-- its body's promise: cls, the tuple of the numbers -/
def spTot0 (K : PySem.W.Frag) (C : Addr) : Sp := fun vs H Q _ => ∃ (t : Addr) (xs : List V) (ps : List (Int × Int)), vs = [.ref C, .ref t] ∧ SqT K H t xs ∧ xs.length ≤ 6 ∧ Sms C H xs ps ∧
  ∀ q H', RatAt C H' q (sumP ps).1 (sumP ps).2 → Same H H' → Q (.ref q) H'
def spTot (C : Addr) : Sp := fun vs H Q _ => ∃ (xs : List V) (ps : List (Int × Int)), vs = .ref C :: xs ∧ xs.length ≤ 6 ∧ Sms C H xs ps ∧
  ∀ q H', RatAt C H' q (sumP ps).1 (sumP ps).2 → Same H H' → Q (.ref q) H'
theorem scTot : FnScope ["cls", "numbers", "found", "number"] ["cls", "numbers"] (defScope sTotal) := ⟨rfl, rfl, rfl, by decide +kernel, rfl, by decide +kernel, by decide +kernel⟩
theorem same_sqt {H H' : Hp} {a : Addr} {xs : List V} (s : Same H H') (h : SqT K H a xs) : SqT K H' a xs := SqT.ext h s
theorem ok_total {f C : Addr} {fd : FuncData} (F : FnP K "total" "Ratio.total" sTotal [] f fd) (T : RT K mg C) (M : RMk P w K mg base C) (O : OpX P w K mg base C .Add 5 (spBin plus C)) :
    FnR P w K mg base CX0 6 f (spTot C) := by
  obtain ⟨oc, od, dV, kV, doc, pm, an, cdv, ct, osl, rfl, lk, hcd, hD, _⟩ := F.ex
  have hdV : dV = .none := by
    rcases hD with ⟨_, e⟩ | ⟨e, _⟩
    · exact e
    · exact absurd rfl e
  subst hdV
  have G := StX.fn_star (k := 5) (sp := spTot0 K C) (CX := CX0) (P := P) (w := w) (mg := mg) (base := base) (ps := ["cls"]) (pv := "numbers") lk hcd scTot StX.cxUp_none
    (StX.bind_star1 (B := fun us => bindArgs _ ⟨us, []⟩) (fun a => rfl) (fun a r rs => rfl)) (fun A outer s H vs Q E hr h => ?_)
  · refine G.imp fun vs H Q E h => ?_
    obtain ⟨xs, ps, rfl, hl, hs, q⟩ := h
    refine ⟨[.ref C], xs, rfl, rfl, line _ (Nat.le_trans hl (by decide)), fun p hp => ?_⟩
    have sm : Same H (upd H p (.tup xs)) := same_upd hp
    exact ⟨p, xs, ps, rfl, SqT.of upd_same, hl, hs.same sm, fun z H' r s' => q z H' r (sm.trans s')⟩
  · obtain ⟨t, xs, ps, rfl, ht, hl, hs, q⟩ := h
    obtain ⟨f1, fd1, m, Fi, b2, ⟨ds, hv, b1⟩, _⟩ := M.ex
    have hr3 := hr.mono (by decide : 3 ≤ 5)
    refine ⟨_, PSs.nox (pss_cons (ps_set (i := 2) scTot.nd rfl (Or.inl rfl) (pe_makeL (i := 0) m Fi hr3 rfl (Or.inl rfl) b1 hv pass0 (pa_cons pe_int pa_nil)))
      (pss_cons (ps_for PassesOwn.never rfl (pi_tup (pv 1)) (pg_name (i := 3) scTot.nd rfl (Or.inl rfl)) (pss_one (ps_set (i := 2) scTot.nd rfl (Or.inl rfl) (pe_op (op_nm O T.num hr) (pv 2) (pv 3)))))
      (pss_one (ps_ret (pv 2))))), ?_⟩
    refine ⟨rfl, ?_⟩
    refine rat_new (by decide) (bd_one (by decide)) fun z0 H1 r0 s1 _ => ?_
    rw [low_int] at r0
    refine ⟨_, rfl, t, rfl, ⟨xs, same_sqt s1 ht⟩, for_tup (K := K) (a := t) (xs := xs) (fun i σ H' => ∃ (z : Addr) (v : Option V), σ = [some (.ref C), some (.ref t), some (.ref z), v] ∧ Same H H' ∧ RatAt C H' z (sumP (ps.take i)).1 (sumP (ps.take i)).2)
      ⟨z0, none, rfl, s1, by rw [List.take_zero]; exact r0⟩ (fun i σ H' _ h => ?_) ?_ ?_⟩
    · obtain ⟨_, _, _, s2, _⟩ := h
      exact same_sqt s2 ht
    · rintro i x σ H' hx ⟨z, v, rfl, s2, rz⟩
      have hi : i < ps.length := by
        rw [← hs.1]
        exact (List.getElem?_eq_some_iff.mp hx).1
      have sx := (hs.same s2).2 i x ps[i] hx (List.getElem?_eq_getElem hi)
      have hi6 : i ≤ 6 := by have := hs.1; omega
      refine ⟨_, rfl, _, rfl, z, _, _, _, _, rfl, rz, sx.at_, z, _, _, _, _, _, rfl, sb_nm (sb_sum hs i (Nat.le_of_lt hi)) hi6 rz, sx.nm, fun y H2 h2 s3 => ?_⟩
      refine ⟨y, _, rfl, s2.trans s3, ?_⟩
      rw [List.take_succ, List.getElem?_eq_getElem hi]
      show RatAt C H2 y (sumP (ps.take i ++ [ps[i]])).1 (sumP (ps.take i ++ [ps[i]])).2
      rw [sumP_snoc]
      exact h2
    · rintro σ H' ⟨z, v, rfl, s2, rz⟩
      rw [hs.1, List.take_length] at rz
      exact ⟨_, rfl, q z H' rz s2⟩
end
end Ra
namespace Ra
open PySem PySem.Spec PyProof.Rows L2 Ow Pt Rm
/-- what a value is, as far as is asked -/
inductive Knd where
  | int (n : Int) | txt (z : Str) | rat | odd
def abc : Str := "abcdefghijklmnopqrstuvwxyz"
def nameOk (z : Str) : Bool := decide (1 ≤ z.length) && (decide (z.length ≤ 8) && z.cps.toList.all (fun c => decide (c ∈ abc.cps.toList)))
def isI : Knd → Bool
  | .int _ => true
  | _ => false
def isC : Knd → Bool
  | .int n => decide (0 ≤ n)
  | _ => false
def isN : Knd → Bool
  | .int _ => true
  | .rat => true
  | _ => false
def isS : Knd → Bool
  | .txt z => nameOk z
  | _ => false
def Kd (K : PySem.W.Frag) (C : Addr) (H : Hp) (x : V) : Knd → Prop
  | .int n => x = .int n
  | .txt z => x = .str z ∧ z.length ≤ sizeLine
  | .rat => TyX K H x (.ref C)
  | .odd => ∃ t a b, TyX K H x t ∧ PySem.W.kitOne K t (.type "int") = some a ∧ PySem.W.kitOne K t (.type "bool") = some b ∧ (a && !b) = false ∧ PySem.W.kitOne K t (.ref C) = some false ∧ PySem.W.kitOne K t (.type "str") = some false
/-- what is asked of the classes besides -/
structure KT (K : PySem.W.Frag) (mg : Str → Option Value) (C : Addr) : Prop where
  sC : PySem.W.kitOne K (.type "str") (.ref C) = some false
  Ci : PySem.W.kitOne K (.ref C) (.type "int") = some false
  Cb : PySem.W.kitOne K (.ref C) (.type "bool") = some false
  Cs : PySem.W.kitOne K (.ref C) (.type "str") = some false
  len : mg "len" = none
  all : mg "all" = none
section
variable {K : PySem.W.Frag} {mg : Str → Option Value} {C : Addr} {H : Hp} {x : V}
theorem kSI : PySem.W.kitOne K (.type "str") (.type "int") = some false := kit_ty (by decide +kernel)
theorem kSB : PySem.W.kitOne K (.type "str") (.type "bool") = some false := kit_ty (by decide +kernel)
theorem kSS : PySem.W.kitOne K (.type "str") (.type "str") = some true := kit_ty (by decide +kernel)
theorem kIS : PySem.W.kitOne K (.type "int") (.type "str") = some false := kit_ty (by decide +kernel)
theorem kd_int (T : KT K mg C) : ∀ {k : Knd}, Kd K C H x k → ∃ t a b, TyX K H x t ∧ PySem.W.kitOne K t (.type "int") = some a ∧ PySem.W.kitOne K t (.type "bool") = some b ∧ (a && !b) = isI k
  | .int n, h => by cases (show x = .int n from h); exact ⟨_, true, false, .base (.int _), kII, kIB, rfl⟩
  | .txt z, h => by obtain ⟨rfl, _⟩ := h; exact ⟨_, false, false, .base (.str _), kSI, kSB, rfl⟩
  | .rat, h => ⟨_, false, false, h, T.Ci, T.Cb, rfl⟩
  | .odd, h => by obtain ⟨t, a, b, h1, h2, h3, h4, _⟩ := h; exact ⟨t, a, b, h1, h2, h3, h4⟩
theorem kd_rat (T : KT K mg C) (R : RT K mg C) : ∀ {k : Knd}, Kd K C H x k → isI k = false → ∃ t, TyX K H x t ∧ PySem.W.kitOne K t (.ref C) = some (isN k)
  | .int n, h, e => nomatch e
  | .txt z, h, _ => by obtain ⟨rfl, _⟩ := h; exact ⟨_, .base (.str _), T.sC⟩
  | .rat, h, _ => ⟨_, h, R.kCC⟩
  | .odd, h, _ => by obtain ⟨t, a, b, h1, h2, h3, h4, h5, _⟩ := h; exact ⟨t, h1, h5⟩
/-- is it a text -/
def isT : Knd → Bool
  | .txt _ => true
  | _ => false
theorem kd_txt (T : KT K mg C) : ∀ {k : Knd}, Kd K C H x k → ∃ t, TyX K H x t ∧ PySem.W.kitOne K t (.type "str") = some (isT k)
  | .int n, h => by cases (show x = .int n from h); exact ⟨_, .base (.int _), kIS⟩
  | .txt z, h => by obtain ⟨rfl, _⟩ := h; exact ⟨_, .base (.str _), kSS⟩
  | .rat, h => ⟨_, h, T.Cs⟩
  | .odd, h => by obtain ⟨t, a, b, h1, _, _, _, _, h6⟩ := h; exact ⟨t, h1, h6⟩
def spKnd (K : PySem.W.Frag) (C : Addr) (ans : Knd → Bool) : Sp := fun vs H Q _ => ∃ x k, vs = [x] ∧ Kd K C H x k ∧ ∀ H', Same H H' → Q (.bl (ans k)) H'
end

section
variable {P : Program} {w : World} {K : PySem.W.Frag} {mg : Str → Option Value} {base : Heap}
theorem use_int {C : Addr} (T : KT K mg C) {x : V} {k : Knd} {H : Hp} {Q : VK} {E : XK} (h : Kd K C H x k) (q : Q (.bl (isI k)) H) : spInt K [x] H Q E := by
  obtain ⟨t, a, b, h1, h2, h3, h4⟩ := kd_int T h
  rw [← h4] at q
  exact ⟨x, t, a, b, rfl, h1, h2, h3, q⟩
theorem scNumber : FnScope ["value"] ["value"] (defScope sNumber) := ⟨rfl, rfl, rfl, by decide +kernel, rfl, by decide +kernel, by decide +kernel⟩
theorem ok_number {f C : Addr} {fd : FuncData} (F : FnP K "is_number" "is_number" sNumber [] f fd) (T : KT K mg C) (R : RT K mg C) (D : DInt P w K mg base) : FnOk P w K mg base CX0 2 f fd ["value"] (spKnd K C isN) := by
  refine F.ok scNumber (fun vs H Q E h => ?_) (fun cdv A outer s H vs Q E hr h => ?_)
  · obtain ⟨x, k, rfl, _⟩ := h
    rfl
  · obtain ⟨x, k, rfl, hk, q⟩ := h
    refine ⟨_, PSs.nox (pss_one (ps_ret (pe_or (pe_use D hr rfl (pa_cons (pv 0) pa_nil)) (pe_one (pe_callB call_isi (by rfl) R.isi boot_isinstance (pa_cons (pv 0) (pa_cons (pe_glob (v := .ref C) rfl R.mgC rfl) pa_nil))))))), ?_⟩
    obtain ⟨t, a, b, h1, h2, h3, h4⟩ := kd_int T hk
    refine ⟨_, rfl, x, t, a, b, rfl, h1, h2, h3, _, rfl, ?_⟩
    rw [h4]
    by_cases e : isI k = true
    · have n : isN k = true := by cases k <;> first | rfl | exact nomatch e
      rw [e]
      rw [n] at q
      exact iteT (q _ (Same.refl _))
    · have e' : isI k = false := by cases h : isI k with | true => exact absurd h e | false => rfl
      obtain ⟨t, h1, h2⟩ := kd_rat T R hk e'
      rw [e']
      refine iteF ?_
      exact ⟨_, rfl, x, .ref C, t, .ref C, _, rfl, .own C, h1, h2, q _ (Same.refl _)⟩
end
end Ra
namespace Ra
open PySem PySem.Spec PyProof.Rows L2 Ow Pt Rm
section
variable {P : Program} {w : World} {K : PySem.W.Frag} {mg : Str → Option Value} {base : Heap}
/-! ### is_below -/
def spBelow (C : Addr) : Sp := fun vs H Q _ => ∃ p v n d m e, vs = [.ref p, v] ∧ Nm C H (.ref p) n d ∧ Nm C H v m e ∧ ∀ H', Same H H' → Q (.bl (decide ((minus (n, d) (m, e)).1.sign < 0))) H'
theorem scBelow : FnScope ["self", "other"] ["self", "other"] (defScope sBelow) := ⟨rfl, rfl, rfl, by decide +kernel, rfl, by decide +kernel, by decide +kernel⟩
theorem ok_below {f C : Addr} {fd : FuncData} (F : FnP K "is_below" "Ratio.is_below" sBelow [] f fd) (T : RT K mg C) (O : OpX P w K mg base C .Sub 6 (spBin minus C)) (pS : PS_ P w K mg base C) : FnOk P w K mg base CX0 7 f fd ["self", "other"] (spBelow C) := by
  refine F.ok scBelow (fun vs H Q E h => ?_) (fun cdv A outer s H vs Q E hr h => ?_)
  · obtain ⟨p, v, n, d, m, e, rfl, _⟩ := h
    rfl
  · obtain ⟨p, v, n, d, m, e, rfl, hp, hv, q⟩ := h
    refine ⟨_, PSs.nox (pss_one (ps_ret (pe_cmpR op_lt (pe_prp pS (pe_op (op_nm O T.num hr) (pv 0) (pv 1)) T.cl (hr.mono (by decide)) rfl) pe_int (nomark _)))), ?_⟩
    refine ⟨_, rfl, _, rfl, p, _, _, _, _, rfl, hp.rat, hv.at_, p, _, _, _, _, _, rfl, hp, hv, fun z H1 hz s1 => ?_⟩
    obtain ⟨dz, h1⟩ := id hz
    exact ⟨z, dz, _, rfl, h1, z, _, _, rfl, hz, _, _, rfl, rfl, q _ s1⟩
/-- ==, of two ratios, of a ratio and whatever is none -/
def spEqv (K : PySem.W.Frag) (C : Addr) : Sp := fun vs H Q _ => ∃ p v n d, vs = [.ref p, v] ∧ RatAt C H p n d ∧
  ((∃ q m e, v = .ref q ∧ RatAt C H q m e ∧ Q (.bl (decide ((n, d) = (m, e)))) H) ∨ ∃ t, TyX K H v t ∧ PySem.W.kitOne K t (.ref C) = some false ∧ Q (.bl false) H)
theorem scEqv : FnScope ["self", "other"] ["self", "other"] (defScope sEq) := ⟨rfl, rfl, rfl, by decide +kernel, rfl, by decide +kernel, by decide +kernel⟩
theorem ok_eqv {f C : Addr} {fd : FuncData} (F : FnP K "__eq__" "Ratio.__eq__" sEq [] f fd) (T : RT K mg C) : FnOk P w K mg base CX0 1 f fd ["self", "other"] (spEqv K C) := by
  refine F.ok scEqv (fun vs H Q E h => ?_) (fun cdv A outer s H vs Q E hr h => ?_)
  · obtain ⟨p, v, n, d, rfl, _⟩ := h
    rfl
  · obtain ⟨p, v, n, d, rfl, ⟨dx, hp⟩, h⟩ := h
    refine ⟨_, PSs.nox (pss_one (ps_ret (pe_and (pe_callB call_isi (by rfl) T.isi boot_isinstance (pa_cons (pv 1) (pa_cons (pe_glob (v := .ref C) rfl T.mgC rfl) pa_nil)))
      (pe_and (pe_cmpR op_eq (pe_fld (pv 0) rfl) (pe_fld (pv 1) rfl) (nomark _)) (pe_one (pe_cmpR op_eq (pe_fld (pv 0) rfl) (pe_fld (pv 1) rfl) (nomark _))))))), ?_⟩
    rcases h with ⟨q, m, e, rfl, ⟨dy, hq⟩, k⟩ | ⟨t, ty, no, k⟩
    · refine ⟨_, rfl, _, .ref C, .ref C, _, true, rfl, .own C, .base (.ins hq T.cl T.ca T.cg T.ct T.cm), T.kCC, true, rfl, ?_⟩
      refine iteT ?_
      refine ⟨_, rfl, p, C, dx, _, _, rfl, hp, T.cl, T.nT, rf_top _ _, _, rfl, q, C, dy, _, _, rfl, hq, T.cl, T.nT, rf_top _ _, rfl, _, rfl, ?_⟩
      by_cases c1 : n = m
      · rw [decide_eq_true (by rw [c1])]
        refine iteT ?_
        refine ⟨_, rfl, p, C, dx, _, _, rfl, hp, T.cl, T.nB, rf_bottom _ _, _, rfl, q, C, dy, _, _, rfl, hq, T.cl, T.nB, rf_bottom _ _, rfl, ?_⟩
        have e1 : decide (V.int d = V.int e) = decide ((n, d) = (m, e)) := by
          rw [c1]
          exact decide_eq_decide.mpr ⟨fun y => by rw [V.int.inj y], fun y => by rw [(Prod.mk.inj y).2]⟩
        rw [e1]
        exact k
      · rw [decide_eq_false (fun y => c1 (V.int.inj y))]
        refine iteF ?_
        rw [decide_eq_false (fun y => c1 (Prod.mk.inj y).1)] at k
        exact k
    · refine ⟨_, rfl, v, .ref C, t, .ref C, false, rfl, .own C, ty, no, false, rfl, ?_⟩
      exact iteF k
end
/-- o.m(k = v, ..), a method of an instance of the class at C -/
def tMethK (C : Addr) (m : Str) (n : Nat) (sp : Sp) (gV : List V → List V → List V) (E : XK) (ta : TE) (tk : TA) : TE := fun σ H Q => ta σ H fun x H1 => ∃ a dx fs, x = .ref a ∧ H1 a = some (.ins C dx fs) ∧ fs.lookup m = none ∧
  tk σ H1 fun zs H2 => zs.length = n ∧ sp (gV [x] zs) H2 Q E
section
variable {X : Cx} {CX : CXT} {k : Nat} {C f : Addr} {fd : FuncData} {ps ks : List Str} {sp : Sp} {E : XK} {m : Str} {pos apos : Pos} {o : Expr} {kws : List Keyword} {ta : TE} {tk : TA} {g : List Value → List Value → List Value} {gV : List V → List V → List V}
theorem pe_methK0 {pl : Sem Bool} (he : PE X o ta) (c : Cls X.K C) (hm : Meth X.K C m f) (F : FnOk X.prog X.w X.K X.mg X.base CX k f fd ps sp) (hr : Room k X.A) (hb : KBn X.K fd ps 1 ks g gV) (hx : Passes CX X E) (hkw : PK X kws tk)
    (hall : (backToKw pos (keywordEach kws X.env)).all (·.1.isSome) = true := by rfl) (hks : (backToKw pos (keywordEach kws X.env)).filterMap (·.1) = ks := by rfl)
    (hpl : ((backTo pos (starEach [] X.env)).any (·.1) || (backToKw pos (keywordEach kws X.env)).any (·.1.isNone)) = false := by rfl)
    (ht : eval (.Call (.Attribute o m apos) [] kws pos) X.env = (do
      let ov ← eval o X.env
      standAt apos.atName
      let (f, first) ← holding [ov] (getMethod ov m pl)
      callWith pos f first (backTo pos (starEach [] X.env)) (backToKw pos (keywordEach kws X.env))) := by rfl) :
    PE X (.Call (.Attribute o m apos) [] kws pos) (tMethK C m ks.length sp gV E ta tk) := by
  refine ⟨fun pins s σ H Q I h => PySem.W.methodCall_KW (pl := pl) (thn (he.run pins s σ H _ I h) fun u s1 got => ?_) ht⟩
  obtain ⟨x, H1, I1, rx, a, dx, fs, rfl, ea, l, q⟩ := got
  cases rx
  refine getmeth_ok I1 ea c hm l (PySem.W.callWith_KW0 (h₀ := X.base) (first := [.ref a]) I.ok.mod.kin hm.kp hall (thn (hkw.run pos pins s1 σ H1 _ I1 q) fun ws s2 got => ?_) hpl)
  obtain ⟨zs, H2, I2, rz, hl, q2⟩ := got
  refine ⟨I2.kIn, ?_⟩
  rw [hks]
  exact run_fnN (us := [.ref a]) (vs := [.ref a]) F hr hb hx I2 (.cons rfl .nil) rz rfl hl q2
end
/-- a method of one argument, by position and by its name -/
structure MtX (P : Program) (w : World) (K : PySem.W.Frag) (mg : Str → Option Value) (base : Heap) (C : Addr) (m : Str) (k : Nat) (sp : Sp) : Prop where
  ex : ∃ f fd, Meth K C m f ∧ FnOk P w K mg base CX0 k f fd ["self", "other"] sp ∧ Binds K fd ["self", "other"] [] ∧ KBn K fd ["self", "other"] 1 ["other"] (fun us ws => us ++ ws) (fun vs zs => vs ++ zs)
/-- the own == -/
structure EqX (P : Program) (w : World) (K : PySem.W.Frag) (mg : Str → Option Value) (base : Heap) (C : Addr) : Prop where
  ex : ∃ f fd, OpOf K C "__eq__" f ∧ FnOk P w K mg base CX0 1 f fd ["self", "other"] (spEqv K C) ∧ Binds K fd ["self", "other"] []
  ne : PySem.W.findIn K (.ref C) "__ne__" = some (some (.builtin "object.__ne__"))
  nf : PySem.W.notFirst K C (.ref C) = true
/-- the sign of a difference -/
theorem low_sign (t : Int) {b : Int} (hb : 0 < b) : ((low t b).1.sign < 0) ↔ t < 0 := by
  have e := low_t (t := t) (b := b)
  have hp : 0 < byv t b := by
    have := gcd_pos (t := t) (b := b) (by omega)
    unfold byv sg
    rw [if_pos hb]
    omega
  rw [Int.sign_neg_iff]
  constructor
  · intro h
    rw [← e]
    exact Int.mul_neg_of_neg_of_pos h hp
  · intro h
    rw [← e] at h
    exact Int.not_le.mp fun y => by
      have := Int.mul_nonneg y (Int.le_of_lt hp)
      omega
theorem minus_sign {a b : Int × Int} (la : Lw a.1 a.2) (lb : Lw b.1 b.2) : decide ((minus (a.1, a.2) (b.1, b.2)).1.sign < 0) = decide (a.1 * b.2 < b.1 * a.2) := by
  refine decide_eq_decide.mpr ?_
  show (low (a.1 * b.2 - b.1 * a.2) (a.2 * b.2)).1.sign < 0 ↔ _
  rw [low_sign _ (Int.mul_pos la.pos lb.pos)]
  constructor <;> intro h <;> omega
structure ShX (P : Program) (w : World) (K : PySem.W.Frag) (mg : Str → Option Value) (base : Heap) (C : Addr) (nm : Str) (g : Int → Int → Str) : Prop where
  ex : ∃ f fd, OpOf K C nm f ∧ FnOk P w K mg base CX0 1 f fd ["self"] (spText g C) ∧ Binds K fd ["self"] []
theorem shown_str {X : Cx} {C : Addr} {g : Int → Int → Str} (O : ShX X.prog X.w X.K X.mg X.base C "__str__" g) (hr : Room 3 X.A) : CallR X (.type "str") (rShow C (spText g C) E0) := by
  obtain ⟨f, fd, o, F, hb⟩ := O.ex
  exact call_str_own o F hr hb pass0
theorem shown_repr {X : Cx} {C : Addr} {g : Int → Int → Str} (O : ShX X.prog X.w X.K X.mg X.base C "__repr__" g) (hr : Room 2 X.A) : CallR X (.builtin "repr") (rShow C (spText g C) E0) := by
  obtain ⟨f, fd, o, F, hb⟩ := O.ex
  exact call_repr_own o F hr hb pass0
theorem any_false (n : Nat) : (List.replicate n false).any id = false := by
  rw [List.any_replicate]
  split <;> rfl
section
variable {K : PySem.W.Frag}
/-- == of ratios, as lists ask it -/
def DR (C : Addr) : EqD := fun x y b H => ∃ (a c : Addr) (n d m e : Int), x = .ref a ∧ y = .ref c ∧ RatAt C H a n d ∧ RatAt C H c m e ∧ b = decide ((n, d) = (m, e))
theorem monR (C : Addr) : MonB (DR C) := fun x y b H H' e d => by
  obtain ⟨a, c, n, d, m, f, h1, h2, h3, h4, h5⟩ := d
  exact ⟨a, c, n, d, m, f, h1, h2, h3.same e, h4.same e, h5⟩
theorem ownR {mg : Str → Option Value} (T : RT K mg C) (nf : PySem.W.notFirst K C (.ref C) = true) : OwnB K C (spEqv K C) E0 (DR C) := ⟨fun x y b H d => by
  obtain ⟨a, c, n, d, m, e, rfl, rfl, ⟨dx, ha⟩, ⟨dy, hc⟩, rfl⟩ := d
  refine ⟨a, c, dx, _, .ref C, rfl, rfl, ha, .base (.ins hc T.cl T.ca T.cg T.ct T.cm), nf, fun z => ?_, fun Q q => ⟨a, .ref c, n, d, rfl, ⟨dx, ha⟩, .inl ⟨c, m, e, rfl, ⟨dy, hc⟩, q H Ext.rfl'⟩⟩⟩
  subst z
  rw [ha] at hc
  have h1 := rf_top n d
  have h2 := rf_bottom n d
  injection hc with hc
  injection hc with _ _ hc
  rw [hc, rf_top] at h1
  rw [hc, rf_bottom] at h2
  cases h1
  cases h2
  exact decide_eq_true rfl⟩
end
end Ra
namespace La
open PySem PySem.Spec PyProof.Rows L2 Ow Pt Rm Ra


structure LT (mg : Str → Option Value) : Prop where
  len : mg "len" = none
  abs : mg "abs" = none
  max : mg "max" = none
  min : mg "min" = none
  int : mg "int" = none
  dm : mg "divmod" = none
  range : mg "range" = none
  all : mg "all" = none
  zip : mg "zip" = none
  repr : mg "repr" = none
  str : mg "str" = none
  isi : mg "isinstance" = none

section
variable {P : Program} {w : World} {K : PySem.W.Frag} {mg : Str → Option Value} {base : Heap}

/-! ### _law_pot -/
def spPot (K : PySem.W.Frag) : Sp := fun vs H Q _ => ∃ (a : Addr) (ns : List Int) (k : Int), vs = [.ref a, .int k] ∧ SqL K H a (ns.map V.int) ∧ 0 ≤ k ∧ ∀ p x y, 0 ≤ x → H p = none → Q (.ref p) (upd H p (.lst [.int x, .int y]))
theorem scPot : FnScope ["_law_script", "_law_at", "_law_cell"] ["_law_script", "_law_at"] (defScope sPot) := ⟨rfl, rfl, rfl, by decide +kernel, rfl, by decide +kernel, by decide +kernel⟩
theorem ok_pot {f : Addr} {fd : FuncData} (F : FnP K "_law_pot" "_law_pot" sPot [] f fd) (T : LT mg) : FnOk P w K mg base CX0 1 f fd ["_law_script", "_law_at"] (spPot K) := by
  refine F.ok scPot (fun vs H Q E h => ?_) (fun cdv A outer s H vs Q E hr h => ?_)
  · obtain ⟨a, ns, k, rfl, _⟩ := h
    rfl
  · obtain ⟨a, ns, k, rfl, hs, hk, q⟩ := h
    refine ⟨_, PSs.nox (pss_cons (ps_set (i := 2) scPot.nd rfl (Or.inl rfl) (pe_ifExp (pt_cmpR op_lt (pv 1) (pe_callB call_len_seq (by rfl) T.len PySem.boot_len (pa_cons (pv 0) pa_nil)) (nomark _))
        (pe_callB call_abs (by rfl) T.abs PyProof.Rows.boot_abs (pa_cons (pe_ix ix_list (pv 0) (pv 1) (fun _ _ => rfl)) pa_nil))
        (pe_op op_add (pe_op op_mul pe_int (pv 1)) pe_int)))
      (pss_one (ps_ret (pe_lst (pa_cons (pe_callB (call_max2 rfl) (by rfl) T.max PyProof.Rows.boot_max (pa_cons pe_int (pa_cons (pe_op op_sub (pv 2) (pe_op op_pow pe_int pe_int)) pa_nil)))
        (pa_cons (pe_op op_add (pe_op op_mod (pe_callTy call_int1 rfl T.int PyProof.Rows.boot_int (pa_cons
          (pe_op op_add (pe_op op_add (pe_op op_mul (pe_op op_mod (pe_callTy call_int1 rfl T.int PyProof.Rows.boot_int (pa_cons (pv 2) pa_nil)) pe_int) pe_int) (pe_op op_mul pe_int (pv 1))) pe_int) pa_nil)) pe_int) pe_int) pa_nil)))))), ?_⟩
    have fin : ∀ c : Int, (tRet (tLst (tCons (tCB (fun xs H Q => ∃ i j, xs = [V.int i, V.int j] ∧ Q (.int (if j > i then j else i)) H) (tCons (tC (.int 0)) (tCons (tOp (rI0 fun i j => .int (i - j)) (tVar 2) (tOp (rI CPow fun i j => .int (i ^ j.toNat)) (tC (.int 10)) (tC (.int 18)))) tNil)))
        (tCons (tOp (rI0 fun i j => .int (i + j)) (tOp (rI (fun _ j => 0 < j) fun i j => .int (i % j)) (tCB (fun xs H Q => (∃ i, xs = [V.int i] ∧ Q (.int i) H) ∨ ∃ k, xs = [V.bl k] ∧ Q (.int (if k then 1 else 0)) H) (tCons
          (tOp (rI0 fun i j => .int (i + j)) (tOp (rI0 fun i j => .int (i + j)) (tOp (rI CMul fun i j => .int (i * j)) (tOp (rI (fun _ j => 0 < j) fun i j => .int (i % j)) (tCB (fun xs H Q => (∃ i, xs = [V.int i] ∧ Q (.int i) H) ∨ ∃ k, xs = [V.bl k] ∧ Q (.int (if k then 1 else 0)) H) (tCons (tVar 2) tNil)) (tC (.int 2147483563))) (tC (.int 40361))) (tOp (rI CMul fun i j => .int (i * j)) (tC (.int 9103)) (tVar 1))) (tC (.int 71))) tNil)) (tC (.int 2147483497))) (tC (.int 1))) tNil))))
        { nx := fun _ H' => Q .non H', rt := Q } [some (.ref a), some (.int k), some (.int c)] H := by
      intro c
      refine ⟨_, rfl, _, _, rfl, rfl, ⟨by decide, by decide, by decide⟩, _, _, rfl, rfl, _, _, rfl, ?_⟩
      refine ⟨_, rfl, .inl ⟨_, rfl, _, _, rfl, rfl, (by show (0 : Int) < 2147483563; decide), _, _, rfl, rfl, .inr ⟨by decide, by decide⟩, ?_⟩⟩
      refine ⟨_, rfl, _, _, rfl, rfl, .inl ⟨by decide, by decide⟩, _, _, rfl, rfl, _, _, rfl, rfl, .inl ⟨_, rfl, _, _, rfl, rfl, (by show (0 : Int) < 2147483497; decide), _, _, rfl, rfl, (by show 2 ≤ sizeLine; decide), fun p hp => ?_⟩⟩
      refine q p _ _ ?_ hp
      by_cases h : c - 10 ^ (18 : Int).toNat > 0
      · rw [if_pos h]; omega
      · rw [if_neg h]; omega
    refine ⟨_, rfl, _, rfl, a, _, rfl, .inl hs, _, _, rfl, rfl, _, rfl, ?_⟩
    refine ite2 (fun c => ?_) (fun c => ?_)
    · have c' : k < ((ns.map V.int).length : Int) := of_decide_eq_true c
      rw [List.length_map] at c'
      obtain ⟨j, rfl⟩ : ∃ j : Nat, k = (j : Int) := ⟨k.toNat, by omega⟩
      have hj : j < ns.length := by omega
      refine ⟨_, rfl, _, rfl, a, _, _, _, rfl, rfl, hs, atI_nat (v := V.int ns[j]) (by rw [List.getElem?_map, List.getElem?_eq_getElem hj]; rfl), _, rfl, ?_⟩
      exact fin _
    · refine ⟨_, rfl, _, _, rfl, rfl, .inl ⟨by decide, by decide⟩, _, _, rfl, rfl, ?_⟩
      exact fin _

/-! ### _law_draw -/
def spDraw : Sp := fun vs H Q _ => ∃ (p : Addr) (m : Int), vs = [.ref p, .int m] ∧ Pot H p ∧ 0 < m ∧ Bd 8000 m ∧ ∀ r H', 0 ≤ r → r < m → Stp p H H' → Q (.int r) H'
theorem scDraw : FnScope ["_law_pot_here", "_law_many", "_law_digit"] ["_law_pot_here", "_law_many"] (defScope sDraw) := ⟨rfl, rfl, rfl, by decide +kernel, rfl, by decide +kernel, by decide +kernel⟩
theorem stp_set {p : Addr} {H : Hp} {a b : Int} (h : 0 ≤ a) {o : HO} {H1 : Hp} (k : ∀ q u, q ≠ p → H q = some u → H1 q = some u) : Stp p H (upd H1 p (.lst [.int a, .int b])) :=
  ⟨fun q u n e => by rw [upd_ne n]; exact k q u n e, ⟨a, b, upd_same, h⟩⟩
theorem ok_draw {f : Addr} {fd : FuncData} (F : FnP K "_law_draw" "_law_draw" sDraw [] f fd) (T : LT mg) : FnOk P w K mg base CX0 1 f fd ["_law_pot_here", "_law_many"] spDraw := by
  refine F.ok scDraw (fun vs H Q E h => ?_) (fun cdv A outer s H vs Q E hr h => ?_)
  · obtain ⟨p, m, rfl, _⟩ := h
    rfl
  · obtain ⟨p, m, rfl, ⟨a, b, hp, h0⟩, hm, bm, q⟩ := h
    have ix0 : ∀ x y : Int, atI [V.int x, V.int y] 0 = some (.int x) := fun x y => rfl
    have ix1 : ∀ x y : Int, atI [V.int x, V.int y] 1 = some (.int y) := fun x y => rfl
    refine ⟨_, PSs.nox (pss_cons (ps_if (pt_cmpR op_gt (pe_ix ix_list (pv 0) pe_int (fun _ _ => rfl)) pe_int (nomark _))
        (pss_cons (ps_asg (pe_callB call_divmodW (by rfl) T.dm PyProof.Rows.boot_divmod (pa_cons (pe_ix ix_list (pv 0) pe_int (fun _ _ => rfl)) (pa_cons (pv 1) pa_nil)))
          (pg_tup (by rfl) (pgs_cons (pg_sub (pv 0) pe_int set_list) (pgs_cons (pg_name (i := 2) scDraw.nd rfl (.inl rfl)) pgs_nil))))
        (pss_one (ps_ret (pv 2)))) pss_nil)
      (pss_cons (ps_asg (pe_op op_mod (pe_callTy call_int1 rfl T.int PyProof.Rows.boot_int (pa_cons (pe_op op_add (pe_op op_mul (pe_ix ix_list (pv 0) pe_int (fun _ _ => rfl)) pe_int) pe_int) pa_nil)) pe_int) (pg_sub (pv 0) pe_int set_list))
      (pss_one (ps_ret (pe_op op_mod (pe_callTy call_int1 rfl T.int PyProof.Rows.boot_int (pa_cons (pe_op op_fdiv (pe_op op_mod (pe_callTy call_int1 rfl T.int PyProof.Rows.boot_int (pa_cons (pe_op op_mul (pe_ix ix_list (pv 0) pe_int (fun _ _ => rfl)) (pe_ix ix_list (pv 0) pe_int (fun _ _ => rfl))) pa_nil)) pe_int) pe_int) pa_nil)) (pv 1)))))), ?_⟩
    refine ⟨_, rfl, p, _, _, _, rfl, rfl, SqL.of hp, ix0 _ _, _, _, rfl, rfl, _, rfl, ?_⟩
    refine ite2 (fun c => ?_) (fun c => ?_)
    · refine ⟨_, rfl, p, _, _, _, rfl, rfl, SqL.of hp, ix0 _ _, _, rfl, _, _, rfl, ⟨hm, PyProof.noPylong_of_log2 (Nat.lt_trans (bm.log2 (by decide)) (by decide))⟩, fun t ht => ?_⟩
      have ntp : p ≠ t := ne_of_none hp ht
      refine ⟨t, _, rfl, SqT.of upd_same, rfl, _, _, rfl, _, rfl, p, _, _, _, rfl, rfl, (by rw [upd_ne ntp]; exact hp), rfl, _, _, rfl, rfl, ?_⟩
      refine ⟨_, rfl, q _ _ (Int.emod_nonneg _ (by omega)) (Int.emod_lt_of_pos _ hm) ?_⟩
      exact stp_set (o := .lst []) (Int.ediv_nonneg h0 (by omega)) fun z u n e => by rw [upd_ne (ne_of_none e ht)]; exact e
    · refine ⟨_, rfl, p, _, _, _, rfl, rfl, SqL.of hp, ix1 _ _, _, _, rfl, rfl, .inr ⟨by decide, by decide⟩, _, _, rfl, rfl, .inl ⟨_, rfl, _, _, rfl, rfl, (by show (0 : Int) < 2147483549; decide), ?_⟩⟩
      refine ⟨_, rfl, p, _, _, _, rfl, rfl, hp, rfl, ?_⟩
      have e2 : 0 ≤ (b * 46021 + 15013) % 2147483549 := Int.emod_nonneg _ (by decide)
      have e3 : (b * 46021 + 15013) % 2147483549 < 2147483549 := Int.emod_lt_of_pos _ (by decide)
      refine ⟨_, rfl, p, _, _, _, rfl, rfl, SqL.of upd_same, ix1 _ _, _, rfl, p, _, _, _, rfl, rfl, SqL.of upd_same, ix1 _ _, _, _, rfl, rfl, .inl ⟨by omega, by omega⟩, .inl ⟨_, rfl, _, _, rfl, rfl, (by show (0 : Int) < 2147483477; decide), _, _, rfl, rfl, ⟨by decide, by decide⟩, .inl ⟨_, rfl, _, rfl, _, _, rfl, rfl, hm, ?_⟩⟩⟩
      refine q _ _ (Int.emod_nonneg _ (by omega)) (Int.emod_lt_of_pos _ hm) ?_
      exact stp_set (o := .lst []) h0 fun z u n e => e
end
end La
namespace La
open PySem PySem.Spec PyProof.Rows L2 Ow Pt Rm Ra
section
variable {P : Program} {w : World} {K : PySem.W.Frag} {mg : Str → Option Value} {base : Heap}
abbrev DDraw (P : Program) (w : World) (K : PySem.W.Frag) (mg : Str → Option Value) (base : Heap) : Prop := Dfn P w K mg base 1 "_law_draw" ["_law_pot_here", "_law_many"] spDraw

/-! ### _law_pick -/
def spPick : Sp := fun vs H Q _ => ∃ (p l : Addr) (xs : List V), vs = [.ref p, .ref l] ∧ Pot H p ∧ l ≠ p ∧ H l = some (.lst xs) ∧ 0 < xs.length ∧ xs.length ≤ 1000 ∧ ∀ (j : Nat) (x : V) (H' : Hp), xs[j]? = some x → Stp p H H' → Q x H'
theorem scPick : FnScope ["_law_pot_here", "_law_some"] ["_law_pot_here", "_law_some"] (defScope sPick) := ⟨rfl, rfl, rfl, by decide +kernel, rfl, by decide +kernel, by decide +kernel⟩
theorem bd_nat {n k : Nat} (h : n < 2 ^ k) : Bd k (n : Int) := by unfold Bd; rw [Int.natAbs_natCast]; exact h
theorem bd_small {x : Int} {k : Nat} (h0 : 0 ≤ x) (h : x < 2 ^ 60) (hk : 60 ≤ k) : Bd k x := by
  refine Bd.mono (j := 60) ?_ hk
  unfold Bd
  have : (2 : Int) ^ 60 = 1152921504606846976 := by decide
  have : (2 : Nat) ^ 60 = 1152921504606846976 := by decide
  omega
theorem lt60 {n : Nat} (h : n ≤ 1000) : (n : Int) < 2 ^ 60 := by
  have : (2 : Int) ^ 60 = 1152921504606846976 := by decide
  omega
theorem ok_pick {f : Addr} {fd : FuncData} (F : FnP K "_law_pick" "_law_pick" sPick [] f fd) (T : LT mg) (D : DDraw P w K mg base) : FnOk P w K mg base CX0 2 f fd ["_law_pot_here", "_law_some"] spPick := by
  refine F.ok scPick (fun vs H Q E h => ?_) (fun cdv A outer s H vs Q E hr h => ?_)
  · obtain ⟨p, l, xs, rfl, _⟩ := h
    rfl
  · obtain ⟨p, l, xs, rfl, hp, n, hl, h0, h1, q⟩ := h
    refine ⟨_, PSs.nox (pss_one (ps_ret (pe_ix ix_list (pv 1) (pe_use D hr rfl (pa_cons (pv 0) (pa_cons (pe_callB call_len_seq (by rfl) T.len PySem.boot_len (pa_cons (pv 1) pa_nil)) pa_nil))) (fun _ _ => rfl)))), ?_⟩
    refine ⟨_, rfl, _, rfl, _, rfl, l, _, rfl, .inl (SqL.of hl), p, _, rfl, hp, by omega, bd_small (by omega) (lt60 (by omega)) (by decide), fun r H' r0 r1 st => ?_⟩
    obtain ⟨j, rfl⟩ : ∃ j : Nat, r = (j : Int) := ⟨r.toNat, by omega⟩
    have hj : j < xs.length := by omega
    exact ⟨l, xs, _, _, rfl, rfl, SqL.of (st.keep l _ n hl), atI_nat (List.getElem?_eq_getElem hj), q j _ H' (List.getElem?_eq_getElem hj) st⟩

/-! ### _law_common -/
def spCommon : Sp := fun vs H Q _ => ∃ a b : Int, vs = [.int a, .int b] ∧ Q (.int (Int.gcd a b : Nat)) H
theorem scCommon : FnScope ["_law_one", "_law_two"] ["_law_one", "_law_two"] (defScope sCommon) := ⟨rfl, rfl, rfl, by decide +kernel, rfl, by decide +kernel, by decide +kernel⟩
theorem abs_eq (a : Int) : (if a < 0 then -a else a) = (a.natAbs : Int) := by
  by_cases h : a < 0
  · rw [if_pos h]; omega
  · rw [if_neg h]; omega
theorem ok_common {f : Addr} {fd : FuncData} (F : FnP K "_law_common" "_law_common" sCommon [] f fd) (T : LT mg) : FnOk P w K mg base CX0 1 f fd ["_law_one", "_law_two"] spCommon := by
  refine F.ok scCommon (fun vs H Q E h => ?_) (fun cdv A outer s H vs Q E hr h => ?_)
  · obtain ⟨a, b, rfl, _⟩ := h
    rfl
  · obtain ⟨a, b, rfl, q⟩ := h
    refine ⟨_, PSs.nox (pss_cons (ps_par (i := 0) (j := 1) rfl scCommon.nd rfl rfl (by decide) rfl rfl (pa_cons (pe_callB call_abs (by rfl) T.abs PyProof.Rows.boot_abs (pa_cons (pv 0) pa_nil)) (pa_cons (pe_callB call_abs (by rfl) T.abs PyProof.Rows.boot_abs (pa_cons (pv 1) pa_nil)) pa_nil)) rfl)
      (pss_cons (ps_while PassesOwn.never (pt_cmpR op_gt (pv 1) pe_int (nomark _)) (pss_one (ps_par (i := 0) (j := 1) rfl scCommon.nd rfl rfl (by decide) rfl rfl (pa_cons (pv 1) (pa_cons (pe_op op_mod (pe_callTy call_int1 rfl T.int PyProof.Rows.boot_int (pa_cons (pv 0) pa_nil)) (pv 1)) pa_nil)) rfl)))
      (pss_one (ps_ret (pv 0))))), ?_⟩
    refine ⟨_, rfl, a, rfl, _, rfl, b, rfl, _, _, rfl, ?_⟩
    refine while_by (fun σ H' => ∃ m n : Nat, σ = [some (.int m), some (.int n)] ∧ H' = H ∧ Nat.gcd m n = Int.gcd a b) (fun σ _ => match σ with | [_, some (.int n)] => n.toNat | _ => 0) ⟨a.natAbs, b.natAbs, ?_, rfl, rfl⟩ ?_ ?_
    · rw [abs_eq, abs_eq]; rfl
    · rintro σ H' ⟨m, n, rfl, rfl, hg⟩
      refine ⟨_, rfl, _, _, rfl, rfl, _, rfl, ?_⟩
      refine ite2 (fun c => ?_) (fun c => ?_)
      · have c' : 0 < (n : Int) := of_decide_eq_true c
        refine ⟨_, rfl, _, rfl, .inl ⟨_, rfl, _, rfl, _, _, rfl, rfl, c', _, _, rfl, ?_⟩⟩
        have hn : 0 < n := by omega
        refine ⟨⟨n, m % n, ?_, rfl, ?_⟩, ?_⟩
        · show [some (V.int (n : Int)), some (V.int ((m : Int) % (n : Int)))] = _
          rw [Int.natCast_emod]
        · rw [← hg, Nat.gcd_comm n (m % n), ← Nat.gcd_rec, Nat.gcd_comm]
        · show (((m : Int) % (n : Int)).toNat) < ((n : Int).toNat)
          have h1 := Int.emod_lt_of_pos (m : Int) c'
          have h2 := Int.emod_nonneg (m : Int) (show (n : Int) ≠ 0 by omega)
          omega
      · have c' : ¬ 0 < (n : Int) := fun z => c (decide_eq_true z)
        have hn : n = 0 := by omega
        subst hn
        rw [Nat.gcd_zero_right] at hg
        refine ⟨_, rfl, ?_⟩
        rw [hg]
        exact q
    · intro σ H' Q1 Q2 hq h
      obtain ⟨v, hv, i, j, hi, hj, k, hk, q1⟩ := h
      exact ⟨v, hv, i, j, hi, hj, k, hk, hq _ _ q1⟩

/-! ### pairs -/
def PairAt (H : Hp) (p : Addr) (a : Int × Int) : Prop := H p = some (.tup [.int a.1, .int a.2])
theorem PairAt.same {H H' : Hp} {p : Addr} {a : Int × Int} (h : PairAt H p a) (s : Same H H') : PairAt H' p a := s _ _ h
def spLow : Sp := fun vs H Q _ => ∃ u l : Int, vs = [.int u, .int l] ∧ l ≠ 0 ∧ Bd 8000 l ∧ ∀ p H', PairAt H' p (low u l) → Same H H' → H p = none → Q (.ref p) H'
theorem scLow : FnScope ["_law_up", "_law_low_here", "_law_by"] ["_law_up", "_law_low_here"] (defScope sLow) := ⟨rfl, rfl, rfl, by decide +kernel, rfl, by decide +kernel, by decide +kernel⟩
theorem ok_low {f : Addr} {fd : FuncData} (F : FnP K "_law_low" "_law_low" sLow [] f fd) (D : Dfn P w K mg base 1 "_law_common" ["_law_one", "_law_two"] spCommon) : FnOk P w K mg base CX0 2 f fd ["_law_up", "_law_low_here"] spLow := by
  refine F.ok scLow (fun vs H Q E h => ?_) (fun cdv A outer s H vs Q E hr h => ?_)
  · obtain ⟨u, l, rfl, _⟩ := h
    rfl
  · obtain ⟨u, l, rfl, hl, hb, q⟩ := h
    refine ⟨_, PSs.nox (pss_cons (ps_set (i := 2) scLow.nd rfl (Or.inl rfl) (pe_op op_mul (pe_use D hr rfl (pa_cons (pv 0) (pa_cons (pv 1) pa_nil))) (pe_ifExp (pt_cmpR op_gt (pv 1) pe_int (nomark _)) pe_int (pe_un un_neg pe_int))))
      (pss_one (ps_ret (pe_tup (pa_cons (pe_op op_fdivZ (pv 0) (pv 2)) (pa_cons (pe_op op_fdivZ (pv 1) (pv 2)) pa_nil)))))), ?_⟩
    have fin : ∀ g : Int, g = byv u l → tRet (tTup (tCons (tOp (rI CDivZ fun i j => .int (i.fdiv j)) (tVar 0) (tVar 2)) (tCons (tOp (rI CDivZ fun i j => .int (i.fdiv j)) (tVar 1) (tVar 2)) tNil)))
        { nx := fun _ H' => Q .non H', rt := Q } [some (.int u), some (.int l), some (.int g)] H := by
      rintro g rfl
      refine ⟨_, rfl, _, rfl, _, _, rfl, rfl, cdivZ' hl hb (by decide) (by decide), _, rfl, _, rfl, _, _, rfl, rfl, cdivZ' hl hb (by decide) (by decide), (by show 2 ≤ sizeLine; decide), fun p hp => ?_⟩
      exact q p _ upd_same (same_upd hp) hp
    refine ⟨_, rfl, _, rfl, u, l, rfl, ?_⟩
    refine ⟨_, rfl, _, _, rfl, rfl, _, rfl, ?_⟩
    refine ite2 (fun c => ?_) (fun c => ?_)
    · have c' : 0 < l := of_decide_eq_true c
      refine ⟨_, _, rfl, rfl, .inr ⟨by decide, by decide⟩, fin _ ?_⟩
      unfold byv sg
      rw [if_pos c']
    · have c' : ¬ 0 < l := fun z => c (decide_eq_true z)
      refine ⟨_, rfl, _, _, rfl, rfl, .inr ⟨by decide, by decide⟩, fin _ ?_⟩
      unfold byv sg
      rw [if_neg c']
end
end La
namespace La
open PySem PySem.Spec PyProof.Rows L2 Ow Pt Rm Ra
/-- a pair of the law: in lowest terms, not too great -/
structure Pr (H : Hp) (p : Addr) (a : Int × Int) : Prop where
  at_ : PairAt H p a
  lw : Lw a.1 a.2
  b1 : Bd 2500 a.1
  b2 : Bd 2500 a.2
theorem Pr.same {H H' : Hp} {p : Addr} {a : Int × Int} (h : Pr H p a) (s : Same H H') : Pr H' p a := ⟨h.at_.same s, h.lw, h.b1, h.b2⟩
theorem PairAt.st {H H' : Hp} {p q : Addr} {a : Int × Int} (h : PairAt H p a) (hp : Pot H q) (s : Stp q H H') : PairAt H' p a := by
  obtain ⟨x, y, e, _⟩ := hp
  exact s.keep p _ (fun z => by rw [z] at h; exact nomatch (Option.some.inj (h.symm.trans e))) h
theorem Pr.st {H H' : Hp} {p q : Addr} {a : Int × Int} (h : Pr H p a) (hp : Pot H q) (s : Stp q H H') : Pr H' p a := ⟨h.at_.st hp s, h.lw, h.b1, h.b2⟩
theorem RatAt.st {C : Addr} {H H' : Hp} {p q : Addr} {n d : Int} (h : RatAt C H p n d) (hp : Pot H q) (s : Stp q H H') : RatAt C H' p n d := by
  obtain ⟨x, y, e, _⟩ := hp
  obtain ⟨dx, h⟩ := h
  exact ⟨dx, s.keep p _ (fun z => by rw [z] at h; exact nomatch (Option.some.inj (h.symm.trans e))) h⟩
theorem NumAt.st {C : Addr} {H H' : Hp} {v : V} {q : Addr} {n d : Int} (h : NumAt C H v n d) (hp : Pot H q) (s : Stp q H H') : NumAt C H' v n d := by
  rcases h with ⟨p, e, r⟩ | ⟨e, r⟩
  · exact .inl ⟨p, e, RatAt.st r hp s⟩
  · exact .inr ⟨e, r⟩

section
variable {P : Program} {w : World} {K : PySem.W.Frag} {mg : Str → Option Value} {base : Heap}
abbrev DLow (P : Program) (w : World) (K : PySem.W.Frag) (mg : Str → Option Value) (base : Heap) : Prop := Dfn P w K mg base 2 "_law_low" ["_law_up", "_law_low_here"] spLow
abbrev DPick (P : Program) (w : World) (K : PySem.W.Frag) (mg : Str → Option Value) (base : Heap) : Prop := Dfn P w K mg base 2 "_law_pick" ["_law_pot_here", "_law_some"] spPick

def spP2 (op : Int × Int → Int × Int → Int × Int) : Sp := fun vs H Q _ => ∃ (p q : Addr) (a b : Int × Int), vs = [.ref p, .ref q] ∧ Pr H p a ∧ Pr H q b ∧ ∀ r H', PairAt H' r (op a b) → Same H H' → H r = none → Q (.ref r) H'
theorem ix2_0 (a : Int × Int) : atI [V.int a.1, V.int a.2] 0 = some (.int a.1) := rfl
theorem ix2_1 (a : Int × Int) : atI [V.int a.1, V.int a.2] 1 = some (.int a.2) := rfl
theorem scPlus : FnScope ["_law_a", "_law_b"] ["_law_a", "_law_b"] (defScope sPlus) := ⟨rfl, rfl, rfl, by decide +kernel, rfl, by decide +kernel, by decide +kernel⟩
theorem ok_plus {f : Addr} {fd : FuncData} (F : FnP K "_law_plus" "_law_plus" sPlus [] f fd) (D : DLow P w K mg base) : FnOk P w K mg base CX0 3 f fd ["_law_a", "_law_b"] (spP2 plus) := by
  refine F.ok scPlus (fun vs H Q E h => ?_) (fun cdv A outer s H vs Q E hr h => ?_)
  · obtain ⟨p, q, a, b, rfl, _⟩ := h
    rfl
  · obtain ⟨p, q, a, b, rfl, ha, hb, k⟩ := h
    refine ⟨_, PSs.nox (pss_one (ps_ret (pe_use D hr rfl (pa_cons (pe_op op_add (pe_op op_mulW (pe_ix ix_tup (pv 0) pe_int (fun _ _ => rfl)) (pe_ix ix_tup (pv 1) pe_int (fun _ _ => rfl))) (pe_op op_mulW (pe_ix ix_tup (pv 1) pe_int (fun _ _ => rfl)) (pe_ix ix_tup (pv 0) pe_int (fun _ _ => rfl))))
      (pa_cons (pe_op op_mulW (pe_ix ix_tup (pv 0) pe_int (fun _ _ => rfl)) (pe_ix ix_tup (pv 1) pe_int (fun _ _ => rfl))) pa_nil))))), ?_⟩
    have sa : SqT K H p [.int a.1, .int a.2] := SqT.of ha.at_
    have sb : SqT K H q [.int b.1, .int b.2] := SqT.of hb.at_
    refine ⟨_, rfl, p, _, _, _, rfl, rfl, sa, ix2_0 a, _, rfl, q, _, _, _, rfl, rfl, sb, ix2_1 b, _, _, rfl, rfl, cmul ha.b1 hb.b2, _, rfl, q, _, _, _, rfl, rfl, sb, ix2_0 b, _, rfl, p, _, _, _, rfl, rfl, sa, ix2_1 a, _, _, rfl, rfl, cmul hb.b1 ha.b2, _, _, rfl, rfl,
      _, rfl, p, _, _, _, rfl, rfl, sa, ix2_1 a, _, rfl, q, _, _, _, rfl, rfl, sb, ix2_1 b, _, _, rfl, rfl, cmul ha.b2 hb.b2, _, _, rfl, mul_ne ha.lw.pos hb.lw.pos, (ha.b2.mul hb.b2).mono (by decide), k⟩
theorem scMinus : FnScope ["_law_a", "_law_b"] ["_law_a", "_law_b"] (defScope sMinus) := ⟨rfl, rfl, rfl, by decide +kernel, rfl, by decide +kernel, by decide +kernel⟩
theorem ok_minus {f : Addr} {fd : FuncData} (F : FnP K "_law_minus" "_law_minus" sMinus [] f fd) (D : DLow P w K mg base) : FnOk P w K mg base CX0 3 f fd ["_law_a", "_law_b"] (spP2 minus) := by
  refine F.ok scMinus (fun vs H Q E h => ?_) (fun cdv A outer s H vs Q E hr h => ?_)
  · obtain ⟨p, q, a, b, rfl, _⟩ := h
    rfl
  · obtain ⟨p, q, a, b, rfl, ha, hb, k⟩ := h
    refine ⟨_, PSs.nox (pss_one (ps_ret (pe_use D hr rfl (pa_cons (pe_op op_sub (pe_op op_mulW (pe_ix ix_tup (pv 0) pe_int (fun _ _ => rfl)) (pe_ix ix_tup (pv 1) pe_int (fun _ _ => rfl))) (pe_op op_mulW (pe_ix ix_tup (pv 1) pe_int (fun _ _ => rfl)) (pe_ix ix_tup (pv 0) pe_int (fun _ _ => rfl))))
      (pa_cons (pe_op op_mulW (pe_ix ix_tup (pv 0) pe_int (fun _ _ => rfl)) (pe_ix ix_tup (pv 1) pe_int (fun _ _ => rfl))) pa_nil))))), ?_⟩
    have sa : SqT K H p [.int a.1, .int a.2] := SqT.of ha.at_
    have sb : SqT K H q [.int b.1, .int b.2] := SqT.of hb.at_
    refine ⟨_, rfl, p, _, _, _, rfl, rfl, sa, ix2_0 a, _, rfl, q, _, _, _, rfl, rfl, sb, ix2_1 b, _, _, rfl, rfl, cmul ha.b1 hb.b2, _, rfl, q, _, _, _, rfl, rfl, sb, ix2_0 b, _, rfl, p, _, _, _, rfl, rfl, sa, ix2_1 a, _, _, rfl, rfl, cmul hb.b1 ha.b2, _, _, rfl, rfl,
      _, rfl, p, _, _, _, rfl, rfl, sa, ix2_1 a, _, rfl, q, _, _, _, rfl, rfl, sb, ix2_1 b, _, _, rfl, rfl, cmul ha.b2 hb.b2, _, _, rfl, mul_ne ha.lw.pos hb.lw.pos, (ha.b2.mul hb.b2).mono (by decide), k⟩
theorem scTimes : FnScope ["_law_a", "_law_b"] ["_law_a", "_law_b"] (defScope sTimes) := ⟨rfl, rfl, rfl, by decide +kernel, rfl, by decide +kernel, by decide +kernel⟩
theorem ok_times {f : Addr} {fd : FuncData} (F : FnP K "_law_times" "_law_times" sTimes [] f fd) (D : DLow P w K mg base) : FnOk P w K mg base CX0 3 f fd ["_law_a", "_law_b"] (spP2 times) := by
  refine F.ok scTimes (fun vs H Q E h => ?_) (fun cdv A outer s H vs Q E hr h => ?_)
  · obtain ⟨p, q, a, b, rfl, _⟩ := h
    rfl
  · obtain ⟨p, q, a, b, rfl, ha, hb, k⟩ := h
    refine ⟨_, PSs.nox (pss_one (ps_ret (pe_use D hr rfl (pa_cons (pe_op op_mulW (pe_ix ix_tup (pv 0) pe_int (fun _ _ => rfl)) (pe_ix ix_tup (pv 1) pe_int (fun _ _ => rfl)))
      (pa_cons (pe_op op_mulW (pe_ix ix_tup (pv 0) pe_int (fun _ _ => rfl)) (pe_ix ix_tup (pv 1) pe_int (fun _ _ => rfl))) pa_nil))))), ?_⟩
    have sa : SqT K H p [.int a.1, .int a.2] := SqT.of ha.at_
    have sb : SqT K H q [.int b.1, .int b.2] := SqT.of hb.at_
    refine ⟨_, rfl, p, _, _, _, rfl, rfl, sa, ix2_0 a, _, rfl, q, _, _, _, rfl, rfl, sb, ix2_0 b, _, _, rfl, rfl, cmul ha.b1 hb.b1,
      _, rfl, p, _, _, _, rfl, rfl, sa, ix2_1 a, _, rfl, q, _, _, _, rfl, rfl, sb, ix2_1 b, _, _, rfl, rfl, cmul ha.b2 hb.b2, _, _, rfl, mul_ne ha.lw.pos hb.lw.pos, (ha.b2.mul hb.b2).mono (by decide), k⟩

theorem stp_new {p q : Addr} {H : Hp} {o : HO} (h : Pot H p) (hq : H q = none) : Stp p H (upd H q o) := Stp.of (same_upd hq) h
theorem pot_ne {p q : Addr} {H : Hp} (h : Pot H p) (hq : H q = none) : q ≠ p := by
  obtain ⟨a, b, e, _⟩ := h
  exact (ne_of_none e hq).symm
theorem e60 : (2 : Int) ^ 60 = 1152921504606846976 := by decide
end
end La
/-! Checks of points and steps. -/
namespace Tb
open PySem PySem.Spec PyProof.Rows L2 Ow Pt Rm Ra
/-- the built-in names -/
structure Blt (mg : Str → Option Value) : Prop where
  len : mg "len" = none
  list : mg "list" = none
  tuple : mg "tuple" = none
  str : mg "str" = none
  int : mg "int" = none
  bool : mg "bool" = none
  isi : mg "isinstance" = none
  all : mg "all" = none
  any : mg "any" = none
  enum : mg "enumerate" = none
  range : mg "range" = none
  min : mg "min" = none
  max : mg "max" = none
  abs : mg "abs" = none
  dm : mg "divmod" = none
  repr : mg "repr" = none
  zip : mg "zip" = none
theorem tYes_at {σ : L2.St} {H : Hp} {A B : Hp → Prop} (h : A H) : tYes σ H fun b H3 => if b = true then A H3 else B H3 := by
  show (if true = true then A H else B H)
  rw [if_pos rfl]
  exact h
abbrev Nms (C : Addr) (H : Hp) (xs : List V) (ps : List Fr2) : Prop := Par (fun x p => Nm C H x p.1 p.2) xs ps
theorem Nms.same {C : Addr} {H H' : Hp} {xs : List V} {ps : List Fr2} (h : Nms C H xs ps) (s : Same H H') : Nms C H' xs ps := Par.imp h fun _ _ k => k.same s
theorem Nms.lws {C : Addr} {H : Hp} {xs : List V} {ps : List Fr2} (h : Nms C H xs ps) : Lws ps := fun p hp => by
  obtain ⟨i, e⟩ := List.mem_iff_getElem?.mp hp
  obtain ⟨x, _, n⟩ := h.getR e
  exact n.lw
section
variable {P : Program} {w : World} {K : PySem.W.Frag} {mg : Str → Option Value} {base : Heap}
/-- a number is one -/
theorem nm_kd {C : Addr} (T : RT K mg C) {H : Hp} {v : V} {n d : Int} (h : Nm C H v n d) : ∃ k, Kd K C H v k ∧ isN k = true := by
  rcases h.at_ with ⟨p, rfl, dx, e⟩ | ⟨rfl, _⟩
  · exact ⟨.rat, .base (.ins e T.cl T.ca T.cg T.ct T.cm), rfl⟩
  · exact ⟨.int n, rfl, rfl⟩
/-! ### is_place -/
abbrev n_is_place : List Str := ["value"]
theorem sc_is_place : FnScope n_is_place ["value"] (defScope d_is_place) := ⟨rfl, rfl, rfl, by decide +kernel, rfl, by decide +kernel, by decide +kernel⟩
def spPlace (K : PySem.W.Frag) : Sp := fun vs H Q _ => ∃ n : Int, vs = [.int n] ∧ 1 ≤ n ∧ n ≤ 5 ∧ Q (.bl true) H
theorem ok_is_place {f : Addr} {fd : FuncData} (F : FnP K "is_place" "is_place" d_is_place [] f fd) (hPl : ∃ t, mg "PLACES" = some (.int 5 t)) (dI : DInt P w K mg base) : FnOk P w K mg base CX0 2 f fd ["value"] (spPlace K) := by
  obtain ⟨tPl, hPl⟩ := hPl
  refine F.ok sc_is_place (fun vs H Q E h => ?_) (fun cdv A outer s H vs Q E hr h => ?_)
  · obtain ⟨n, rfl, _⟩ := h
    rfl
  · obtain ⟨n, rfl, h1, h5, q⟩ := h
    refine ⟨_, PSs.nox (pss_one (ps_ret (pe_and (pe_use dI hr rfl (pa_cons (pv 0) pa_nil)) (pe_one (pe_chain op_le op_le pe_int (pv 0) (pe_glob (v := .int 5) rfl hPl ⟨tPl, rfl⟩)))))), ?_⟩
    refine ⟨_, rfl, .int n, _, true, false, rfl, .base (.int n), kII, kIB, true, rfl, ?_⟩
    refine iteT ?_
    refine ⟨_, rfl, _, _, rfl, rfl, _, rfl, ?_⟩
    rw [decide_eq_true h1]
    refine iteT ?_
    refine ⟨_, _, rfl, rfl, ?_⟩
    show Q (.bl (decide (n ≤ 5))) H
    rw [decide_eq_true h5]
    exact q
/-! ### check_many -/
def spMany (K : PySem.W.Frag) : Sp := fun vs H Q _ => ∃ (t : Addr) (xs : List V), vs = [.ref t] ∧ SqT K H t xs ∧ 1 ≤ xs.length ∧ xs.length ≤ 5 ∧ Q .non H
abbrev n_check_many : List Str := ["numbers"]
theorem sc_check_many : FnScope n_check_many ["numbers"] (defScope d_check_many) := ⟨rfl, rfl, rfl, by decide +kernel, rfl, by decide +kernel, by decide +kernel⟩
theorem ok_check_many {f : Addr} {fd : FuncData} (F : FnP K "check_many" "check_many" d_check_many [] f fd) (B : Blt mg) (hPl : ∃ t, mg "PLACES" = some (.int 5 t)) : FnOk P w K mg base CX0 1 f fd ["numbers"] (spMany K) := by
  obtain ⟨tPl, hPl⟩ := hPl
  refine F.ok sc_check_many (fun vs H Q E h => ?_) (fun cdv A outer s H vs Q E hr h => ?_)
  · obtain ⟨t, xs, rfl, _⟩ := h
    rfl
  · obtain ⟨t, xs, rfl, ht, h1, h5, q⟩ := h
    refine ⟨_, PSs.nox (pss_one (ps_if (pt_not (pt_chain op_le op_le pe_int (pe_callB (r := rLenS K) call_len_seq (by rfl) B.len PySem.boot_len (pa_cons (pv 0) pa_nil)) (pe_glob (v := .int 5) rfl hPl ⟨tPl, rfl⟩))) pss_never pss_nil)), ?_⟩
    refine ⟨_, rfl, t, xs, rfl, .inr ht, _, _, rfl, rfl, _, rfl, ?_⟩
    rw [decide_eq_true (show (1 : Int) ≤ (xs.length : Int) by omega)]
    refine iteT ?_
    refine ⟨_, _, rfl, rfl, _, rfl, ?_⟩
    rw [decide_eq_true (show (xs.length : Int) ≤ 5 by omega)]
    exact iteF q
/-! ### check_points -/
def spCheck (K : PySem.W.Frag) (C : Addr) : Sp := fun vs H Q _ => ∃ (t : Addr) (xs : List V) (ps : List Fr2), vs = [.ref t] ∧ SqT K H t xs ∧ Nms C H xs ps ∧ Desc' ps ∧ ∀ H', Same H H' → Q .non H'
abbrev n_check_points : List Str := ["points", "position", "point"]
theorem sc_check_points : FnScope n_check_points ["points"] (defScope d_check_points) := ⟨rfl, rfl, rfl, by decide +kernel, rfl, by decide +kernel, by decide +kernel⟩
theorem below_no (n d : Int) : (rf n d).lookup ("is_below" : Str) = none := rf_no n d (by decide +kernel) (by decide +kernel)
theorem ok_check_points {f C : Addr} {fd : FuncData} (F : FnP K "check_points" "check_points" d_check_points [] f fd) (B : Blt mg) (T : RT K mg C) (dMa : Dfn P w K mg base 1 "check_many" ["numbers"] (spMany K))
    (dNu : Dfn P w K mg base 2 "is_number" ["value"] (spKnd K C isN)) (dAs : DAs P w K mg base C) (pS : PS_ P w K mg base C) (mB : Mtd P w K mg base 7 C "is_below" ["self", "other"] (spBelow C)) :
    FnOk P w K mg base CX0 8 f fd ["points"] (spCheck K C) := by
  refine F.ok sc_check_points (fun vs H Q E h => ?_) (fun cdv A outer s H vs Q E hr h => ?_)
  · obtain ⟨t, xs, ps, rfl, _⟩ := h
    rfl
  · obtain ⟨t, xs, ps, rfl, ht, hn, hd, q⟩ := h
    have hr1 := hr.mono (by decide : 1 ≤ 7)
    have hr2 := hr.mono (by decide : 2 ≤ 7)
    have hr4 := hr.mono (by decide : 4 ≤ 7)
    refine ⟨_, PSs.nox (pss_cons (ps_expr (pe_use dMa hr1 rfl (pa_cons (pv 0) pa_nil)))
      (pss_one (ps_for PassesOwn.never rfl (pi_enumT rfl B.enum (pa_cons (pv 0) pa_nil)) (pg_tup (by rfl) (pgs_cons (pg_name (i := 1) sc_check_points.nd rfl (.inl rfl)) (pgs_cons (pg_name (i := 2) sc_check_points.nd rfl (.inl rfl)) pgs_nil)))
      (pss_cons (ps_if (PW.pt (pw_or (pt_not (pt_val (pe_use dNu hr2 rfl (pa_cons (pv 2) pa_nil)))) (pw_or1 (pt_cmpR op_lt (pe_prp pS (pe_use dAs hr4 rfl (pa_cons (pv 2) pa_nil)) T.cl hr2 rfl) pe_int (nomark _))))) pss_never pss_nil)
      (pss_cons (ps_if (PW.pt (pw_and (pt_cmpR op_eq (pv 1) pe_int (nomark _)) (pw_and1 (pt_cmpR op_eq (pe_prp pS (pe_use dAs hr4 rfl (pa_cons (pv 2) pa_nil)) T.cl hr2 rfl) pe_int (nomark _))))) pss_never pss_nil)
      (pss_one (ps_if (PW.pt (pw_and (pt_cmpR op_gt (pv 1) pe_int (nomark _)) (pw_and1 (pt_val (pe_mt T.cl mB hr (pe_use dAs hr4 rfl (pa_cons (pe_ix ix_tup (pv 0) (pe_op op_sub (pv 1) pe_int) (fun _ _ => rfl)) pa_nil)) (pa_cons (pv 2) pa_nil)))))) pss_never pss_nil))))))), ?_⟩
    have hl := hn.1
    refine ⟨_, rfl, t, _, rfl, ht, by rw [hl]; exact hd.one, by rw [hl]; exact hd.five, ?_⟩
    refine ⟨_, rfl, t, _, rfl, ht, ?_⟩
    refine for_it walk_enumT (fun i σ H' => ∃ v1 v2 : Option V, σ = [some (.ref t), v1, v2] ∧ Same H H') ⟨_, _, rfl, Same.refl _⟩ (fun i σ H' _ h => by obtain ⟨_, _, _, s1⟩ := h; exact same_sqt s1 ht) ?_ ?_
    · rintro i x σ H1 H2 hi ⟨v1, v2, rfl, s1⟩ ⟨T1, a, b, rfl, hT, rfl, ha, hb⟩
      have s2 : Same H (upd H1 T1 (.tup [a, b])) := s1.trans (same_upd hT)
      cases ha
      replace hb : xs[i]? = some b := hb
      obtain ⟨p, hp, nb⟩ := hn.getL hb
      have nb2 := nb.same s2
      have p0 := hd.pos i p hp
      have sg0 : ¬ (p.1.sign < 0) := fun z => by
        have := Int.sign_neg_iff.mp z
        omega
      obtain ⟨k, hk, ek⟩ := nm_kd T nb2
      refine ⟨T1, _, rfl, SqT.of upd_same, rfl, _, _, rfl, _, _, rfl, rfl, ?_⟩
      refine ⟨_, rfl, b, k, rfl, hk, fun H3 s3 => ⟨_, rfl, ?_⟩⟩
      rw [ek]
      refine iteF ?_
      refine ⟨_, rfl, b, p.1, p.2, rfl, (nb2.same s3).at_, fun r H4 hr4' s4 => ?_⟩
      obtain ⟨dx, h4⟩ := id hr4'
      refine ⟨r, dx, _, rfl, h4, r, _, _, rfl, hr4', _, _, rfl, rfl, _, rfl, ?_⟩
      rw [decide_eq_false sg0]
      refine iteF ?_
      refine ⟨_, rfl, rfl, _, rfl, ?_⟩
      have s24 := (s2.trans s3).trans s4
      rcases i with _ | i
      · refine iteT ?_
        refine ⟨_, rfl, b, p.1, p.2, rfl, (nb.same s24).at_, fun r5 H5 hr5 s5 => ?_⟩
        obtain ⟨dx5, h5⟩ := id hr5
        refine ⟨r5, dx5, _, rfl, h5, r5, _, _, rfl, hr5, rfl, _, rfl, ?_⟩
        rw [decide_eq_false (fun z => hd.first _ hp (Int.sign_eq_zero_iff_zero.mp (V.int.inj z)))]
        refine iteF ?_
        refine ⟨_, rfl, _, _, rfl, rfl, _, rfl, ?_⟩
        refine iteF ?_
        refine iteF ?_
        exact ⟨_, _, rfl, s24.trans s5⟩
      · rw [decide_eq_false (fun z => by have := V.int.inj z; omega)]
        refine iteF ?_
        refine iteF ?_
        refine ⟨_, rfl, _, _, rfl, rfl, _, rfl, ?_⟩
        rw [decide_eq_true (show (0 : Int) < ((i + 1 : Nat) : Int) by omega)]
        refine iteT ?_
        have hin : i < xs.length := by omega
        have hx' := List.getElem?_eq_getElem hin
        obtain ⟨p', hp', nb'⟩ := hn.getL hx'
        have hat : atI xs (((i + 1 : Nat) : Int) - 1) = some xs[i] := by
          rw [show ((i + 1 : Nat) : Int) - 1 = ((i : Nat) : Int) by omega]
          exact atI_nat hx'
        refine ⟨_, rfl, _, rfl, _, _, rfl, rfl, t, _, _, xs[i], rfl, rfl, same_sqt s24 ht, hat, xs[i], p'.1, p'.2, rfl, (nb'.same s24).at_, fun r5 H5 hr5 s5 => ?_⟩
        obtain ⟨dx5, h5⟩ := id hr5
        refine ⟨r5, dx5, _, rfl, h5, below_no _ _, _, rfl, r5, b, p'.1, p'.2, p.1, p.2, rfl, nm_rat nb' hr5, nb.same (s24.trans s5), fun H6 s6 => ⟨_, rfl, ?_⟩⟩
        have hdn := hd.down i _ _ hp' hp
        rw [minus_sign (a := p') (b := p) nb'.lw nb.lw, decide_eq_false hdn]
        refine iteF ?_
        exact ⟨_, _, rfl, (s24.trans s5).trans s6⟩
    · rintro σ H1 ⟨v1, v2, rfl, s1⟩
      exact q _ s1
end
end Tb
/-! Steps checked; the making of a table. -/
namespace Tb
open PySem PySem.Spec PyProof.Rows L2 Ow Pt Rm Ra
section
variable {P : Program} {w : World} {K : PySem.W.Frag} {mg : Str → Option Value} {base : Heap}
/-! ### check_steps -/
def spSteps (K : PySem.W.Frag) (C : Addr) : Sp := fun vs H Q _ => ∃ (t : Addr) (xs : List V) (ps : List Fr2), vs = [.ref t] ∧ SqT K H t xs ∧ Nms C H xs ps ∧ 1 ≤ ps.length ∧ ps.length ≤ 5 ∧ Nng ps ∧ (∃ s ∈ ps, s.1 ≠ 0) ∧ ∀ H', Same H H' → Q .non H'
abbrev n_check_steps : List Str := ["steps", "position", "step"]
theorem sc_check_steps : FnScope n_check_steps ["steps"] (defScope d_check_steps) := ⟨rfl, rfl, rfl, by decide +kernel, rfl, by decide +kernel, by decide +kernel⟩
theorem ok_check_steps {f C : Addr} {fd : FuncData} (F : FnP K "check_steps" "check_steps" d_check_steps [] f fd) (B : Blt mg) (T : RT K mg C) (dMa : Dfn P w K mg base 1 "check_many" ["numbers"] (spMany K))
    (dNu : Dfn P w K mg base 2 "is_number" ["value"] (spKnd K C isN)) (dAs : DAs P w K mg base C) (pS : PS_ P w K mg base C) : FnOk P w K mg base CX0 8 f fd ["steps"] (spSteps K C) := by
  refine F.ok sc_check_steps (fun vs H Q E h => ?_) (fun cdv A outer s H vs Q E hr h => ?_)
  · obtain ⟨t, xs, ps, rfl, _⟩ := h
    rfl
  · obtain ⟨t, xs, ps, rfl, ht, hn, h1, h5, nn, hex, q⟩ := h
    have hr1 := hr.mono (by decide : 1 ≤ 7)
    have hr2 := hr.mono (by decide : 2 ≤ 7)
    have hr4 := hr.mono (by decide : 4 ≤ 7)
    refine ⟨_, PSs.nox (pss_cons (ps_expr (pe_use dMa hr1 rfl (pa_cons (pv 0) pa_nil)))
      (pss_cons (ps_for PassesOwn.never rfl (pi_enumT rfl B.enum (pa_cons (pv 0) pa_nil)) (pg_tup (by rfl) (pgs_cons (pg_name (i := 1) sc_check_steps.nd rfl (.inl rfl)) (pgs_cons (pg_name (i := 2) sc_check_steps.nd rfl (.inl rfl)) pgs_nil)))
      (pss_one (ps_if (PW.pt (pw_or (pt_not (pt_val (pe_use dNu hr2 rfl (pa_cons (pv 2) pa_nil)))) (pw_or1 (pt_cmpR op_lt (pe_prp pS (pe_use dAs hr4 rfl (pa_cons (pv 2) pa_nil)) T.cl hr2 rfl) pe_int (nomark _))))) pss_never pss_nil)))
      (pss_one (ps_if (pt_val (pe_callB (cr_all rfl) (by rfl) B.all PyProof.Rows.boot_all (pa_cons (pe_lc rfl sc_check_steps.nd (pi_tup (pv 0)) (blkOk_by (own := [("step", 2)]) (by show blkC n_check_steps (defScope d_check_steps) _ _ = true; decide +kernel)) (fun _ _ _ _ _ => pg_name (i := 2) sc_check_steps.nd rfl (.inl rfl)) (fun _ _ _ _ _ => pts_nil) (fun _ _ _ _ _ => (pe_cmpR op_eq (pe_prp pS (pe_use dAs hr4 rfl (pa_cons (pv 2) pa_nil)) T.cl hr2 rfl) pe_int (nomark _)))) pa_nil))) pss_never pss_nil)))), ?_⟩
    have hl := hn.1
    refine ⟨_, rfl, t, _, rfl, ht, by rw [hl]; exact h1, by rw [hl]; exact h5, ?_⟩
    refine ⟨_, rfl, t, _, rfl, ht, ?_⟩
    refine for_it walk_enumT (fun i σ H' => ∃ v1 v2 : Option V, σ = [some (.ref t), v1, v2] ∧ Same H H') ⟨_, _, rfl, Same.refl _⟩ (fun i σ H' _ h => by obtain ⟨_, _, _, s1⟩ := h; exact same_sqt s1 ht) ?_ ?_
    · rintro i x σ H1 H2 hi ⟨v1, v2, rfl, s1⟩ ⟨T1, a, b, rfl, hT, rfl, ha, hb⟩
      have s2 : Same H (upd H1 T1 (.tup [a, b])) := s1.trans (same_upd hT)
      cases ha
      replace hb : xs[i]? = some b := hb
      obtain ⟨p, hp, nb⟩ := hn.getL hb
      have nb2 := nb.same s2
      have p0 := nn p (List.mem_of_getElem? hp)
      have sg0 : ¬ (p.1.sign < 0) := fun z => by
        have := Int.sign_neg_iff.mp z
        omega
      obtain ⟨k, hk, ek⟩ := nm_kd T nb2
      refine ⟨T1, _, rfl, SqT.of upd_same, rfl, _, _, rfl, _, _, rfl, rfl, ?_⟩
      refine ⟨_, rfl, b, k, rfl, hk, fun H3 s3 => ⟨_, rfl, ?_⟩⟩
      rw [ek]
      refine iteF ?_
      refine ⟨_, rfl, b, p.1, p.2, rfl, (nb2.same s3).at_, fun r H4 hr4' s4 => ?_⟩
      obtain ⟨dx, h4⟩ := id hr4'
      refine ⟨r, dx, _, rfl, h4, r, _, _, rfl, hr4', _, _, rfl, rfl, _, rfl, ?_⟩
      rw [decide_eq_false sg0]
      refine iteF ?_
      exact ⟨_, _, rfl, (s2.trans s3).trans s4⟩
    · rintro σ H1 ⟨v1, v2, rfl, s1⟩
      refine ⟨_, rfl, t, rfl, ⟨_, same_sqt s1 ht⟩, fun D hD => ?_⟩
      refine lc_vals (walk_tup (xs := xs)) (rel_same hD) ((ps.map fun p => decide (p.1 = 0)).map V.bl) (by rw [List.length_map, List.length_map, hl]) (by omega) (fun H' s => same_sqt (s1.trans s) ht) ?_ ?_
      · rintro i v H5 H6 u hi hu s5 _ ⟨rfl, hv⟩ R k
        obtain ⟨p, hp, nb⟩ := hn.getL hv
        rw [List.getElem?_map, List.getElem?_map, hp] at hu
        cases hu
        refine ⟨rfl, ?_⟩
        refine ⟨_, rfl, v, p.1, p.2, rfl, ((nb.same s1).same s5).at_, fun r H7 hr7 s7 => ?_⟩
        obtain ⟨dx, h7⟩ := id hr7
        refine ⟨r, dx, _, rfl, h7, r, _, _, rfl, hr7, rfl, ?_⟩
        have e : decide (V.int p.1.sign = V.int 0) = decide (p.1 = 0) := decide_eq_decide.mpr ⟨fun z => Int.sign_eq_zero_iff_zero.mp (V.int.inj z), fun z => by rw [z]; rfl⟩
        rw [e]
        exact k _ s7
      · intro H5 s5 hD5
        refine ⟨D, ps.map fun p => decide (p.1 = 0), rfl, SqL.of hD5, ?_⟩
        have e : (ps.map fun p => decide (p.1 = 0)).all id = false := by
          obtain ⟨s, hs, s0⟩ := hex
          rw [List.all_map]
          refine Bool.eq_false_iff.mpr fun z => s0 ?_
          have := List.all_eq_true.mp z s hs
          exact of_decide_eq_true this
        rw [e]
        refine ⟨_, rfl, ?_⟩
        refine iteF ?_
        exact q _ (s1.trans s5)
/-! ### Table(..) -/
def pf (L : Addr) : List (Str × V) := putF "_points" (.ref L) []
theorem pf_pts (L : Addr) : (pf L).lookup ("_points" : Str) = some (.ref L) := by
  unfold pf
  rw [lookup_putF, if_pos rfl]
theorem pf_no (L : Addr) {m : Str} (h : ¬ m = "_points") : (pf L).lookup m = none := by
  unfold pf
  rw [lookup_putF, if_neg h]
  rfl
abbrev Rats (C : Addr) (H : Hp) (rs : List Addr) (ps : List Fr2) : Prop := Par (fun r p => Nm C H (.ref r) p.1 p.2) rs ps
theorem Rats.same {C : Addr} {H H' : Hp} {rs : List Addr} {ps : List Fr2} (h : Rats C H rs ps) (s : Same H H') : Rats C H' rs ps := Par.imp h fun _ _ k => k.same s
theorem Rats.nms {C : Addr} {H : Hp} {rs : List Addr} {ps : List Fr2} (h : Rats C H rs ps) : Nms C H (rs.map V.ref) ps := Par.map h fun _ _ k => k
/-- a table of these points -/
structure TabAt (C D : Addr) (H : Hp) (x : Addr) (ps : List Fr2) : Prop where
  at_ : ∃ dx L rs, H x = some (.ins D dx (pf L)) ∧ H L = some (.lst (rs.map V.ref)) ∧ Rats C H rs ps
  len : ps.length = 5
  desc : Desc' ps
theorem TabAt.same {C D : Addr} {H H' : Hp} {x : Addr} {ps : List Fr2} (h : TabAt C D H x ps) (s : Same H H') : TabAt C D H' x ps := by
  obtain ⟨dx, L, rs, h1, h2, h3⟩ := h.at_
  exact ⟨⟨dx, L, rs, s _ _ h1, s _ _ h2, h3.same s⟩, h.len, h.desc⟩
theorem TabAt.lws {C D : Addr} {H : Hp} {x : Addr} {ps : List Fr2} (h : TabAt C D H x ps) : Lws ps := by
  obtain ⟨dx, L, rs, h1, h2, h3⟩ := h.at_
  exact h3.nms.lws
/-- the class Table -/
structure TC (K : PySem.W.Frag) (mg : Str → Option Value) (D : Addr) : Prop where
  cl : Cls K D
  nP : NoAttr K D "_points"
  mgT : mg "Table" = some (.ref D)
  places : ∃ t, mg "PLACES" = some (.int 5 t)
def spTI (C D : Addr) : Sp := fun vs H Q _ => ∃ (x dx : Addr) (xs : List V) (ps : List Fr2), vs = .ref x :: xs ∧ H x = some (.ins D dx []) ∧ Nms C H xs ps ∧ Desc' ps ∧
  ∀ H', TabAt C D H' x (pad ps) → (∀ b o, b ≠ x → H b = some o → H' b = some o) → Q .non H'
def spTI0 (K : PySem.W.Frag) (C D : Addr) : Sp := fun vs H Q _ => ∃ (x t dx : Addr) (xs : List V) (ps : List Fr2), vs = [.ref x, .ref t] ∧ H x = some (.ins D dx []) ∧ SqT K H t xs ∧ Nms C H xs ps ∧ Desc' ps ∧
  ∀ H', TabAt C D H' x (pad ps) → (∀ b o, b ≠ x → H b = some o → H' b = some o) → Q .non H'
abbrev n_Table___init__ : List Str := ["self", "points", "told", "point", "_"]
theorem sc_Table___init__ : FnScope n_Table___init__ ["self", "points"] (defScope d_Table___init__) := ⟨rfl, rfl, rfl, by decide +kernel, rfl, by decide +kernel, by decide +kernel⟩
theorem nm_z {C : Addr} {H : Hp} {p : Addr} (h : RatAt C H p 0 1) : Nm C H (.ref p) 0 1 := ⟨.inl ⟨p, rfl, h⟩, lw_int 0, bd_zero, bd_one (by decide)⟩
theorem ok_Table_init {f C D : Addr} {fd : FuncData} (F : FnP K "__init__" "Table.__init__" d_Table___init__ [] f fd) (B : Blt mg) (T : RT K mg C) (U : TC K mg D) (M : RMk P w K mg base C) (dAs : DAs P w K mg base C) (dCP : Dfn P w K mg base 8 "check_points" ["points"] (spCheck K C)) :
    FnR P w K mg base CX0 9 f (spTI C D) := by
  obtain ⟨oc, od, dV, kV, doc, pm, an, cdv, ct, osl, rfl, lk, hcd, hD, _⟩ := F.ex
  have hdV : dV = .none := by
    rcases hD with ⟨_, e⟩ | ⟨e, _⟩
    · exact e
    · exact absurd rfl e
  subst hdV
  obtain ⟨tPl, hPl⟩ := U.places
  have R := StX.fn_star (k := 8) (sp := spTI0 K C D) (CX := CX0) (P := P) (w := w) (mg := mg) (base := base) (ps := ["self"]) (pv := "points") lk hcd sc_Table___init__ StX.cxUp_none
    (StX.bind_star1 (B := fun us => bindArgs _ ⟨us, []⟩) (fun a => rfl) (fun a r rs => rfl)) (fun A outer s H vs Q E hr h => ?_)
  · refine R.imp fun vs H Q E h => ?_
    obtain ⟨x, dx, xs, ps, rfl, hx, hn, hd, q⟩ := h
    refine ⟨[.ref x], xs, rfl, rfl, Nat.le_trans (show xs.length ≤ 5 by rw [hn.1]; exact hd.five) (by decide), fun p hp => ?_⟩
    exact ⟨x, p, dx, xs, ps, rfl, (same_upd hp) _ _ hx, SqT.of upd_same, hn.same (same_upd hp), hd, fun H' h1 h2 => q H' h1 fun b o nb eb => h2 b o nb ((same_upd hp) _ _ eb)⟩
  · obtain ⟨x, t, dx, xs, ps, rfl, hx, ht, hn, hd, q⟩ := h
    have hr3 := hr.mono (by decide : 3 ≤ 8)
    have hr4 := hr.mono (by decide : 4 ≤ 8)
    refine ⟨_, PSs.nox (pss_cons (ps_expr (pe_use dCP hr rfl (pa_cons (pv 1) pa_nil)))
      (pss_cons (ps_setLc (i := 2) rfl sc_Table___init__.nd rfl rfl (by rfl) (pi_tup (pv 1)) (blkOk_by (own := [("point", 3)]) (by show blkC n_Table___init__ (defScope d_Table___init__) _ _ = true; decide +kernel)) (fun _ _ _ _ _ => pg_name (i := 3) sc_Table___init__.nd rfl (.inl rfl)) (fun _ _ _ _ _ => pts_nil) (fun _ _ _ _ _ => (pe_use dAs hr4 rfl (pa_cons (pv 3) pa_nil))))
      (pss_one (ps_fld (pv 0) (pe_op op_cat (pv 2) (pe_lc rfl sc_Table___init__.nd (pi_range1 rfl B.range (pa_cons (pe_op op_sub (pe_glob (v := .int 5) rfl hPl ⟨tPl, rfl⟩) (pe_callB (r := rLenS K) call_len_seq (by rfl) B.len PySem.boot_len (pa_cons (pv 2) pa_nil))) pa_nil)) (blkOk_by (own := [("_", 4)]) (by show blkC n_Table___init__ (defScope d_Table___init__) _ _ = true; decide +kernel)) (fun _ _ _ _ _ => pg_name (i := 4) sc_Table___init__.nd rfl (.inl rfl)) (fun _ _ _ _ _ => pts_nil) (fun _ _ _ _ _ => (pe_rat1 M hr3 rfl T.mgC pe_int)))) rfl)))), ?_⟩
    have hl := hn.1
    have h5 := hd.five
    have lw := hn.lws
    refine ⟨_, rfl, t, xs, ps, rfl, ht, hn, hd, fun H1 s1 => ?_⟩
    refine ⟨_, rfl, t, rfl, ⟨_, same_sqt s1 ht⟩, fun L hL => ?_⟩
    have rel : ∀ {H0 : Hp}, H0 L = none → RelD Same H0 L := fun h => rel_same h
    refine lc_el (walk_tup (xs := xs)) (rel_same hL) (by omega) (fun j v H' => ∃ r p, v = V.ref r ∧ r ≠ L ∧ ps[j]? = some p ∧ Nm C H' (.ref r) p.1 p.2) ?_ ?_ (fun H' s => same_sqt (s1.trans s) ht) ?_ ?_
    · rintro j v H5 H6 s ⟨r, p, e, n, ep, k⟩
      exact ⟨r, p, e, n, ep, k.same s⟩
    · rintro j v H5 l l' hl5 ⟨r, p, e, n, ep, k⟩
      refine ⟨r, p, e, n, ep, ⟨.inl ⟨r, rfl, ?_⟩, k.lw, k.b1, k.b2⟩⟩
      obtain ⟨dy, h⟩ := k.rat
      exact ⟨dy, by rw [upd_ne n]; exact h⟩
    · rintro i v H5 H6 hi s5 ⟨acc, hacc, _⟩ ⟨rfl, hv⟩ R k
      obtain ⟨p, hp, nb⟩ := hn.getL hv
      refine ⟨rfl, ?_⟩
      have nb5 := (nb.same s1).same s5
      refine ⟨_, rfl, v, p.1, p.2, rfl, nb5.at_, fun r H7 hr7 s7 => ?_⟩
      refine k _ H7 s7 ⟨r, p, rfl, fun z => ?_, hp, nm_rat nb5 hr7⟩
      obtain ⟨dy, h⟩ := hr7
      have hL7 := s7 _ _ hacc
      rw [← z, h] at hL7
      cases hL7
    · rintro H5 acc s5 hD5 hlen he
      obtain ⟨rs, rfl, hrs⟩ : ∃ rs : List Addr, acc = rs.map V.ref ∧ Rats C H5 rs ps := by
        obtain ⟨rs, e, hl2, _⟩ := els V.ref (fun _ => True) acc fun j v hv => by
          obtain ⟨r, p, e, _⟩ := he j v hv
          exact ⟨r, e, trivial⟩
        refine ⟨rs, e, by rw [hl2, hlen, hl], fun i a b e1 e2 => ?_⟩
        subst e
        obtain ⟨r, p, er, _, ep, k⟩ := he i (.ref a) (by rw [List.getElem?_map, e1]; rfl)
        cases er
        rw [ep] at e2
        cases e2
        exact k
      have lrs := hrs.1
      refine ⟨_, rfl, _, rfl, L, rs.map V.ref, rfl, .inl (SqL.of hD5), _, _, rfl, rfl, _, rfl, ?_, ?_, fun Z hZ => ?_⟩
      · rw [List.length_map]
        omega
      · rw [List.length_map]
        omega
      rw [List.length_map]
      refine lc_el (walk_range (lo := 0) (n := ((5 : Int) - (rs.length : Int)).toNat)) (rel_same hZ) (by omega) (fun j v H' => ∃ r, v = V.ref r ∧ r ≠ Z ∧ RatAt C H' r 0 1) ?_ ?_ (fun _ _ => trivial) ?_ ?_
      · rintro j v H6 H7 s ⟨r, e, n, k⟩
        exact ⟨r, e, n, k.same s⟩
      · rintro j v H6 l l' hl6 ⟨r, e, n, dy, h⟩
        exact ⟨r, e, n, dy, by rw [upd_ne n]; exact h⟩
      · rintro i v H6 H7 hi s6 ⟨acc, hacc, _⟩ ⟨rfl, rfl⟩ R k
        refine ⟨rfl, ?_⟩
        refine rat_new (by decide) (bd_one (by decide)) fun p H8 hp s8 hpn => ?_
        rw [low_int] at hp
        exact k _ H8 s8 ⟨p, rfl, (ne_of_none hacc hpn).symm, hp⟩
      · rintro H6 acc6 s6 hD6 hlen6 he6
        obtain ⟨zs, rfl, hzl, hzs⟩ := els V.ref (fun r => RatAt C H6 r 0 1) acc6 fun j v hv => by
          obtain ⟨r, e, _, k⟩ := he6 j v hv
          exact ⟨r, e, k⟩
        rw [List.length_map] at hlen6
        have hL6 := s6 _ _ hD5
        refine ⟨L, Z, rs.map V.ref, zs.map V.ref, rfl, rfl, hL6, hD6, ?_, fun p hp => ?_⟩
        · rw [List.length_map, List.length_map]
          exact Nat.le_trans (show rs.length + zs.length ≤ 1000 by omega) (by decide)
        have s16 : Same H H6 := (s1.trans s5).trans s6
        have sp := same_upd (o := .lst (rs.map V.ref ++ zs.map V.ref)) hp
        have s1p := s16.trans sp
        have hx6 := s1p _ _ hx
        have npx : p ≠ x := fun z => by
          rw [z] at hp
          rw [s16 _ _ hx] at hp
          exact nomatch hp
        refine ⟨_, rfl, x, D, dx, [], rfl, hx6, U.cl, U.nP, (by show 0 < 1000; decide), ?_⟩
        have keep : ∀ {b : Addr} {o : HO}, b ≠ x → H6 b = some o → upd (upd H6 p (.lst (rs.map V.ref ++ zs.map V.ref))) x (.ins D dx (putF "_points" (.ref p) [])) b = some o := fun {b o} nb eb => by
          rw [upd_ne nb]
          exact sp _ _ eb
        have insx : ∀ {n d : Int} {r : Addr}, RatAt C H6 r n d → RatAt C (upd (upd H6 p (.lst (rs.map V.ref ++ zs.map V.ref))) x (.ins D dx (putF "_points" (.ref p) []))) r n d := fun {n d r} h => by
          obtain ⟨dy, h⟩ := h
          refine ⟨dy, keep (fun z => ?_) h⟩
          rw [z, s16 _ _ hx] at h
          have e := Option.some.inj h
          injection e with e1 e2 e3
          have e4 := congrArg (fun l : List (Str × V) => l.lookup ("_top" : Str)) e3
          have e5 : (none : Option V) = (rf n d).lookup ("_top" : Str) := e4
          rw [rf_top] at e5
          exact nomatch e5
        refine q _ ⟨⟨dx, p, rs ++ zs, upd_same, ?_, ?_⟩, pad_len h5, pad_desc hd lw⟩ fun b o nb eb => keep nb (s16 _ _ eb)
        · rw [upd_ne npx, upd_same, List.map_append]
        · unfold pad
          refine Par.app (Par.imp (hrs.same s6) fun r p' k => ⟨.inl ⟨r, rfl, insx k.rat⟩, k.lw, k.b1, k.b2⟩) ⟨by rw [List.length_replicate]; omega, fun i a b e1 e2 => ?_⟩
          rw [List.getElem?_replicate] at e2
          split at e2
          · cases e2
            exact nm_z (insx (hzs a (List.mem_of_getElem? e1)))
          · exact nomatch e2
end
end Tb
/-! Tables by steps, the first-k and steep ones. -/
namespace Tb
open PySem PySem.Spec PyProof.Rows L2 Ow Pt Rm Ra
/-- a new table, as its maker reads it -/
theorem tab_new {C D : Addr} {H : Hp} {xs : List V} {ps : List Fr2} {Q : Addr → Hp → Prop} (hn : Nms C H xs ps) (hd : Desc' ps) (q : ∀ x H', TabAt C D H' x (pad ps) → Same H H' → H x = none → Q x H') :
    ∀ x dx, H x = none → H dx = none → dx ≠ x → spTI C D (.ref x :: xs) (upd (upd H dx (.own x)) x (.ins D dx [])) (fun v H2 => v = .non ∧ Q x H2) E0 := by
  intro x dx hx hdx ne
  have s : Same H (upd (upd H dx (.own x)) x (.ins D dx [])) := fun b o e => by
    rw [upd_ne (ne_of_none e hx), upd_ne (ne_of_none e hdx)]
    exact e
  exact ⟨x, dx, xs, ps, rfl, upd_same, hn.same s, hd, fun H' t k => ⟨rfl, q x H' t (fun b o e => k b o (ne_of_none e hx) (s _ _ e)) hx⟩⟩
structure TMk (P : Program) (w : World) (K : PySem.W.Frag) (mg : Str → Option Value) (base : Heap) (C D : Addr) : Prop where
  ex : ∃ f, Mk K D f ∧ FnR P w K mg base CX0 9 f (spTI C D)
theorem bd_sm {k : Nat} {ps : List Fr2} (b : Bds k ps) {p : Fr2} (h : p ∈ ps) {j : Nat} (l : k ≤ j) : Bd j p.1 ∧ Bd j p.2 := ⟨(b p h).1.mono l, (b p h).2.mono l⟩
theorem nms_ints {C : Addr} {H : Hp} {ns : List Int} (h : ∀ n ∈ ns, Bd 2500 n) : Nms C H (ns.map V.int) (ns.map fun n => (n, 1)) := by
  refine ⟨by rw [List.length_map, List.length_map], fun i x p e1 e2 => ?_⟩
  rw [List.getElem?_map] at e1 e2
  cases c : ns[i]? with
  | none => rw [c] at e1; exact nomatch e1
  | some n =>
    rw [c] at e1 e2
    cases e1
    cases e2
    exact nm_int (h n (List.mem_of_getElem? c))
/-- whole points that go down -/
theorem desc_int {ns : List Int} (h1 : 1 ≤ ns.length) (h5 : ns.length ≤ 5) (p : ∀ n ∈ ns, 1 ≤ n) (d : ∀ (i : Nat) a b, ns[i]? = some a → ns[i + 1]? = some b → b ≤ a) : Desc' (ns.map fun n => (n, 1)) := by
  have g : ∀ (i : Nat) q, (ns.map fun n => ((n, 1) : Fr2))[i]? = some q → ∃ n, ns[i]? = some n ∧ q = (n, 1) := fun i q e => by
    rw [List.getElem?_map] at e
    cases c : ns[i]? with
    | none => rw [c] at e; exact nomatch e
    | some n =>
      rw [c] at e
      exact ⟨n, rfl, (Option.some.inj e).symm⟩
  refine ⟨by rw [List.length_map]; exact h1, by rw [List.length_map]; exact h5, fun i q e => ?_, fun q e => ?_, fun i q r e1 e2 => ?_⟩
  · obtain ⟨n, c, rfl⟩ := g i q e
    have := p n (List.mem_of_getElem? c)
    show 0 ≤ n
    omega
  · obtain ⟨n, c, rfl⟩ := g 0 q e
    have := p n (List.mem_of_getElem? c)
    show n ≠ 0
    omega
  · obtain ⟨a, c1, rfl⟩ := g i q e1
    obtain ⟨b, c2, rfl⟩ := g (i + 1) r e2
    have := d i a b c1 c2
    show ¬ (a * 1 < b * 1)
    omega
def stpL (s : Int) : Nat → List Int
  | 0 => [1]
  | n + 1 => s ^ (n + 1) :: stpL s n
theorem stp_len (s : Int) : ∀ n, (stpL s n).length = n + 1
  | 0 => rfl
  | n + 1 => by show (stpL s n).length + 1 = _; rw [stp_len s n]
theorem stp_head (s : Int) : ∀ n, (stpL s n)[0]? = some (s ^ n)
  | 0 => by simp [stpL]
  | n + 1 => rfl
theorem stp_pos {s : Int} (h : 1 ≤ s) : ∀ n, ∀ x ∈ stpL s n, 1 ≤ x
  | 0 => fun x hx => by
    have e : x = 1 := by simpa [stpL] using hx
    omega
  | n + 1 => fun x hx => by
    rcases List.mem_cons.mp hx with rfl | hx
    · have z : 0 < s ^ (n + 1) := Int.pow_pos (by omega)
      omega
    · exact stp_pos h n x hx
theorem stp_down {s : Int} (h : 1 ≤ s) : ∀ (n i : Nat) (a b : Int), (stpL s n)[i]? = some a → (stpL s n)[i + 1]? = some b → b ≤ a
  | 0, i, a, b, _, e2 => by simp [stpL] at e2
  | n + 1, 0, a, b, e1, e2 => by
    have e1' : some (s ^ (n + 1)) = some a := e1
    have e2' : (stpL s n)[0]? = some b := e2
    rw [stp_head] at e2'
    cases e1'
    cases e2'
    rw [Int.pow_succ]
    have hp : 0 < s ^ n := Int.pow_pos (by omega)
    have := Int.mul_le_mul_of_nonneg_left h (Int.le_of_lt hp)
    omega
  | n + 1, i + 1, a, b, e1, e2 => stp_down h n i a b e1 e2
theorem stp_bd {s : Int} {k : Nat} (hk : 0 < k) (h : Bd k s) : ∀ n, ∀ x ∈ stpL s n, Bd (1 + k * n) x
  | 0 => fun x hx => by
    have e : x = 1 := by simpa [stpL] using hx
    rw [e]
    exact bd_one (by omega)
  | n + 1 => fun x hx => by
    rcases List.mem_cons.mp hx with rfl | hx
    · have b := stp_bd hk h n (s ^ n) (List.mem_of_getElem? (stp_head s n))
      rw [Int.pow_succ]
      exact (b.mul h).mono (by rw [Nat.mul_succ]; omega)
    · exact (stp_bd hk h n x hx).mono (by rw [Nat.mul_succ]; omega)
theorem cut_from (xs : List V) {i : Nat} (h : i ≤ xs.length) : cutV xs (some (i : Int)) none = xs.drop i := by
  unfold cutV
  rw [HT.sIx_nat, HT.sIx_none, Nat.min_eq_left h, List.take_of_length_le]
  rw [List.length_drop]
  exact Nat.le_refl _
theorem cut_to (xs : List V) (k : Nat) : cutV xs none (some (k : Int)) = xs.take k := by
  unfold cutV
  rw [HT.sIx_nat, HT.sIx_none, List.drop_zero, Nat.sub_zero]
  rcases Nat.le_total k xs.length with c | c
  · rw [Nat.min_eq_left c]
  · rw [Nat.min_eq_right c, List.take_of_length_le (Nat.le_refl _), List.take_of_length_le c]
section
variable {P : Program} {w : World} {K : PySem.W.Frag} {mg : Str → Option Value} {base : Heap}
/-! ### of_steps -/
def spOS (C D : Addr) : Sp := fun vs H Q _ => ∃ (xs : List V) (ps : List Fr2), vs = .ref D :: xs ∧ Nms C H xs ps ∧ Bds 300 ps ∧ 1 ≤ ps.length ∧ ps.length ≤ 5 ∧ Nng ps ∧ (∃ s ∈ ps, s.1 ≠ 0) ∧ ∀ x H', TabAt C D H' x (pad (ptsR ps)) → Same H H' → Q (.ref x) H'
def spOS0 (K : PySem.W.Frag) (C D : Addr) : Sp := fun vs H Q _ => ∃ (t : Addr) (xs : List V) (ps : List Fr2), vs = [.ref D, .ref t] ∧ SqT K H t xs ∧ Nms C H xs ps ∧ Bds 300 ps ∧ 1 ≤ ps.length ∧ ps.length ≤ 5 ∧ Nng ps ∧ (∃ s ∈ ps, s.1 ≠ 0) ∧ ∀ x H', TabAt C D H' x (pad (ptsR ps)) → Same H H' → Q (.ref x) H'
abbrev n_Table_of_steps : List Str := ["cls", "steps", "points", "position", "behind"]
theorem sc_Table_of_steps : FnScope n_Table_of_steps ["cls", "steps"] (defScope d_Table_of_steps) := ⟨rfl, rfl, rfl, by decide +kernel, rfl, by decide +kernel, by decide +kernel⟩
theorem sums_of {ps : List Fr2} (l : Lws ps) {i : Nat} (hi : i < ps.length) : (ptsR ps)[i]? = some (sumL (ps.drop i)) := by
  have h : i < (ptsR ps).length := by rw [pts_len]; exact hi
  rw [List.getElem?_eq_getElem h, sumL_pts l (List.getElem?_eq_getElem h)]
theorem sum_bd {ps : List Fr2} (l : Lws ps) (b : Bds 300 ps) (h5 : ps.length ≤ 5) : Bd 2500 (sumL ps).1 ∧ Bd 2500 (sumL ps).2 := by
  have go : ∀ (qs : List Fr2) (a : Fr2) (i : Nat), Lws qs → Bds 300 qs → SB i a → SB (i + qs.length) (qs.foldl plus a) := fun qs => by
    induction qs with
    | nil => exact fun a i _ _ h => h
    | cons q qs ih =>
      intro a i lq bq h
      have := ih (plus a q) (i + 1) (fun x hx => lq x (List.mem_cons_of_mem _ hx)) (fun x hx => bq x (List.mem_cons_of_mem _ hx)) (sb_plus h (lq q List.mem_cons_self) (bq q List.mem_cons_self).1 (bq q List.mem_cons_self).2)
      rw [List.length_cons, show i + (qs.length + 1) = i + 1 + qs.length by omega]
      exact this
  have s := go ps (0, 1) 0 l b sb_zero
  exact ⟨s.b1.mono (by omega), s.b2.mono (by omega)⟩
theorem ok_of_steps {f C D : Addr} {fd : FuncData} (F : FnP K "of_steps" "Table.of_steps" d_Table_of_steps [] f fd) (B : Blt mg) (T : RT K mg C) (N : TMk P w K mg base C D) (dCS : Dfn P w K mg base 8 "check_steps" ["steps"] (spSteps K C)) (cTo : CMS P w K mg base 6 C "total" (spTot C)) :
    FnR P w K mg base CX0 11 f (spOS C D) := by
  obtain ⟨oc, od, dV, kV, doc, pm, an, cdv, ct, osl, rfl, lk, hcd, hD, _⟩ := F.ex
  have hdV : dV = .none := by
    rcases hD with ⟨_, e⟩ | ⟨e, _⟩
    · exact e
    · exact absurd rfl e
  subst hdV
  obtain ⟨ft, mk, Ft⟩ := N.ex
  have R := StX.fn_star (k := 10) (sp := spOS0 K C D) (CX := CX0) (P := P) (w := w) (mg := mg) (base := base) (ps := ["cls"]) (pv := "steps") lk hcd sc_Table_of_steps StX.cxUp_none
    (StX.bind_star1 (B := fun us => bindArgs _ ⟨us, []⟩) (fun a => rfl) (fun a r rs => rfl)) (fun A outer s H vs Q E hr h => ?_)
  · refine R.imp fun vs H Q E h => ?_
    obtain ⟨xs, ps, rfl, hn, hb, h1, h5, nn, hex, q⟩ := h
    refine ⟨[.ref D], xs, rfl, rfl, Nat.le_trans (show xs.length ≤ 5 by rw [hn.1]; exact h5) (by decide), fun p hp => ?_⟩
    exact ⟨p, xs, ps, rfl, SqT.of upd_same, hn.same (same_upd hp), hb, h1, h5, nn, hex, fun x H' t s => q x H' t ((same_upd hp).trans s)⟩
  · obtain ⟨t, xs, ps, rfl, ht, hn, hb, h1, h5, nn, hex, q⟩ := h
    have hr6 := hr.mono (by decide : 6 ≤ 10)
    have hr8 := hr.mono (by decide : 8 ≤ 10)
    refine ⟨_, PSs.nox (pss_cons (ps_expr (pe_use dCS hr8 rfl (pa_cons (pv 1) pa_nil)))
      (pss_cons (ps_set (i := 2) sc_Table_of_steps.nd rfl (Or.inl rfl) (pe_lst pa_nil))
      (pss_cons (ps_for PassesOwn.never rfl (pi_range1 rfl B.range (pa_cons (pe_callB (r := rLenS K) call_len_seq (by rfl) B.len PySem.boot_len (pa_cons (pv 1) pa_nil)) pa_nil)) (pg_name (i := 3) sc_Table_of_steps.nd rfl (.inl rfl))
      (pss_cons (ps_set (i := 4) sc_Table_of_steps.nd rfl (Or.inl rfl) (pe_slice sl_tupA (pv 1) (po_some (pv 3)) po_none))
      (pss_one (ps_expr (pe_bm PySem.F.plainAttrs_list PySem.F.slot_list_append PySem.F.type_list_append mt_append (pv 2) (pa_cons (pe_cmS cTo hr6 (pe_glob (v := .ref C) rfl T.mgC rfl) (pv 4)) pa_nil))))))
      (pss_one (ps_ret (pe_makeLS (i := 0) mk Ft hr rfl (.inl rfl) pass0 (pv 2))))))), ?_⟩
    have hl := hn.1
    have lw := hn.lws
    refine ⟨_, rfl, t, xs, ps, rfl, ht, hn, h1, h5, nn, hex, fun H1 s1 => ?_⟩
    refine ⟨by decide, fun g hg => ?_⟩
    refine ⟨_, rfl, t, xs, rfl, .inr (same_sqt (s1.trans (same_upd hg)) ht), _, rfl, by omega, by omega, ?_⟩
    refine for_it (walk_range (lo := 0) (n := (xs.length : Int).toNat)) (fun i σ H' => ∃ (v3 v4 : Option V) (rs : List Addr), σ = [some (.ref D), some (.ref t), some (.ref g), v3, v4] ∧ rs.length = i ∧ H' g = some (.lst (rs.map V.ref)) ∧ Rats C H' rs ((ptsR ps).take i) ∧ Same H1 H')
      ⟨_, _, [], rfl, rfl, upd_same, Par.nil, same_upd hg⟩ (fun _ _ _ _ _ => trivial) ?_ ?_
    · rintro i v σ H9 H2 hi ⟨v3, v4, rs, rfl, hri, hg2, hrs, s2⟩ ⟨rfl, rfl⟩
      have hi5 : i < ps.length := by omega
      have ht2 := same_sqt (s1.trans s2) ht
      have hn2 := hn.same (s1.trans s2)
      -- the numbers from i on
      have core : ∀ (b : Addr) (H4 : Hp), SqT K H4 b (xs.drop i) → Same H2 H4 → ∀ (R : VK), (∀ z H5, Nm C H5 (.ref z) (sumL (ps.drop i)).1 (sumL (ps.drop i)).2 → Same H4 H5 → R (.ref z) H5) → spTot C (.ref C :: xs.drop i) H4 R E0 := fun b H4 hb4 s4 R k => by
        refine ⟨xs.drop i, ps.drop i, rfl, by rw [List.length_drop]; omega, ⟨by rw [List.length_drop, List.length_drop, hl], fun j x p ex ep => ?_⟩, fun z H5 hz s5 => k z H5 ⟨.inl ⟨z, rfl, hz⟩, (q_sumL (lws_drop lw i)).1, ?_, ?_⟩ s5⟩
        · have n := (hn2.drop i).2 j x p ex ep
          have b := hb.get (i := i + j) (p := p) (by rw [List.getElem?_drop] at ep; exact ep)
          exact ⟨(n.same s4).at_, n.lw, b.1, b.2⟩
        · exact (sum_bd (lws_drop lw i) (fun p hp => hb p (List.mem_of_mem_drop hp)) (by rw [List.length_drop]; omega)).1
        · exact (sum_bd (lws_drop lw i) (fun p hp => hb p (List.mem_of_mem_drop hp)) (by rw [List.length_drop]; omega)).2
      have fin : ∀ (b z : Addr) (v3 : Option V) (H4 H5 : Hp), Same H2 H4 → Nm C H5 (.ref z) (sumL (ps.drop i)).1 (sumL (ps.drop i)).2 → Same H4 H5 →
          ∃ xs' : List V, H5 g = some (.lst xs') ∧ xs'.length < sizeLine ∧ ∃ (v3' v4' : Option V) (rs' : List Addr), [some (V.ref D), some (V.ref t), some (V.ref g), some (V.int ((0 : Int) + (i : Nat))), some (V.ref b)] = [some (V.ref D), some (V.ref t), some (V.ref g), v3', v4'] ∧ rs'.length = i + 1 ∧ upd H5 g (.lst (xs' ++ [V.ref z])) g = some (.lst (rs'.map V.ref)) ∧
            Rats C (upd H5 g (.lst (xs' ++ [V.ref z]))) rs' ((ptsR ps).take (i + 1)) ∧ Same H1 (upd H5 g (.lst (xs' ++ [V.ref z]))) := fun b z v3 H4 H5 s4 hz s5 => by
        have hg5 := s5 _ _ (s4 _ _ hg2)
        have s25 := s4.trans s5
        have ins : ∀ {v : V} {n d : Int}, Nm C H5 v n d → Nm C (upd H5 g (.lst (rs.map V.ref ++ [V.ref z]))) v n d := fun {v n d} h => by
          refine ⟨?_, h.lw, h.b1, h.b2⟩
          rcases h.at_ with ⟨p, e, dx, hp⟩ | c
          · refine .inl ⟨p, e, dx, ?_⟩
            rw [upd_ne (fun z => by rw [z, hg5] at hp; cases hp)]
            exact hp
          · exact .inr c
        refine ⟨_, hg5, ?_, _, _, rs ++ [z], rfl, by rw [List.length_append, hri]; rfl, by rw [upd_same, List.map_append]; rfl, ?_, fun q u eq => ?_⟩
        · rw [List.length_map]
          exact Nat.lt_of_le_of_lt (show rs.length ≤ 1000 by omega) (by decide)
        · rw [List.take_add_one, sums_of lw hi5]
          exact Par.app (Par.imp (hrs.same s25) fun _ _ k => ins k) (Par.one (ins hz))
        · rw [upd_ne (ne_of_none eq hg)]
          exact s25 _ _ (s2 _ _ eq)
      refine ⟨_, rfl, _, rfl, _, rfl, t, xs, rfl, ht2, ?_, ?_⟩
      · rintro ⟨e1, _⟩
        have i0 : i = 0 := by
          have e2 : HT.sIx xs.length 0 (some ((i : Nat) : Int)) = 0 := by
            rw [Int.zero_add] at e1
            exact e1
          rw [HT.sIx_nat] at e2
          omega
        refine ⟨_, rfl, .inl ⟨rfl, _, SqL.of hg2⟩, ?_⟩
        refine ⟨rfl, _, rfl, t, xs.drop i, rfl, .inl (by rw [i0, List.drop_zero]; exact ht2), ?_⟩
        refine core t H2 (by rw [i0, List.drop_zero]; exact ht2) (Same.refl _) _ fun z H5 hz s5 => ?_
        obtain ⟨xs', e1, e2, e3⟩ := fin t z none H2 H5 (Same.refl _) hz s5
        exact ⟨g, xs', _, rfl, rfl, e1, e2, e3⟩
      · rintro ne p hp
        rw [Int.zero_add, cut_from xs (by omega)]
        have sp := same_upd (o := .tup (xs.drop i)) hp
        refine ⟨_, rfl, .inl ⟨rfl, _, SqL.of (sp _ _ hg2)⟩, ?_⟩
        refine ⟨rfl, _, rfl, p, xs.drop i, rfl, .inl (SqT.of upd_same), ?_⟩
        refine core p _ (SqT.of upd_same) sp _ fun z H5 hz s5 => ?_
        obtain ⟨xs', e1, e2, e3⟩ := fin p z none _ H5 sp hz s5
        exact ⟨g, xs', _, rfl, rfl, e1, e2, e3⟩
    · rintro σ H2 ⟨v3, v4, rs, rfl, hri, hg2, hrs, s2⟩
      have e : (ptsR ps).take (xs.length : Int).toNat = ptsR ps := List.take_of_length_le (by rw [pts_len]; omega)
      rw [e] at hrs
      refine ⟨rfl, _, rfl, g, _, rfl, .inr (SqL.of hg2), ?_⟩
      exact tab_new hrs.nms (desc_pts lw nn h1 h5 hex) fun x H3 tb s3 _ => q x H3 tb ((s1.trans s2).trans s3)
end
end Tb
/-! First-k and steep tables; what a table tells. -/
namespace Tb
open PySem PySem.Spec PyProof.Rows L2 Ow Pt Rm Ra
section
variable {P : Program} {w : World} {K : PySem.W.Frag} {mg : Str → Option Value} {base : Heap}
def onesF (k : Nat) : List Fr2 := List.replicate k (1, 1)
def stpF (s : Int) (n : Nat) : List Fr2 := (stpL s n).map fun x => (x, 1)
theorem ones_desc {k : Nat} (h1 : 1 ≤ k) (h5 : k ≤ 5) : Desc' (onesF k) := by
  have e : onesF k = (List.replicate k (1 : Int)).map fun n => (n, 1) := by
    unfold onesF
    rw [List.map_replicate]
  rw [e]
  refine desc_int (by rw [List.length_replicate]; exact h1) (by rw [List.length_replicate]; exact h5) (fun n hn => ?_) fun i a b e1 e2 => ?_
  · rw [List.eq_of_mem_replicate hn]
    decide
  · rw [List.getElem?_replicate] at e1 e2
    split at e1
    · split at e2
      · cases e1
        cases e2
        decide
      · cases e2
    · cases e1
theorem stp_desc {s : Int} (h : 1 ≤ s) {n : Nat} (h5 : n ≤ 4) : Desc' (stpF s n) :=
  desc_int (by rw [stp_len]; omega) (by rw [stp_len]; omega) (stp_pos h n) (stp_down h n)
/-! ### first_places -/
def spFP (C D : Addr) : Sp := fun vs H Q _ => ∃ k : Nat, vs = [.ref D, .int k] ∧ 1 ≤ k ∧ k ≤ 5 ∧ ∀ x H', TabAt C D H' x (pad (onesF k)) → Same H H' → Q (.ref x) H'
abbrev n_Table_first_places : List Str := ["cls", "k", "points", "_"]
theorem sc_Table_first_places : FnScope n_Table_first_places ["cls", "k"] (defScope d_Table_first_places) := ⟨rfl, rfl, rfl, by decide +kernel, rfl, by decide +kernel, by decide +kernel⟩
theorem ok_first {f C D : Addr} {fd : FuncData} (F : FnP K "first_places" "Table.first_places" d_Table_first_places [] f fd) (B : Blt mg) (N : TMk P w K mg base C D) (dPl : Dfn P w K mg base 2 "is_place" ["value"] (spPlace K)) :
    FnOk P w K mg base CX0 11 f fd ["cls", "k"] (spFP C D) := by
  obtain ⟨ft, mk, Ft⟩ := N.ex
  refine F.ok sc_Table_first_places (fun vs H Q E h => ?_) (fun cdv A outer s H vs Q E hr h => ?_)
  · obtain ⟨k, rfl, _⟩ := h
    rfl
  · obtain ⟨k, rfl, h1, h5, q⟩ := h
    have hr2 := hr.mono (by decide : 2 ≤ 10)
    refine ⟨_, PSs.nox (pss_cons (ps_if (pt_not (pt_val (pe_use dPl hr2 rfl (pa_cons (pv 1) pa_nil)))) pss_never pss_nil)
      (pss_cons (ps_setLc (i := 2) rfl sc_Table_first_places.nd rfl rfl (by rfl) (pi_range1 rfl B.range (pa_cons (pv 1) pa_nil)) (blkOk_by (own := [("_", 3)]) (by show blkC n_Table_first_places (defScope d_Table_first_places) _ _ = true; decide +kernel)) (fun _ _ _ _ _ => pg_name (i := 3) sc_Table_first_places.nd rfl (.inl rfl)) (fun _ _ _ _ _ => pts_nil) (fun _ _ _ _ _ => pe_int))
      (pss_one (ps_ret (pe_makeLS (i := 0) mk Ft hr rfl (.inl rfl) pass0 (pv 2)))))), ?_⟩
    refine ⟨_, rfl, (k : Int), rfl, by omega, by omega, _, rfl, ?_⟩
    refine iteF ?_
    refine ⟨_, rfl, (k : Int), rfl, by omega, by omega, fun g hg => ?_⟩
    refine lc_vals (walk_range (lo := 0) (n := (k : Int).toNat)) (rel_same hg) ((List.replicate k (1 : Int)).map V.int) (by rw [List.length_map, List.length_replicate]; rfl) (by omega) (fun _ _ => trivial) ?_ ?_
    · rintro i v H5 H6 u hi hu s5 _ ⟨rfl, rfl⟩ R kk
      rw [List.getElem?_map, List.getElem?_replicate, if_pos (by omega)] at hu
      cases hu
      exact ⟨rfl, kk _ (Same.refl _)⟩
    · intro H5 s5 hg5
      refine ⟨rfl, _, rfl, g, _, rfl, .inr (SqL.of hg5), ?_⟩
      have nm := nms_ints (C := C) (H := H5) (ns := List.replicate k (1 : Int)) fun n hn => by
        rw [List.eq_of_mem_replicate hn]
        exact bd_one (by decide)
      have e : ((List.replicate k (1 : Int)).map fun n => ((n, 1) : Fr2)) = onesF k := by
        unfold onesF
        rw [List.map_replicate]
      rw [e] at nm
      exact tab_new nm (ones_desc h1 h5) fun x H3 tb s3 _ => q x H3 tb (s5.trans s3)
/-! ### steep -/
def spSt (C D : Addr) : Sp := fun vs H Q _ => ∃ (s : Int) (n : Nat), vs = [.ref D, .int s, .int ((n : Nat) + 1 : Int)] ∧ 1 ≤ s ∧ Bd 100 s ∧ n ≤ 4 ∧ ∀ x H', TabAt C D H' x (pad (stpF s n)) → Same H H' → Q (.ref x) H'
abbrev n_Table_steep : List Str := ["cls", "s", "k", "points", "_"]
theorem sc_Table_steep : FnScope n_Table_steep ["cls", "s", "k"] (defScope d_Table_steep) := ⟨rfl, rfl, rfl, by decide +kernel, rfl, by decide +kernel, by decide +kernel⟩
theorem ok_steep {f C D : Addr} {fd : FuncData} (F : FnP K "steep" "Table.steep" d_Table_steep [] f fd) (B : Blt mg) (N : TMk P w K mg base C D) (dI : DInt P w K mg base) (dPl : Dfn P w K mg base 2 "is_place" ["value"] (spPlace K)) :
    FnOk P w K mg base CX0 11 f fd ["cls", "s", "k"] (spSt C D) := by
  obtain ⟨ft, mk, Ft⟩ := N.ex
  refine F.ok sc_Table_steep (fun vs H Q E h => ?_) (fun cdv A outer s0 H vs Q E hr h => ?_)
  · obtain ⟨s, n, rfl, _⟩ := h
    rfl
  · obtain ⟨s, n, rfl, s1, sb, n4, q⟩ := h
    have hr1 := hr.mono (by decide : 1 ≤ 10)
    have hr2 := hr.mono (by decide : 2 ≤ 10)
    refine ⟨_, PSs.nox (pss_cons (ps_if (PW.pt (pw_or (pt_not (pt_val (pe_use dI hr1 rfl (pa_cons (pv 1) pa_nil)))) (pw_or1 (pt_cmpR op_lt (pv 1) pe_int (nomark _))))) pss_never pss_nil)
      (pss_cons (ps_if (pt_not (pt_val (pe_use dPl hr2 rfl (pa_cons (pv 2) pa_nil)))) pss_never pss_nil)
      (pss_cons (ps_set (i := 3) sc_Table_steep.nd rfl (Or.inl rfl) (pe_lst (pa_cons pe_int pa_nil)))
      (pss_cons (ps_for PassesOwn.never rfl (pi_range1 rfl B.range (pa_cons (pe_op op_sub (pv 2) pe_int) pa_nil)) (pg_name (i := 4) sc_Table_steep.nd rfl (.inl rfl))
      (pss_one (ps_set (i := 3) sc_Table_steep.nd rfl (Or.inl rfl) (pe_lst (pa_cons (pe_op op_mulW (pv 1) (pe_ix ix_list (pv 3) pe_int (fun _ _ => rfl))) (StX.pa_star (pv 3) pa_nil))))))
      (pss_one (ps_ret (pe_makeLS (i := 0) mk Ft hr rfl (.inl rfl) pass0 (pv 3)))))))), ?_⟩
    refine ⟨_, rfl, .int s, _, true, false, rfl, .base (.int s), kII, kIB, _, rfl, ?_⟩
    refine iteF ?_
    refine ⟨_, rfl, _, _, rfl, rfl, _, rfl, ?_⟩
    rw [decide_eq_false (by omega)]
    refine iteF ?_
    refine ⟨_, rfl, _, rfl, by omega, by omega, _, rfl, ?_⟩
    refine iteF ?_
    refine ⟨by decide, fun g hg => ?_⟩
    refine ⟨_, rfl, _, _, rfl, rfl, _, rfl, by omega, by omega, ?_⟩
    have e1 : (((n : Nat) + 1 : Int) - 1).toNat = n := by omega
    rw [e1]
    refine for_it (walk_range (lo := 0) (n := n)) (fun i σ H' => ∃ (v4 : Option V) (l : Addr), σ = [some (.ref D), some (.int s), some (.int ((n : Nat) + 1 : Int)), some (.ref l), v4] ∧ H' l = some (.lst ((stpL s i).map V.int)) ∧ Same H H')
      ⟨_, g, rfl, upd_same, same_upd hg⟩ (fun _ _ _ _ _ => trivial) ?_ ?_
    · rintro i v σ H9 H2 hi ⟨v4, l, rfl, hl, s2⟩ ⟨rfl, rfl⟩
      have hd := stp_head s i
      have bd := stp_bd (k := 100) (by decide) sb i (s ^ i) (List.mem_of_getElem? hd)
      have hat : atI ((stpL s i).map V.int) 0 = some (V.int (s ^ i)) := atI_nat (j := 0) (by rw [List.getElem?_map, hd]; rfl)
      have hz : (stpL s i).length ≤ 6 := by rw [stp_len]; omega
      refine ⟨_, rfl, _, rfl, l, _, _, _, rfl, rfl, SqL.of hl, hat, _, _, rfl, rfl, cmul sb (bd.mono (show 1 + 100 * i ≤ 500 by omega)), ?_⟩
      refine ⟨_, rfl, l, _, rfl, .inr (SqL.of hl), ?_, fun m hm => ?_⟩
      · rw [List.length_cons, List.length_append, List.length_map]
        exact Nat.le_trans (show _ ≤ 1000 by simp; omega) (by decide)
      · refine ⟨_, m, rfl, ?_, s2.trans (same_upd hm)⟩
        rw [upd_same, List.append_nil]
        show some (HO.lst (V.int (s * s ^ i) :: (stpL s i).map V.int)) = some (.lst (V.int (s ^ (i + 1)) :: (stpL s i).map V.int))
        rw [Int.pow_succ, Int.mul_comm]
    · rintro σ H2 ⟨v4, l, rfl, hl, s2⟩
      refine ⟨rfl, _, rfl, l, _, rfl, .inr (SqL.of hl), ?_⟩
      have nm := nms_ints (C := C) (H := H2) (ns := stpL s n) fun x hx => (stp_bd (k := 100) (by decide) sb n x hx).mono (by omega)
      exact tab_new nm (stp_desc s1 n4) fun x H3 tb s3 _ => q x H3 tb (s2.trans s3)
end
end Tb
/-! What a table tells. -/
namespace Tb
open PySem PySem.Spec PyProof.Rows L2 Ow Pt Rm Ra
theorem Rats.upd {C : Addr} {H : Hp} {rs : List Addr} {ps : List Fr2} (h : Rats C H rs ps) {q : Addr} {o : HO} (n : ∀ (r : Addr) dx fs, H r = some (.ins C dx fs) → r ≠ q) : Rats C (L2.upd H q o) rs ps := Par.imp h fun r p k => by
  refine ⟨.inl ⟨r, rfl, ?_⟩, k.lw, k.b1, k.b2⟩
  obtain ⟨dx, e⟩ := k.rat
  exact ⟨dx, by rw [upd_ne (n r dx _ e)]; exact e⟩
section
variable {P : Program} {w : World} {K : PySem.W.Frag} {mg : Str → Option Value} {base : Heap}
/-! ### points() -/
def spPts (C D : Addr) : Sp := fun vs H Q _ => ∃ x ps, vs = [.ref x] ∧ TabAt C D H x ps ∧ ∀ l rs H', H' l = some (.lst (rs.map V.ref)) → Rats C H' rs ps → Same H H' → H l = none → Q (.ref l) H'
abbrev n_Table_points : List Str := ["self"]
theorem sc_Table_points : FnScope n_Table_points ["self"] (defScope d_Table_points) := ⟨rfl, rfl, rfl, by decide +kernel, rfl, by decide +kernel, by decide +kernel⟩
theorem ok_points {f C D : Addr} {fd : FuncData} (F : FnP K "points" "Table.points" d_Table_points [] f fd) (B : Blt mg) (U : TC K mg D) : FnOk P w K mg base CX0 1 f fd ["self"] (spPts C D) := by
  refine F.ok sc_Table_points (fun vs H Q E h => ?_) (fun cdv A outer s H vs Q E hr h => ?_)
  · obtain ⟨x, ps, rfl, _⟩ := h
    rfl
  · obtain ⟨x, ps, rfl, t, q⟩ := h
    obtain ⟨dx, L, rs, h1, h2, h3⟩ := t.at_
    refine ⟨_, PSs.nox (pss_one (ps_ret (pe_callTy (r := rListOf K) call_list_of (by rfl) B.list PyProof.Rows.boot_list (pa_cons (pe_fld (pv 0) rfl) pa_nil)))), ?_⟩
    refine ⟨_, rfl, x, D, dx, _, _, rfl, h1, U.cl, U.nP, pf_pts L, L, _, rfl, .inl (SqL.of h2), fun l hl => ?_⟩
    exact q l rs _ upd_same (h3.same (same_upd hl)) (same_upd hl) hl
/-! ### steps() -/
def spStp (C D : Addr) : Sp := fun vs H Q _ => ∃ x ps, vs = [.ref x] ∧ TabAt C D H x ps ∧ Bds 1000 ps ∧ ∀ l rs H', H' l = some (.lst (rs.map V.ref)) → Rats C H' rs (stepsOf ps) → Same H H' → H l = none → Q (.ref l) H'
abbrev n_Table_steps : List Str := ["self", "behind", "point", "after"]
theorem sc_Table_steps : FnScope n_Table_steps ["self"] (defScope d_Table_steps) := ⟨rfl, rfl, rfl, by decide +kernel, rfl, by decide +kernel, by decide +kernel⟩
theorem ok_steps {f C D : Addr} {fd : FuncData} (F : FnP K "steps" "Table.steps" d_Table_steps [] f fd) (B : Blt mg) (T : RT K mg C) (U : TC K mg D) (M : RMk P w K mg base C) (oS : OpX P w K mg base C .Sub 6 (spBin minus C)) : FnOk P w K mg base CX0 7 f fd ["self"] (spStp C D) := by
  refine F.ok sc_Table_steps (fun vs H Q E h => ?_) (fun cdv A outer s H vs Q E hr h => ?_)
  · obtain ⟨x, ps, rfl, _⟩ := h
    rfl
  · obtain ⟨x, ps, rfl, t, bd, q⟩ := h
    obtain ⟨dx, L, rs, h1, h2, h3⟩ := t.at_
    have hr3 := hr.mono (by decide : 3 ≤ 6)
    have l5 := t.len
    have lr : rs.length = 5 := by rw [h3.1, l5]
    refine ⟨_, PSs.nox (pss_cons (ps_set (i := 1) sc_Table_steps.nd rfl (Or.inl rfl) (pe_op op_cat (pe_slice sl_list (pe_fld (pv 0) rfl) (po_some pe_int) po_none) (pe_lst (pa_cons (pe_rat1 M hr3 rfl T.mgC pe_int) pa_nil))))
      (pss_one (ps_ret (pe_lc (g := (gTup K 2 (gCons (gName 2) (gCons (gName 3) gNil)))) rfl sc_Table_steps.nd (pi_zip rfl B.zip (pa_cons (pe_fld (pv 0) rfl) (pa_cons (pv 1) pa_nil))) (blkOk_by (own := [("point", 2), ("after", 3)]) (by show blkC n_Table_steps (defScope d_Table_steps) _ _ = true; decide +kernel)) (fun _ _ _ _ _ => pg_tup (by rfl) (pgs_cons (pg_name (i := 2) sc_Table_steps.nd rfl (.inl rfl)) (pgs_cons (pg_name (i := 3) sc_Table_steps.nd rfl (.inl rfl)) pgs_nil))) (fun _ _ _ _ _ => pts_nil) (fun _ _ _ _ _ => (pe_op (op_nm oS T.num hr) (pv 2) (pv 3))))))), ?_⟩
    refine ⟨_, rfl, x, D, dx, _, _, rfl, h1, U.cl, U.nP, pf_pts L, _, rfl, L, _, rfl, SqL.of h2, fun a ha => ?_⟩
    have ec : cutV (rs.map V.ref) (some 1) none = (rs.drop 1).map V.ref := by
      rw [List.map_drop]
      exact cut_from (rs.map V.ref) (i := 1) (by rw [List.length_map]; omega)
    rw [ec]
    have s1 := same_upd (o := .lst ((rs.drop 1).map V.ref)) ha
    refine rat_new (by decide) (bd_one (by decide)) fun z H2 hz s2 hzn => ?_
    rw [low_int] at hz
    refine ⟨(by show 1 ≤ sizeLine; decide), fun b hb => ?_⟩
    have s3 := same_upd (o := .lst [V.ref z]) hb
    have ha3 := s3 _ _ (s2 _ _ (upd_same (H := H) (a := a)))
    refine ⟨a, b, _, _, rfl, rfl, ha3, upd_same, ?_, fun g hg => ?_⟩
    · rw [List.length_map, List.length_drop, lr]
      show 5 ≤ sizeLine
      decide
    have s4 := same_upd (o := .lst ((rs.drop 1).map V.ref ++ [V.ref z])) hg
    have s14 := ((s1.trans s2).trans s3).trans s4
    refine ⟨_, rfl, x, D, dx, _, _, rfl, s14 _ _ h1, U.cl, U.nP, pf_pts L, _, rfl, L, g, _, _, rfl, SqL.of (s14 _ _ h2), SqL.of upd_same, fun D1 hD1 => ?_⟩
    have hz4 : Nm C (upd (upd H2 b (.lst [V.ref z])) g (.lst ((rs.drop 1).map V.ref ++ [V.ref z]))) (.ref z) 0 1 := nm_z (hz.same (s3.trans s4))
    have h34 := h3.same s14
    have hnx : Rats C (upd (upd H2 b (.lst [V.ref z])) g (.lst ((rs.drop 1).map V.ref ++ [V.ref z]))) (rs.drop 1 ++ [z]) (ps.drop 1 ++ [z01]) := Par.app (h34.drop 1) (Par.one hz4)
    have lw := t.lws
    refine lc_el (walk_zip (xs := rs.map V.ref) (ys := (rs.drop 1).map V.ref ++ [V.ref z]) (n := 5) (by rw [List.length_append, List.length_map, List.length_map, List.length_drop, lr]; rfl)) (rel_same hD1) (by decide)
      (fun j v H' => ∃ r p, v = V.ref r ∧ r ≠ D1 ∧ (stepsOf ps)[j]? = some p ∧ Nm C H' (.ref r) p.1 p.2) ?_ ?_ (fun H' s => ⟨SqL.of (s _ _ (s14 _ _ h2)), SqL.of (s _ _ upd_same)⟩) ?_ ?_
    · rintro j v H5 H6 s ⟨r, p, e, n, ep, k⟩
      exact ⟨r, p, e, n, ep, k.same s⟩
    · rintro j v H5 l l' hl5 ⟨r, p, e, n, ep, k⟩
      refine ⟨r, p, e, n, ep, ⟨.inl ⟨r, rfl, ?_⟩, k.lw, k.b1, k.b2⟩⟩
      obtain ⟨dy, h⟩ := k.rat
      exact ⟨dy, by rw [upd_ne n]; exact h⟩
    · rintro i v H5 H6 hi s5 ⟨acc, hacc, _⟩ ⟨Tp, u1, u2, rfl, hTp, rfl, hu1, hu2⟩ R k
      replace hu1 : (rs.map V.ref)[i]? = some u1 := hu1
      replace hu2 : ((rs.drop 1).map V.ref ++ [V.ref z])[i]? = some u2 := hu2
      have e2 : (rs.drop 1).map V.ref ++ [V.ref z] = (rs.drop 1 ++ [z]).map V.ref := by rw [List.map_append]; rfl
      rw [e2] at hu2
      obtain ⟨p, hp, n1⟩ := h34.nms.getL hu1
      obtain ⟨p', hp', n2⟩ := hnx.nms.getL hu2
      have hip := (List.getElem?_eq_some_iff.mp hp).1
      rw [next_get ps hip] at hp'
      cases hp'
      have s6 := s5.trans (same_upd (o := .tup [u1, u2]) hTp)
      obtain ⟨r1, hr1, rfl⟩ : ∃ r, rs[i]? = some r ∧ u1 = .ref r := by
        rw [List.getElem?_map] at hu1
        cases c : rs[i]? with
        | none => rw [c] at hu1; exact nomatch hu1
        | some r => rw [c] at hu1; exact ⟨r, rfl, (Option.some.inj hu1).symm⟩
      have m1 := n1.same s6
      have m2 := n2.same s6
      refine ⟨Tp, _, rfl, SqT.of upd_same, rfl, _, _, rfl, _, _, rfl, rfl, rfl, ?_⟩
      refine ⟨_, rfl, _, rfl, r1, p.1, p.2, _, _, rfl, m1.rat, m2.at_, r1, u2, p.1, p.2, _, _, rfl, m1, m2, fun q H7 hq s7 => ?_⟩
      have est := steps_get hp
      have lst := lw_minus m1.lw m2.lw
      have b1 := bd.get hp
      have b2 : Bd 1000 (ps[i + 1]?.getD z01).1 ∧ Bd 1000 (ps[i + 1]?.getD z01).2 := by
        cases c : ps[i + 1]? with
        | none => exact ⟨bd_zero, bd_one (by decide)⟩
        | some r => exact bd.get c
      have hd := mul_ne m1.lw.pos m2.lw.pos
      refine k _ H7 (fun b o e => s7 _ _ ((same_upd (o := .tup [V.ref r1, u2]) hTp) _ _ e)) ⟨q, _, rfl, fun zz => ?_, est, ⟨.inl ⟨q, rfl, hq⟩, lst, ?_, ?_⟩⟩
      · obtain ⟨dy, h⟩ := hq
        have hL7 := s7 _ _ ((same_upd (o := .tup [V.ref r1, u2]) hTp) _ _ hacc)
        rw [← zz, h] at hL7
        cases hL7
      · exact bd_low1 hd (((b1.1.mul b2.2).sub (b2.1.mul b1.2)).mono (by decide))
      · exact bd_low2 hd ((b1.2.mul b2.2).mono (by decide))
    · rintro H5 acc s5 hD5 hlen he
      obtain ⟨qs, rfl, hql, _⟩ := els V.ref (fun _ => True) acc fun j v hv => by
        obtain ⟨r, p, e, _⟩ := he j v hv
        exact ⟨r, e, trivial⟩
      refine q D1 qs H5 hD5 ⟨by rw [hql, hlen, steps_len, l5], fun i r p e1 e2 => ?_⟩ (s14.trans s5) ?_
      · obtain ⟨r', p', er, _, ep, k⟩ := he i (.ref r) (by rw [List.getElem?_map, e1]; rfl)
        cases er
        rw [ep] at e2
        cases e2
        exact k
      · exact same_none s14 hD1
end
end Tb
/-! What a table tells: single points, how many, ==, repr. -/
namespace Tb
open PySem PySem.Spec PyProof.Rows L2 Ow Pt Rm Ra
/-- a property, as others read it -/
structure Prp (P : Program) (w : World) (K : PySem.W.Frag) (mg : Str → Option Value) (base : Heap) (k : Nat) (C : Addr) (x : Str) (sp : Sp) : Prop where
  ex : ∃ p g fd, PropOf K C x p g ∧ FnOk P w K mg base CX0 k g fd ["self"] sp ∧ Binds K fd ["self"] []
theorem pe_pr {X : Cx} {k : Nat} {C : Addr} {x : Str} {sp : Sp} {pos : Pos} {e : Expr} {ta : TE} (D : Prp X.prog X.w X.K X.mg X.base k C x sp) (he : PE X e ta) (c : Cls X.K C) (hr : Room (k + 1) X.A) (hab : attributeBase e x X.env (eval e X.env) = eval e X.env) : PE X (.Attribute e x pos) (tProp C sp [] E0 ta) := by
  obtain ⟨p, g, fd, hp, F, hb⟩ := D.ex
  exact pe_prop he c hp F hr hb .nil pass0 hab
section
variable {P : Program} {w : World} {K : PySem.W.Frag} {mg : Str → Option Value} {base : Heap}
/-! ### t[i] -/
def spIx (C D : Addr) : Sp := fun vs H Q _ => ∃ x ps n, vs = [.ref x, .int ((n : Nat) + 1 : Int)] ∧ TabAt C D H x ps ∧ n < 5 ∧ ∀ r p, ps[n]? = some p → Nm C H (.ref r) p.1 p.2 → Q (.ref r) H
abbrev n_Table___getitem__ : List Str := ["self", "at"]
theorem sc_Table___getitem__ : FnScope n_Table___getitem__ ["self", "at"] (defScope d_Table___getitem__) := ⟨rfl, rfl, rfl, by decide +kernel, rfl, by decide +kernel, by decide +kernel⟩
theorem ok_item {f C D : Addr} {fd : FuncData} (F : FnP K "__getitem__" "Table.__getitem__" d_Table___getitem__ [] f fd) (U : TC K mg D) (dPl : Dfn P w K mg base 2 "is_place" ["value"] (spPlace K)) : FnOk P w K mg base CX0 3 f fd ["self", "at"] (spIx C D) := by
  refine F.ok sc_Table___getitem__ (fun vs H Q E h => ?_) (fun cdv A outer s H vs Q E hr h => ?_)
  · obtain ⟨x, ps, n, rfl, _⟩ := h
    rfl
  · obtain ⟨x, ps, n, rfl, t, hn, q⟩ := h
    obtain ⟨dx, L, rs, h1, h2, h3⟩ := t.at_
    have l5 := t.len
    have hr5 : n < rs.length := by rw [h3.1, l5]; exact hn
    refine ⟨_, PSs.nox (pss_cons (ps_if (pt_not (pt_val (pe_use dPl hr rfl (pa_cons (pv 1) pa_nil)))) pss_never pss_nil)
      (pss_one (ps_ret (pe_ix ix_list (pe_fld (pv 0) rfl) (pe_op op_sub (pv 1) pe_int) (fun _ _ => rfl))))), ?_⟩
    refine ⟨_, rfl, _, rfl, by omega, by omega, _, rfl, ?_⟩
    refine iteF ?_
    have e := List.getElem?_eq_getElem hr5
    have hat : atI (rs.map V.ref) (((n : Nat) + 1 : Int) - 1) = some (V.ref rs[n]) := by
      rw [show ((n : Nat) + 1 : Int) - 1 = ((n : Nat) : Int) by omega]
      exact atI_nat (by rw [List.getElem?_map, e]; rfl)
    obtain ⟨p, hp, k⟩ := h3.getL e
    refine ⟨_, rfl, x, D, dx, _, _, rfl, h1, U.cl, U.nP, pf_pts L, _, rfl, _, _, rfl, rfl, L, _, _, _, rfl, rfl, SqL.of h2, hat, ?_⟩
    exact q _ p hp k
/-! ### paid -/
def spPaid (C D : Addr) : Sp := fun vs H Q _ => ∃ x ps, vs = [.ref x] ∧ TabAt C D H x ps ∧ ∀ H', Same H H' → Q (.int (paidN ps : Nat)) H'
abbrev n_Table_paid : List Str := ["self", "point"]
theorem sc_Table_paid : FnScope n_Table_paid ["self"] (defScope d_Table_paid) := ⟨rfl, rfl, rfl, by decide +kernel, rfl, by decide +kernel, by decide +kernel⟩
/-- those above 0 of the points, gathered -/
theorem gather {C L : Addr} {te : TE} {vs : List Nat} {σ : L2.St} {g : TG} {H1 : Hp} {D1 : Addr} {rs : List Addr} {ps : List Fr2} {Qd : Hp → Prop} {tt : TT} (h3 : Rats C H1 rs ps) (hL : H1 L = some (.lst (rs.map V.ref))) (hD : H1 D1 = none) (hz : ps.length ≤ 1000) (h : Fr2 → V) (El : V → Fr2 → Prop)
    (hs : ∀ r p, p ∈ ps → ∀ H, Same H1 H → Nm C H (.ref r) p.1 p.2 → ∀ (RR : VK) (SS : Hp → Prop), (0 < p.1 → ∀ v H4, Same H H4 → El v p → RR v H4) → (¬ 0 < p.1 → ∀ H4, Same H H4 → SS H4) →
      g (.ref r) (wipe σ vs) H fun σ2 H2 => wipe σ2 vs = wipe σ vs ∧ tt σ2 H2 fun b H3 => if b = true then te σ2 H3 RR else SS H3)
    (hd : ∀ H acc, Same H1 H → H D1 = some (.lst acc) → Par El acc (ps.filter fun p => decide (0 < p.1)) → Qd H) :
    ∃ W : Nat → Nat → Hp → Prop, (∃ m, W 0 m (L2.upd H1 D1 (.lst []))) ∧ ∀ i m H, W i m H →
      ((Itl K L).stop i H ∧ Qd H) ∨ ((Itl K L).go i H ∧ ∃ Nx : Hp → Prop, (∀ H', Nx H' → ∃ m', m' < m ∧ W (i + 1) m' H') ∧ ∀ x H', (Itl K L).yld i H x H' → g x (wipe σ vs) H' fun σ2 H2 => wipe σ2 vs = wipe σ vs ∧ tt σ2 H2 fun b H3 =>
        if b = true then te σ2 H3 fun y H4 => ∃ acc, H4 D1 = some (.lst acc) ∧ acc.length < sizeLine ∧ Nx (L2.upd H4 D1 (.lst (acc ++ [y]))) else Nx H3) := by
  have lr := h3.1
  refine lc_it (walk_list (xs := rs.map V.ref)) (fun i H' => Same H1 H' ∧ ∃ acc, H' D1 = some (.lst acc) ∧ Par El acc ((ps.take i).filter fun p => decide (0 < p.1))) ⟨same_upd hD, [], upd_same, Par.nil⟩ (fun i H' _ h => SqL.of (h.1 _ _ hL)) ?_ ?_
  · rintro i x H5 H6 hi ⟨s5, acc, hacc, pa⟩ ⟨rfl, hx⟩
    rw [List.getElem?_map] at hx
    cases c : rs[i]? with
    | none => rw [c] at hx; exact nomatch hx
    | some r =>
      rw [c] at hx
      cases hx
      obtain ⟨p, hp, k⟩ := h3.getL c
      have hl : acc.length ≤ 1000 := by
        rw [pa.1]
        exact Nat.le_trans (List.length_filter_le _ _) (by rw [List.length_take]; omega)
      have et : ps.take (i + 1) = ps.take i ++ [p] := by rw [List.take_add_one, hp]; rfl
      refine hs r p (List.mem_of_getElem? hp) H6 s5 (k.same s5) _ _ (fun c0 v H7 s7 el => ?_) fun c0 H7 s7 => ?_
      · refine ⟨acc, s7 _ _ hacc, Nat.lt_of_le_of_lt hl (by decide), fun b o e => ?_, _, upd_same, ?_⟩
        · rw [upd_ne (ne_of_none e hD)]
          exact s7 _ _ (s5 _ _ e)
        · rw [et, List.filter_append, List.filter_cons_of_pos (by simpa using c0)]
          exact pa.app (Par.one el)
      · refine ⟨s5.trans s7, acc, s7 _ _ hacc, ?_⟩
        rw [et, List.filter_append, List.filter_cons_of_neg (by simpa using c0)]
        simpa using pa
  · rintro H5 ⟨s5, acc, hacc, pa⟩
    rw [List.length_map, lr, List.take_length] at pa
    exact hd H5 acc s5 hacc pa
theorem ok_paid {f C D : Addr} {fd : FuncData} (F : FnP K "paid" "Table.paid" d_Table_paid [] f fd) (B : Blt mg) (T : RT K mg C) (U : TC K mg D) (pS : PS_ P w K mg base C) : FnOk P w K mg base CX0 3 f fd ["self"] (spPaid C D) := by
  refine F.ok sc_Table_paid (fun vs H Q E h => ?_) (fun cdv A outer s H vs Q E hr h => ?_)
  · obtain ⟨x, ps, rfl, _⟩ := h
    rfl
  · obtain ⟨x, ps, rfl, t, q⟩ := h
    obtain ⟨dx, L, rs, h1, h2, h3⟩ := t.at_
    have hr2 := hr
    refine ⟨_, PSs.nox (pss_one (ps_ret (pe_callB (r := rLenS K) call_len_seq (by rfl) B.len PySem.boot_len (pa_cons (pe_lc rfl sc_Table_paid.nd (pi_list (pe_fld (pv 0) rfl)) (blkOk_by (own := [("point", 1)]) (by show blkC n_Table_paid (defScope d_Table_paid) _ _ = true; decide +kernel)) (fun _ _ _ _ _ => pg_name (i := 1) sc_Table_paid.nd rfl (.inl rfl)) (fun _ _ _ _ _ => (pts_one (pt_cmpR op_gt (pe_prp pS (pv 1) T.cl hr2 rfl) pe_int (nomark _)))) (fun _ _ _ _ _ => (pv 1))) pa_nil)))), ?_⟩
    refine ⟨_, rfl, x, D, dx, _, _, rfl, h1, U.cl, U.nP, pf_pts L, L, rfl, ⟨_, SqL.of h2⟩, fun D1 hD1 => ?_⟩
    refine gather (ps := ps) h3 h2 hD1 (by rw [t.len]; decide) (fun p => V.non) (fun _ _ => True) ?_ ?_
    · intro r p hp H5 s5 k RR SS k1 k2
      obtain ⟨dy, h5⟩ := k.rat
      refine ⟨rfl, ?_⟩
      refine ⟨_, rfl, r, dy, _, rfl, h5, r, p.1, p.2, rfl, ⟨dy, h5⟩, _, _, rfl, rfl, _, rfl, ?_⟩
      by_cases c : 0 < p.1
      · rw [decide_eq_true (show (0 : Int) < p.1.sign by rw [Int.sign_eq_one_of_pos c]; decide)]
        refine iteT ?_
        exact ⟨_, rfl, k1 c _ _ (Same.refl _) trivial⟩
      · rw [decide_eq_false (fun z => c (by
          have := Int.sign_pos_iff.mp z
          exact this))]
        refine iteF ?_
        exact k2 c _ (Same.refl _)
    · intro H5 acc s5 hD5 pa
      refine ⟨D1, acc, rfl, .inl (SqL.of hD5), ?_⟩
      rw [pa.1]
      exact q _ s5
/-! ### t == v -/
def spTEq (K : PySem.W.Frag) (C D : Addr) : Sp := fun vs H Q _ => ∃ x ps v, vs = [.ref x, v] ∧ TabAt C D H x ps ∧ ((∃ y qs, v = .ref y ∧ TabAt C D H y qs ∧ ∀ H', Same H H' → Q (.bl (decide (ps = qs))) H') ∨ ∃ t, TyX K H v t ∧ PySem.W.kitOne K t (.ref D) = some false ∧ Q (.bl false) H)
abbrev n_Table___eq__ : List Str := ["self", "other"]
theorem sc_Table___eq__ : FnScope n_Table___eq__ ["self", "other"] (defScope d_Table___eq__) := ⟨rfl, rfl, rfl, by decide +kernel, rfl, by decide +kernel, by decide +kernel⟩
/-- what is asked of the class besides -/
structure TK (K : PySem.W.Frag) (D : Addr) : Prop where
  ca : PySem.W.findIn K (.ref D) "__class__" = some (some (.builtin "object.__class__"))
  cm : PySem.W.mroIn K D (.type "object") = some true
  kDD : PySem.W.kitOne K (.ref D) (.ref D) = some true
theorem ty_tab {C D : Addr} (T : RT K mg C) (U : TC K mg D) (Z : TK K D) {H : Hp} {x : Addr} {ps : List Fr2} (h : TabAt C D H x ps) : TyX K H (.ref x) (.ref D) := by
  obtain ⟨dx, L, rs, h1, _⟩ := h.at_
  exact .base (.ins h1 U.cl Z.ca T.cg T.ct Z.cm)
/-- the truths of the places -/
def eqs (ps qs : List Fr2) (i : Nat) : Bool := decide (ps[i]?.getD z01 = qs[i]?.getD z01)
theorem eqs_all {ps qs : List Fr2} {n : Nat} (h1 : ps.length = n) (h2 : qs.length = n) : (List.range n).all (eqs ps qs) = decide (ps = qs) := by
  rw [Bool.eq_iff_iff, List.all_eq_true, decide_eq_true_iff]
  constructor
  · intro h
    refine List.ext_getElem? fun i => ?_
    rcases Nat.lt_or_ge i n with c | c
    · have := of_decide_eq_true (h i (List.mem_range.mpr c))
      rw [List.getElem?_eq_getElem (by omega), List.getElem?_eq_getElem (by omega)] at this ⊢
      exact congrArg some this
    · rw [List.getElem?_eq_none (by omega), List.getElem?_eq_none (by omega)]
  · rintro rfl i _
    exact decide_eq_true rfl
theorem dr_lists {C : Addr} {H : Hp} {a c : Addr} {rs ss : List Addr} {ps qs : List Fr2} (ha : H a = some (.lst (rs.map V.ref))) (hc : H c = some (.lst (ss.map V.ref))) (h1 : Rats C H rs ps) (h2 : Rats C H ss qs) (hl : ps.length = qs.length) : DListB (DR C) (.ref a) (.ref c) (decide (ps = qs)) H := by
  refine ⟨a, c, rs.map V.ref, ss.map V.ref, eqs ps qs, rfl, rfl, ha, hc, by rw [List.length_map, List.length_map, h1.1, h2.1, hl], fun i z w e1 e2 => ?_, ?_⟩
  · rw [List.getElem?_map] at e1 e2
    cases c1 : rs[i]? with
    | none => rw [c1] at e1; exact nomatch e1
    | some r => cases c2 : ss[i]? with
      | none => rw [c2] at e2; exact nomatch e2
      | some s =>
        rw [c1] at e1
        rw [c2] at e2
        cases e1
        cases e2
        obtain ⟨p, hp, k1⟩ := h1.getL c1
        obtain ⟨q, hq, k2⟩ := h2.getL c2
        refine ⟨r, s, p.1, p.2, q.1, q.2, rfl, rfl, k1.rat, k2.rat, ?_⟩
        unfold eqs
        rw [hp, hq]
        rfl
  · rw [List.length_map, h1.1, eqs_all rfl hl.symm]
theorem ok_teq {f C D : Addr} {fd : FuncData} (F : FnP K "__eq__" "Table.__eq__" d_Table___eq__ [] f fd) (B : Blt mg) (T : RT K mg C) (U : TC K mg D) (Z : TK K D) (Q_ : EqX P w K mg base C) : FnOk P w K mg base CX0 3 f fd ["self", "other"] (spTEq K C D) := by
  refine F.ok sc_Table___eq__ (fun vs H Q E h => ?_) (fun cdv A outer s H vs Q E hr h => ?_)
  · obtain ⟨x, ps, v, rfl, _⟩ := h
    rfl
  · obtain ⟨x, ps, v, rfl, t, h⟩ := h
    obtain ⟨fq, fqd, oq, Fq, bq⟩ := id Q_.ex
    have hr2 := hr
    have monR := monR C
    have eqR : EqB (cxOf CX0 P w K mg base n_Table___eq__ "Table.__eq__" (defScope d_Table___eq__) f cdv A outer s H E).nox 1 (DR C) := eqB_own (ownR T Q_.nf) oq Fq bq pass0
    refine ⟨_, PSs.nox (pss_one (ps_ret (pe_and (pe_callB call_isi (by rfl) B.isi boot_isinstance (pa_cons (pv 1) (pa_cons (pe_glob (v := .ref D) rfl U.mgT rfl) pa_nil))) (pe_one (pe_cmpR (op_eqLB monR eqR hr2) (pe_fld (pv 0) rfl) (pe_fld (pv 1) rfl) (nomark _)))))), ?_⟩
    obtain ⟨dx, L, rs, h1, h2, h3⟩ := t.at_
    rcases h with ⟨y, qs, rfl, t2, q⟩ | ⟨ty, hty, hk, q⟩
    · obtain ⟨dy, L2, ss, g1, g2, g3⟩ := t2.at_
      refine ⟨_, rfl, _, .ref D, .ref D, _, true, rfl, .own D, ty_tab T U Z t2, Z.kDD, true, rfl, ?_⟩
      refine iteT ?_
      refine ⟨_, rfl, x, D, dx, _, _, rfl, h1, U.cl, U.nP, pf_pts L, _, rfl, y, D, dy, _, _, rfl, g1, U.cl, U.nP, pf_pts L2, ?_⟩
      exact ⟨_, dr_lists h2 g2 h3 g3 (by rw [t.len, t2.len]), fun H' s => q H' s⟩
    · refine ⟨_, rfl, v, .ref D, ty, .ref D, false, rfl, .own D, hty, hk, false, rfl, ?_⟩
      exact iteF q
end
end Tb
/-! A table shown. -/
namespace Tb
open PySem PySem.Spec PyProof.Rows L2 Ow Pt Rm Ra
def shwP (p : Fr2) : Str := shw p.1 p.2
theorem shw_len {n d : Int} (hn : Bd 1900 n) (hd : Bd 1900 d) : (shw n d).length ≤ 4000 := by
  have h1 := it_len hn
  have h2 := it_len hd
  unfold shw
  rw [strLen_append, strLen_append, strLen_append, strLen_append, len6, len2, len3]
  omega
def tabText (ps : List Fr2) : Str := ("Table(" ++ Str.join ", " ((ps.filter fun p => decide (0 < p.1)).map shwP)) ++ ")"
theorem join_len (sep : Str) (m : Nat) : ∀ ts : List Str, (∀ t ∈ ts, t.length ≤ m) → (Str.join sep ts).length ≤ ts.length * (m + sep.length)
  | [], _ => by
    show Str.empty.length ≤ _
    exact Nat.zero_le _
  | [t], h => by
    have := h t List.mem_cons_self
    show t.length ≤ 1 * (m + sep.length)
    omega
  | t :: u :: r, h => by
    have a := h t List.mem_cons_self
    have b := join_len sep m (u :: r) fun x hx => h x (List.mem_cons_of_mem _ hx)
    show (t ++ sep ++ Str.join sep (u :: r)).length ≤ ((u :: r).length + 1) * (m + sep.length)
    rw [strLen_append, strLen_append, Nat.succ_mul]
    omega
theorem strs_of {acc : List V} {ps : List Fr2} (h : Par (fun v p => v = V.str (shwP p)) acc ps) : acc = (ps.map shwP).map V.str := by
  refine List.ext_getElem? fun i => ?_
  rw [List.map_map, List.getElem?_map]
  cases c : acc[i]? with
  | none =>
    rw [List.getElem?_eq_none (by rw [← h.1]; exact List.getElem?_eq_none_iff.mp c)]
    rfl
  | some v =>
    obtain ⟨p, hp, e⟩ := h.getL c
    rw [hp, e]
    rfl
theorem sum_le (m : Nat) : ∀ ts : List Str, (∀ t ∈ ts, t.length ≤ m) → (ts.map (·.length)).sum ≤ ts.length * m
  | [], _ => by simp
  | t :: r, h => by
    have a := h t List.mem_cons_self
    have b := sum_le m r fun x hx => h x (List.mem_cons_of_mem _ hx)
    rw [List.map_cons, List.sum_cons, List.length_cons, Nat.succ_mul]
    omega
section
variable {P : Program} {w : World} {K : PySem.W.Frag} {mg : Str → Option Value} {base : Heap}
def spTRepr (C D : Addr) : Sp := fun vs H Q _ => ∃ x ps, vs = [.ref x] ∧ TabAt C D H x ps ∧ Bds 1900 ps ∧ ∀ H', Same H H' → Q (.str (tabText ps)) H'
abbrev n_Table___repr__ : List Str := ["self", "told", "point"]
theorem sc_Table___repr__ : FnScope n_Table___repr__ ["self"] (defScope d_Table___repr__) := ⟨rfl, rfl, rfl, by decide +kernel, rfl, by decide +kernel, by decide +kernel⟩
theorem pos_len {ps : List Fr2} (h5 : ps.length = 5) (b : Bds 1900 ps) : ((ps.filter fun p => decide (0 < p.1)).map shwP).length ≤ 5 ∧ ∀ t ∈ (ps.filter fun p => decide (0 < p.1)).map shwP, t.length ≤ 4000 := by
  refine ⟨?_, fun t ht => ?_⟩
  · rw [List.length_map]
    exact Nat.le_trans (List.length_filter_le _ _) (by omega)
  · obtain ⟨p, hp, rfl⟩ := List.mem_map.mp ht
    have := b p (List.mem_filter.mp hp).1
    exact shw_len this.1 this.2
theorem ok_trepr {f C D : Addr} {fd : FuncData} (F : FnP K "__repr__" "Table.__repr__" d_Table___repr__ [] f fd) (B : Blt mg) (T : RT K mg C) (U : TC K mg D) (pS : PS_ P w K mg base C) (sR : ShX P w K mg base C "__repr__" shw) : FnOk P w K mg base CX0 3 f fd ["self"] (spTRepr C D) := by
  refine F.ok sc_Table___repr__ (fun vs H Q E h => ?_) (fun cdv A outer s H vs Q E hr h => ?_)
  · obtain ⟨x, ps, rfl, _⟩ := h
    rfl
  · obtain ⟨x, ps, rfl, t, bd, q⟩ := h
    obtain ⟨dx, L, rs, h1, h2, h3⟩ := t.at_
    have hr2 := hr
    refine ⟨_, PSs.nox (pss_cons (ps_setLc (i := 1) rfl sc_Table___repr__.nd rfl rfl (by rfl) (pi_list (pe_fld (pv 0) rfl)) (blkOk_by (own := [("point", 2)]) (by show blkC n_Table___repr__ (defScope d_Table___repr__) _ _ = true; decide +kernel)) (fun _ _ _ _ _ => pg_name (i := 2) sc_Table___repr__.nd rfl (.inl rfl)) (fun _ _ _ _ _ => (pts_one (pt_cmpR op_gt (pe_prp pS (pv 2) T.cl hr2 rfl) pe_int (nomark _)))) (fun _ _ _ _ _ => (pe_callB (shown_repr sR hr2) (by rfl) B.repr PyProof.Rows.boot_repr (pa_cons (pv 2) pa_nil))))
      (pss_one (ps_ret (pe_joined (.cons pe_str (.cons (pe_fmt (pe_join pe_str (pv 1))) (.cons pe_str .nil))))))), ?_⟩
    refine ⟨_, rfl, x, D, dx, _, _, rfl, h1, U.cl, U.nP, pf_pts L, L, rfl, ⟨_, SqL.of h2⟩, fun D1 hD1 => ?_⟩
    refine gather (ps := ps) h3 h2 hD1 (by rw [t.len]; decide) (fun p => V.non) (fun v p => v = V.str (shwP p)) ?_ ?_
    · intro r p hp H5 s5 k RR SS k1 k2
      obtain ⟨dy, h5⟩ := k.rat
      refine ⟨rfl, ?_⟩
      refine ⟨_, rfl, r, dy, _, rfl, h5, r, p.1, p.2, rfl, ⟨dy, h5⟩, _, _, rfl, rfl, _, rfl, ?_⟩
      by_cases c : 0 < p.1
      · rw [decide_eq_true (show (0 : Int) < p.1.sign by rw [Int.sign_eq_one_of_pos c]; decide)]
        refine iteT ?_
        exact ⟨_, rfl, r, dy, _, rfl, h5, r, p.1, p.2, rfl, ⟨dy, h5⟩, (bd p hp).1, (bd p hp).2, _, rfl, k1 c _ _ (Same.refl _) rfl⟩
      · rw [decide_eq_false (fun z => c (Int.sign_pos_iff.mp z))]
        refine iteF ?_
        exact k2 c _ (Same.refl _)
    · intro H5 acc s5 hD5 pa
      rw [strs_of pa] at hD5
      obtain ⟨n5, l4⟩ := pos_len t.len bd
      have jl := join_len ", " 4000 _ l4
      have sl := sum_le 4000 _ l4
      rw [len2] at jl
      have jl2 : (Str.join ", " ((ps.filter fun p => decide (0 < p.1)).map shwP)).length ≤ 20010 := Nat.le_trans jl (by omega)
      have l6 : (Str.ofString "Table(").length = 6 := by decide +kernel
      refine ⟨_, rfl, ?_, ?_⟩
      · rw [PySem.Str.empty_append, l6]
        exact line _ (by decide)
      refine ⟨⟨_, rfl⟩, _, rfl, ", ", D1, (ps.filter fun p => decide (0 < p.1)).map shwP, rfl, rfl, .inl (SqL.of hD5), by rw [len2]; omega, ?_⟩
      rw [TL.join_eq]
      refine .inl ⟨_, rfl, line _ (Nat.le_trans jl2 (by decide)), _, rfl, ?_, ?_⟩
      · rw [PySem.Str.empty_append, strLen_append, l6]
        exact line _ (Nat.le_trans (Nat.add_le_add_left jl2 6) (by decide))
      refine ⟨_, rfl, ?_, ?_⟩
      · rw [PySem.Str.empty_append, strLen_append, strLen_append, l6, len3]
        exact line _ (Nat.le_trans (Nat.add_le_add_right (Nat.add_le_add_left jl2 6) 1) (by decide))
      · rw [PySem.Str.empty_append]
        exact q _ s5
end
end Tb
/-! The law's own defs: steps, points. -/
namespace Lb
open PySem PySem.Spec PyProof.Rows L2 Ow Pt Rm Ra La Tb
/-- a list of pairs -/
structure Prs (H : Hp) (l : Addr) (ps : List Fr2) : Prop where
  ex : ∃ qs : List Addr, H l = some (.lst (qs.map V.ref)) ∧ Par (fun q p => PairAt H q p) qs ps
section
variable {H H' : Hp} {l p q : Addr} {ps : List Fr2} {a : Fr2}
theorem Prs.same (h : Prs H l ps) (s : Same H H') : Prs H' l ps := by
  obtain ⟨qs, e, k⟩ := h.ex
  exact ⟨qs, s _ _ e, Par.imp k fun _ _ z => z.same s⟩
theorem Prs.st (h : Prs H l ps) (hp : Pot H p) (s : Stp p H H') : Prs H' l ps := by
  obtain ⟨qs, e, k⟩ := h.ex
  exact ⟨qs, lst_st e (nt_ref qs) hp s, Par.imp k fun _ _ z => z.st hp s⟩
theorem Prs.len (h : Prs H l ps) : ∃ qs : List Addr, H l = some (.lst (qs.map V.ref)) ∧ qs.length = ps.length ∧ Par (fun q p => PairAt H q p) qs ps := by
  obtain ⟨qs, e, k⟩ := h.ex
  exact ⟨qs, e, k.1, k⟩
end
/-- one of the choices is an integer from 0 on -/
theorem pick_nn {xs : List Int} {m : Int} (h : ∀ x ∈ xs, 0 ≤ x ∧ x < m) {j : Nat} {v : V} (e : (xs.map V.int)[j]? = some v) : ∃ n, v = .int n ∧ 0 ≤ n ∧ n < m := by
  rw [List.getElem?_map] at e
  cases c : xs[j]? with
  | none => rw [c] at e; exact nomatch e
  | some x =>
    rw [c] at e
    cases e
    exact ⟨x, rfl, h x (List.mem_of_getElem? c)⟩
theorem ix_at {n j : Nat} (h : j < n) : ixN n (j : Int) = some j := by
  unfold ixN
  rw [if_pos (by omega), if_pos (by omega), Int.toNat_natCast]
section
variable {P : Program} {w : World} {K : PySem.W.Frag} {mg : Str → Option Value} {base : Heap}
/-! ### _law_steps -/
/-- steps of a table -/
structure Stps (ss : List Fr2) : Prop where
  lw : Lws ss
  nn : Nng ss
  bd : Bds 60 ss
  len : ss.length = 5
def spSteps (_ : PySem.W.Frag) : Sp := fun vs H Q _ => ∃ p, vs = [.ref p] ∧ Pot H p ∧ ∀ l ss H', Prs H' l ss → Stps ss → (∃ s ∈ ss, s.1 ≠ 0) → Stp p H H' → H l = none → Q (.ref l) H'
abbrev n__law_steps : List Str := ["_law_pot_here", "_law_found", "_law_place", "_law_up", "_law_step"]
theorem sc__law_steps : FnScope n__law_steps ["_law_pot_here"] (defScope d__law_steps) := ⟨rfl, rfl, rfl, by decide +kernel, rfl, by decide +kernel, by decide +kernel⟩
theorem b60 {n : Int} (h0 : 0 ≤ n) (h : n < 2000000) : Bd 60 n := bd_small h0 (by have := e60; omega) (by decide)
theorem pr_upd {H : Hp} {qs : List Addr} {ps : List Fr2} {l : Addr} {o o' : HO} (k : Par (fun q p => PairAt H q p) qs ps) (hl : H l = some o) (n : ∀ xs, o ≠ .tup xs) : Par (fun q p => PairAt (upd H l o') q p) qs ps := Par.imp k fun q p z => by
  have e : H q = some _ := z
  show upd H l o' q = some _
  rw [upd_ne (fun y => by rw [y, hl] at e; exact n _ (Option.some.inj e))]
  exact e
theorem ok_steps {f : Addr} {fd : FuncData} (F : FnP K "_law_steps" "_law_steps" d__law_steps [] f fd) (B : Blt mg) (dD : DDraw P w K mg base) (dP : DPick P w K mg base) (dL : DLow P w K mg base) : FnOk P w K mg base CX0 4 f fd ["_law_pot_here"] (spSteps K) := by
  refine F.ok sc__law_steps (fun vs H Q E h => ?_) (fun cdv A outer s H vs Q E hr h => ?_)
  · obtain ⟨p, rfl, _⟩ := h
    rfl
  · obtain ⟨p, rfl, hp, q⟩ := h
    have hr1 := hr.mono (by decide : 1 ≤ 3)
    have hr2 := hr.mono (by decide : 2 ≤ 3)
    refine ⟨_, PSs.nox (pss_cons (ps_set (i := 1) sc__law_steps.nd rfl (Or.inl rfl) (pe_lst pa_nil))
      (pss_cons (ps_for PassesOwn.never rfl (pi_range1 rfl B.range (pa_cons pe_int pa_nil)) (pg_name (i := 2) sc__law_steps.nd rfl (.inl rfl))
      (pss_cons (ps_set (i := 3) sc__law_steps.nd rfl (Or.inl rfl) (pe_use dP hr2 rfl (pa_cons (pv 0) (pa_cons (pe_lst (pa_cons pe_int (pa_cons pe_int (pa_cons pe_int (pa_cons pe_int (pa_cons pe_int (pa_cons pe_int (pa_cons (pe_op op_add pe_int (pe_use dD hr1 rfl (pa_cons (pv 0) (pa_cons pe_int pa_nil)))) (pa_cons (pe_use dD hr1 rfl (pa_cons (pv 0) (pa_cons (pe_op op_pow pe_int pe_int) pa_nil))) pa_nil))))))))) pa_nil))))
      (pss_one (ps_expr (pe_bm PySem.F.plainAttrs_list PySem.F.slot_list_append PySem.F.type_list_append mt_append (pv 1) (pa_cons (pe_use dL hr2 rfl (pa_cons (pv 3) (pa_cons (pe_use dP hr2 rfl (pa_cons (pv 0) (pa_cons (pe_lst (pa_cons pe_int (pa_cons pe_int (pa_cons pe_int (pa_cons pe_int (pa_cons pe_int (pa_cons (pe_op op_add pe_int (pe_use dD hr1 rfl (pa_cons (pv 0) (pa_cons pe_int pa_nil)))) pa_nil))))))) pa_nil))) pa_nil))) pa_nil))))))
      (pss_cons (ps_if (pt_cmpR op_eq (pe_callB (cr_max rfl) (by rfl) B.max PyProof.Rows.boot_max (pa_cons (pe_lc rfl sc__law_steps.nd (pi_list (pv 1)) (blkOk_by (own := [("_law_step", 4)]) (by show blkC n__law_steps (defScope d__law_steps) _ _ = true; decide +kernel)) (fun _ _ _ _ _ => pg_name (i := 4) sc__law_steps.nd rfl (.inl rfl)) (fun _ _ _ _ _ => pts_nil) (fun _ _ _ _ _ => (pe_ix (r := rIxT K) ix_tup (pv 4) pe_int (fun _ _ => rfl)))) pa_nil)) pe_int (nomark _)) (pss_one (ps_asg (pe_tup (pa_cons pe_int (pa_cons pe_int pa_nil))) (pg_sub (pv 1) (pe_use dD hr1 rfl (pa_cons (pv 0) (pa_cons pe_int pa_nil))) set_list))) pss_nil)
      (pss_one (ps_ret (pv 1)))))), ?_⟩
    refine ⟨by decide, fun f0 hf => ?_⟩
    have nfp : f0 ≠ p := Pt.pot_ne hp hf
    have s0 := Stp.of (same_upd (o := .lst []) hf) hp
    refine ⟨5, rfl, by decide, by decide, ?_⟩
    refine for_it (walk_range (lo := 0) (n := 5)) (fun i σ H' => ∃ (v2 v3 : Option V) (qs : List Addr) (ss : List Fr2), σ = [some (.ref p), some (.ref f0), v2, v3, none] ∧ ss.length = i ∧ H' f0 = some (.lst (qs.map V.ref)) ∧ Par (fun q p => PairAt H' q p) qs ss ∧ Lws ss ∧ Nng ss ∧ Bds 60 ss ∧ Stp p H H')
      ⟨_, _, [], [], rfl, rfl, upd_same, Par.nil, fun _ h => absurd h List.not_mem_nil, fun _ h => absurd h List.not_mem_nil, fun _ h => absurd h List.not_mem_nil, s0⟩ (fun _ _ _ _ _ => trivial) ?_ ?_
    · rintro i v σ H9 H1 hi ⟨v2, v3, qs, ss, rfl, hss, hf1, hqs, lw, nn, bd, s1⟩ ⟨rfl, rfl⟩
      have e6 : (10 : Int) ^ (6 : Int).toNat = 1000000 := by decide
      refine ⟨_, rfl, _, rfl, p, 30, rfl, s1.pot, by decide, bd_small (by decide) (by decide) (by decide), fun u1 H2 u10 u11 s2 => ⟨_, _, rfl, rfl, _, rfl, _, _, rfl, rfl, ⟨by decide, by decide, by decide⟩, p, _, rfl, s2.pot, by rw [e6]; decide, bd_small (by rw [e6]; decide) (by rw [e6]; decide) (by decide), fun u2 H3 u20 u21 s3 => ?_⟩⟩
      rw [e6] at u21
      refine ⟨(by show 8 ≤ sizeLine; decide), fun l hl => ?_⟩
      have s13 := (s1.trans s2).trans s3
      have s4 := s13.new (o := .lst [.int 0, .int 0, .int 1, .int 1, .int 2, .int 3, .int (1 + u1), .int u2]) hl
      refine ⟨p, l, _, rfl, s4.pot, Pt.pot_ne s13.pot hl, upd_same, (by show 0 < 8; decide), (by show 8 ≤ 1000; decide), fun j x H4 hx s5 => ?_⟩
      obtain ⟨up, rfl, up0, up1⟩ := pick_nn (m := 1000000) (xs := [0, 0, 1, 1, 2, 3, 1 + u1, u2]) (by
        intro x hx
        simp only [List.mem_cons, List.not_mem_nil, or_false] at hx
        omega) hx
      have s15 := s4.trans s5
      have t15 : Stp p H1 H4 := ((s2.trans s3).new (o := .lst [.int 0, .int 0, .int 1, .int 1, .int 2, .int 3, .int (1 + u1), .int u2]) hl).trans s5
      refine ⟨_, rfl, .inl ⟨rfl, qs.map V.ref, SqL.of (t15.keep _ _ nfp hf1)⟩, ?_⟩
      refine ⟨_, rfl, _, rfl, _, rfl, p, 30, rfl, s15.pot, by decide, bd_small (by decide) (by decide) (by decide), fun u3 H6 u30 u31 s6 => ⟨_, _, rfl, rfl, (by show 6 ≤ sizeLine; decide), fun l2 hl2 => ?_⟩⟩
      have s16 := s15.trans s6
      have s7 := s16.new (o := .lst [.int 1, .int 1, .int 1, .int 2, .int 3, .int (1 + u3)]) hl2
      have t17 : Stp p H1 _ := (t15.trans s6).new (o := .lst [.int 1, .int 1, .int 1, .int 2, .int 3, .int (1 + u3)]) hl2
      refine ⟨p, l2, _, rfl, s7.pot, Pt.pot_ne s16.pot hl2, upd_same, (by show 0 < 6; decide), (by show 6 ≤ 1000; decide), fun j2 x2 H7 hx2 s8 => ?_⟩
      obtain ⟨lo, rfl, lo0, lo1⟩ : ∃ n, x2 = .int n ∧ 1 ≤ n ∧ n < 32 := by
        have h : (([1, 1, 1, 2, 3, 1 + u3] : List Int).map V.int)[j2]? = some x2 := hx2
        rw [List.getElem?_map] at h
        cases c : ([1, 1, 1, 2, 3, 1 + u3] : List Int)[j2]? with
        | none => rw [c] at h; exact nomatch h
        | some x =>
          rw [c] at h
          cases h
          have m := List.mem_of_getElem? c
          simp only [List.mem_cons, List.not_mem_nil, or_false] at m
          exact ⟨x, rfl, by omega, by omega⟩
      have t18 := t17.trans s8
      have hlo : lo ≠ 0 := by omega
      refine ⟨up, lo, rfl, hlo, (b60 (by omega) (by omega)).mono (by decide), fun r H8 hr8 s9 hrn => ?_⟩
      have t19 : Stp p H1 H8 := t18.trans (Stp.of s9 t18.pot)
      have hf8 := t19.keep _ _ nfp hf1
      have lw8 := low_lw up hlo
      have n8 : 0 ≤ (low up lo).1 := by
        have e1 := low_t (t := up) (b := lo)
        have e2 : 0 < byv up lo := by
          have := gcd_pos (t := up) (b := lo) hlo
          unfold byv sg
          rw [if_pos (by omega)]
          omega
        refine Int.not_lt.mp fun c => ?_
        have := Int.mul_neg_of_neg_of_pos c e2
        omega
      refine ⟨f0, _, _, rfl, rfl, hf8, ?_, _, _, qs ++ [r], ss ++ [low up lo], rfl, by rw [List.length_append, hss]; rfl, by rw [upd_same, List.map_append]; rfl, ?_, ?_, ?_, ?_, ?_⟩
      · rw [List.length_map, hqs.1, hss]
        exact Nat.lt_of_le_of_lt (show i ≤ 1000 by omega) (by decide)
      · exact pr_upd (Par.app (Par.imp hqs fun q a z => z.st s1.pot t19) (Par.one hr8)) hf8 (fun xs z => nomatch z)
      · exact fun s hs => (List.mem_append.mp hs).elim (lw s) fun z => by rw [List.mem_singleton.mp z]; exact lw8
      · exact fun s hs => (List.mem_append.mp hs).elim (nn s) fun z => by rw [List.mem_singleton.mp z]; exact n8
      · exact fun s hs => (List.mem_append.mp hs).elim (bd s) fun z => by rw [List.mem_singleton.mp z]; exact ⟨bd_low1 hlo (b60 up0 (by omega)), bd_low2 hlo (b60 (by omega) (by omega))⟩
      · exact (s1.trans t19).upd hf nfp
    · rintro σ H1 ⟨v2, v3, qs, ss, rfl, hss, hf1, hqs, lw, nn, bd, s1⟩
      have l5 : ss.length = 5 := hss
      refine ⟨_, rfl, f0, rfl, ⟨_, SqL.of hf1⟩, fun g hg => ?_⟩
      refine lc_vals (walk_list (xs := qs.map V.ref)) (rel_same hg) ((ss.map fun s => s.1).map V.int) (by rw [List.length_map, List.length_map, List.length_map, hqs.1]) (by rw [List.length_map, hqs.1]; omega) (fun H' s => SqL.of (s _ _ hf1)) ?_ ?_
      · rintro i v H5 H6 u hi hu s5 _ ⟨rfl, hv⟩ R kk
        rw [List.getElem?_map] at hv
        cases c : qs[i]? with
        | none => rw [c] at hv; exact nomatch hv
        | some a =>
          rw [c] at hv
          cases hv
          obtain ⟨s, hs, pa⟩ := hqs.getL c
          rw [List.getElem?_map, List.getElem?_map, hs] at hu
          cases hu
          refine ⟨rfl, ?_⟩
          exact ⟨_, rfl, a, _, _, _, rfl, rfl, SqT.of (pa.same s5), ix2_0 s, kk _ (Same.refl _)⟩
      · intro H5 s5 hg5
        refine ⟨g, ss.map fun s => s.1, rfl, SqL.of hg5, by rw [List.length_map]; omega, fun m hm mx => ?_⟩
        have t5 : Stp p H1 H5 := Stp.of s5 s1.pot
        refine ⟨rfl, _, rfl, ?_⟩
        have fin : ∀ (H6 : Hp) (ss' : List Fr2), Prs H6 f0 ss' → Stps ss' → (∃ s ∈ ss', s.1 ≠ 0) → Stp p H H6 → Q (.ref f0) H6 := fun H6 ss' k1 k2 k3 k4 => q f0 ss' H6 k1 k2 k3 k4 hf
        refine ite2 (fun c => ?_) (fun c => ?_)
        · have m0 : m = 0 := V.int.inj (of_decide_eq_true c)
          refine ⟨(by show 2 ≤ sizeLine; decide), fun t ht => ?_⟩
          have t6 := t5.new (o := .tup [.int 1, .int 1]) ht
          refine ⟨_, rfl, _, rfl, p, 5, rfl, t6.pot, by decide, bd_small (by decide) (by decide) (by decide), fun r H7 r0 r1 s7 => ?_⟩
          have t7 := t6.trans s7
          have hf7 := t7.keep _ _ nfp hf1
          obtain ⟨j, rfl⟩ : ∃ j : Nat, r = (j : Int) := ⟨r.toNat, by omega⟩
          have hj : j < qs.length := by rw [hqs.1]; omega
          have ht7 : H7 t = some (.tup [.int 1, .int 1]) := s7.keep _ _ (Pt.pot_ne t5.pot ht) upd_same
          refine ⟨f0, _, _, j, rfl, rfl, hf7, ix_at (by rw [List.length_map]; exact hj), ?_⟩
          refine ⟨_, rfl, fin _ (ss.set j (1, 1)) ⟨qs.set j t, by rw [upd_same, List.map_set], ?_⟩ ⟨fun s hs => ?_, fun s hs => ?_, fun s hs => ?_, by rw [List.length_set]; exact l5⟩ ⟨(1, 1), List.mem_set (by omega) _, by decide⟩ ((s1.trans t7).upd hf nfp)⟩
          · exact pr_upd (Par.set (Par.imp hqs fun q a z => z.st s1.pot t7) j ht7) hf7 (fun xs z => nomatch z)
          · exact (List.mem_or_eq_of_mem_set hs).elim (lw s) fun z => by rw [z]; exact lw_int 1
          · exact (List.mem_or_eq_of_mem_set hs).elim (nn s) fun z => by rw [z]; decide
          · exact (List.mem_or_eq_of_mem_set hs).elim (bd s) fun z => by rw [z]; exact ⟨bd_one (by decide), bd_one (by decide)⟩
        · obtain ⟨s, hs, rfl⟩ := List.mem_map.mp hm
          exact ⟨_, rfl, fin H5 ss ⟨qs, s5 _ _ hf1, Par.imp hqs fun q a z => z.same s5⟩ ⟨lw, nn, bd, l5⟩ ⟨s, hs, fun z => c (decide_eq_true (by rw [z]))⟩ (s1.trans t5)⟩
end
end Lb
/-! The law's own defs: points, numbers, texts. -/
namespace Lb
open PySem PySem.Spec PyProof.Rows L2 Ow Pt Rm Ra La Tb
section
variable {P : Program} {w : World} {K : PySem.W.Frag} {mg : Str → Option Value} {base : Heap}
/-! ### _law_points -/
theorem pts_bd : ∀ {ss : List Fr2}, Lws ss → Bds 60 ss → ∀ p ∈ ptsR ss, Bd (1 + 62 * ss.length) p.1 ∧ Bd (1 + 62 * ss.length) p.2
  | [], _, _ => fun p hp => absurd hp List.not_mem_nil
  | s :: ss, l, b => fun p hp => by
    have ls : Lws ss := fun x hx => l x (List.mem_cons_of_mem _ hx)
    have ih := pts_bd ls fun x hx => b x (List.mem_cons_of_mem _ hx)
    rw [List.length_cons]
    rcases List.mem_cons.mp hp with rfl | hp
    · have hh : Bd (1 + 62 * ss.length) ((ptsR ss).headD z01).1 ∧ Bd (1 + 62 * ss.length) ((ptsR ss).headD z01).2 := by
        cases c : ptsR ss with
        | nil => exact ⟨bd_zero, bd_one (by omega)⟩
        | cons x xs => exact ih x (by rw [c]; exact List.mem_cons_self)
      have bs := b s List.mem_cons_self
      have hd := mul_ne (lws_head (pts_lws ls)).pos (l s List.mem_cons_self).pos
      refine ⟨bd_low1 hd ?_, bd_low2 hd ((hh.2.mul bs.2).mono (by omega))⟩
      exact ((hh.1.mul bs.2).add ((bs.1.mul hh.2).mono (show 60 + (1 + 62 * ss.length) ≤ 1 + 62 * ss.length + 60 by omega))).mono (by omega)
    · have := ih p hp
      exact ⟨this.1.mono (by omega), this.2.mono (by omega)⟩
theorem pts_bd5 {ss : List Fr2} (h : Stps ss) : Bds 400 (ptsR ss) := fun p hp => by
  have := pts_bd h.lw h.bd p hp
  rw [h.len] at this
  exact ⟨this.1.mono (by decide), this.2.mono (by decide)⟩
def spPoints : Sp := fun vs H Q _ => ∃ l ss, vs = [.ref l] ∧ Prs H l ss ∧ Stps ss ∧ ∀ g H', Prs H' g (ptsR ss) → Same H H' → H g = none → Q (.ref g) H'
abbrev n__law_points : List Str := ["_law_steps_here", "_law_found", "_law_step"]
theorem sc__law_points : FnScope n__law_points ["_law_steps_here"] (defScope d__law_points) := ⟨rfl, rfl, rfl, by decide +kernel, rfl, by decide +kernel, by decide +kernel⟩
theorem at_last (x : V) (ys : List V) : atI (x :: ys.reverse) (-1) = some (ys.headD x) := by
  unfold atI ixN
  rw [List.length_cons, List.length_reverse, if_neg (by omega), if_pos (by omega)]
  show (x :: ys.reverse)[((-1 : Int) + ((ys.length + 1 : Nat) : Int)).toNat]? = _
  rw [show ((-1 : Int) + ((ys.length + 1 : Nat) : Int)).toNat = ys.length by omega]
  cases ys with
  | nil => rfl
  | cons y ys =>
    rw [List.length_cons, List.getElem?_cons_succ, List.getElem?_reverse (by rw [List.length_cons]; omega), List.length_cons, show ys.length + 1 - 1 - ys.length = 0 by omega]
    rfl
theorem rev_take {ss : List Fr2} (i : Nat) (hi : i < ss.length) : ss.drop (ss.length - (i + 1)) = ss[ss.length - 1 - i] :: ss.drop (ss.length - i) := by
  rw [List.drop_eq_getElem_cons (show ss.length - (i + 1) < ss.length by omega)]
  congr 1
  · congr 1
    omega
  · congr 1
    omega
theorem ok_points {f : Addr} {fd : FuncData} (F : FnP K "_law_points" "_law_points" d__law_points [] f fd) (dPl : Dfn P w K mg base 3 "_law_plus" ["_law_a", "_law_b"] (spP2 plus)) : FnOk P w K mg base CX0 4 f fd ["_law_steps_here"] spPoints := by
  refine F.ok sc__law_points (fun vs H Q E h => ?_) (fun cdv A outer s H vs Q E hr h => ?_)
  · obtain ⟨l, ss, rfl, _⟩ := h
    rfl
  · obtain ⟨l, ss, rfl, hl, st, q⟩ := h
    obtain ⟨qs, e, hq1, hqs⟩ := hl.len
    have l5 := st.len
    refine ⟨_, PSs.nox (pss_cons (ps_set (i := 1) sc__law_points.nd rfl (Or.inl rfl) (pe_lst (pa_cons (pe_tup (pa_cons pe_int (pa_cons pe_int pa_nil))) pa_nil)))
      (pss_cons (ps_for PassesOwn.never rfl (pi_list (pe_revL (pv 0))) (pg_name (i := 2) sc__law_points.nd rfl (.inl rfl))
      (pss_one (ps_expr (pe_bm PySem.F.plainAttrs_list PySem.F.slot_list_append PySem.F.type_list_append mt_append (pv 1) (pa_cons (pe_use dPl hr rfl (pa_cons (pe_ix ix_list (pv 1) (pe_un un_neg pe_int) (fun _ _ => rfl)) (pa_cons (pv 2) pa_nil))) pa_nil)))))
      (pss_one (ps_ret (pe_back (pv 1)))))), ?_⟩
    refine ⟨(by show 2 ≤ sizeLine; decide), fun t ht => ⟨(by show 1 ≤ sizeLine; decide), fun g hg => ?_⟩⟩
    have s0 : Same H (upd (upd H t (.tup [.int 0, .int 1])) g (.lst [.ref t])) := (same_upd ht).trans (same_upd hg)
    have nlg : ∀ {x : Addr} {o : HO}, H x = some o → x ≠ g := fun ex z => by
      have := (same_upd (o := .tup [.int 0, .int 1]) ht) _ _ ex
      rw [z, hg] at this
      exact nomatch this
    have pt0 : PairAt (upd (upd H t (.tup [.int 0, .int 1])) g (.lst [.ref t])) t z01 := (same_upd hg) _ _ upd_same
    refine ⟨_, rfl, l, _, rfl, SqL.of (s0 _ _ e), fun r hr' => ?_⟩
    have s1 := s0.trans (same_upd (o := .lst ((qs.map V.ref).reverse)) hr')
    refine ⟨r, rfl, ⟨_, SqL.of upd_same⟩, ?_⟩
    refine for_it (walk_list (xs := (qs.map V.ref).reverse)) (fun i σ H' => ∃ (v2 : Option V) (zs : List Addr), σ = [some (.ref l), some (.ref g), v2] ∧ zs.length = i ∧ H' g = some (.lst (V.ref t :: (zs.map V.ref).reverse)) ∧ Par (fun q p => PairAt H' q p) zs (ptsR (ss.drop (ss.length - i))) ∧ Same H H' ∧ H' r = some (.lst (qs.map V.ref).reverse) ∧ PairAt H' t z01)
      ⟨_, [], rfl, rfl, ?_, ?_, s1, upd_same, ?_⟩ (fun i σ H' _ h => by obtain ⟨_, _, _, _, _, _, _, h, _⟩ := h; exact SqL.of h) ?_ ?_
    · exact (same_upd hr') _ _ upd_same
    · rw [Nat.sub_zero, List.drop_length]
      exact Par.nil
    · exact pt0.same (same_upd hr')
    · rintro i x σ H9 H1 hi ⟨v2, zs, rfl, hzl, hg1, hzs, s2, hr1, pt1⟩ ⟨rfl, hx⟩
      have hiq : i < ss.length := by
        rw [List.length_reverse, List.length_map, hq1] at hi
        exact hi
      have hx2 : (qs.map V.ref)[ss.length - 1 - i]? = some x := by
        rw [List.getElem?_reverse (by rw [List.length_map, hq1]; exact hiq), List.length_map, hq1] at hx
        exact hx
      rw [List.getElem?_map] at hx2
      cases c : qs[ss.length - 1 - i]? with
      | none => rw [c] at hx2; exact nomatch hx2
      | some a =>
        rw [c] at hx2
        cases hx2
        obtain ⟨s', hs, pa⟩ := hqs.getL c
        have hse : s' = ss[ss.length - 1 - i] := by
          rw [List.getElem?_eq_getElem (by omega)] at hs
          exact (Option.some.inj hs).symm
        have hs' := st.bd.get hs
        have ls := st.lw.get hs
        have lR := pts_lws (lws_drop st.lw (ss.length - i))
        have hbd : Bds 400 (ptsR ss) := pts_bd5 st
        -- the last one found
        have last : ∃ z, (zs.map V.ref).headD (V.ref t) = .ref z ∧ PairAt H1 z ((ptsR (ss.drop (ss.length - i))).headD z01) := by
          cases zs with
          | nil =>
            have e0 : ptsR (ss.drop (ss.length - i)) = [] := List.length_eq_zero_iff.mp hzs.1.symm
            exact ⟨t, rfl, by rw [e0]; exact pt1⟩
          | cons z zs =>
            cases c2 : ptsR (ss.drop (ss.length - i)) with
            | nil => rw [c2] at hzs; exact nomatch hzs.1
            | cons p ps =>
              rw [c2] at hzs
              exact ⟨z, rfl, hzs.head⟩
        obtain ⟨z, ez, pz⟩ := last
        have bz : Bd 400 ((ptsR (ss.drop (ss.length - i))).headD z01).1 ∧ Bd 400 ((ptsR (ss.drop (ss.length - i))).headD z01).2 := by
          cases c2 : ptsR (ss.drop (ss.length - i)) with
          | nil => exact ⟨bd_zero, bd_one (by decide)⟩
          | cons p ps =>
            refine hbd p ?_
            have : p ∈ (ptsR ss).drop (ss.length - i) := by rw [pts_drop, c2]; exact List.mem_cons_self
            exact List.mem_of_mem_drop this
        have lz := lws_head lR
        have hat : atI (V.ref t :: (zs.map V.ref).reverse) (-1) = some (.ref z) := by rw [at_last, ez]
        refine ⟨_, rfl, .inl ⟨rfl, _, SqL.of hg1⟩, ?_⟩
        refine ⟨_, rfl, _, rfl, g, _, _, _, rfl, rfl, SqL.of hg1, hat, _, rfl, z, a, _, s', rfl, ⟨pz, lz, bz.1.mono (by decide), bz.2.mono (by decide)⟩, ⟨pa.same s2, ls, hs'.1.mono (by decide), hs'.2.mono (by decide)⟩, fun y H2 hy s3 hyn => ?_⟩
        have hg2 := s3 _ _ hg1
        have nyg : y ≠ g := (ne_of_none hg1 hyn).symm
        have ed : ptsR (ss.drop (ss.length - (i + 1))) = plus ((ptsR (ss.drop (ss.length - i))).headD z01) s' :: ptsR (ss.drop (ss.length - i)) := by
          rw [rev_take i hiq, hse]
          rfl
        refine ⟨g, _, _, rfl, rfl, hg2, ?_, _, y :: zs, rfl, by rw [List.length_cons, hzl], ?_, ?_, ?_, ?_, ?_⟩
        · rw [List.length_cons, List.length_reverse, List.length_map, hzl]
          exact Nat.lt_of_le_of_lt (show i + 1 ≤ 1000 by omega) (by decide)
        · rw [upd_same, List.map_cons, List.reverse_cons]
          rfl
        · rw [ed]
          exact pr_upd (Par.cons hy (Par.imp hzs fun _ _ k => k.same s3)) hg2 (fun xs z => nomatch z)
        · intro b o eb
          rw [upd_ne (nlg eb)]
          exact s3 _ _ (s2 _ _ eb)
        · rw [upd_ne (ne_of_none upd_same hr').symm |> fun h => h]
          exact s3 _ _ hr1
        · show upd H2 g _ t = _
          rw [upd_ne (ne_of_none upd_same hg)]
          exact pt1.same s3
    · rintro σ H1 ⟨v2, zs, rfl, hzl, hg1, hzs, s2, hr1, pt1⟩
      refine ⟨_, rfl, g, _, rfl, SqL.of hg1, fun b hb => ?_⟩
      have e1 : ss.length - (qs.map V.ref).reverse.length = 0 := by rw [List.length_reverse, List.length_map, hq1]; omega
      rw [e1, List.drop_zero] at hzs
      refine q b _ ⟨zs, ?_, Par.imp hzs fun _ _ k => k.same (same_upd hb)⟩ (s2.trans (same_upd hb)) (same_none s2 hb)
      rw [upd_same, List.drop_one, List.tail_cons, List.reverse_reverse]
end
end Lb
/-! The law's own defs: numbers as they are passed, texts, tables by hand. -/
namespace Lb
open PySem PySem.Spec PyProof.Rows L2 Ow Pt Rm Ra La Tb
section
variable {P : Program} {w : World} {K : PySem.W.Frag} {mg : Str → Option Value} {base : Heap}
/-! ### _law_number -/
def spNum (C : Addr) : Sp := fun vs H Q _ => ∃ (p q : Addr) (a : Fr2), vs = [.ref p, .ref q] ∧ Pot H p ∧ PairAt H q a ∧ Lw a.1 a.2 ∧ Bd 400 a.1 ∧ Bd 400 a.2 ∧ ∀ v H', Nm C H' v a.1 a.2 → Stp p H H' → Q v H'
abbrev n__law_number : List Str := ["_law_pot_here", "_law_a", "_law_by"]
theorem sc__law_number : FnScope n__law_number ["_law_pot_here", "_law_a"] (defScope d__law_number) := ⟨rfl, rfl, rfl, by decide +kernel, rfl, by decide +kernel, by decide +kernel⟩
theorem four (j : Nat) (x : V) (h : ([.int 1, .int 1, .int 2, .int (-3)] : List V)[j]? = some x) : ∃ m : Int, x = .int m ∧ m ≠ 0 ∧ Bd 60 m := by
  rcases j with _ | _ | _ | _ | j
  · cases h; exact ⟨1, rfl, by decide, bd_one (by decide)⟩
  · cases h; exact ⟨1, rfl, by decide, bd_one (by decide)⟩
  · cases h; exact ⟨2, rfl, by decide, b60 (by decide) (by decide)⟩
  · cases h; exact ⟨-3, rfl, by decide, (b60 (n := 3) (by decide) (by decide)).neg⟩
  · exact nomatch h
theorem ok_number {f C : Addr} {fd : FuncData} (F : FnP K "_law_number" "_law_number" d__law_number [] f fd) (T : RT K mg C) (M : RMk P w K mg base C) (dD : DDraw P w K mg base) (dP : DPick P w K mg base) : FnOk P w K mg base CX0 4 f fd ["_law_pot_here", "_law_a"] (spNum C) := by
  refine F.ok sc__law_number (fun vs H Q E h => ?_) (fun cdv A outer s H vs Q E hr h => ?_)
  · obtain ⟨p, q, a, rfl, _⟩ := h
    rfl
  · obtain ⟨p, qa, a, rfl, hp, hq, lw, b1, b2, q⟩ := h
    have hr1 := hr.mono (by decide : 1 ≤ 3)
    have hr2 := hr.mono (by decide : 2 ≤ 3)
    refine ⟨_, PSs.nox (pss_cons (ps_set (i := 2) sc__law_number.nd rfl (Or.inl rfl) (pe_use dP hr2 rfl (pa_cons (pv 0) (pa_cons (pe_lst (pa_cons pe_int (pa_cons pe_int (pa_cons pe_int (pa_cons (pe_un un_neg pe_int) pa_nil))))) pa_nil))))
      (pss_one (ps_ret (pe_ifExp (PW.pt (pw_and (pt_cmpR op_eq (pe_ix ix_tup (pv 1) pe_int (fun _ _ => rfl)) pe_int (nomark _)) (pw_and1 (pt_cmpR op_eq (pe_use dD hr1 rfl (pa_cons (pv 0) (pa_cons pe_int pa_nil))) pe_int (nomark _))))) (pe_ix ix_tup (pv 1) pe_int (fun _ _ => rfl)) (pe_rat2 M hr rfl T.mgC (pe_op op_mulW (pe_ix ix_tup (pv 1) pe_int (fun _ _ => rfl)) (pv 2)) (pe_op op_mulW (pe_ix ix_tup (pv 1) pe_int (fun _ _ => rfl)) (pv 2))))))), ?_⟩
    refine ⟨_, rfl, _, rfl, (by show 4 ≤ sizeLine; decide), fun l hl => ?_⟩
    have s0 := Stp.of (same_upd (o := .lst [.int 1, .int 1, .int 2, .int (-3)]) hl) hp
    refine ⟨p, l, _, rfl, s0.pot, Pt.pot_ne hp hl, upd_same, (by show 0 < 4; decide), (by show 4 ≤ 1000; decide), fun j x H1 hx s1 => ?_⟩
    obtain ⟨m, rfl, m0, bm⟩ := four j x hx
    have s01 := s0.trans s1
    have sq := SqT.of (K := K) (hq.st hp s01)
    have rat : ∀ H2, Stp p H H2 → tMake C (spInit C) [] E0 (tCons (tOp (rI CMulW fun i j => .int (i * j)) (tOp (rIxT K) (tVar 1) (tC (.int 0))) (tVar 2)) (tCons (tOp (rI CMulW fun i j => .int (i * j)) (tOp (rIxT K) (tVar 1) (tC (.int 1))) (tVar 2)) tNil)) [some (.ref p), some (.ref qa), some (.int m)] H2 Q := fun H2 s2 => by
      have sq2 := SqT.of (K := K) (hq.st hp s2)
      refine ⟨_, rfl, qa, _, _, _, rfl, rfl, sq2, ix2_0 a, _, rfl, _, _, rfl, rfl, cmul b1 bm, _, rfl, qa, _, _, _, rfl, rfl, sq2, ix2_1 a, _, rfl, _, _, rfl, rfl, cmul b2 bm, ?_⟩
      refine rat_new (by have := lw.pos; exact Int.mul_ne_zero (by omega) m0) ((b2.mul bm).mono (by decide)) fun z H3 hz s3 _ => ?_
      rw [low_mul lw m0] at hz
      exact q _ H3 ⟨.inl ⟨z, rfl, hz⟩, lw, b1.mono (by decide), b2.mono (by decide)⟩ (s2.sm s3)
    refine ⟨_, rfl, qa, _, _, _, rfl, rfl, sq, ix2_1 a, rfl, _, rfl, ?_⟩
    refine ite2 (fun c => ?_) (fun c => ?_)
    · have a2 : a.2 = 1 := V.int.inj (of_decide_eq_true c)
      refine ⟨_, rfl, p, 2, rfl, s1.pot, by decide, bd_small (by decide) (by decide) (by decide), fun r H2 r0 r1 s2 => ⟨rfl, _, rfl, ?_⟩⟩
      have s02 := s01.trans s2
      refine ite2 (fun c2 => ?_) (fun c2 => ?_)
      · refine ⟨_, rfl, qa, _, _, _, rfl, rfl, SqT.of (hq.st hp s02), ix2_0 a, ?_⟩
        exact q _ H2 ⟨.inr ⟨rfl, a2⟩, lw, b1.mono (by decide), b2.mono (by decide)⟩ s02
      · exact rat H2 s02
    · exact rat H1 s01
/-! ### _law_shown -/
def spShown : Sp := fun vs H Q _ => ∃ (q : Addr) (a : Fr2), vs = [.ref q] ∧ PairAt H q a ∧ Bd 1900 a.1 ∧ Bd 1900 a.2 ∧ Q (.str (shwP a)) H
abbrev n__law_shown : List Str := ["_law_a"]
theorem sc__law_shown : FnScope n__law_shown ["_law_a"] (defScope d__law_shown) := ⟨rfl, rfl, rfl, by decide +kernel, rfl, by decide +kernel, by decide +kernel⟩
theorem ok_shown {f : Addr} {fd : FuncData} (F : FnP K "_law_shown" "_law_shown" d__law_shown [] f fd) (B : Blt mg) : FnOk P w K mg base CX0 1 f fd ["_law_a"] spShown := by
  refine F.ok sc__law_shown (fun vs H Q E h => ?_) (fun cdv A outer s H vs Q E hr h => ?_)
  · obtain ⟨q, a, rfl, _⟩ := h
    rfl
  · obtain ⟨qa, a, rfl, hq, hn, hd, q⟩ := h
    have sq := SqT.of (K := K) hq
    have h1 := it_len hn
    have h2 := it_len hd
    refine ⟨_, PSs.nox (pss_one (ps_ret (pe_op op_add_str (pe_op op_add_str (pe_op op_add_str (pe_op op_add_str pe_str (pe_callTy call_str_int (by rfl) B.str (by decide +kernel) (pa_cons (pe_ix ix_tup (pv 0) pe_int (fun _ _ => rfl)) pa_nil))) pe_str) (pe_callTy call_str_int (by rfl) B.str (by decide +kernel) (pa_cons (pe_ix ix_tup (pv 0) pe_int (fun _ _ => rfl)) pa_nil))) pe_str))), ?_⟩
    refine ⟨_, rfl, qa, _, _, _, rfl, rfl, sq, ix2_0 a, a.1, rfl, lt1920 hn, _, _, rfl, rfl, ?_, ?_⟩
    · rw [len6]
      exact line _ (Nat.le_trans (Nat.add_le_add_left h1 6) (by decide))
    refine ⟨_, _, rfl, rfl, ?_, ?_⟩
    · rw [strLen_append, len6, len2]
      exact line _ (Nat.le_trans (Nat.add_le_add_right (Nat.add_le_add_left h1 6) 2) (by decide))
    refine ⟨_, rfl, qa, _, _, _, rfl, rfl, sq, ix2_1 a, a.2, rfl, lt1920 hd, _, _, rfl, rfl, ?_, ?_⟩
    · rw [strLen_append, strLen_append, len6, len2]
      exact line _ (Nat.le_trans (Nat.add_le_add (Nat.add_le_add_right (Nat.add_le_add_left h1 6) 2) h2) (by decide))
    refine ⟨_, _, rfl, rfl, ?_, ?_⟩
    · rw [strLen_append, strLen_append, strLen_append, len6, len2, len3]
      exact line _ (Nat.le_trans (Nat.add_le_add_right (Nat.add_le_add (Nat.add_le_add_right (Nat.add_le_add_left h1 6) 2) h2) 1) (by decide))
    · exact q
/-! ### _law_paid -/
def spLPaid : Sp := fun vs H Q _ => ∃ l ps, vs = [.ref l] ∧ Prs H l ps ∧ ps.length ≤ 5 ∧ ∀ H', Same H H' → Q (.int (paidN ps : Nat)) H'
abbrev n__law_paid : List Str := ["_law_points_here", "_law_a"]
theorem sc__law_paid : FnScope n__law_paid ["_law_points_here"] (defScope d__law_paid) := ⟨rfl, rfl, rfl, by decide +kernel, rfl, by decide +kernel, by decide +kernel⟩
theorem ok_lpaid {f : Addr} {fd : FuncData} (F : FnP K "_law_paid" "_law_paid" d__law_paid [] f fd) (B : Blt mg) : FnOk P w K mg base CX0 1 f fd ["_law_points_here"] spLPaid := by
  refine F.ok sc__law_paid (fun vs H Q E h => ?_) (fun cdv A outer s H vs Q E hr h => ?_)
  · obtain ⟨l, ps, rfl, _⟩ := h
    rfl
  · obtain ⟨l, ps, rfl, hl, l5, q⟩ := h
    obtain ⟨qs, e, hq1, hqs⟩ := hl.len
    refine ⟨_, PSs.nox (pss_one (ps_ret (pe_callB (r := rLenS K) call_len_seq (by rfl) B.len PySem.boot_len (pa_cons (pe_lc rfl sc__law_paid.nd (pi_list (pv 0)) (blkOk_by (own := [("_law_a", 1)]) (by show blkC n__law_paid (defScope d__law_paid) _ _ = true; decide +kernel)) (fun _ _ _ _ _ => pg_name (i := 1) sc__law_paid.nd rfl (.inl rfl)) (fun _ _ _ _ _ => (pts_one (pt_cmpR op_gt (pe_ix (r := rIxT K) ix_tup (pv 1) pe_int (fun _ _ => rfl)) pe_int (nomark _)))) (fun _ _ _ _ _ => (pv 1))) pa_nil)))), ?_⟩
    refine ⟨_, rfl, l, rfl, ⟨_, SqL.of e⟩, fun D1 hD1 => ?_⟩
    refine lc_filter (walk_list (xs := qs.map V.ref)) (rel_same hD1) (qs.map V.ref) (keepAt (fun p : Fr2 => decide (0 < p.1)) ps) rfl (by rw [List.length_map]; omega) (fun H' s => SqL.of (s _ _ e)) ?_ ?_
    · rintro i x H5 H6 v hi hv s5 _ ⟨rfl, hx⟩ RR SS k1 k2
      rw [List.getElem?_map] at hv hx
      cases c : qs[i]? with
      | none => rw [c] at hx; exact nomatch hx
      | some a =>
        rw [c] at hv hx
        cases hv
        cases hx
        obtain ⟨p, hp, pa⟩ := hqs.getL c
        have ek : keepAt (fun p : Fr2 => decide (0 < p.1)) ps i = decide (0 < p.1) := by unfold keepAt; rw [hp]; rfl
        rw [ek] at k1 k2
        refine ⟨rfl, ?_⟩
        refine ⟨_, rfl, a, _, _, _, rfl, rfl, SqT.of (pa.same s5), ix2_0 p, _, _, rfl, rfl, _, rfl, ?_⟩
        by_cases cc : 0 < p.1
        · rw [decide_eq_true cc]
          refine iteT ?_
          exact ⟨_, rfl, k1 (decide_eq_true cc) _ (Same.refl _)⟩
        · rw [decide_eq_false cc]
          refine iteF ?_
          exact k2 (decide_eq_false cc) _ (Same.refl _)
    · intro H5 s5 hD5
      refine ⟨D1, _, rfl, .inl (SqL.of hD5), ?_⟩
      have ek := kept_filter (fun p : Fr2 => decide (0 < p.1)) (fun _ => V.non) ps ps.length (Nat.le_refl _)
      have el : (kept (keepAt (fun p : Fr2 => decide (0 < p.1)) ps) (qs.map V.ref) (qs.map V.ref).length).length = paidN ps := by
        have a := kept_len (keepAt (fun p : Fr2 => decide (0 < p.1)) ps) (qs.map V.ref) (qs.map V.ref).length (Nat.le_refl _)
        have b := kept_len (keepAt (fun p : Fr2 => decide (0 < p.1)) ps) (ps.map fun _ => V.non) ps.length (by rw [List.length_map]; exact Nat.le_refl _)
        rw [ek, List.take_length, List.length_map] at b
        rw [a, List.length_map, hq1, ← b]
        rfl
      rw [el]
      exact q _ s5
end
end Lb
/-! The law's own defs: tables by hand. -/
namespace Lb
open PySem PySem.Spec PyProof.Rows L2 Ow Pt Rm Ra La Tb
theorem tF {n : Nat} {k : Int} (h : (n : Int) ≠ k) : decide (V.int (n : Int) = V.int k) = false := decide_eq_false fun z => h (V.int.inj z)
theorem tT {n : Nat} {k : Int} (h : (n : Int) = k) : decide (V.int (n : Int) = V.int k) = true := decide_eq_true (by rw [h])
section
variable {P : Program} {w : World} {K : PySem.W.Frag} {mg : Str → Option Value} {base : Heap}
/-! ### by points -/
def spBP (C D : Addr) : Sp := fun vs H Q _ => ∃ (l : Addr) (xs : List V) (ps : List Fr2), vs = [.ref l] ∧ H l = some (.lst xs) ∧ Nms C H xs ps ∧ Desc' ps ∧ ∀ x H', TabAt C D H' x (pad ps) → Same H H' → Q (.ref x) H'
abbrev n__law_by_points : List Str := ["_law_row"]
theorem sc__law_by_points : FnScope n__law_by_points ["_law_row"] (defScope d__law_by_points) := ⟨rfl, rfl, rfl, by decide +kernel, rfl, by decide +kernel, by decide +kernel⟩
theorem ok_by_points {f C D : Addr} {fd : FuncData} (F : FnP K "_law_by_points" "_law_by_points" d__law_by_points [] f fd) (B : Blt mg) (U : TC K mg D) (N : TMk P w K mg base C D) : FnOk P w K mg base CX0 11 f fd ["_law_row"] (spBP C D) := by
  obtain ⟨ft, mk, Ft⟩ := N.ex
  refine F.ok sc__law_by_points (fun vs H Q E h => ?_) (fun cdv A outer s H vs Q E hr h => ?_)
  · obtain ⟨l, xs, ps, rfl, _⟩ := h
    rfl
  · obtain ⟨l, xs, ps, rfl, hl, hn, hd, q⟩ := h
    refine ⟨_, PSs.nox (pss_cons (ps_if (pt_cmpR op_eq (pe_callB (r := rLenS K) call_len_seq (by rfl) B.len PySem.boot_len (pa_cons (pv 0) pa_nil)) pe_int (nomark _)) (pss_one (ps_ret (StX.pe_makeR mk Ft hr rfl U.mgT pass0 (pa_cons (pe_ix ix_list (pv 0) pe_int (fun _ _ => rfl)) pa_nil)))) pss_nil)
      (pss_cons (ps_if (pt_cmpR op_eq (pe_callB (r := rLenS K) call_len_seq (by rfl) B.len PySem.boot_len (pa_cons (pv 0) pa_nil)) pe_int (nomark _)) (pss_one (ps_ret (StX.pe_makeR mk Ft hr rfl U.mgT pass0 (pa_cons (pe_ix ix_list (pv 0) pe_int (fun _ _ => rfl)) (pa_cons (pe_ix ix_list (pv 0) pe_int (fun _ _ => rfl)) pa_nil))))) pss_nil)
      (pss_cons (ps_if (pt_cmpR op_eq (pe_callB (r := rLenS K) call_len_seq (by rfl) B.len PySem.boot_len (pa_cons (pv 0) pa_nil)) pe_int (nomark _)) (pss_one (ps_ret (StX.pe_makeR mk Ft hr rfl U.mgT pass0 (pa_cons (pe_ix ix_list (pv 0) pe_int (fun _ _ => rfl)) (pa_cons (pe_ix ix_list (pv 0) pe_int (fun _ _ => rfl)) (pa_cons (pe_ix ix_list (pv 0) pe_int (fun _ _ => rfl)) pa_nil)))))) pss_nil)
      (pss_cons (ps_if (pt_cmpR op_eq (pe_callB (r := rLenS K) call_len_seq (by rfl) B.len PySem.boot_len (pa_cons (pv 0) pa_nil)) pe_int (nomark _)) (pss_one (ps_ret (StX.pe_makeR mk Ft hr rfl U.mgT pass0 (pa_cons (pe_ix ix_list (pv 0) pe_int (fun _ _ => rfl)) (pa_cons (pe_ix ix_list (pv 0) pe_int (fun _ _ => rfl)) (pa_cons (pe_ix ix_list (pv 0) pe_int (fun _ _ => rfl)) (pa_cons (pe_ix ix_list (pv 0) pe_int (fun _ _ => rfl)) pa_nil))))))) pss_nil)
      (pss_one (ps_ret (StX.pe_makeR mk Ft hr rfl U.mgT pass0 (pa_cons (pe_ix ix_list (pv 0) pe_int (fun _ _ => rfl)) (pa_cons (pe_ix ix_list (pv 0) pe_int (fun _ _ => rfl)) (pa_cons (pe_ix ix_list (pv 0) pe_int (fun _ _ => rfl)) (pa_cons (pe_ix ix_list (pv 0) pe_int (fun _ _ => rfl)) (pa_cons (pe_ix ix_list (pv 0) pe_int (fun _ _ => rfl)) pa_nil)))))))))))), ?_⟩
    have hs := SqL.of (K := K) hl
    have hl1 : 1 ≤ xs.length := by rw [hn.1]; exact hd.one
    have hl5 : xs.length ≤ 5 := by rw [hn.1]; exact hd.five
    rcases xs with _ | ⟨a, _ | ⟨b, _ | ⟨c, _ | ⟨d, _ | ⟨e, _ | ⟨g, xs⟩⟩⟩⟩⟩⟩
    · exact absurd hl1 (by rw [List.length_nil]; omega)
    · refine ⟨_, rfl, l, _, rfl, .inl hs, rfl, _, rfl, ?_⟩
      refine ite2 (fun _ => ?_) (fun c => absurd (decide_eq_true rfl) c)
      refine ⟨_, rfl, l, _, _, _, rfl, rfl, hs, (rfl : atI [a] 0 = some a), ?_⟩
      exact tab_new hn hd fun x H' tb s _ => q x H' tb s
    · refine ⟨_, rfl, l, _, rfl, .inl hs, rfl, _, rfl, ?_⟩
      refine ite2 (fun c => absurd (V.int.inj (of_decide_eq_true c)) (by simp only [List.length_cons, List.length_nil]; omega)) (fun _ => ?_)
      refine ⟨_, rfl, l, _, rfl, .inl hs, rfl, _, rfl, ?_⟩
      refine ite2 (fun _ => ?_) (fun c => absurd (decide_eq_true rfl) c)
      refine ⟨_, rfl, l, _, _, _, rfl, rfl, hs, (rfl : atI [a, b] 0 = some a), _, rfl, l, _, _, _, rfl, rfl, hs, (rfl : atI [a, b] 1 = some b), ?_⟩
      exact tab_new hn hd fun x H' tb s _ => q x H' tb s
    · refine ⟨_, rfl, l, _, rfl, .inl hs, rfl, _, rfl, ?_⟩
      refine ite2 (fun c => absurd (V.int.inj (of_decide_eq_true c)) (by simp only [List.length_cons, List.length_nil]; omega)) (fun _ => ?_)
      refine ⟨_, rfl, l, _, rfl, .inl hs, rfl, _, rfl, ?_⟩
      refine ite2 (fun c => absurd (V.int.inj (of_decide_eq_true c)) (by simp only [List.length_cons, List.length_nil]; omega)) (fun _ => ?_)
      refine ⟨_, rfl, l, _, rfl, .inl hs, rfl, _, rfl, ?_⟩
      refine ite2 (fun _ => ?_) (fun c => absurd (decide_eq_true rfl) c)
      refine ⟨_, rfl, l, _, _, _, rfl, rfl, hs, (rfl : atI [a, b, c] 0 = some a), _, rfl, l, _, _, _, rfl, rfl, hs, (rfl : atI [a, b, c] 1 = some b), _, rfl, l, _, _, _, rfl, rfl, hs, (rfl : atI [a, b, c] 2 = some c), ?_⟩
      exact tab_new hn hd fun x H' tb s _ => q x H' tb s
    · refine ⟨_, rfl, l, _, rfl, .inl hs, rfl, _, rfl, ?_⟩
      refine ite2 (fun c => absurd (V.int.inj (of_decide_eq_true c)) (by simp only [List.length_cons, List.length_nil]; omega)) (fun _ => ?_)
      refine ⟨_, rfl, l, _, rfl, .inl hs, rfl, _, rfl, ?_⟩
      refine ite2 (fun c => absurd (V.int.inj (of_decide_eq_true c)) (by simp only [List.length_cons, List.length_nil]; omega)) (fun _ => ?_)
      refine ⟨_, rfl, l, _, rfl, .inl hs, rfl, _, rfl, ?_⟩
      refine ite2 (fun c => absurd (V.int.inj (of_decide_eq_true c)) (by simp only [List.length_cons, List.length_nil]; omega)) (fun _ => ?_)
      refine ⟨_, rfl, l, _, rfl, .inl hs, rfl, _, rfl, ?_⟩
      refine ite2 (fun _ => ?_) (fun c => absurd (decide_eq_true rfl) c)
      refine ⟨_, rfl, l, _, _, _, rfl, rfl, hs, (rfl : atI [a, b, c, d] 0 = some a), _, rfl, l, _, _, _, rfl, rfl, hs, (rfl : atI [a, b, c, d] 1 = some b), _, rfl, l, _, _, _, rfl, rfl, hs, (rfl : atI [a, b, c, d] 2 = some c), _, rfl, l, _, _, _, rfl, rfl, hs, (rfl : atI [a, b, c, d] 3 = some d), ?_⟩
      exact tab_new hn hd fun x H' tb s _ => q x H' tb s
    · refine ⟨_, rfl, l, _, rfl, .inl hs, rfl, _, rfl, ?_⟩
      refine ite2 (fun c => absurd (V.int.inj (of_decide_eq_true c)) (by simp only [List.length_cons, List.length_nil]; omega)) (fun _ => ?_)
      refine ⟨_, rfl, l, _, rfl, .inl hs, rfl, _, rfl, ?_⟩
      refine ite2 (fun c => absurd (V.int.inj (of_decide_eq_true c)) (by simp only [List.length_cons, List.length_nil]; omega)) (fun _ => ?_)
      refine ⟨_, rfl, l, _, rfl, .inl hs, rfl, _, rfl, ?_⟩
      refine ite2 (fun c => absurd (V.int.inj (of_decide_eq_true c)) (by simp only [List.length_cons, List.length_nil]; omega)) (fun _ => ?_)
      refine ⟨_, rfl, l, _, rfl, .inl hs, rfl, _, rfl, ?_⟩
      refine ite2 (fun c => absurd (V.int.inj (of_decide_eq_true c)) (by simp only [List.length_cons, List.length_nil]; omega)) (fun _ => ?_)
      refine ⟨_, rfl, l, _, _, _, rfl, rfl, hs, (rfl : atI [a, b, c, d, e] 0 = some a), _, rfl, l, _, _, _, rfl, rfl, hs, (rfl : atI [a, b, c, d, e] 1 = some b), _, rfl, l, _, _, _, rfl, rfl, hs, (rfl : atI [a, b, c, d, e] 2 = some c), _, rfl, l, _, _, _, rfl, rfl, hs, (rfl : atI [a, b, c, d, e] 3 = some d), _, rfl, l, _, _, _, rfl, rfl, hs, (rfl : atI [a, b, c, d, e] 4 = some e), ?_⟩
      exact tab_new hn hd fun x H' tb s _ => q x H' tb s
    · exact absurd hl5 (by rw [List.length_cons, List.length_cons, List.length_cons, List.length_cons, List.length_cons, List.length_cons]; omega)
/-! ### by steps -/
def spBS (C D : Addr) : Sp := fun vs H Q _ => ∃ (l : Addr) (xs : List V) (ps : List Fr2), vs = [.ref l] ∧ H l = some (.lst xs) ∧ Nms C H xs ps ∧ Bds 300 ps ∧ 1 ≤ ps.length ∧ ps.length ≤ 5 ∧ Nng ps ∧ (∃ s ∈ ps, s.1 ≠ 0) ∧ ∀ x H', TabAt C D H' x (pad (ptsR ps)) → Same H H' → Q (.ref x) H'
abbrev n__law_by_steps : List Str := ["_law_row"]
theorem sc__law_by_steps : FnScope n__law_by_steps ["_law_row"] (defScope d__law_by_steps) := ⟨rfl, rfl, rfl, by decide +kernel, rfl, by decide +kernel, by decide +kernel⟩
theorem ok_by_steps {f C D : Addr} {fd : FuncData} (F : FnP K "_law_by_steps" "_law_by_steps" d__law_by_steps [] f fd) (B : Blt mg) (U : TC K mg D) (cO : CMS P w K mg base 11 D "of_steps" (spOS C D)) : FnOk P w K mg base CX0 12 f fd ["_law_row"] (spBS C D) := by
  refine F.ok sc__law_by_steps (fun vs H Q E h => ?_) (fun cdv A outer s H vs Q E hr h => ?_)
  · obtain ⟨l, xs, ps, rfl, _⟩ := h
    rfl
  · obtain ⟨l, xs, ps, rfl, hl, hn, hb, h1, h5, nn, hex, q⟩ := h
    refine ⟨_, PSs.nox (pss_cons (ps_if (pt_cmpR op_eq (pe_callB (r := rLenS K) call_len_seq (by rfl) B.len PySem.boot_len (pa_cons (pv 0) pa_nil)) pe_int (nomark _)) (pss_one (ps_ret (pe_cmR cO hr (pe_glob (v := .ref D) rfl U.mgT rfl) (pa_cons (pe_ix ix_list (pv 0) pe_int (fun _ _ => rfl)) pa_nil)))) pss_nil)
      (pss_cons (ps_if (pt_cmpR op_eq (pe_callB (r := rLenS K) call_len_seq (by rfl) B.len PySem.boot_len (pa_cons (pv 0) pa_nil)) pe_int (nomark _)) (pss_one (ps_ret (pe_cmR cO hr (pe_glob (v := .ref D) rfl U.mgT rfl) (pa_cons (pe_ix ix_list (pv 0) pe_int (fun _ _ => rfl)) (pa_cons (pe_ix ix_list (pv 0) pe_int (fun _ _ => rfl)) pa_nil))))) pss_nil)
      (pss_cons (ps_if (pt_cmpR op_eq (pe_callB (r := rLenS K) call_len_seq (by rfl) B.len PySem.boot_len (pa_cons (pv 0) pa_nil)) pe_int (nomark _)) (pss_one (ps_ret (pe_cmR cO hr (pe_glob (v := .ref D) rfl U.mgT rfl) (pa_cons (pe_ix ix_list (pv 0) pe_int (fun _ _ => rfl)) (pa_cons (pe_ix ix_list (pv 0) pe_int (fun _ _ => rfl)) (pa_cons (pe_ix ix_list (pv 0) pe_int (fun _ _ => rfl)) pa_nil)))))) pss_nil)
      (pss_cons (ps_if (pt_cmpR op_eq (pe_callB (r := rLenS K) call_len_seq (by rfl) B.len PySem.boot_len (pa_cons (pv 0) pa_nil)) pe_int (nomark _)) (pss_one (ps_ret (pe_cmR cO hr (pe_glob (v := .ref D) rfl U.mgT rfl) (pa_cons (pe_ix ix_list (pv 0) pe_int (fun _ _ => rfl)) (pa_cons (pe_ix ix_list (pv 0) pe_int (fun _ _ => rfl)) (pa_cons (pe_ix ix_list (pv 0) pe_int (fun _ _ => rfl)) (pa_cons (pe_ix ix_list (pv 0) pe_int (fun _ _ => rfl)) pa_nil))))))) pss_nil)
      (pss_one (ps_ret (pe_cmR cO hr (pe_glob (v := .ref D) rfl U.mgT rfl) (pa_cons (pe_ix ix_list (pv 0) pe_int (fun _ _ => rfl)) (pa_cons (pe_ix ix_list (pv 0) pe_int (fun _ _ => rfl)) (pa_cons (pe_ix ix_list (pv 0) pe_int (fun _ _ => rfl)) (pa_cons (pe_ix ix_list (pv 0) pe_int (fun _ _ => rfl)) (pa_cons (pe_ix ix_list (pv 0) pe_int (fun _ _ => rfl)) pa_nil)))))))))))), ?_⟩
    have hs := SqL.of (K := K) hl
    have hl1 : 1 ≤ xs.length := by rw [hn.1]; exact h1
    have hl5 : xs.length ≤ 5 := by rw [hn.1]; exact h5
    rcases xs with _ | ⟨a, _ | ⟨b, _ | ⟨c, _ | ⟨d, _ | ⟨e, _ | ⟨g, xs⟩⟩⟩⟩⟩⟩
    · exact absurd hl1 (by rw [List.length_nil]; omega)
    · refine ⟨_, rfl, l, _, rfl, .inl hs, rfl, _, rfl, ?_⟩
      refine ite2 (fun _ => ?_) (fun c => absurd (decide_eq_true rfl) c)
      exact ⟨rfl, _, rfl, l, _, _, _, rfl, rfl, hs, (rfl : atI [a] 0 = some a), [a], ps, rfl, hn, hb, h1, h5, nn, hex, q⟩
    · refine ⟨_, rfl, l, _, rfl, .inl hs, rfl, _, rfl, ?_⟩
      refine ite2 (fun c => absurd (V.int.inj (of_decide_eq_true c)) (by simp only [List.length_cons, List.length_nil]; omega)) (fun _ => ?_)
      refine ⟨_, rfl, l, _, rfl, .inl hs, rfl, _, rfl, ?_⟩
      refine ite2 (fun _ => ?_) (fun c => absurd (decide_eq_true rfl) c)
      exact ⟨rfl, _, rfl, l, _, _, _, rfl, rfl, hs, (rfl : atI [a, b] 0 = some a), _, rfl, l, _, _, _, rfl, rfl, hs, (rfl : atI [a, b] 1 = some b), [a, b], ps, rfl, hn, hb, h1, h5, nn, hex, q⟩
    · refine ⟨_, rfl, l, _, rfl, .inl hs, rfl, _, rfl, ?_⟩
      refine ite2 (fun c => absurd (V.int.inj (of_decide_eq_true c)) (by simp only [List.length_cons, List.length_nil]; omega)) (fun _ => ?_)
      refine ⟨_, rfl, l, _, rfl, .inl hs, rfl, _, rfl, ?_⟩
      refine ite2 (fun c => absurd (V.int.inj (of_decide_eq_true c)) (by simp only [List.length_cons, List.length_nil]; omega)) (fun _ => ?_)
      refine ⟨_, rfl, l, _, rfl, .inl hs, rfl, _, rfl, ?_⟩
      refine ite2 (fun _ => ?_) (fun c => absurd (decide_eq_true rfl) c)
      exact ⟨rfl, _, rfl, l, _, _, _, rfl, rfl, hs, (rfl : atI [a, b, c] 0 = some a), _, rfl, l, _, _, _, rfl, rfl, hs, (rfl : atI [a, b, c] 1 = some b), _, rfl, l, _, _, _, rfl, rfl, hs, (rfl : atI [a, b, c] 2 = some c), [a, b, c], ps, rfl, hn, hb, h1, h5, nn, hex, q⟩
    · refine ⟨_, rfl, l, _, rfl, .inl hs, rfl, _, rfl, ?_⟩
      refine ite2 (fun c => absurd (V.int.inj (of_decide_eq_true c)) (by simp only [List.length_cons, List.length_nil]; omega)) (fun _ => ?_)
      refine ⟨_, rfl, l, _, rfl, .inl hs, rfl, _, rfl, ?_⟩
      refine ite2 (fun c => absurd (V.int.inj (of_decide_eq_true c)) (by simp only [List.length_cons, List.length_nil]; omega)) (fun _ => ?_)
      refine ⟨_, rfl, l, _, rfl, .inl hs, rfl, _, rfl, ?_⟩
      refine ite2 (fun c => absurd (V.int.inj (of_decide_eq_true c)) (by simp only [List.length_cons, List.length_nil]; omega)) (fun _ => ?_)
      refine ⟨_, rfl, l, _, rfl, .inl hs, rfl, _, rfl, ?_⟩
      refine ite2 (fun _ => ?_) (fun c => absurd (decide_eq_true rfl) c)
      exact ⟨rfl, _, rfl, l, _, _, _, rfl, rfl, hs, (rfl : atI [a, b, c, d] 0 = some a), _, rfl, l, _, _, _, rfl, rfl, hs, (rfl : atI [a, b, c, d] 1 = some b), _, rfl, l, _, _, _, rfl, rfl, hs, (rfl : atI [a, b, c, d] 2 = some c), _, rfl, l, _, _, _, rfl, rfl, hs, (rfl : atI [a, b, c, d] 3 = some d), [a, b, c, d], ps, rfl, hn, hb, h1, h5, nn, hex, q⟩
    · refine ⟨_, rfl, l, _, rfl, .inl hs, rfl, _, rfl, ?_⟩
      refine ite2 (fun c => absurd (V.int.inj (of_decide_eq_true c)) (by simp only [List.length_cons, List.length_nil]; omega)) (fun _ => ?_)
      refine ⟨_, rfl, l, _, rfl, .inl hs, rfl, _, rfl, ?_⟩
      refine ite2 (fun c => absurd (V.int.inj (of_decide_eq_true c)) (by simp only [List.length_cons, List.length_nil]; omega)) (fun _ => ?_)
      refine ⟨_, rfl, l, _, rfl, .inl hs, rfl, _, rfl, ?_⟩
      refine ite2 (fun c => absurd (V.int.inj (of_decide_eq_true c)) (by simp only [List.length_cons, List.length_nil]; omega)) (fun _ => ?_)
      refine ⟨_, rfl, l, _, rfl, .inl hs, rfl, _, rfl, ?_⟩
      refine ite2 (fun c => absurd (V.int.inj (of_decide_eq_true c)) (by simp only [List.length_cons, List.length_nil]; omega)) (fun _ => ?_)
      exact ⟨rfl, _, rfl, l, _, _, _, rfl, rfl, hs, (rfl : atI [a, b, c, d, e] 0 = some a), _, rfl, l, _, _, _, rfl, rfl, hs, (rfl : atI [a, b, c, d, e] 1 = some b), _, rfl, l, _, _, _, rfl, rfl, hs, (rfl : atI [a, b, c, d, e] 2 = some c), _, rfl, l, _, _, _, rfl, rfl, hs, (rfl : atI [a, b, c, d, e] 3 = some d), _, rfl, l, _, _, _, rfl, rfl, hs, (rfl : atI [a, b, c, d, e] 4 = some e), [a, b, c, d, e], ps, rfl, hn, hb, h1, h5, nn, hex, q⟩
    · exact absurd hl5 (by rw [List.length_cons, List.length_cons, List.length_cons, List.length_cons, List.length_cons, List.length_cons]; omega)
end
end Lb
/-! The law's own defs: a table in all that it tells. -/
namespace Lb
open PySem PySem.Spec PyProof.Rows L2 Ow Pt Rm Ra La Tb
/-- how ratios, tables, plain things show themselves -/
def shRt (C : Addr) : ShD := fun x t H => ∃ r n d, x = .ref r ∧ RatAt C H r n d ∧ Bd 1900 n ∧ Bd 1900 d ∧ t = shw n d
def shTb (C D : Addr) : ShD := fun x t H => ∃ r ps, x = .ref r ∧ TabAt C D H r ps ∧ Bds 1900 ps ∧ t = tabText ps
def shD (C D : Addr) : ShD := fun x t H => leafS x t H ∨ shRt C x t H ∨ shTb C D x t H
theorem monSh (C D : Addr) : MonS (shD C D) := fun x t H H' e d => by
  rcases d with d | ⟨r, n, dd, rfl, h, b1, b2, rfl⟩ | ⟨r, ps, rfl, h, b, rfl⟩
  · exact .inl d
  · exact .inr (.inl ⟨r, n, dd, rfl, h.same e, b1, b2, rfl⟩)
  · exact .inr (.inr ⟨r, ps, rfl, h.same e, b, rfl⟩)
structure ShT (P : Program) (w : World) (K : PySem.W.Frag) (mg : Str → Option Value) (base : Heap) (C D : Addr) : Prop where
  ex : ∃ f fd, OpOf K D "__repr__" f ∧ FnOk P w K mg base CX0 3 f fd ["self"] (spTRepr C D) ∧ Binds K fd ["self"] []
theorem shown_trepr {X : Cx} {C D : Addr} (O : ShT X.prog X.w X.K X.mg X.base C D) (hr : Room 4 X.A) : CallR X (.builtin "repr") (rShow D (spTRepr C D) E0) := by
  obtain ⟨f, fd, o, F, hb⟩ := O.ex
  exact call_repr_own o F hr hb pass0
theorem shB_all {X : Cx} {C D : Addr} (sR : ShX X.prog X.w X.K X.mg X.base C "__repr__" shw) (sT : ShT X.prog X.w X.K X.mg X.base C D) : ShB X 3 (shD C D) := by
  obtain ⟨f, fd, o, F, hb⟩ := sR.ex
  obtain ⟨f2, fd2, o2, F2, hb2⟩ := sT.ex
  refine shB_or shB_leaf (shB_or (shB_own (C := C) (sp := spText shw C) (E := E0) ⟨fun x t H d => ?_⟩ o (F.mono (by decide)) hb pass0) (shB_own (C := D) (sp := spTRepr C D) (E := E0) ⟨fun x t H d => ?_⟩ o2 F2 hb2 pass0))
  · obtain ⟨r, n, dd, rfl, ⟨dx, h⟩, b1, b2, rfl⟩ := d
    exact ⟨r, dx, _, rfl, h, fun Q q => ⟨r, n, dd, rfl, ⟨dx, h⟩, b1, b2, q H Ext.rfl'⟩⟩
  · obtain ⟨r, ps, rfl, h, b, rfl⟩ := d
    obtain ⟨dx, L, rs, h1, h2, h3⟩ := id h.at_
    exact ⟨r, dx, _, rfl, h1, fun Q q => ⟨r, ps, rfl, h, b, fun H' s => q H' s⟩⟩
/-- the texts of ratios side by side with them -/
theorem sh_rats {C D : Addr} {H : Hp} {rs : List Addr} {ps : List Fr2} (h : Rats C H rs ps) (b : Bds 1900 ps) : (ps.map shwP).length = (rs.map V.ref).length ∧ ∀ (i : Nat) x t, (rs.map V.ref)[i]? = some x → (ps.map shwP)[i]? = some t → shD C D x t H := by
  refine ⟨by rw [List.length_map, List.length_map, h.1], fun i x t e1 e2 => ?_⟩
  obtain ⟨p, hp, k⟩ := h.nms.getL e1
  rw [List.getElem?_map, hp] at e2
  cases e2
  rw [List.getElem?_map] at e1
  cases c : rs[i]? with
  | none => rw [c] at e1; exact nomatch e1
  | some r =>
    rw [c] at e1
    cases e1
    have bp := b.get hp
    exact .inr (.inl ⟨r, p.1, p.2, rfl, k.rat, bp.1, bp.2, rfl⟩)
theorem txt_len {ps : List Fr2} (h5 : ps.length ≤ 5) (b : Bds 1900 ps) : (Str.join ", " (ps.map shwP)).length ≤ 20010 ∧ ((ps.map shwP).map (·.length)).sum ≤ 20000 := by
  have l : ∀ t ∈ ps.map shwP, t.length ≤ 4000 := fun t ht => by
    obtain ⟨p, hp, rfl⟩ := List.mem_map.mp ht
    exact shw_len (b p hp).1 (b p hp).2
  have a := join_len ", " 4000 _ l
  have c := sum_le 4000 _ l
  rw [len2] at a
  rw [List.length_map] at a c
  omega
theorem lb_len : (Str.ofString "[").length = 1 := by decide +kernel
theorem rb_len : (Str.ofString "]").length = 1 := by decide +kernel
theorem lst_eq (ts : List Str) : (("[" : Str) ++ Txt.join ", " ts) ++ "]" = listText ts := by
  rw [TL.join_eq, listText_eq_join]
theorem lst_len {ps : List Fr2} (h5 : ps.length ≤ 5) (b : Bds 1900 ps) : (listText (ps.map shwP)).length ≤ 20012 := by
  rw [listText_eq_join, strLen_append, strLen_append, lb_len, rb_len]
  have := (txt_len h5 b).1
  omega
theorem bds_steps {ps : List Fr2} (l : Lws ps) (b : Bds 400 ps) : Bds 1000 (stepsOf ps) := fun s hs => by
  obtain ⟨i, e⟩ := List.mem_iff_getElem?.mp hs
  have hi : i < ps.length := by
    have := (List.getElem?_eq_some_iff.mp e).1
    rw [steps_len] at this
    exact this
  have ep := List.getElem?_eq_getElem hi
  rw [steps_get ep] at e
  cases e
  have b1 := b.get ep
  have l1 := l.get ep
  have b2 : Bd 400 (ps[i + 1]?.getD z01).1 ∧ Bd 400 (ps[i + 1]?.getD z01).2 ∧ Lw (ps[i + 1]?.getD z01).1 (ps[i + 1]?.getD z01).2 := by
    cases c : ps[i + 1]? with
    | none => exact ⟨bd_zero, bd_one (by decide), lw_z⟩
    | some r => exact ⟨(b.get c).1, (b.get c).2, l.get c⟩
  have hd := mul_ne l1.pos b2.2.2.pos
  exact ⟨bd_low1 hd (((b1.1.mul b2.2.1).sub (b2.1.mul b1.2)).mono (by decide)), bd_low2 hd ((b1.2.mul b2.2.1).mono (by decide))⟩
theorem Bds.mono' {j k : Nat} {ps : List Fr2} (b : Bds j ps) (l : j ≤ k) : Bds k ps := fun p hp => ⟨(b p hp).1.mono l, (b p hp).2.mono l⟩
section
variable {P : Program} {w : World} {K : PySem.W.Frag} {mg : Str → Option Value} {base : Heap}
def spIs (C D : Addr) : Sp := fun vs H Q _ => ∃ (t l1 l2 : Addr) (ps : List Fr2), vs = [.ref t, .ref l1, .ref l2] ∧ TabAt C D H t ps ∧ Prs H l1 ps ∧ Prs H l2 (stepsOf ps) ∧ Bds 400 ps ∧ ∀ H', Same H H' → Q (.bl true) H'
abbrev n__law_is : List Str := ["_law_made", "_law_points_here", "_law_steps_here", "_law_shown_here", "_law_many", "_law_place", "_law_a"]
theorem sc__law_is : FnScope n__law_is ["_law_made", "_law_points_here", "_law_steps_here"] (defScope d__law_is) := ⟨rfl, rfl, rfl, by decide +kernel, rfl, by decide +kernel, by decide +kernel⟩
theorem ok_is {f C D : Addr} {fd : FuncData} (F : FnP K "_law_is" "_law_is" d__law_is [] f fd) (B : Blt mg) (T : RT K mg C) (U : TC K mg D) (Z : TK K D) (sR : ShX P w K mg base C "__repr__" shw) (sT : ShT P w K mg base C D)
    (dS : Dfn P w K mg base 1 "_law_shown" ["_law_a"] spShown) (dPa : Dfn P w K mg base 1 "_law_paid" ["_law_points_here"] spLPaid) (mP : Mtd P w K mg base 1 D "points" ["self"] (spPts C D)) (mS : Mtd P w K mg base 7 D "steps" ["self"] (spStp C D))
    (pPd : Tb.Prp P w K mg base 3 D "paid" (spPaid C D)) (iX : Opr P w K mg base 3 D "__getitem__" ["self", "at"] (spIx C D)) (hfX : ∀ f, OpOf K D "__getitem__" f → PySem.W.fnIn K f = true) :
    FnG P w K mg base CX0 8 f fd ["_law_made", "_law_points_here", "_law_steps_here"] (spIs C D) := by
  obtain ⟨fx, fxd, oX, FX, bX⟩ := iX.ex
  have fX := hfX fx oX
  refine fnG_ok (k := 7) F sc__law_is (fun vs H Q E h => ?_) (fun cdv A outer s H vs Q E hr hg h => ?_)
  · obtain ⟨t, l1, l2, ps, rfl, _⟩ := h
    rfl
  · obtain ⟨t, l1, l2, ps, rfl, tb, p1, p2, bd, q⟩ := h
    have hr1 := hr.mono (by decide : 1 ≤ 7)
    have hr2 := hr.mono (by decide : 2 ≤ 7)
    have hr4 := hr.mono (by decide : 4 ≤ 7)
    have hr6 := hr.mono (by decide : 6 ≤ 7)
    have hr7 := hr
    refine ⟨_, PSs.nox (pss_cons (ps_set (i := 3) sc__law_is.nd rfl (Or.inl rfl) (pe_op op_add_str (pe_op op_add_str pe_str (pe_join pe_str (pe_lc rfl sc__law_is.nd (pi_list (pv 1)) (blkOk_by (own := [("_law_a", 6)]) (by show blkC n__law_is (defScope d__law_is) _ _ = true; decide +kernel)) (fun _ _ _ _ _ => pg_name (i := 6) sc__law_is.nd rfl (.inl rfl)) (fun _ _ _ _ _ => pts_nil) (fun _ _ _ _ _ => (pe_use dS hr1 rfl (pa_cons (pv 6) pa_nil)))))) pe_str))
      (pss_cons (ps_if (PW.pt (pw_or (pt_not (pt_val (pe_callB call_isi (by rfl) B.isi boot_isinstance (pa_cons (pv 0) (pa_cons (pe_glob (v := .ref D) rfl U.mgT rfl) pa_nil))))) (pw_or1 (pt_cmpR op_ne (pe_callB (call_repr_lst (monSh C D) (shB_all sR sT) hg hr6) (by rfl) B.repr PyProof.Rows.boot_repr (pa_cons (pe_mt0 U.cl mP hr1 (pv 0)) pa_nil)) (pv 3) (nomark _))))) (pss_one (ps_ret pe_bl)) pss_nil)
      (pss_cons (ps_if (pt_cmpR op_ne (pe_callB (call_repr_lst (monSh C D) (shB_all sR sT) hg hr6) (by rfl) B.repr PyProof.Rows.boot_repr (pa_cons (pe_mt0 U.cl mS hr7 (pv 0)) pa_nil)) (pe_op op_add_str (pe_op op_add_str pe_str (pe_join pe_str (pe_lc rfl sc__law_is.nd (pi_list (pv 2)) (blkOk_by (own := [("_law_a", 6)]) (by show blkC n__law_is (defScope d__law_is) _ _ = true; decide +kernel)) (fun _ _ _ _ _ => pg_name (i := 6) sc__law_is.nd rfl (.inl rfl)) (fun _ _ _ _ _ => pts_nil) (fun _ _ _ _ _ => (pe_use dS hr1 rfl (pa_cons (pv 6) pa_nil)))))) pe_str) (nomark _)) (pss_one (ps_ret pe_bl)) pss_nil)
      (pss_cons (ps_if (PW.pt (pw_or (pt_cmpR op_ne (pe_callB (call_repr_lst (monSh C D) (shB_all sR sT) hg hr6) (by rfl) B.repr PyProof.Rows.boot_repr (pa_cons (pe_lc rfl sc__law_is.nd (pi_range2 rfl B.range (pa_cons pe_int (pa_cons pe_int pa_nil))) (blkOk_by (own := [("_law_place", 5)]) (by show blkC n__law_is (defScope d__law_is) _ _ = true; decide +kernel)) (fun _ _ _ _ _ => pg_name (i := 5) sc__law_is.nd rfl (.inl rfl)) (fun _ _ _ _ _ => pts_nil) (fun _ _ _ _ _ => (pe_ixO oX fX FX hr4 bX pass0 (pv 0) (pv 5)))) pa_nil)) (pv 3) (nomark _)) (pw_or1 (pt_cmpR op_ne (pe_callB (shown_repr sR hr2) (by rfl) B.repr PyProof.Rows.boot_repr (pa_cons (pe_ixO oX fX FX hr4 bX pass0 (pv 0) pe_int) pa_nil)) (pe_use dS hr1 rfl (pa_cons (pe_ix ix_list (pv 1) pe_int (fun _ _ => rfl)) pa_nil)) (nomark _))))) (pss_one (ps_ret pe_bl)) pss_nil)
      (pss_cons (ps_set (i := 4) sc__law_is.nd rfl (Or.inl rfl) (pe_use dPa hr1 rfl (pa_cons (pv 1) pa_nil)))
      (pss_one (ps_ret (pe_cmpR op_eq (pe_callB (call_repr_lst (monSh C D) (shB_all sR sT) hg hr6) (by rfl) B.repr PyProof.Rows.boot_repr (pa_cons (pe_lst (pa_cons (pe_pr pPd (pv 0) U.cl hr4 rfl) (pa_cons (pv 0) pa_nil))) pa_nil)) (pe_op op_add_str (pe_op op_add_str (pe_op op_add_str (pe_op op_add_str pe_str (pe_callTy call_str_int (by rfl) B.str (by decide +kernel) (pa_cons (pv 4) pa_nil))) pe_str) (pe_join pe_str (pe_lc rfl sc__law_is.nd (pi_list (pe_slice sl_list (pv 1) po_none (po_some (pv 4)))) (blkOk_by (own := [("_law_a", 6)]) (by show blkC n__law_is (defScope d__law_is) _ _ = true; decide +kernel)) (fun _ _ _ _ _ => pg_name (i := 6) sc__law_is.nd rfl (.inl rfl)) (fun _ _ _ _ _ => pts_nil) (fun _ _ _ _ _ => (pe_use dS hr1 rfl (pa_cons (pv 6) pa_nil)))))) pe_str) (nomark _))))))))), ?_⟩
    have l5 := tb.len
    have lw := tb.lws
    have bd19 := Bds.mono' bd (by decide : 400 ≤ 1900)
    have bds := bds_steps lw bd
    have bds19 := Bds.mono' bds (by decide : 1000 ≤ 1900)
    have s5l : (stepsOf ps).length = 5 := by rw [steps_len, l5]
    obtain ⟨qs, e1, hq1, hqs⟩ := p1.len
    obtain ⟨us, e2, hu1, hus⟩ := p2.len
    obtain ⟨dx, L, rs, h1, h2, h3⟩ := id tb.at_
    have tl := txt_len (ps := ps) (by omega) bd19
    have tls := txt_len (ps := stepsOf ps) (by omega) bds19
    refine ⟨⟨_, rfl⟩, _, rfl, l1, rfl, ⟨_, SqL.of e1⟩, fun D1 hD1 => ?_⟩
    refine lc_vals (walk_list (xs := qs.map V.ref)) (rel_same hD1) ((ps.map shwP).map V.str) (by rw [List.length_map, List.length_map, List.length_map, hq1]) (by rw [List.length_map, hq1]; omega) (fun H' s => SqL.of (s _ _ e1)) ?_ ?_
    · rintro i v H5 H6 u hi hu s5 _ ⟨rfl, hx⟩ R k
      rw [List.getElem?_map] at hx
      cases c : qs[i]? with
      | none => rw [c] at hx; exact nomatch hx
      | some a =>
        rw [c] at hx
        cases hx
        obtain ⟨p, hp, pa⟩ := hqs.getL c
        rw [List.getElem?_map, List.getElem?_map, hp] at hu
        cases hu
        have b := bd.get hp
        exact ⟨rfl, _, rfl, a, p, rfl, pa.same s5, b.1.mono (by decide), b.2.mono (by decide), k _ (Same.refl _)⟩
    intro Ha sa hDa
    refine ⟨_, D1, ps.map shwP, rfl, rfl, .inl (SqL.of hDa), by rw [len2, List.length_map, l5]; omega, ?_⟩
    refine ⟨_, _, rfl, rfl, ?_, ?_⟩
    · rw [TL.join_eq, lb_len]
      exact line _ (Nat.le_trans (Nat.add_le_add_left tl.1 1) (by decide))
    refine ⟨_, _, rfl, rfl, ?_, ?_⟩
    · rw [strLen_append, TL.join_eq, lb_len, rb_len]
      exact line _ (Nat.le_trans (Nat.add_le_add_right (Nat.add_le_add_left tl.1 1) 1) (by decide))
    rw [lst_eq]
    have tba := tb.same sa
    refine ⟨_, rfl, _, .ref D, .ref D, _, true, rfl, .own D, ty_tab T U Z tba, Z.kDD, true, rfl, ?_⟩
    refine iteF ?_
    have no1 : (pf L).lookup ("points" : Str) = none := pf_no L (by decide +kernel)
    have no2 : (pf L).lookup ("steps" : Str) = none := pf_no L (by decide +kernel)
    refine ⟨_, rfl, t, dx, _, rfl, sa _ _ h1, no1, t, ps, rfl, tba, fun g rs2 Hb hg2 hrs2 sb hgn => ?_⟩
    have shp := sh_rats (C := C) (D := D) hrs2 bd19
    refine ⟨g, _, ps.map shwP, rfl, SqL.of hg2, shp.1, shp.2, line _ (Nat.le_trans (lst_len (by omega) bd19) (by decide)), fun Hc sc => ?_⟩
    refine ⟨_, rfl, rfl, _, rfl, ?_⟩
    have ne0 : ∀ z : Str, (!decide (V.str z = V.str z)) = false := fun z => by rw [decide_eq_true rfl]; rfl
    rw [ne0]
    refine iteF ?_
    have s3 : Same H Hc := (sa.trans sb).trans sc
    refine ⟨_, rfl, t, dx, _, rfl, s3 _ _ h1, no2, t, ps, rfl, tb.same s3, Bds.mono' bd (by decide), fun g2 ss2 Hd hgd hss2 sd hgn2 => ?_⟩
    have shs := sh_rats (C := C) (D := D) hss2 bds19
    refine ⟨g2, _, (stepsOf ps).map shwP, rfl, SqL.of hgd, shs.1, shs.2, line _ (Nat.le_trans (lst_len (by omega) bds19) (by decide)), fun He se => ?_⟩
    have s5e : Same H He := (s3.trans sd).trans se
    refine ⟨⟨_, rfl⟩, _, rfl, l2, rfl, ⟨_, SqL.of (s5e _ _ e2)⟩, fun D3 hD3 => ?_⟩
    refine lc_vals (walk_list (xs := us.map V.ref)) (rel_same hD3) (((stepsOf ps).map shwP).map V.str) (by rw [List.length_map, List.length_map, List.length_map, hu1]) (by rw [List.length_map, hu1]; omega) (fun H' s => SqL.of (s _ _ (s5e _ _ e2))) ?_ ?_
    · rintro i v H5 H6 u hi hu s5 _ ⟨rfl, hx⟩ R k
      rw [List.getElem?_map] at hx
      cases c : us[i]? with
      | none => rw [c] at hx; exact nomatch hx
      | some a =>
        rw [c] at hx
        cases hx
        obtain ⟨p, hp, pa⟩ := hus.getL c
        rw [List.getElem?_map, List.getElem?_map, hp] at hu
        cases hu
        have b := bds.get hp
        exact ⟨rfl, _, rfl, a, p, rfl, pa.same (s5e.trans s5), b.1.mono (by decide), b.2.mono (by decide), k _ (Same.refl _)⟩
    intro Hf sf hDf
    refine ⟨_, D3, (stepsOf ps).map shwP, rfl, rfl, .inl (SqL.of hDf), by rw [len2, List.length_map, s5l]; omega, ?_⟩
    refine ⟨_, _, rfl, rfl, ?_, ?_⟩
    · rw [TL.join_eq, lb_len]
      exact line _ (Nat.le_trans (Nat.add_le_add_left tls.1 1) (by decide))
    refine ⟨_, _, rfl, rfl, ?_, ?_⟩
    · rw [strLen_append, TL.join_eq, lb_len, rb_len]
      exact line _ (Nat.le_trans (Nat.add_le_add_right (Nat.add_le_add_left tls.1 1) 1) (by decide))
    rw [lst_eq]
    refine ⟨rfl, _, rfl, ?_⟩
    rw [ne0]
    refine iteF ?_
    have s6 : Same H Hf := s5e.trans sf
    -- the points at each place
    refine ⟨1, 6, rfl, ⟨by decide, by decide, by decide, by decide⟩, fun D5 hD5 => ?_⟩
    have t6 := tb.same s6
    refine lc_el (walk_range (lo := 1) (n := ((6 : Int) - 1).toNat)) (rel_same hD5) (by decide) (fun j v H' => ∃ r p, v = V.ref r ∧ r ≠ D5 ∧ ps[j]? = some p ∧ Nm C H' (.ref r) p.1 p.2) ?_ ?_ (fun _ _ => trivial) ?_ ?_
    · rintro j v H5 H6 s ⟨r, p, e, n, ep, k⟩
      exact ⟨r, p, e, n, ep, k.same s⟩
    · rintro j v H5 l l' hl5 ⟨r, p, e, n, ep, k⟩
      refine ⟨r, p, e, n, ep, ⟨.inl ⟨r, rfl, ?_⟩, k.lw, k.b1, k.b2⟩⟩
      obtain ⟨dy, h⟩ := k.rat
      exact ⟨dy, by rw [upd_ne n]; exact h⟩
    · rintro i v H5 H6 hi s5 ⟨acc, hacc, _⟩ ⟨rfl, rfl⟩ R k
      have hi5 : i < 5 := hi
      have e6 : ((1 : Int) + (i : Nat)) = ((i : Nat) + 1 : Int) := by omega
      refine ⟨rfl, ?_⟩
      refine ⟨_, rfl, _, rfl, t, dx, _, rfl, s5 _ _ (s6 _ _ h1), t, ps, i, by show [V.ref t, V.int ((1 : Int) + (i : Nat))] = _; rw [e6], t6.same s5, hi5, fun r p hp nm => ?_⟩
      refine k _ _ (Same.refl _) ⟨r, p, rfl, fun z => ?_, hp, nm⟩
      obtain ⟨dy, h⟩ := nm.rat
      rw [z, hacc] at h
      cases h
    intro Hg acc sg hDg hlen he
    obtain ⟨rs5, rfl, hrl, _⟩ := els V.ref (fun _ => True) acc fun j v hv => by
      obtain ⟨r, p, e, _⟩ := he j v hv
      exact ⟨r, e, trivial⟩
    have hr5 : Rats C Hg rs5 ps := ⟨by rw [hrl, hlen, l5]; rfl, fun i r p e1 e2 => by
      obtain ⟨r', p', er, _, ep, k⟩ := he i (.ref r) (by rw [List.getElem?_map, e1]; rfl)
      cases er
      rw [ep] at e2
      cases e2
      exact k⟩
    have sh5 := sh_rats (C := C) (D := D) hr5 bd19
    refine ⟨D5, _, ps.map shwP, rfl, SqL.of hDg, sh5.1, sh5.2, line _ (Nat.le_trans (lst_len (by omega) bd19) (by decide)), fun Hh sh => ?_⟩
    refine ⟨_, rfl, rfl, _, rfl, ?_⟩
    rw [ne0]
    refine iteF ?_
    have s7 : Same H Hh := (s6.trans sg).trans sh
    -- the last place
    have t7 := tb.same s7
    refine ⟨_, rfl, t, dx, _, rfl, s7 _ _ h1, t, ps, 4, rfl, t7, by decide, fun r p hp nm => ?_⟩
    obtain ⟨dy, hy⟩ := nm.rat
    have bp := bd19.get hp
    have h4q : 4 < qs.length := by omega
    obtain ⟨p4, hp4, pa4⟩ := hqs.getL (List.getElem?_eq_getElem h4q)
    rw [hp] at hp4
    cases hp4
    have hat : atI (qs.map V.ref) 4 = some (V.ref qs[4]) := atI_nat (j := 4) (by rw [List.getElem?_map, List.getElem?_eq_getElem h4q]; rfl)
    refine ⟨r, dy, _, rfl, hy, r, p.1, p.2, rfl, ⟨dy, hy⟩, bp.1, bp.2, _, rfl, ?_⟩
    refine ⟨_, rfl, l1, _, _, _, rfl, rfl, SqL.of (s7 _ _ e1), hat, qs[4], p, rfl, pa4.same s7, bp.1, bp.2, rfl, _, rfl, ?_⟩
    rw [show (!decide (V.str (shw p.1 p.2) = V.str (shwP p))) = false from ne0 _]
    refine iteF ?_
    refine ⟨_, rfl, l1, ps, rfl, p1.same s7, by omega, fun Hi si => ?_⟩
    have s8 := s7.trans si
    have t8 := tb.same s8
    have m5 : paidN ps ≤ 5 := by have := paid_le ps; omega
    have bm : Bd 1900 ((paidN ps : Nat) : Int) := bd_small (by omega) (by have := e60; omega) (by decide)
    refine ⟨_, rfl, t, dx, _, rfl, s8 _ _ h1, t, ps, rfl, t8, fun Hj sj => ⟨_, rfl, (by show 2 ≤ sizeLine; decide), fun m hm => ?_⟩⟩
    have s9' := (s8.trans sj).trans (same_upd (o := .lst [.int ((paidN ps : Nat) : Int), .ref t]) hm)
    have tlen : (tabText ps).length ≤ 20020 := by
      have a := join_len ", " 4000 _ (pos_len l5 bd19).2
      have b := (pos_len l5 bd19).1
      unfold tabText
      rw [strLen_append, strLen_append, len3, show (Str.ofString "Table(").length = 6 by decide +kernel]
      rw [len2] at a
      omega
    have two : ∀ (i : Nat) x z, ([V.int ((paidN ps : Nat) : Int), V.ref t] : List V)[i]? = some x → ([it ((paidN ps : Nat) : Int), tabText ps] : List Str)[i]? = some z → shD C D x z (upd Hj m (.lst [.int ((paidN ps : Nat) : Int), .ref t])) := by
      intro i x z ex ez
      rcases i with _ | _ | i
      · cases ex
        cases ez
        exact .inl (.inl ⟨_, rfl, lt1920 bm, rfl⟩)
      · cases ex
        cases ez
        exact .inr (.inr ⟨t, ps, rfl, tb.same s9', bd19, rfl⟩)
      · exact nomatch ex
    have il := it_len bm
    have twol : (listText [it ((paidN ps : Nat) : Int), tabText ps]).length ≤ 30000 := by
      rw [listText_eq_join, strLen_append, strLen_append, lb_len, rb_len]
      have e : (Str.join ", " [it ((paidN ps : Nat) : Int), tabText ps]) = it ((paidN ps : Nat) : Int) ++ ", " ++ tabText ps := rfl
      rw [e, strLen_append, strLen_append, len2]
      omega
    refine ⟨m, _, [it ((paidN ps : Nat) : Int), tabText ps], rfl, SqL.of upd_same, rfl, two, line _ (Nat.le_trans twol (by decide)), fun Hk sk => ?_⟩
    have s9 : Same H Hk := s9'.trans sk
    refine ⟨_, rfl, _, rfl, lt1920 bm, _, _, rfl, rfl, ?_, ?_⟩
    · rw [lb_len]
      exact line _ (Nat.le_trans (Nat.add_le_add_left il 1) (by decide))
    refine ⟨_, _, rfl, rfl, ?_, ?_⟩
    · rw [strLen_append, lb_len, show (Str.ofString ", Table(").length = 8 by decide +kernel]
      exact line _ (Nat.le_trans (Nat.add_le_add_right (Nat.add_le_add_left il 1) 8) (by decide))
    refine ⟨⟨_, rfl⟩, _, rfl, _, rfl, _, rfl, l1, _, rfl, SqL.of (s9 _ _ e1), fun c hc => ?_⟩
    rw [cut_to, ← List.map_take]
    have s10 : Same H _ := s9.trans (same_upd (o := .lst ((qs.take (paidN ps)).map V.ref)) hc)
    have htk := hqs.take (paidN ps)
    have ht1 := htk.1
    have lt5 : (ps.take (paidN ps)).length ≤ 5 := by rw [List.length_take]; omega
    have bdt : Bds 1900 (ps.take (paidN ps)) := fun p hp => bd19 p (List.mem_of_mem_take hp)
    have tlt := txt_len lt5 bdt
    have h7 : upd Hk c (.lst ((qs.take (paidN ps)).map V.ref)) c = some (.lst ((qs.take (paidN ps)).map V.ref)) := upd_same
    refine ⟨c, rfl, ⟨_, SqL.of h7⟩, fun D7 hD7 => ?_⟩
    refine lc_vals (walk_list (xs := (qs.take (paidN ps)).map V.ref)) (rel_same hD7) (((ps.take (paidN ps)).map shwP).map V.str) (by rw [List.length_map, List.length_map, List.length_map, ht1]) (by rw [List.length_map, ht1]; omega) (fun H' s => SqL.of (s _ _ h7)) ?_ ?_
    · rintro i v H5 H6 u hi hu s5 _ ⟨rfl, hx⟩ R k
      rw [List.getElem?_map] at hx
      cases c : (qs.take (paidN ps))[i]? with
      | none => rw [c] at hx; exact nomatch hx
      | some a =>
        rw [c] at hx
        cases hx
        obtain ⟨p, hp, pa⟩ := htk.getL c
        rw [List.getElem?_map, List.getElem?_map, hp] at hu
        cases hu
        have b := bdt.get hp
        exact ⟨rfl, _, rfl, a, p, rfl, pa.same (s10.trans s5), b.1.mono (by decide), b.2.mono (by decide), k _ (Same.refl _)⟩
    intro Hl sl hDl
    have cl : (ps.take (paidN ps)).length ≤ 5 := lt5
    refine ⟨_, D7, (ps.take (paidN ps)).map shwP, rfl, rfl, .inl (SqL.of hDl), by rw [len2, List.length_map]; omega, ?_⟩
    have a8 : (Str.ofString ", Table(").length = 8 := by decide +kernel
    have a2 : (Str.ofString ")]").length = 2 := by decide +kernel
    refine ⟨_, _, rfl, rfl, ?_, ?_⟩
    · rw [TL.join_eq, strLen_append, strLen_append, lb_len, a8]
      exact line _ (Nat.le_trans (Nat.add_le_add (Nat.add_le_add_right (Nat.add_le_add_left il 1) 8) tlt.1) (by decide))
    refine ⟨_, _, rfl, rfl, ?_, ?_⟩
    · rw [strLen_append, TL.join_eq, strLen_append, strLen_append, lb_len, a8, a2]
      exact line _ (Nat.le_trans (Nat.add_le_add_right (Nat.add_le_add (Nat.add_le_add_right (Nat.add_le_add_left il 1) 8) tlt.1) 2) (by decide))
    refine ⟨rfl, ?_⟩
    have es : listText [it ((paidN ps : Nat) : Int), tabText ps] = (((("[" : Str) ++ it ((paidN ps : Nat) : Int)) ++ ", Table(") ++ Txt.join ", " ((ps.take (paidN ps)).map shwP)) ++ ")]" := by
      rw [listText_eq_join, TL.join_eq]
      have e : (Str.join ", " [it ((paidN ps : Nat) : Int), tabText ps]) = it ((paidN ps : Nat) : Int) ++ ", " ++ tabText ps := rfl
      rw [e]
      unfold tabText
      rw [(paid_split lw tb.desc.dn).1]
      have k1 : (Str.ofString ", Table(") = (Str.ofString ", ") ++ (Str.ofString "Table(") := by decide +kernel
      have k2 : (Str.ofString ")]") = (Str.ofString ")") ++ (Str.ofString "]") := by decide +kernel
      rw [k1, k2]
      simp only [PySem.Str.append_assoc]
    have ed : decide (V.str (listText [it ((paidN ps : Nat) : Int), tabText ps]) = V.str ((((("[" : Str) ++ it ((paidN ps : Nat) : Int)) ++ ", Table(") ++ Txt.join ", " ((ps.take (paidN ps)).map shwP)) ++ ")]")) = true := decide_eq_true (by rw [es])
    show Q (.bl (decide (V.str (listText [it ((paidN ps : Nat) : Int), tabText ps]) = V.str ((((("[" : Str) ++ it ((paidN ps : Nat) : Int)) ++ ", Table(") ++ Txt.join ", " ((ps.take (paidN ps)).map shwP)) ++ ")]")))) Hl
    rw [ed]
    exact q _ (s10.trans sl)
end
end Lb
/-! The law's own defs: a table by points and by steps. -/
namespace Lb
open PySem PySem.Spec PyProof.Rows L2 Ow Pt Rm Ra La Tb
theorem nm_upd {C : Addr} {H : Hp} {v : V} {n d : Int} {D : Addr} {xs : List V} {o : HO} (h : Nm C H v n d) (hD : H D = some (.lst xs)) : Nm C (upd H D o) v n d := by
  refine ⟨?_, h.lw, h.b1, h.b2⟩
  rcases h.at_ with ⟨r, e, dx, hr⟩ | c
  · refine .inl ⟨r, e, dx, ?_⟩
    rw [upd_ne (fun z => by rw [z, hD] at hr; cases hr)]
    exact hr
  · exact .inr c
theorem nm_st {C : Addr} {H H' : Hp} {v : V} {n d : Int} {p : Addr} (h : Nm C H v n d) (hp : Pot H p) (s : Stp p H H') : Nm C H' v n d := ⟨La.NumAt.st h.at_ hp s, h.lw, h.b1, h.b2⟩
theorem tab_st {C D : Addr} {H H' : Hp} {x p : Addr} {ps : List Fr2} (h : TabAt C D H x ps) (hp : Pot H p) (s : Stp p H H') : TabAt C D H' x ps := by
  obtain ⟨dx, L, rs, h1, h2, h3⟩ := h.at_
  exact ⟨⟨dx, L, rs, at_st h1 (fun i j z => nomatch z) hp s, lst_st h2 (nt_ref rs) hp s, Par.imp h3 fun _ _ k => nm_st k hp s⟩, h.len, h.desc⟩
theorem nms_of {C : Addr} {H : Hp} {acc : List V} {ps : List Fr2} {n : Nat} (hl : acc.length = n) (hn : n = ps.length) (he : ∀ (j : Nat) v, acc[j]? = some v → ∃ b, ps[j]? = some b ∧ Nm C H v b.1 b.2) : Nms C H acc ps := ⟨hl.trans hn, fun i x p e1 e2 => by
  obtain ⟨b, eb, k⟩ := he i x e1
  rw [eb] at e2
  cases e2
  exact k⟩
section
variable {P : Program} {w : World} {K : PySem.W.Frag} {mg : Str → Option Value} {base : Heap}
def spBoth (C D : Addr) : Sp := fun vs H Q _ => ∃ (p l1 l2 : Addr) (ss : List Fr2), vs = [.ref p, .ref l1, .ref l2] ∧ Pot H p ∧ Prs H l1 (ptsR ss) ∧ Prs H l2 ss ∧ Stps ss ∧ (∃ s ∈ ss, s.1 ≠ 0) ∧
  ∀ g t1 t2 H', H' g = some (.lst [.ref t1, .ref t2]) → TabAt C D H' t1 (ptsR ss) → TabAt C D H' t2 (ptsR ss) → Stp p H H' → Q (.ref g) H'
abbrev n__law_both : List Str := ["_law_pot_here", "_law_points_here", "_law_steps_here", "_law_many", "_law_told", "_law_made", "_law_a"]
theorem sc__law_both : FnScope n__law_both ["_law_pot_here", "_law_points_here", "_law_steps_here"] (defScope d__law_both) := ⟨rfl, rfl, rfl, by decide +kernel, rfl, by decide +kernel, by decide +kernel⟩
theorem ok_both {f C D : Addr} {fd : FuncData} (F : FnP K "_law_both" "_law_both" d__law_both [] f fd) (dPa : Dfn P w K mg base 1 "_law_paid" ["_law_points_here"] spLPaid) (dD : DDraw P w K mg base) (dN : Dfn P w K mg base 4 "_law_number" ["_law_pot_here", "_law_a"] (spNum C))
    (dBP : Dfn P w K mg base 11 "_law_by_points" ["_law_row"] (spBP C D)) (dBS : Dfn P w K mg base 12 "_law_by_steps" ["_law_row"] (spBS C D)) : FnOk P w K mg base CX0 13 f fd ["_law_pot_here", "_law_points_here", "_law_steps_here"] (spBoth C D) := by
  refine F.ok sc__law_both (fun vs H Q E h => ?_) (fun cdv A outer s H vs Q E hr h => ?_)
  · obtain ⟨p, l1, l2, ss, rfl, _⟩ := h
    rfl
  · obtain ⟨p, l1, l2, ss, rfl, hp, p1, p2, st, hex, q⟩ := h
    have hr1 := hr.mono (by decide : 1 ≤ 12)
    have hr4 := hr.mono (by decide : 4 ≤ 12)
    have hr10 := hr.mono (by decide : 11 ≤ 12)
    refine ⟨_, PSs.nox (pss_cons (ps_set (i := 3) sc__law_both.nd rfl (Or.inl rfl) (pe_use dPa hr1 rfl (pa_cons (pv 1) pa_nil)))
      (pss_cons (ps_set (i := 4) sc__law_both.nd rfl (Or.inl rfl) (pe_slice sl_list (pv 1) po_none (po_some (pe_op op_add (pv 3) (pe_use dD hr1 rfl (pa_cons (pv 0) (pa_cons (pe_op op_sub pe_int (pv 3)) pa_nil)))))))
      (pss_cons (ps_set (i := 5) sc__law_both.nd rfl (Or.inl rfl) (pe_use dBP hr10 rfl (pa_cons (pe_lc rfl sc__law_both.nd (pi_list (pv 4)) (blkOk_by (own := [("_law_a", 6)]) (by show blkC n__law_both (defScope d__law_both) _ _ = true; decide +kernel)) (fun _ _ _ _ _ => pg_name (i := 6) sc__law_both.nd rfl (.inl rfl)) (fun _ _ _ _ _ => pts_nil) (fun _ _ _ _ _ => (pe_use dN hr4 rfl (pa_cons (pv 0) (pa_cons (pv 6) pa_nil))))) pa_nil)))
      (pss_cons (ps_set (i := 4) sc__law_both.nd rfl (Or.inl rfl) (pe_slice sl_list (pv 2) po_none (po_some (pe_op op_add (pv 3) (pe_use dD hr1 rfl (pa_cons (pv 0) (pa_cons (pe_op op_sub pe_int (pv 3)) pa_nil)))))))
      (pss_one (ps_ret (pe_lst (pa_cons (pv 5) (pa_cons (pe_use dBS hr rfl (pa_cons (pe_lc rfl sc__law_both.nd (pi_list (pv 4)) (blkOk_by (own := [("_law_a", 6)]) (by show blkC n__law_both (defScope d__law_both) _ _ = true; decide +kernel)) (fun _ _ _ _ _ => pg_name (i := 6) sc__law_both.nd rfl (.inl rfl)) (fun _ _ _ _ _ => pts_nil) (fun _ _ _ _ _ => (pe_use dN hr4 rfl (pa_cons (pv 0) (pa_cons (pv 6) pa_nil))))) pa_nil)) pa_nil))))))))), ?_⟩
    have lw := st.lw
    have L := pts_lws lw
    have de := desc_pts lw st.nn (by rw [st.len]; decide) (by rw [st.len]; decide) hex
    have l5 : (ptsR ss).length = 5 := by rw [pts_len, st.len]
    have s5 := st.len
    have bdP := pts_bd5 st
    have m1 := paid_pos de
    have m5 := paid_le (ptsR ss)
    obtain ⟨qs, e1, hq1, hqs⟩ := p1.len
    obtain ⟨us, e2, hu1, hus⟩ := p2.len
    refine ⟨_, rfl, l1, _, rfl, p1, by omega, fun H1 s1 => ?_⟩
    have t1 : Stp p H H1 := Stp.of s1 hp
    refine ⟨_, rfl, _, rfl, _, rfl, _, rfl, _, _, rfl, rfl, p, _, rfl, t1.pot, by omega, bd_small (by omega) (by have := e60; omega) (by decide), fun r H2 r0 r1 s2 => ⟨_, _, rfl, rfl, _, rfl, ?_⟩⟩
    have t2 := t1.trans s2
    obtain ⟨j, rfl⟩ : ∃ j : Nat, r = (j : Int) := ⟨r.toNat, by omega⟩
    refine ⟨l1, _, rfl, SqL.of (lst_st e1 (nt_ref _) hp t2), fun c hc => ?_⟩
    obtain ⟨m, hm⟩ : ∃ m : Nat, m = paidN (ptsR ss) + j := ⟨_, rfl⟩
    have em : (((paidN (ptsR ss) : Nat) : Int) + ((j : Nat) : Int)) = ((m : Nat) : Int) := by omega
    rw [em, cut_to, ← List.map_take]
    have hm5 : m ≤ 5 := by omega
    have tc := t2.new (o := .lst ((qs.take m).map V.ref)) hc
    have pq := Par.imp (S := fun q a => PairAt (upd H2 c (.lst ((qs.take m).map V.ref))) q a) (hqs.take m) fun q a z => z.st hp tc
    have hcl : upd H2 c (.lst ((qs.take m).map V.ref)) c = some (.lst ((qs.take m).map V.ref)) := upd_same
    have l6 : (qs.take m).length ≤ 5 := by rw [List.length_take]; omega
    refine ⟨_, rfl, c, rfl, ⟨_, SqL.of hcl⟩, fun D1 D10 => ?_⟩
    refine lc_el (walk_list (xs := (qs.take m).map V.ref)) (rel_sp tc.pot D10) (by rw [List.length_map]; omega) (fun j v H' => ∃ b, ((ptsR ss).take m)[j]? = some b ∧ Nm C H' v b.1 b.2) ?_ ?_ (fun H' s => SqL.of (lst_st hcl (nt_ref _) tc.pot s.2)) ?_ ?_
    · rintro j v H5 H6 s ⟨b, eb, k⟩
      exact ⟨b, eb, nm_st k s.1 s.2⟩
    · rintro j v H5 xs ys hl5 ⟨b, eb, k⟩
      exact ⟨b, eb, nm_upd k hl5⟩
    · rintro i v H5 H6 hi s5 _ ⟨rfl, hx⟩ R k
      rw [List.getElem?_map] at hx
      cases c : (qs.take m)[i]? with
      | none => rw [c] at hx; exact nomatch hx
      | some a =>
        rw [c] at hx
        cases hx
        obtain ⟨b, hb, pa⟩ := (pq).getL c
        have bb := ((show Bds 400 ((ptsR ss).take m) from fun x hx => bdP x (List.mem_of_mem_take hx))).get hb
        refine ⟨rfl, _, rfl, _, rfl, p, a, b, rfl, s5.2.pot, pa.st tc.pot s5.2, (lws_take L m).get hb, bb.1, bb.2, fun v H7 nm s7 => ?_⟩
        exact k _ H7 ⟨s5.2.pot, s7⟩ ⟨b, hb, nm⟩
    rintro H3 acc s3 hD3 hlen he
    have t3 : Stp p H H3 := tc.trans s3.2
    refine ⟨D1, acc, (ptsR ss).take m, rfl, hD3, nms_of hlen (by rw [List.length_map, List.length_take, List.length_take, hq1]) he, desc_take de (by omega) hm5, fun x1 H4 tb1 s4 => ?_⟩
    rw [pad_take L de.dn l5 (by omega) hm5] at tb1
    have t4 := t3.sm s4
    refine ⟨_, rfl, _, rfl, _, rfl, _, rfl, _, _, rfl, rfl, p, _, rfl, t4.pot, by omega, bd_small (by omega) (by have := e60; omega) (by decide), fun r' H5 r0' r1' s5' => ⟨_, _, rfl, rfl, _, rfl, ?_⟩⟩
    have t5 := t4.trans s5'
    obtain ⟨j', rfl⟩ : ∃ j' : Nat, r' = (j' : Int) := ⟨r'.toNat, by omega⟩
    refine ⟨l2, _, rfl, SqL.of (lst_st e2 (nt_ref _) hp t5), fun d hd => ?_⟩
    obtain ⟨m', hm'⟩ : ∃ m' : Nat, m' = paidN (ptsR ss) + j' := ⟨_, rfl⟩
    have em' : (((paidN (ptsR ss) : Nat) : Int) + ((j' : Nat) : Int)) = ((m' : Nat) : Int) := by omega
    rw [em', cut_to, ← List.map_take]
    have hm5' : m' ≤ 5 := by omega
    have td := t5.new (o := .lst ((us.take m').map V.ref)) hd
    have pu := Par.imp (S := fun q a => PairAt (upd H5 d (.lst ((us.take m').map V.ref))) q a) (hus.take m') fun q a z => z.st hp td
    have hdl : upd H5 d (.lst ((us.take m').map V.ref)) d = some (.lst ((us.take m').map V.ref)) := upd_same
    have l6' : (us.take m').length ≤ 5 := by rw [List.length_take]; omega
    have tb1d : TabAt C D (upd H5 d (.lst ((us.take m').map V.ref))) x1 (ptsR ss) := tab_st tb1 t4.pot (s5'.new hd)
    refine ⟨_, rfl, _, rfl, d, rfl, ⟨_, SqL.of hdl⟩, fun D2 D20 => ?_⟩
    refine lc_el (walk_list (xs := (us.take m').map V.ref)) (rel_sp td.pot D20) (by rw [List.length_map]; omega) (fun j v H' => ∃ b, (ss.take m')[j]? = some b ∧ Nm C H' v b.1 b.2) ?_ ?_ (fun H' s => SqL.of (lst_st hdl (nt_ref _) td.pot s.2)) ?_ ?_
    · rintro j v H5 H6 s ⟨b, eb, k⟩
      exact ⟨b, eb, nm_st k s.1 s.2⟩
    · rintro j v H5 xs ys hl5 ⟨b, eb, k⟩
      exact ⟨b, eb, nm_upd k hl5⟩
    · rintro i v H5 H6 hi s5 _ ⟨rfl, hx⟩ R k
      rw [List.getElem?_map] at hx
      cases c : (us.take m')[i]? with
      | none => rw [c] at hx; exact nomatch hx
      | some a =>
        rw [c] at hx
        cases hx
        obtain ⟨b, hb, pa⟩ := (pu).getL c
        have bb := ((show Bds 400 (ss.take m') from fun x hx => ⟨(st.bd x (List.mem_of_mem_take hx)).1.mono (by decide), (st.bd x (List.mem_of_mem_take hx)).2.mono (by decide)⟩)).get hb
        refine ⟨rfl, _, rfl, _, rfl, p, a, b, rfl, s5.2.pot, pa.st td.pot s5.2, (lws_take lw m').get hb, bb.1, bb.2, fun v H7 nm s7 => ?_⟩
        exact k _ H7 ⟨s5.2.pot, s7⟩ ⟨b, hb, nm⟩
    rintro H6 acc2 s6 hD6 hlen2 he2
    have t6 : Stp p H H6 := td.trans s6.2
    have z := rest_zero lw st.nn (m := m') (by omega) de.dn
    have hex' : ∃ s ∈ ss.take m', s.1 ≠ 0 := by
      obtain ⟨s, hs, s0⟩ := hex
      have h : s ∈ ss.take m' ++ ss.drop m' := by rw [List.take_append_drop]; exact hs
      rcases List.mem_append.mp h with c | c
      · exact ⟨s, c, s0⟩
      · rw [z s c] at s0
        exact absurd rfl s0
    refine ⟨D2, acc2, ss.take m', rfl, hD6, nms_of hlen2 (by rw [List.length_map, List.length_take, List.length_take, hu1]) he2, fun x hx => ⟨(st.bd x (List.mem_of_mem_take hx)).1.mono (by decide), (st.bd x (List.mem_of_mem_take hx)).2.mono (by decide)⟩, by rw [List.length_take]; omega, by rw [List.length_take]; omega, fun x hx => st.nn x (List.mem_of_mem_take hx), hex', fun x2 H7 tb2 s7 => ?_⟩
    rw [pts_take lw s5 hm5' z] at tb2
    refine ⟨(by show 2 ≤ sizeLine; decide), fun g hg => ?_⟩
    have sg := same_upd (o := .lst [V.ref x1, V.ref x2]) hg
    exact q g x1 x2 _ upd_same (tab_st (tb1d) td.pot (s6.2.sm (s7.trans sg))) (tb2.same sg) (t6.sm (s7.trans sg))
end
end Lb
/-! The law's own defs: tables compared. -/
namespace Lb
open PySem PySem.Spec PyProof.Rows L2 Ow Pt Rm Ra La Tb
/-- what is asked of the classes, for == of tables with things of other kinds -/
structure WT (K : PySem.W.Frag) (C D : Addr) : Prop where
  kl : PySem.W.kitOne K (.type "list") (.ref D) = some false
  kt : PySem.W.kitOne K (.type "tuple") (.ref D) = some false
  kn : PySem.W.kitOne K (.type "NoneType") (.ref D) = some false
  kb : PySem.W.kitOne K (.type "bool") (.ref D) = some false
  ks : PySem.W.kitOne K (.type "str") (.ref D) = some false
  ki : PySem.W.kitOne K (.type "int") (.ref D) = some false
  kC : PySem.W.kitOne K (.ref C) (.ref D) = some false
  fl : PySem.W.notFirst K D (.type "list") = true
  ft : PySem.W.notFirst K D (.type "tuple") = true
  fn : PySem.W.notFirst K D (.type "NoneType") = true
  fb : PySem.W.notFirst K D (.type "bool") = true
  fs : PySem.W.notFirst K D (.type "str") = true
  fi : PySem.W.notFirst K D (.type "int") = true
  fC : PySem.W.notFirst K D (.ref C) = true
  fD : PySem.W.notFirst K D (.ref D) = true
  sl : PySem.W.subIn K (.ref D) (.type "list") = some false
  st : PySem.W.subIn K (.ref D) (.type "tuple") = some false
  sn : PySem.W.subIn K (.ref D) (.type "NoneType") = some false
  sb : PySem.W.subIn K (.ref D) (.type "bool") = some false
  ss : PySem.W.subIn K (.ref D) (.type "str") = some false
  si : PySem.W.subIn K (.ref D) (.type "int") = some false
  kD : PySem.W.kitOne K (.ref D) (.ref C) = some false
  nC : PySem.W.notFirst K C (.ref D) = true
/-- a thing that is no table -/
def Oth (C : Addr) (H : Hp) (v : V) : Prop := v = .non ∨ (∃ b, v = .bl b) ∨ (∃ z, v = .str z) ∨ (∃ n, v = .int n) ∨ (∃ l xs, v = .ref l ∧ H l = some (.tup xs)) ∨ (∃ l xs, v = .ref l ∧ H l = some (.lst xs)) ∨ ∃ r n d, v = .ref r ∧ RatAt C H r n d
theorem Oth.same {C : Addr} {H H' : Hp} {v : V} (h : Oth C H v) (s : Same H H') : Oth C H' v := by
  rcases h with h | h | h | h | ⟨l, xs, rfl, h⟩ | ⟨l, xs, rfl, h⟩ | ⟨r, n, d, rfl, h⟩
  · exact .inl h
  · exact .inr (.inl h)
  · exact .inr (.inr (.inl h))
  · exact .inr (.inr (.inr (.inl h)))
  · exact .inr (.inr (.inr (.inr (.inl ⟨l, xs, rfl, s _ _ h⟩))))
  · exact .inr (.inr (.inr (.inr (.inr (.inl ⟨l, xs, rfl, s _ _ h⟩)))))
  · exact .inr (.inr (.inr (.inr (.inr (.inr ⟨r, n, d, rfl, h.same s⟩)))))
theorem oth_ty {K : PySem.W.Frag} {mg : Str → Option Value} {C D : Addr} (T : RT K mg C) (W : WT K C D) {H : Hp} {v : V} (h : Oth C H v) : ∃ t, TyX K H v t ∧ PySem.W.kitOne K t (.ref D) = some false ∧ PySem.W.notFirst K D t = true := by
  rcases h with rfl | ⟨b, rfl⟩ | ⟨z, rfl⟩ | ⟨n, rfl⟩ | ⟨l, xs, rfl, h⟩ | ⟨l, xs, rfl, h⟩ | ⟨r, n, d, rfl, dx, h⟩
  · exact ⟨_, .base .non, W.kn, W.fn⟩
  · exact ⟨_, .base (.bl b), W.kb, W.fb⟩
  · exact ⟨_, .base (.str z), W.ks, W.fs⟩
  · exact ⟨_, .base (.int n), W.ki, W.fi⟩
  · exact ⟨_, .base (.tup h), W.kt, W.ft⟩
  · exact ⟨_, .base (.lst h), W.kl, W.fl⟩
  · exact ⟨_, .base (.ins h T.cl T.ca T.cg T.ct T.cm), W.kC, W.fC⟩
/-- the own == of tables -/
structure TEq (P : Program) (w : World) (K : PySem.W.Frag) (mg : Str → Option Value) (base : Heap) (C D : Addr) : Prop where
  ex : ∃ f fd, OpOf K D "__eq__" f ∧ FnOk P w K mg base CX0 3 f fd ["self", "other"] (spTEq K C D) ∧ Binds K fd ["self", "other"] []
  ne : PySem.W.findIn K (.ref D) "__ne__" = some (some (.builtin "object.__ne__"))
/-- another thing on the left, a table on the right: == says False -/
def rOt (C D : Addr) : R2 := fun v y H Q => ∃ a ps, y = .ref a ∧ TabAt C D H a ps ∧ Oth C H v ∧ Q (.bl false) H
theorem op_ot {X : Cx} {C D : Addr} (W : WT X.K C D) (T : RT X.K X.mg C) (U : TC X.K X.mg D) (Z : TK X.K D) (q : EqX X.prog X.w X.K X.mg X.base C) (e : TEq X.prog X.w X.K X.mg X.base C D) (hr : Room 3 X.A) : OpR X (compareOp .Eq) (rOt C D) := by
  obtain ⟨f, fd, o, F, b⟩ := q.ex
  obtain ⟨g, gd, o2, F2, b2⟩ := e.ex
  intro pins s σ H x y u v Q I rx ry h
  obtain ⟨a, ps, rfl, tb, hv, k⟩ := h
  obtain ⟨dx, L, rs, h1, h2, h3⟩ := id tb.at_
  obtain ⟨ty, hty, hk, _⟩ := oth_ty T W hv
  have sp : spTEq X.K C D [.ref a, x] H Q E0 := ⟨a, ps, x, rfl, tb, .inr ⟨ty, hty, hk, k⟩⟩
  rcases hv with rfl | ⟨z, rfl⟩ | ⟨z, rfl⟩ | ⟨n, rfl⟩ | ⟨l, xs, rfl, hl⟩ | ⟨l, xs, rfl, hl⟩ | ⟨r, n, d, rfl, hl⟩
  · exact op_eqNr o2 W.sn F2 hr b2 pass0 pins s σ H _ _ _ _ Q I rx ry ⟨a, dx, _, rfl, rfl, h1, sp⟩
  · exact op_eqBr o2 W.sb F2 hr b2 pass0 pins s σ H _ _ _ _ Q I rx ry ⟨a, dx, _, z, rfl, rfl, h1, sp⟩
  · exact op_eqSr o2 W.ss F2 hr b2 pass0 pins s σ H _ _ _ _ Q I rx ry ⟨a, dx, _, z, rfl, rfl, h1, sp⟩
  · exact op_eqIr o2 W.si F2 hr b2 pass0 pins s σ H _ _ _ _ Q I rx ry ⟨a, dx, _, n, rfl, rfl, h1, sp⟩
  · exact op_eqTr o2 W.st F2 hr b2 pass0 pins s σ H _ _ _ _ Q I rx ry ⟨a, dx, _, l, xs, rfl, hl, rfl, h1, sp⟩
  · exact op_eqLr o2 W.sl F2 hr b2 pass0 pins s σ H _ _ _ _ Q I rx ry ⟨a, dx, _, l, xs, rfl, hl, rfl, h1, sp⟩
  · obtain ⟨dr, hr'⟩ := id hl
    exact op_eqI o F (hr.mono (by decide)) b pass0 pins s σ H _ _ _ _ Q I rx ry ⟨r, dr, _, .ref D, rfl, hr', ty_tab T U Z tb, W.nC, r, .ref a, n, d, rfl, hl, .inr ⟨.ref D, ty_tab T U Z tb, W.kD, k⟩⟩
/-! lists of pairs as data -/
def pD (a : Fr2) : PyData := .tuple [.int a.1, .int a.2]
theorem eqv_p (a b : Fr2) : PyData.eqv (pD a) (pD b) = decide (a = b) := by
  obtain ⟨a1, a2⟩ := a
  obtain ⟨b1, b2⟩ := b
  by_cases h1 : a1 = b1 <;> by_cases h2 : a2 = b2 <;> simp [pD, PyData.eqv, PyData.eqvAll, h1, h2]
theorem eqv_all : ∀ ps qs : List Fr2, PyData.eqvAll (ps.map pD) (qs.map pD) = decide (ps = qs)
  | [], [] => by simp [PyData.eqvAll]
  | [], _ :: _ => by simp [PyData.eqvAll]
  | _ :: _, [] => by simp [PyData.eqvAll]
  | p :: ps, q :: qs => by
    rw [List.map_cons, List.map_cons]
    simp only [PyData.eqvAll]
    rw [eqv_p, eqv_all ps qs]
    by_cases h1 : p = q <;> by_cases h2 : ps = qs <;> simp [h1, h2]
theorem dp_prs {K : PySem.W.Frag} {H : Hp} {l : Addr} {ps : List Fr2} (h : Prs H l ps) : Dp K H (.ref l) (.list (ps.map pD)) := by
  obtain ⟨qs, e, k1, k⟩ := h.len
  refine .lst (SqL.of e) (dpa_of (by rw [List.length_map, List.length_map, k1]) fun i v d e1 e2 => ?_)
  rw [List.getElem?_map] at e1 e2
  cases c : qs[i]? with
  | none => rw [c] at e1; exact nomatch e1
  | some q =>
    rw [c] at e1
    cases e1
    obtain ⟨p, hp, pa⟩ := k.getL c
    rw [hp] at e2
    cases e2
    exact .tup (SqT.of pa) (.cons (.int _) (.cons (.int _) .nil))
theorem shaped5 {ps : List Fr2} (h : ps.length = 5) : SeqAt.shaped (.list (ps.map pD)) = true := by
  rcases ps with _ | ⟨a, _ | ⟨b, _ | ⟨c, _ | ⟨d, _ | ⟨e, _ | ⟨g, xs⟩⟩⟩⟩⟩⟩
  all_goals first | (simp at h; done) | rfl | decide +kernel
end Lb
/-! The law's own defs: tables side by side. -/
namespace Lb
open PySem PySem.Spec PyProof.Rows L2 Ow Pt Rm Ra La Tb
theorem anyF : ∀ n : Nat, (List.replicate n false).any id = false
  | 0 => rfl
  | n + 1 => by rw [List.replicate_succ, List.any_cons, anyF n]; rfl
theorem dec_self {α : Type} [DecidableEq α] (x : α) : decide (x = x) = true := decide_eq_true rfl
section
variable {P : Program} {w : World} {K : PySem.W.Frag} {mg : Str → Option Value} {base : Heap}
def spEqR (C D : Addr) : Sp := fun vs H Q _ => ∃ (p t l o b t2 l2 : Addr) (ps qs : List Fr2), vs = [.ref p, .ref t, .ref l, .ref o, .ref b] ∧ TabAt C D H t ps ∧ Prs H l ps ∧ TabAt C D H o ps ∧ Bds 400 ps ∧
  H b = some (.lst [.ref t2, .ref l2]) ∧ TabAt C D H t2 qs ∧ Prs H l2 qs ∧ ∀ H', Same H H' → Q (.bl true) H'
abbrev n__law_equal_right : List Str := ["_law_pot_here", "_law_made", "_law_points_here", "_law_others", "_law_beside", "_law_odd", "_law_some"]
theorem sc__law_equal_right : FnScope n__law_equal_right ["_law_pot_here", "_law_made", "_law_points_here", "_law_others", "_law_beside"] (defScope d__law_equal_right) := ⟨rfl, rfl, rfl, by decide +kernel, rfl, by decide +kernel, by decide +kernel⟩
theorem ok_eqr {f C D : Addr} {fd : FuncData} (F : FnP K "_law_equal_right" "_law_equal_right" d__law_equal_right [] f fd) (B : Blt mg) (T : RT K mg C) (U : TC K mg D) (Z : TK K D) (W_ : WT K C D) (Q_ : EqX P w K mg base C) (E_ : TEq P w K mg base C D) (sT : ShT P w K mg base C D)
    (mP : Mtd P w K mg base 1 D "points" ["self"] (spPts C D)) (mS : Mtd P w K mg base 7 D "steps" ["self"] (spStp C D)) (pPd : Tb.Prp P w K mg base 3 D "paid" (spPaid C D)) (iX : Opr P w K mg base 3 D "__getitem__" ["self", "at"] (spIx C D)) (hfX : ∀ f, OpOf K D "__getitem__" f → PySem.W.fnIn K f = true) :
    FnG P w K mg base CX0 8 f fd ["_law_pot_here", "_law_made", "_law_points_here", "_law_others", "_law_beside"] (spEqR C D) := by
  obtain ⟨fx, fxd, oX, FX, bX⟩ := iX.ex
  have fX := hfX fx oX
  obtain ⟨fe, fed, oE, FE, bE⟩ := E_.ex
  have neT := E_.ne
  refine fnG_ok (k := 7) F sc__law_equal_right (fun vs H Q E h => ?_) (fun cdv A outer s H vs Q E hr hg h => ?_)
  · obtain ⟨p, t, l, o, b, t2, l2, ps, qs, rfl, _⟩ := h
    rfl
  · obtain ⟨p, t, l, o, b, t2, l2, ps, qs, rfl, tb, p1, tbo, bd, eb, tb2, p2, q⟩ := h
    have hr0 := hr.mono (by decide : 0 ≤ 7)
    have hr1 := hr.mono (by decide : 1 ≤ 7)
    have hr3 := hr.mono (by decide : 3 ≤ 7)
    have hr4 := hr.mono (by decide : 4 ≤ 7)
    have hr7 := hr
    have hu : (A.deeper (envOfC "_law_equal_right" (defScope d__law_equal_right) s.heap.objs.size f cdv)).units + 64 < cLine := by have := hr0.units; omega
    refine ⟨_, PSs.nox (pss_cons (ps_if (PW.pt (pw_or (pt_not (pt_cmpR (op_eqI oE FE hr3 bE pass0) (pv 1) (pv 3) (nomark _))) (pw_or (pt_cmpR (op_neI oE neT Z.cm FE hr4 bE pass0) (pv 1) (pv 3) (nomark _)) (pw_or1 (pt_not (pt_cmpR (op_eqI oE FE hr3 bE pass0) (pv 3) (pv 1) (nomark _))))))) (pss_one (ps_ret pe_bl)) pss_nil)
      (pss_cons (ps_if (pt_cmpR op_ne (pe_callB (r := rData K) (call_repr_data hg hr0) (by rfl) B.repr PyProof.Rows.boot_repr (pa_cons (pe_lst (pa_cons (pe_cmpR (op_eqI oE FE hr3 bE pass0) (pv 1) (pe_ix ix_list (pv 4) pe_int (fun _ _ => rfl)) (nomark _)) (pa_cons (pe_cmpR (op_neI oE neT Z.cm FE hr4 bE pass0) (pv 1) (pe_ix ix_list (pv 4) pe_int (fun _ _ => rfl)) (nomark _)) pa_nil))) pa_nil)) (pe_callB (r := rData K) (call_repr_data hg hr0) (by rfl) B.repr PyProof.Rows.boot_repr (pa_cons (pe_lst (pa_cons (pe_cmpR (op_eqD hu) (pv 2) (pe_ix ix_list (pv 4) pe_int (fun _ _ => rfl)) (nomark _)) (pa_cons (pe_cmpR (op_neD hu) (pv 2) (pe_ix ix_list (pv 4) pe_int (fun _ _ => rfl)) (nomark _)) pa_nil))) pa_nil)) (nomark _)) (pss_one (ps_ret pe_bl)) pss_nil)
      (pss_cons (ps_set (i := 5) sc__law_equal_right.nd rfl (Or.inl rfl) (pe_lst (pa_cons pe_non (pa_cons (pv 2) (pa_cons (pe_callB (shown_trepr sT hr4) (by rfl) B.repr PyProof.Rows.boot_repr (pa_cons (pv 1) pa_nil)) (pa_cons (pe_mt0 U.cl mP hr1 (pv 1)) (pa_cons (pe_mt0 U.cl mS hr7 (pv 1)) (pa_cons (pe_callTy call_tuple_of (by rfl) B.tuple (by decide +kernel) (pa_cons (pe_mt0 U.cl mP hr1 (pv 1)) pa_nil)) (pa_cons (pe_ixO oX fX FX hr4 bX pass0 (pv 1) pe_int) (pa_cons (pe_pr pPd (pv 1) U.cl hr4 rfl) (pa_cons pe_bl pa_nil)))))))))))
      (pss_one (ps_ret (pe_not (pe_callB (cr_any rfl) (by rfl) B.any PyProof.Rows.boot_any (pa_cons (pe_lc rfl sc__law_equal_right.nd (pi_list (pv 5)) (blkOk_by (own := [("_law_some", 6)]) (by show blkC n__law_equal_right (defScope d__law_equal_right) _ _ = true; decide +kernel)) (fun _ _ _ _ _ => pg_name (i := 6) sc__law_equal_right.nd rfl (.inl rfl)) (fun _ _ _ _ _ => pts_nil) (fun _ _ _ _ _ => (pe_or (pe_cmpR (r := rEqI K D (spTEq K C D) E0) (op_eqI oE FE hr3 bE pass0) (pv 1) (pv 6) (nomark _)) (pe_one (pe_cmpR (r := rOt C D) (op_ot W_ T U Z Q_ E_ hr3) (pv 6) (pv 1) (nomark _)))))) pa_nil)))))))), ?_⟩
    obtain ⟨dx, L, rs, h1, h2, h3⟩ := id tb.at_
    obtain ⟨dy, L2, rs2, k1, k2, k3⟩ := id tbo.at_
    have l5 := tb.len
    have m5 := tb2.len
    have lw := tb.lws
    have bd19 := Bds.mono' bd (by decide : 400 ≤ 1900)
    refine ⟨_, rfl, _, rfl, t, dx, _, .ref D, rfl, h1, ty_tab T U Z tbo, W_.fD, t, ps, .ref o, rfl, tb, .inl ⟨o, ps, rfl, tbo, fun H1 s1 => ?_⟩⟩
    rw [dec_self]
    refine ⟨_, rfl, ?_⟩
    have t1 := tb.same s1
    have o1 := tbo.same s1
    refine ⟨_, rfl, _, rfl, t, dx, _, .ref D, rfl, s1 _ _ h1, ty_tab T U Z o1, W_.fD, t, ps, .ref o, rfl, t1, .inl ⟨o, ps, rfl, o1, fun H2 s2 => ⟨_, rfl, _, rfl, ?_⟩⟩⟩
    rw [dec_self]
    have s12 := s1.trans s2
    have t2' := tb.same s12
    have o2 := tbo.same s12
    refine ⟨_, rfl, _, rfl, o, dy, _, .ref D, rfl, s12 _ _ k1, ty_tab T U Z t2', W_.fD, o, ps, .ref t, rfl, o2, .inl ⟨t, ps, rfl, t2', fun H3 s3 => ⟨_, rfl, ?_⟩⟩⟩
    rw [dec_self]
    refine iteF ?_
    have s13 := s12.trans s3
    have t3 := tb.same s13
    have w3 := tb2.same s13
    have hb3 := SqL.of (K := K) (s13 _ _ eb)
    refine ⟨_, rfl, _, rfl, b, _, _, _, rfl, rfl, hb3, rfl, t, dx, _, .ref D, rfl, s13 _ _ h1, ty_tab T U Z w3, W_.fD, t, ps, .ref t2, rfl, t3, .inl ⟨t2, qs, rfl, w3, fun H4 s4 => ?_⟩⟩
    have s14 := s13.trans s4
    have t4 := tb.same s14
    have w4 := tb2.same s14
    refine ⟨_, rfl, _, rfl, b, _, _, _, rfl, rfl, SqL.of (s14 _ _ eb), rfl, t, dx, _, .ref D, rfl, s14 _ _ h1, ty_tab T U Z w4, W_.fD, t, ps, .ref t2, rfl, t4, .inl ⟨t2, qs, rfl, w4, fun H5 s5 => ⟨_, rfl, (by show 2 ≤ sizeLine; decide), fun u hu1 => ?_⟩⟩⟩
    have s15 := (s14.trans s5).trans (same_upd (o := .lst [V.bl (decide (ps = qs)), V.bl (!decide (ps = qs))]) hu1)
    have S1 := shb (K := K) (a := u) (bs := [decide (ps = qs), !decide (ps = qs)]) (H := upd H5 u (.lst [V.bl (decide (ps = qs)), V.bl (!decide (ps = qs))])) upd_same (by show 2 ≤ 50; decide)
    refine ⟨u, _, rfl, S1.dp, S1.sh, S1.di, S1.de, S1.le, ?_⟩
    have ev : PyData.eqv (.list (ps.map pD)) (.list (qs.map pD)) = decide (ps = qs) := by
      simp only [PyData.eqv]
      exact eqv_all ps qs
    have d1 := dp_prs (K := K) (p1.same s15)
    have d2 := dp_prs (K := K) (p2.same s15)
    refine ⟨_, rfl, _, rfl, b, _, _, _, rfl, rfl, SqL.of (s15 _ _ eb), rfl, _, _, d1, d2, shaped5 l5, shaped5 m5, ?_⟩
    rw [ev]
    refine ⟨_, rfl, _, rfl, b, _, _, _, rfl, rfl, SqL.of (s15 _ _ eb), rfl, _, _, d1, d2, shaped5 l5, shaped5 m5, (by show 2 ≤ sizeLine; decide), fun m hm => ?_⟩
    rw [ev]
    have S2 := shb (K := K) (a := m) (bs := [decide (ps = qs), !decide (ps = qs)]) (H := upd (upd H5 u (.lst [V.bl (decide (ps = qs)), V.bl (!decide (ps = qs))])) m (.lst [V.bl (decide (ps = qs)), V.bl (!decide (ps = qs))])) upd_same (by show 2 ≤ 50; decide)
    refine ⟨m, _, rfl, S2.dp, S2.sh, S2.di, S2.de, S2.le, rfl, _, rfl, ?_⟩
    rw [dec_self]
    refine iteF ?_
    have s6 := s15.trans (same_upd (o := .lst [V.bl (decide (ps = qs)), V.bl (!decide (ps = qs))]) hm)
    generalize upd (upd H5 u (.lst [V.bl (decide (ps = qs)), V.bl (!decide (ps = qs))])) m (.lst [V.bl (decide (ps = qs)), V.bl (!decide (ps = qs))]) = H6 at s6 ⊢
    have no1 : (pf L).lookup ("points" : Str) = none := pf_no L (by decide +kernel)
    have no2 : (pf L).lookup ("steps" : Str) = none := pf_no L (by decide +kernel)
    refine ⟨_, rfl, _, rfl, t, dx, _, rfl, s6 _ _ h1, t, ps, rfl, tb.same s6, bd19, fun H7 e7 => ?_⟩
    have s7 := s6.trans e7
    refine ⟨_, rfl, _, rfl, t, dx, _, rfl, s7 _ _ h1, no1, t, ps, rfl, tb.same s7, fun g rs3 H8 hg3 hrs3 e8 hgn3 => ?_⟩
    have s8 := s7.trans e8
    refine ⟨_, rfl, t, dx, _, rfl, s8 _ _ h1, no2, t, ps, rfl, tb.same s8, Bds.mono' bd (by decide), fun g4 rs4 H9 hg4 hrs4 e9 hgn4 => ?_⟩
    have s9 := s8.trans e9
    refine ⟨_, rfl, t, dx, _, rfl, s9 _ _ h1, no1, t, ps, rfl, tb.same s9, fun g5 rs5 HA hg5 hrs5 eA hgn5 => ?_⟩
    refine ⟨g5, _, rfl, .inl ⟨SqL.of hg5, fun tp htp => ?_⟩⟩
    have eAB := eA.trans (same_upd (o := .tup (rs5.map V.ref)) htp)
    have sB := s9.trans eAB
    refine ⟨_, rfl, t, dx, _, rfl, sB _ _ h1, t, ps, 0, rfl, tb.same sB, by decide, fun r pr hpr nr => ?_⟩
    refine ⟨_, rfl, t, dx, _, rfl, sB _ _ h1, t, ps, rfl, tb.same sB, fun HC eC => ⟨by show 9 ≤ sizeLine; decide, fun lo hlo => ?_⟩⟩
    have sC := sB.trans eC
    obtain ⟨vs, hvs⟩ : ∃ vs : List V, vs = [V.non, .ref l, .str (tabText ps), .ref g, .ref g4, .ref tp, .ref r, .int ((paidN ps : Nat) : Int), .bl true] := ⟨_, rfl⟩
    have oth : ∀ v ∈ vs, Oth C HC v := by
      have pl : Oth C HC (.ref l) := by
        obtain ⟨qq, e, _⟩ := p1.ex
        exact .inr (.inr (.inr (.inr (.inr (.inl ⟨l, _, rfl, sC _ _ e⟩)))))
      have pg : Oth C HC (.ref g) := .inr (.inr (.inr (.inr (.inr (.inl ⟨g, _, rfl, (e9.trans (eAB.trans eC)) _ _ hg3⟩)))))
      have pg4 : Oth C HC (.ref g4) := .inr (.inr (.inr (.inr (.inr (.inl ⟨g4, _, rfl, (eAB.trans eC) _ _ hg4⟩)))))
      have pt : Oth C HC (.ref tp) := .inr (.inr (.inr (.inr (.inl ⟨tp, _, rfl, eC _ _ upd_same⟩))))
      have pr : Oth C HC (.ref r) := .inr (.inr (.inr (.inr (.inr (.inr ⟨r, _, _, rfl, nr.rat.same eC⟩)))))
      intro v hv
      rw [hvs] at hv
      rcases List.mem_cons.mp hv with rfl | hv
      · exact .inl rfl
      rcases List.mem_cons.mp hv with rfl | hv
      · exact pl
      rcases List.mem_cons.mp hv with rfl | hv
      · exact .inr (.inr (.inl ⟨_, rfl⟩))
      rcases List.mem_cons.mp hv with rfl | hv
      · exact pg
      rcases List.mem_cons.mp hv with rfl | hv
      · exact pg4
      rcases List.mem_cons.mp hv with rfl | hv
      · exact pt
      rcases List.mem_cons.mp hv with rfl | hv
      · exact pr
      rcases List.mem_cons.mp hv with rfl | hv
      · exact .inr (.inr (.inr (.inl ⟨_, rfl⟩)))
      rcases List.mem_cons.mp hv with rfl | hv
      · exact .inr (.inl ⟨_, rfl⟩)
      exact nomatch hv
    rw [← hvs]
    have lv : vs.length = 9 := by rw [hvs]; rfl
    have sl := same_upd (o := .lst vs) hlo
    have sD := sC.trans sl
    refine ⟨_, rfl, lo, rfl, ⟨vs, SqL.of upd_same⟩, fun D0 hD => ?_⟩
    refine lc_it (walk_list (xs := vs)) (fun i H' => Same (upd HC lo (.lst vs)) H' ∧ H' D0 = some (.lst ((List.replicate i false).map V.bl)) ∧ i ≤ vs.length) ⟨same_upd hD, upd_same, Nat.zero_le _⟩ (fun i H' _ h => SqL.of (h.1 _ _ upd_same)) ?_ ?_
    · rintro i v J4 J5 hi ⟨z5, hD5, _⟩ ⟨rfl, hv⟩
      have ov : Oth C J5 v := (oth v (List.mem_of_getElem? hv)).same (sl.trans z5)
      have zz := sD.trans z5
      obtain ⟨ty, hty, hk, hn⟩ := oth_ty T W_ ov
      refine ⟨rfl, tYes_at ?_⟩
      refine ⟨_, rfl, _, rfl, t, dx, _, ty, rfl, zz _ _ h1, hty, hn, t, ps, v, rfl, tb.same zz, .inr ⟨ty, hty, hk, false, rfl, ?_⟩⟩
      refine iteF ?_
      refine ⟨_, rfl, _, rfl, t, ps, rfl, tb.same zz, ov, _, hD5, ?_, fun b u e => ?_, ?_, hi⟩
      · rw [List.length_map, List.length_replicate]
        exact Nat.lt_of_le_of_lt (show i ≤ 1000 by omega) (by decide)
      · rw [upd_ne (ne_of_none e hD)]
        exact z5 _ _ e
      · rw [upd_same, List.replicate_succ', List.map_append]
        rfl
    · rintro J4 ⟨z5, hD5, _⟩
      refine ⟨D0, List.replicate vs.length false, rfl, SqL.of hD5, _, rfl, ?_⟩
      rw [anyF]
      exact q _ (sD.trans z5)
end
end Lb
/-! The law's own defs: first-k and steep tables. -/
namespace Lb
open PySem PySem.Spec PyProof.Rows L2 Ow Pt Rm Ra La Tb
theorem ones_at : ∀ k < 6, 1 ≤ k → ∀ j < 5, (pad (onesF k))[j]? = some (if decide ((0 : Int) + (j : Nat) < (k : Nat)) = true then 1 else 0, 1) := by decide +kernel
theorem ones_st : ∀ k < 6, 1 ≤ k → ∀ j < 5, (stepsOf (pad (onesF k)))[j]? = some (if decide ((0 : Int) + (j : Nat) = (k : Int) - 1) = true then 1 else 0, 1) := by decide +kernel
theorem ones_bd : ∀ k < 6, 1 ≤ k → ∀ p ∈ pad (onesF k), p.1.natAbs ≤ 1 ∧ p.2.natAbs ≤ 1 := by decide +kernel
theorem ones_steep : ∀ n < 5, pad (stpF 1 n) = pad (onesF (n + 1)) := by decide +kernel
theorem prs_of {H : Hp} {D : Addr} {acc : List V} {ps : List Fr2} (hD : H D = some (.lst acc)) (hl : acc.length = ps.length) (he : ∀ (j : Nat) v, acc[j]? = some v → ∃ q p, v = V.ref q ∧ ps[j]? = some p ∧ PairAt H q p) : Prs H D ps := by
  obtain ⟨qs, rfl, hq, _⟩ := els V.ref (fun _ => True) acc fun j v hv => by
    obtain ⟨q, p, e, _⟩ := he j v hv
    exact ⟨q, e, trivial⟩
  refine ⟨qs, hD, hq.trans hl, fun i q p e1 e2 => ?_⟩
  obtain ⟨q', p', e, ep, k⟩ := he i (.ref q) (by rw [List.getElem?_map, e1]; rfl)
  cases e
  rw [ep] at e2
  cases e2
  exact k
theorem stp_all {s : Int} (h : Bd 97 s) {n : Nat} (h4 : n ≤ 4) : Bds 400 (pad (stpF s n)) := by
  intro p hp
  unfold pad stpF at hp
  rcases List.mem_append.mp hp with c | c
  · obtain ⟨x, hx, rfl⟩ := List.mem_map.mp c
    exact ⟨(stp_bd (k := 97) (by decide) h n x hx).mono (by omega), bd_one (by decide)⟩
  · rw [List.eq_of_mem_replicate c]
    exact ⟨bd_zero, bd_one (by decide)⟩
theorem bd97 {m r : Int} (h0 : 0 ≤ r) (h1 : r < m) (hm : m ≤ 10 ^ 29) : Bd 97 (1 + r) := by
  unfold Bd
  have a : (10 : Int) ^ 29 = 100000000000000000000000000000 := by decide
  have b : (2 : Nat) ^ 97 = 158456325028528675187087900672 := by decide
  omega
section
variable {P : Program} {w : World} {K : PySem.W.Frag} {mg : Str → Option Value} {base : Heap}
def spFx (C D : Addr) : Sp := fun vs H Q _ => ∃ p : Addr, vs = [.ref p] ∧ Pot H p ∧ ∀ H', Stp p H H' → Q (.bl true) H'
abbrev n__law_fixed_right : List Str := ["_law_pot_here", "_law_many", "_law_size", "_law_place", "_law_ones", "_law_steps_here", "_law_made", "_law_points_here", "_law_a", "_law_b"]
theorem sc__law_fixed_right : FnScope n__law_fixed_right ["_law_pot_here"] (defScope d__law_fixed_right) := ⟨rfl, rfl, rfl, by decide +kernel, rfl, by decide +kernel, by decide +kernel⟩
theorem ok_fixed {f C D : Addr} {fd : FuncData} {gV : List V → List V → List V} (F : FnP K "_law_fixed_right" "_law_fixed_right" d__law_fixed_right [] f fd) (B : Blt mg) (T : RT K mg C) (U : TC K mg D) (Z : TK K D) (W_ : WT K C D) (E_ : TEq P w K mg base C D) (dD : DDraw P w K mg base) (dP : DPick P w K mg base)
    (dI : DfnG P w K mg base 8 "_law_is" ["_law_made", "_law_points_here", "_law_steps_here"] (spIs C D)) (dM : Dfn P w K mg base 3 "_law_minus" ["_law_a", "_law_b"] (spP2 minus))
    (cF : CMS P w K mg base 11 D "first_places" (spFP C D)) (cFK : CMK P w K mg base 11 D "first_places" ["cls", "k"] ["k"] (fun vs zs => vs ++ zs) (spFP C D)) (cS : CMS P w K mg base 11 D "steep" (spSt C D)) (cSK : CMK P w K mg base 11 D "steep" ["cls", "s", "k"] ["k", "s"] gV (spSt C D)) (hgV : ∀ a b c, gV [a] [b, c] = [a, c, b]) :
    FnG P w K mg base CX0 12 f fd ["_law_pot_here"] (spFx C D) := by
  obtain ⟨fe, fed, oE, FE, bE⟩ := E_.ex
  refine fnG_ok (k := 11) F sc__law_fixed_right (fun vs H Q E h => ?_) (fun cdv A outer s H vs Q E hr hg h => ?_)
  · obtain ⟨p, rfl, _⟩ := h
    rfl
  · obtain ⟨p, rfl, hp, q⟩ := h
    have hr1 := hr.mono (by decide : 1 ≤ 11)
    have hr2 := hr.mono (by decide : 2 ≤ 11)
    have hr3 := hr.mono (by decide : 3 ≤ 11)
    have hr8 := hr.mono (by decide : 8 ≤ 11)
    refine ⟨_, PSs.nox (pss_cons (ps_asg (pe_tup (pa_cons (pe_op op_add pe_int (pe_use dD hr1 rfl (pa_cons (pv 0) (pa_cons pe_int pa_nil)))) (pa_cons (pe_op op_add pe_int (pe_use dD hr1 rfl (pa_cons (pv 0) (pa_cons (pe_use dP hr2 rfl (pa_cons (pv 0) (pa_cons (pe_lst (pa_cons pe_int (pa_cons pe_int (pa_cons pe_int (pa_cons pe_int (pa_cons (pe_op op_pow pe_int pe_int) pa_nil)))))) pa_nil))) pa_nil)))) pa_nil))) (pg_tup (by rfl) (pgs_cons (pg_name (i := 1) sc__law_fixed_right.nd rfl (.inr rfl)) (pgs_cons (pg_name (i := 2) sc__law_fixed_right.nd rfl (.inl rfl)) pgs_nil))))
      (pss_cons (ps_setLc (i := 4) rfl sc__law_fixed_right.nd rfl rfl (by rfl) (pi_range1 rfl B.range (pa_cons pe_int pa_nil)) (blkOk_by (own := [("_law_place", 3)]) (by show blkC n__law_fixed_right (defScope d__law_fixed_right) _ _ = true; decide +kernel)) (fun _ _ _ _ _ => pg_name (i := 3) sc__law_fixed_right.nd rfl (.inl rfl)) (fun _ _ _ _ _ => pts_nil) (fun _ _ _ _ _ => (pe_tup (pa_cons (pe_callTy call_int1 (by rfl) B.int (by decide +kernel) (pa_cons (pe_cmpR op_lt (pv 3) (pv 1) (nomark _)) pa_nil)) (pa_cons pe_int pa_nil)))))
      (pss_cons (ps_setLc (i := 5) rfl sc__law_fixed_right.nd rfl rfl (by rfl) (pi_range1 rfl B.range (pa_cons pe_int pa_nil)) (blkOk_by (own := [("_law_place", 3)]) (by show blkC n__law_fixed_right (defScope d__law_fixed_right) _ _ = true; decide +kernel)) (fun _ _ _ _ _ => pg_name (i := 3) sc__law_fixed_right.nd rfl (.inl rfl)) (fun _ _ _ _ _ => pts_nil) (fun _ _ _ _ _ => (pe_tup (pa_cons (pe_callTy call_int1 (by rfl) B.int (by decide +kernel) (pa_cons (pe_cmpR op_eq (pv 3) (pe_op op_sub (pv 1) pe_int) (nomark _)) pa_nil)) (pa_cons pe_int pa_nil)))))
      (pss_cons (ps_set (i := 6) sc__law_fixed_right.nd rfl (Or.inl rfl) (pe_cmR cF hr (pe_glob (v := .ref D) rfl U.mgT rfl) (pa_cons (pv 1) pa_nil)))
      (pss_cons (ps_if (PW.pt (pw_or (pt_not (pt_val (pe_useG dI hr8 hg rfl (pa_cons (pv 6) (pa_cons (pv 4) (pa_cons (pv 5) pa_nil)))))) (pw_or1 (pt_not (pt_cmpR (op_eqI oE FE hr3 bE pass0) (pe_cmK cFK hr (pe_glob (v := .ref D) rfl U.mgT rfl) (pk_cons (pv 1) pk_nil)) (pv 6) (nomark _)))))) (pss_one (ps_ret pe_bl)) pss_nil)
      (pss_cons (ps_set (i := 7) sc__law_fixed_right.nd rfl (Or.inl rfl) (pe_lst (pa_cons (pe_tup (pa_cons pe_int (pa_cons pe_int pa_nil))) pa_nil)))
      (pss_cons (ps_for PassesOwn.never rfl (pi_range1 rfl B.range (pa_cons (pe_op op_sub (pv 1) pe_int) pa_nil)) (pg_name (i := 3) sc__law_fixed_right.nd rfl (.inl rfl))
      (pss_one (ps_set (i := 7) sc__law_fixed_right.nd rfl (Or.inl rfl) (pe_op op_cat (pe_lst (pa_cons (pe_tup (pa_cons (pe_op op_mulW (pe_ix ix_tup (pe_ix ix_list (pv 7) pe_int (fun _ _ => rfl)) pe_int (fun _ _ => rfl)) (pv 2)) (pa_cons pe_int pa_nil))) pa_nil)) (pv 7)))))
      (pss_cons (ps_set (i := 7) sc__law_fixed_right.nd rfl (Or.inl rfl) (pe_op op_cat (pv 7) (pe_op op_rep (pe_lst (pa_cons (pe_tup (pa_cons pe_int (pa_cons pe_int pa_nil))) pa_nil)) (pe_op op_sub pe_int (pv 1)))))
      (pss_cons (ps_setLc (i := 5) (g := (gTup K 2 (gCons (gName 8) (gCons (gName 9) gNil)))) rfl sc__law_fixed_right.nd rfl rfl (by rfl) (pi_zip rfl B.zip (pa_cons (pv 7) (pa_cons (pe_op op_cat (pe_slice sl_list (pv 7) (po_some pe_int) po_none) (pe_lst (pa_cons (pe_tup (pa_cons pe_int (pa_cons pe_int pa_nil))) pa_nil))) pa_nil))) (blkOk_by (own := [("_law_a", 8), ("_law_b", 9)]) (by show blkC n__law_fixed_right (defScope d__law_fixed_right) _ _ = true; decide +kernel)) (fun _ _ _ _ _ => pg_tup (by rfl) (pgs_cons (pg_name (i := 8) sc__law_fixed_right.nd rfl (.inl rfl)) (pgs_cons (pg_name (i := 9) sc__law_fixed_right.nd rfl (.inl rfl)) pgs_nil))) (fun _ _ _ _ _ => pts_nil) (fun _ _ _ _ _ => (pe_use dM hr3 rfl (pa_cons (pv 8) (pa_cons (pv 9) pa_nil)))))
      (pss_cons (ps_if (pt_not (pt_val (pe_useG dI hr8 hg rfl (pa_cons (pe_cmR cS hr (pe_glob (v := .ref D) rfl U.mgT rfl) (pa_cons (pv 2) (pa_cons (pv 1) pa_nil))) (pa_cons (pv 7) (pa_cons (pv 5) pa_nil)))))) (pss_one (ps_ret pe_bl)) pss_nil)
      (pss_one (ps_ret (pe_and (pe_cmpR (op_eqI oE FE hr3 bE pass0) (pe_cmK cSK hr (pe_glob (v := .ref D) rfl U.mgT rfl) (pk_cons (pv 1) (pk_cons (pv 2) pk_nil))) (pe_cmR cS hr (pe_glob (v := .ref D) rfl U.mgT rfl) (pa_cons (pv 2) (pa_cons (pv 1) pa_nil))) (nomark _)) (pe_one (pe_cmpR (op_eqI oE FE hr3 bE pass0) (pe_cmR cS hr (pe_glob (v := .ref D) rfl U.mgT rfl) (pa_cons pe_int (pa_cons (pv 1) pa_nil))) (pv 6) (nomark _)))))))))))))))), ?_⟩
    refine ⟨_, rfl, p, _, rfl, hp, by decide, bd_small (by decide) (by decide) (by decide), fun r H1 r0 r1 s1 => ⟨_, _, rfl, rfl, ?_⟩⟩
    refine ⟨_, rfl, _, rfl, _, _, rfl, rfl, ⟨by decide, by decide, by decide⟩, (by show 5 ≤ sizeLine; decide), fun l hl => ?_⟩
    have s1a := s1.new (o := .lst [.int 1, .int 2, .int 5, .int 100, .int (10 ^ (29 : Int).toNat)]) hl
    refine ⟨p, l, _, rfl, s1a.pot, La.pot_ne s1.pot hl, upd_same, by decide, by decide, fun j x H2 ex s2 => ?_⟩
    obtain ⟨m, rfl, m0, m1⟩ : ∃ m : Int, x = .int m ∧ 0 < m ∧ m ≤ 10 ^ 29 := by
      rcases j with _ | _ | _ | _ | _ | j
      · cases ex; exact ⟨_, rfl, by decide, by decide⟩
      · cases ex; exact ⟨_, rfl, by decide, by decide⟩
      · cases ex; exact ⟨_, rfl, by decide, by decide⟩
      · cases ex; exact ⟨_, rfl, by decide, by decide⟩
      · cases ex; exact ⟨_, rfl, by decide, by decide⟩
      · exact nomatch ex
    have s12 := s1a.trans s2
    have bm : Bd 97 m := by
      have := bd97 (r := m - 1) (m := m) (by omega) (by omega) m1
      rw [show (1 : Int) + (m - 1) = m by omega] at this
      exact this
    refine ⟨p, m, rfl, s12.pot, m0, bm.mono (by decide), fun z H3 z0 z1 s3 => ⟨_, _, rfl, rfl, (by show 2 ≤ sizeLine; decide), fun t ht => ?_⟩⟩
    have bs := bd97 z0 z1 m1
    obtain ⟨sz, hsz⟩ : ∃ sz : Int, sz = 1 + z := ⟨_, rfl⟩
    obtain ⟨n, hn⟩ : ∃ n : Nat, n = r.toNat := ⟨_, rfl⟩
    have hr' : (1 : Int) + r = ((n : Nat) + 1 : Int) := by omega
    have n4 : n ≤ 4 := by omega
    rw [← hsz] at bs
    have sz1 : 1 ≤ sz := by omega
    have s13 := (s12.trans s3).new (o := .tup [.int (1 + r), .int (1 + z)]) ht
    refine ⟨t, [V.int ((n : Nat) + 1 : Int), V.int sz], rfl, SqT.of (upd_same.trans (by show some (HO.tup [V.int (1 + r), V.int (1 + z)]) = _; rw [hr', hsz])), rfl, _, _, rfl, _, _, rfl, rfl, ?_⟩
    generalize upd H3 t (.tup [.int (1 + r), .int (1 + z)]) = H4 at s13 ⊢
    refine ⟨5, rfl, by decide, by decide, fun D1 hD1 => ?_⟩
    refine lc_el (walk_range (lo := 0) (n := (5 : Int).toNat)) (rel_same hD1) (by decide) (fun j v H' => ∃ q, v = V.ref q ∧ q ≠ D1 ∧ PairAt H' q (if decide ((0 : Int) + (j : Nat) < ((n : Nat) + 1 : Int)) = true then 1 else 0, 1)) ?_ ?_ (fun _ _ => trivial) ?_ ?_
    · rintro j v H5 H6 s ⟨q, e, ne, k⟩
      exact ⟨q, e, ne, k.same s⟩
    · rintro j v H5 l l' hl5 ⟨q, e, ne, k⟩
      exact ⟨q, e, ne, by show upd _ _ _ q = _; rw [upd_ne ne]; exact k⟩
    · rintro i v H5 H6 hi s5 ⟨acc, hacc, _⟩ ⟨rfl, rfl⟩ R k
      refine ⟨rfl, _, rfl, _, rfl, _, _, rfl, rfl, .inr ⟨_, rfl, (by show 2 ≤ sizeLine; decide), fun u hu => ?_⟩⟩
      exact k _ _ (same_upd hu) ⟨u, rfl, (fun e => by rw [e, hacc] at hu; cases hu), upd_same⟩
    intro H5 acc s5 hD5 hlen he
    have P1 : Prs H5 D1 (pad (onesF (n + 1))) := by
      refine prs_of hD5 (hlen.trans ?_) fun j v e => ?_
      · have : (pad (onesF (n + 1))).length = 5 := by
          unfold pad onesF
          rw [List.length_append, List.length_replicate, List.length_replicate]
          omega
        rw [this]; rfl
      · obtain ⟨q, rfl, _, k⟩ := he j v e
        have hj : j < 5 := by
          have := (List.getElem?_eq_some_iff.mp e).1
          rw [hlen] at this
          exact this
        exact ⟨q, _, rfl, ones_at (n + 1) (by omega) (by omega) j hj, by simpa using k⟩
    have s15 := s13.sm s5
    refine ⟨5, rfl, by decide, by decide, fun D2 hD2 => ?_⟩
    refine lc_el (walk_range (lo := 0) (n := (5 : Int).toNat)) (rel_same hD2) (by decide) (fun j v H' => ∃ q, v = V.ref q ∧ q ≠ D2 ∧ PairAt H' q (if decide (V.int ((0 : Int) + (j : Nat)) = V.int (((n : Nat) + 1 : Int) - 1)) = true then 1 else 0, 1)) ?_ ?_ (fun _ _ => trivial) ?_ ?_
    · rintro j v H5 H6 s ⟨q, e, ne, k⟩
      exact ⟨q, e, ne, k.same s⟩
    · rintro j v H5 l l' hl5 ⟨q, e, ne, k⟩
      exact ⟨q, e, ne, by show upd _ _ _ q = _; rw [upd_ne ne]; exact k⟩
    · rintro i v H5 H6 hi s5 ⟨acc, hacc, _⟩ ⟨rfl, rfl⟩ R k
      refine ⟨rfl, _, rfl, _, rfl, _, _, rfl, rfl, rfl, .inr ⟨_, rfl, (by show 2 ≤ sizeLine; decide), fun u hu => ?_⟩⟩
      exact k _ _ (same_upd hu) ⟨u, rfl, (fun e => by rw [e, hacc] at hu; cases hu), upd_same⟩
    intro H6 acc2 s6 hD6 hlen2 he2
    have l5 : (pad (onesF (n + 1))).length = 5 := by
      unfold pad onesF
      rw [List.length_append, List.length_replicate, List.length_replicate]
      omega
    have P2 : Prs H6 D2 (stepsOf (pad (onesF (n + 1)))) := by
      refine prs_of hD6 (hlen2.trans ?_) fun j v e => ?_
      · rw [steps_len, l5]; rfl
      · obtain ⟨q, rfl, _, k⟩ := he2 j v e
        have hj : j < 5 := by
          have := (List.getElem?_eq_some_iff.mp e).1
          rw [hlen2] at this
          exact this
        refine ⟨q, _, rfl, ones_st (n + 1) (by omega) (by omega) j hj, ?_⟩
        have e1 : decide (V.int ((0 : Int) + (j : Nat)) = V.int (((n : Nat) + 1 : Int) - 1)) = decide ((0 : Int) + (j : Nat) = (((n + 1 : Nat) : Int) - 1)) := by
          by_cases c : (0 : Int) + (j : Nat) = (((n + 1 : Nat) : Int) - 1)
          · rw [decide_eq_true c, decide_eq_true (by rw [c]; congr 1)]
          · rw [decide_eq_false c, decide_eq_false (fun z => c (by injection z))]
        rw [e1] at k
        exact k
    have s16 := s15.sm s6
    have eK : V.int ((n : Nat) + 1 : Int) = V.int ((n + 1 : Nat) : Int) := rfl
    refine ⟨rfl, _, rfl, n + 1, rfl, by omega, by omega, fun x H7 tx s7 => ?_⟩
    have b1 : Bds 400 (pad (onesF (n + 1))) := fun p hp => by
      have := ones_bd (n + 1) (by omega) (by omega) p hp
      exact ⟨(bd_one (k := 400) (by decide)).le this.1, (bd_one (k := 400) (by decide)).le this.2⟩
    refine ⟨_, rfl, _, rfl, _, rfl, x, D1, D2, _, rfl, tx, P1.same (s6.trans s7), P2.same s7, b1, fun H8 s8 => ?_⟩
    have tx8 := tx.same s8
    refine ⟨_, rfl, rfl, _, rfl, rfl, n + 1, rfl, by omega, by omega, fun y H9 ty s9 => ?_⟩
    have tx9 := tx8.same s9
    obtain ⟨dy, Ly, rsy, y1, y2, y3⟩ := id ty.at_
    refine ⟨_, rfl, y, dy, _, .ref D, rfl, y1, ty_tab T U Z tx9, W_.fD, y, _, .ref x, rfl, ty, .inl ⟨x, _, rfl, tx9, fun H10 s10 => ⟨_, rfl, ?_⟩⟩⟩
    rw [dec_self]
    refine iteF ?_
    have s20 : Stp p H H10 := (((s16.sm s7).sm s8).sm s9).sm s10
    have txA : TabAt C D H10 x (pad (onesF (n + 1))) := tx9.same s10
    refine ⟨(by show 2 ≤ sizeLine; decide), fun a ha => ⟨(by show 1 ≤ sizeLine; decide), fun b hb => ?_⟩⟩
    have sAB := (same_upd (o := .tup [V.int 1, V.int 1]) ha).trans (same_upd (o := .lst [V.ref a]) hb)
    have P3 : Prs (upd (upd H10 a (.tup [V.int 1, V.int 1])) b (.lst [V.ref a])) b (stpF sz 0) := ⟨[a], upd_same, Par.one (same_upd hb _ _ upd_same)⟩
    have s21 := s20.sm sAB
    have txB := txA.same sAB
    generalize upd (upd H10 a (.tup [V.int 1, V.int 1])) b (.lst [V.ref a]) = H11 at P3 s21 txB ⊢
    have e1 : (((n : Nat) + 1 : Int) - 1).toNat = n := by omega
    refine ⟨_, rfl, _, _, rfl, rfl, _, rfl, by omega, by omega, ?_⟩
    rw [e1]
    refine for_it (walk_range (lo := 0) (n := n)) (fun i σ H' => ∃ (v3 : Option V) (m : Addr), σ = [some (.ref p), some (.int ((n : Nat) + 1 : Int)), some (.int sz), v3, some (.ref D1), some (.ref D2), some (.ref x), some (.ref m), none, none] ∧ Prs H' m (stpF sz i) ∧ Same H11 H')
      ⟨_, b, rfl, P3, Same.refl _⟩ (fun _ _ _ _ _ => trivial) ?_ ?_
    · rintro i v σ Ha Hb hi ⟨v3, m, rfl, pm, sm⟩ ⟨rfl, rfl⟩
      obtain ⟨qs, em, hq1, hqs⟩ := pm.len
      have hd : (stpF sz i)[0]? = some (sz ^ i, 1) := by
        unfold stpF
        rw [List.getElem?_map, stp_head]
        rfl
      have l1 : (stpF sz i).length = i + 1 := by
        unfold stpF
        rw [List.length_map, stp_len]
      have q0 : 0 < qs.length := by omega
      have eq0 := List.getElem?_eq_getElem q0
      obtain ⟨p0, hp0, k0⟩ := hqs.getL eq0
      rw [hd] at hp0
      cases hp0
      have bd := stp_bd (k := 97) (by decide) bs i (sz ^ i) (List.mem_of_getElem? (stp_head sz i))
      have hat : atI (qs.map V.ref) 0 = some (V.ref qs[0]) := atI_nat (j := 0) (by rw [List.getElem?_map, eq0]; rfl)
      refine ⟨_, rfl, m, _, _, _, rfl, rfl, SqL.of em, hat, qs[0], _, _, _, rfl, rfl, SqT.of k0, ix2_0 (sz ^ i, 1), _, rfl, _, _, rfl, rfl, cmul (bd.mono (show 1 + 97 * i ≤ 500 by omega)) bs, (by show 2 ≤ sizeLine; decide), fun u hu => ⟨(by show 1 ≤ sizeLine; decide), fun v hv => ?_⟩⟩
      have sv := (same_upd (o := .tup [V.int (sz ^ i * sz), V.int 1]) hu).trans (same_upd (o := .lst [V.ref u]) hv)
      refine ⟨_, rfl, v, m, _, _, rfl, rfl, upd_same, sv _ _ em, ?_, fun w hw => ?_⟩
      · rw [List.length_map, hq1, l1]
        exact Nat.le_trans (show 1 + (i + 1) ≤ 1000 by omega) (by decide)
      have sw := sv.trans (same_upd (o := .lst ([V.ref u] ++ qs.map V.ref)) hw)
      refine ⟨_, w, rfl, ⟨u :: qs, upd_same, Par.cons ?_ (Par.imp hqs fun _ _ z => z.same sw)⟩, sm.trans sw⟩
      have : PairAt (upd Hb u (.tup [V.int (sz ^ i * sz), V.int 1])) u (sz ^ (i + 1), 1) := by
        show upd Hb u _ u = _
        rw [upd_same, Int.pow_succ]
      exact this.same ((same_upd (o := .lst [V.ref u]) hv).trans (same_upd (o := .lst ([V.ref u] ++ qs.map V.ref)) hw))
    rintro σ Ha ⟨v3, m, rfl, pm, sm⟩
    obtain ⟨qs, em, hq1, hqs⟩ := pm.len
    have l1 : (stpF sz n).length = n + 1 := by
      unfold stpF
      rw [List.length_map, stp_len]
    refine ⟨_, rfl, (by show 2 ≤ sizeLine; decide), fun u hu => ⟨(by show 1 ≤ sizeLine; decide), fun v hv => ?_⟩⟩
    refine ⟨_, rfl, _, _, rfl, rfl, v, _, _, rfl, rfl, upd_same, by omega, by omega, ?_, fun w hw => ?_⟩
    · exact Nat.le_trans (show 1 * ((5 : Int) - ((n : Nat) + 1 : Int)).toNat ≤ 1000 by omega) (by decide)
    have su := same_upd (o := .tup [V.int 0, V.int 1]) hu
    have sv' := same_upd (o := .lst [V.ref u]) hv
    have sw' := same_upd (o := .lst (List.replicate ((5 : Int) - ((n : Nat) + 1 : Int)).toNat [V.ref u]).flatten) hw
    have suw := (su.trans sv').trans sw'
    refine ⟨m, w, _, _, rfl, rfl, suw _ _ em, upd_same, ?_, fun g hg0 => ?_⟩
    · rw [List.flatten_replicate_singleton, List.length_map, List.length_replicate, hq1, l1]
      exact Nat.le_trans (show n + 1 + ((5 : Int) - ((n : Nat) + 1 : Int)).toNat ≤ 1000 by omega) (by decide)
    have sg := same_upd (o := .lst (qs.map V.ref ++ (List.replicate ((5 : Int) - ((n : Nat) + 1 : Int)).toNat [V.ref u]).flatten)) hg0
    have eG : upd (upd (upd (upd Ha u (.tup [V.int 0, V.int 1])) v (.lst [V.ref u])) w (.lst (List.replicate ((5 : Int) - ((n : Nat) + 1 : Int)).toNat [V.ref u]).flatten)) g (.lst (qs.map V.ref ++ (List.replicate ((5 : Int) - ((n : Nat) + 1 : Int)).toNat [V.ref u]).flatten)) g = some (.lst ((qs ++ List.replicate (4 - n) u).map V.ref)) := by
      rw [upd_same, List.flatten_replicate_singleton, List.map_append, List.map_replicate, show ((5 : Int) - ((n : Nat) + 1 : Int)).toNat = 4 - n by omega]
    have pu : PairAt (upd Ha u (.tup [V.int 0, V.int 1])) u z01 := upd_same
    have PG : Par (fun q p => PairAt (upd (upd (upd (upd Ha u (.tup [V.int 0, V.int 1])) v (.lst [V.ref u])) w (.lst (List.replicate ((5 : Int) - ((n : Nat) + 1 : Int)).toNat [V.ref u]).flatten)) g (.lst (qs.map V.ref ++ (List.replicate ((5 : Int) - ((n : Nat) + 1 : Int)).toNat [V.ref u]).flatten))) q p) (qs ++ List.replicate (4 - n) u) (pad (stpF sz n)) := by
      have eP : pad (stpF sz n) = stpF sz n ++ List.replicate (4 - n) z01 := by
        unfold pad
        rw [l1, show 5 - (n + 1) = 4 - n by omega]
      rw [eP]
      refine Par.app (Par.imp hqs fun _ _ z => (z.same suw).same sg) ⟨by rw [List.length_replicate, List.length_replicate], fun i q p e1 e2 => ?_⟩
      cases List.eq_of_mem_replicate (List.mem_of_getElem? e1)
      cases List.eq_of_mem_replicate (List.mem_of_getElem? e2)
      exact ((pu.same sv').same sw').same sg
    have s30 : Same H11 _ := sm.trans (suw.trans sg)
    generalize upd (upd (upd (upd Ha u (.tup [V.int 0, V.int 1])) v (.lst [V.ref u])) w (.lst (List.replicate ((5 : Int) - ((n : Nat) + 1 : Int)).toNat [V.ref u]).flatten)) g (.lst (qs.map V.ref ++ (List.replicate ((5 : Int) - ((n : Nat) + 1 : Int)).toNat [V.ref u]).flatten)) = Hc at s30 eG PG ⊢
    obtain ⟨zs, hzs⟩ : ∃ zs, zs = qs ++ List.replicate (4 - n) u := ⟨_, rfl⟩
    rw [← hzs] at eG PG
    obtain ⟨ps, hps⟩ : ∃ ps, ps = pad (stpF sz n) := ⟨_, rfl⟩
    have bd : Bds 400 ps := hps ▸ stp_all bs n4
    have L5 : ps.length = 5 := by
      rw [hps]
      unfold pad
      rw [List.length_append, List.length_replicate, l1]
      omega
    rw [← hps] at PG
    have lz : zs.length = 5 := PG.1.trans L5
    have lw : Lws ps := by
      rw [hps]
      refine pad_lws fun p hp => ?_
      obtain ⟨x, _, rfl⟩ := List.mem_map.mp hp
      exact lw_int x
    refine ⟨_, rfl, _, rfl, _, rfl, g, _, rfl, SqL.of eG, fun h hh => ⟨(by show 2 ≤ sizeLine; decide), fun u2 hu2 => ⟨(by show 1 ≤ sizeLine; decide), fun v2 hv2 => ?_⟩⟩⟩
    have ec : cutV (zs.map V.ref) (some 1) none = (zs.drop 1).map V.ref := by
      rw [List.map_drop]
      exact cut_from (zs.map V.ref) (i := 1) (by rw [List.length_map]; omega)
    rw [ec] at hu2 hv2 ⊢
    have t1 := same_upd (o := .lst ((zs.drop 1).map V.ref)) hh
    have t2 := same_upd (o := .tup [V.int 0, V.int 1]) hu2
    have t3 := same_upd (o := .lst [V.ref u2]) hv2
    have t13 := (t1.trans t2).trans t3
    refine ⟨h, v2, _, _, rfl, rfl, (t2.trans t3) _ _ upd_same, upd_same, ?_, fun k hk => ?_⟩
    · rw [List.length_map, List.length_drop, lz]
      show 5 ≤ sizeLine
      decide
    have t4 := same_upd (o := .lst ((zs.drop 1).map V.ref ++ [V.ref u2])) hk
    have eK2 : upd (upd (upd (upd Hc h (.lst ((zs.drop 1).map V.ref))) u2 (.tup [V.int 0, V.int 1])) v2 (.lst [V.ref u2])) k (.lst ((zs.drop 1).map V.ref ++ [V.ref u2])) k = some (.lst ((zs.drop 1 ++ [u2]).map V.ref)) := by
      rw [upd_same, List.map_append]
      rfl
    have pu2 : PairAt (upd (upd Hc h (.lst ((zs.drop 1).map V.ref))) u2 (.tup [V.int 0, V.int 1])) u2 z01 := upd_same
    have PK : Par (fun q p => PairAt (upd (upd (upd (upd Hc h (.lst ((zs.drop 1).map V.ref))) u2 (.tup [V.int 0, V.int 1])) v2 (.lst [V.ref u2])) k (.lst ((zs.drop 1).map V.ref ++ [V.ref u2]))) q p) (zs.drop 1 ++ [u2]) (ps.drop 1 ++ [z01]) := Par.app (Par.imp (PG.drop 1) fun _ _ z => (z.same t13).same t4) (Par.one ((pu2.same t3).same t4))
    have PZ := Par.imp PG fun q p z => (z.same t13).same t4
    have s31 := s30.trans (t13.trans t4)
    have eG2 := (t13.trans t4) _ _ eG
    generalize upd (upd (upd (upd Hc h (.lst ((zs.drop 1).map V.ref))) u2 (.tup [V.int 0, V.int 1])) v2 (.lst [V.ref u2])) k (.lst ((zs.drop 1).map V.ref ++ [V.ref u2])) = Hd at s31 eG2 eK2 PK PZ ⊢
    refine ⟨g, k, _, _, rfl, SqL.of eG2, SqL.of eK2, fun D3 hD3 => ?_⟩
    refine lc_el (walk_zip (xs := zs.map V.ref) (ys := (zs.drop 1 ++ [u2]).map V.ref) (n := 5) (by rw [List.length_map, List.length_map, List.length_append, List.length_drop, lz]; rfl)) (rel_same hD3) (by decide)
      (fun j v H' => ∃ q pr, v = V.ref q ∧ q ≠ D3 ∧ (stepsOf ps)[j]? = some pr ∧ PairAt H' q pr) ?_ ?_ (fun H' s => ⟨SqL.of (s _ _ eG2), SqL.of (s _ _ eK2)⟩) ?_ ?_
    · rintro j v H5 H6 s ⟨q, pr, e, ne, ep, k⟩
      exact ⟨q, pr, e, ne, ep, k.same s⟩
    · rintro j v H5 l l' hl5 ⟨q, pr, e, ne, ep, k⟩
      exact ⟨q, pr, e, ne, ep, by show upd _ _ _ q = _; rw [upd_ne ne]; exact k⟩
    · rintro i v H5 H6 hi s5 ⟨acc, hacc, _⟩ ⟨Tp, u1, u2', rfl, hTp, rfl, hu1, hu2'⟩ R kk
      have hi5 : i < zs.length := by omega
      have hi6 : i < (zs.drop 1 ++ [u2]).length := by rw [PK.1, List.length_append, List.length_drop, L5]; exact hi
      have ez := List.getElem?_eq_getElem hi5
      have ek := List.getElem?_eq_getElem hi6
      replace hu1 : (zs.map V.ref)[i]? = some u1 := hu1
      replace hu2' : ((zs.drop 1 ++ [u2]).map V.ref)[i]? = some u2' := hu2'
      rw [List.getElem?_map, ez] at hu1
      rw [List.getElem?_map, ek] at hu2'
      cases hu1
      cases hu2'
      obtain ⟨p1, hp1, n1⟩ := PZ.getL ez
      obtain ⟨p2, hp2, n2⟩ := PK.getL ek
      have hip := (List.getElem?_eq_some_iff.mp hp1).1
      rw [next_get ps hip] at hp2
      cases hp2
      have s6 := s5.trans (same_upd (o := .tup [V.ref zs[i], V.ref (zs.drop 1 ++ [u2])[i]]) hTp)
      have b1 := bd.get hp1
      have b2 : Bd 400 (ps[i + 1]?.getD z01).1 ∧ Bd 400 (ps[i + 1]?.getD z01).2 ∧ Lw (ps[i + 1]?.getD z01).1 (ps[i + 1]?.getD z01).2 := by
        cases c : ps[i + 1]? with
        | none => exact ⟨bd_zero, bd_one (by decide), lw_z⟩
        | some r => exact ⟨(bd.get c).1, (bd.get c).2, lw.get c⟩
      refine ⟨Tp, _, rfl, SqT.of upd_same, rfl, _, _, rfl, _, _, rfl, rfl, rfl, ?_⟩
      refine ⟨_, rfl, _, rfl, zs[i], (zs.drop 1 ++ [u2])[i], p1, _, rfl, ⟨n1.same s6, lw.get hp1, b1.1.mono (by decide), b1.2.mono (by decide)⟩, ⟨n2.same s6, b2.2.2, b2.1.mono (by decide), b2.2.1.mono (by decide)⟩, fun r H7 hr7 s7 hn7 => ?_⟩
      refine kk _ H7 (fun b o e => s7 _ _ ((same_upd (o := .tup [V.ref zs[i], V.ref (zs.drop 1 ++ [u2])[i]]) hTp) _ _ e)) ⟨r, _, rfl, fun zz => ?_, steps_get hp1, hr7⟩
      have ha7 := (same_upd (o := .tup [V.ref zs[i], V.ref (zs.drop 1 ++ [u2])[i]]) hTp) _ _ hacc
      rw [← zz, hn7] at ha7
      cases ha7
    intro He acc3 sE hDe hlen3 he3
    have P5 : Prs He D3 (stepsOf ps) := prs_of hDe (by rw [hlen3, steps_len, L5]) fun j v e => by
      obtain ⟨q, pr, e1, _, ep, k⟩ := he3 j v e
      exact ⟨q, pr, e1, ep, k⟩
    have P4 : Prs Hd g ps := ⟨zs, eG2, PZ⟩
    have s32 := s31.trans sE
    have bs100 : Bd 100 sz := bs.mono (by decide)
    refine ⟨rfl, _, rfl, _, rfl, sz, n, rfl, sz1, bs100, n4, fun y2 Hf ty2 sF => ?_⟩
    rw [← hps] at ty2
    refine ⟨_, rfl, _, rfl, y2, g, D3, ps, rfl, ty2, P4.same (sE.trans sF), P5.same sF, bd, fun Hg sG => ⟨_, rfl, ?_⟩⟩
    refine iteF ?_
    have s33 := (s32.trans sF).trans sG
    refine ⟨rfl, _, rfl, _, rfl, rfl, sz, n, by rw [hgV], sz1, bs100, n4, fun y3 Hh ty3 sH => ?_⟩
    refine ⟨rfl, _, rfl, _, rfl, sz, n, rfl, sz1, bs100, n4, fun y4 Hi ty4 sI => ?_⟩
    rw [← hps] at ty3 ty4
    have ty3' := ty3.same sI
    obtain ⟨d3, L3, r3, x31, x32, x33⟩ := id ty3'.at_
    refine ⟨y3, d3, _, .ref D, rfl, x31, ty_tab T U Z ty4, W_.fD, y3, ps, .ref y4, rfl, ty3', .inl ⟨y4, ps, rfl, ty4, fun Hj sJ => ?_⟩⟩
    rw [dec_self]
    refine ⟨true, rfl, iteT ?_⟩
    have s34 := ((s33.trans sH).trans sI).trans sJ
    refine ⟨rfl, _, rfl, 1, n, rfl, by decide, bd_one (by decide), n4, fun y5 Hk ty5 sK => ?_⟩
    rw [ones_steep n (by omega)] at ty5
    have tx5 := txB.same (s34.trans sK)
    obtain ⟨d5, L5', r5, x51, x52, x53⟩ := id ty5.at_
    refine ⟨_, rfl, y5, d5, _, .ref D, rfl, x51, ty_tab T U Z tx5, W_.fD, y5, _, .ref x, rfl, ty5, .inl ⟨x, _, rfl, tx5, fun Hl sL => ?_⟩⟩
    rw [dec_self]
    exact q _ (s21.sm ((s34.trans sK).trans sL))
end
end Lb
/-! The law's own defs: one pot, the law. -/
namespace Lb
open PySem PySem.Spec PyProof.Rows L2 Ow Pt Rm Ra La Tb
section
variable {P : Program} {w : World} {K : PySem.W.Frag} {mg : Str → Option Value} {base : Heap}
def spRi (_ : PySem.W.Frag) : Sp := fun vs H Q _ => ∃ p : Addr, vs = [.ref p] ∧ Pot H p ∧ ∀ H', Stp p H H' → Q (.bl true) H'
abbrev n__law_right : List Str := ["_law_pot_here", "_law_beside", "_law_turn", "_law_steps_here", "_law_points_here", "_law_made", "_law_others"]
theorem sc__law_right : FnScope n__law_right ["_law_pot_here"] (defScope d__law_right) := ⟨rfl, rfl, rfl, by decide +kernel, rfl, by decide +kernel, by decide +kernel⟩
theorem ok_right {f C D : Addr} {fd : FuncData} (F : FnP K "_law_right" "_law_right" d__law_right [] f fd) (B : Blt mg) (T : RT K mg C) (U : TC K mg D) (N : TMk P w K mg base C D)
    (dSt : Dfn P w K mg base 4 "_law_steps" ["_law_pot_here"] (Lb.spSteps K)) (dPt : Dfn P w K mg base 4 "_law_points" ["_law_steps_here"] spPoints) (dB : Dfn P w K mg base 13 "_law_both" ["_law_pot_here", "_law_points_here", "_law_steps_here"] (spBoth C D))
    (dI : DfnG P w K mg base 8 "_law_is" ["_law_made", "_law_points_here", "_law_steps_here"] (spIs C D)) (dE : DfnG P w K mg base 8 "_law_equal_right" ["_law_pot_here", "_law_made", "_law_points_here", "_law_others", "_law_beside"] (spEqR C D)) (dF : DfnG P w K mg base 12 "_law_fixed_right" ["_law_pot_here"] (spFx C D)) :
    FnG P w K mg base CX0 14 f fd ["_law_pot_here"] (spRi K) := by
  obtain ⟨ft, mk, Ft⟩ := N.ex
  refine fnG_ok (k := 13) F sc__law_right (fun vs H Q E h => ?_) (fun cdv A outer s H vs Q E hr hg h => ?_)
  · obtain ⟨p, rfl, _⟩ := h
    rfl
  · obtain ⟨p, rfl, hp, q⟩ := h
    have hr4 := hr.mono (by decide : 4 ≤ 13)
    have hr8 := hr.mono (by decide : 8 ≤ 13)
    have hr10 := hr.mono (by decide : 10 ≤ 13)
    have hr12 := hr.mono (by decide : 12 ≤ 13)
    refine ⟨_, PSs.nox (pss_cons (ps_set (i := 1) sc__law_right.nd rfl (Or.inl rfl) (pe_lst (pa_cons (StX.pe_makeR mk Ft hr10 rfl U.mgT pass0 (pa_cons pe_int pa_nil)) (pa_cons (pe_op op_cat (pe_lst (pa_cons (pe_tup (pa_cons pe_int (pa_cons pe_int pa_nil))) pa_nil)) (pe_op op_rep (pe_lst (pa_cons (pe_tup (pa_cons pe_int (pa_cons pe_int pa_nil))) pa_nil)) pe_int)) pa_nil))))
      (pss_cons (ps_for PassesOwn.never rfl (pi_range1 rfl B.range (pa_cons pe_int pa_nil)) (pg_name (i := 2) sc__law_right.nd rfl (.inl rfl))
      (pss_cons (ps_set (i := 3) sc__law_right.nd rfl (Or.inl rfl) (pe_use dSt hr4 rfl (pa_cons (pv 0) pa_nil)))
      (pss_cons (ps_set (i := 4) sc__law_right.nd rfl (Or.inl rfl) (pe_use dPt hr4 rfl (pa_cons (pv 3) pa_nil)))
      (pss_cons (ps_asg (pe_use dB hr rfl (pa_cons (pv 0) (pa_cons (pv 4) (pa_cons (pv 3) pa_nil)))) (pg_unl (by rfl) (pgs_cons (pg_name (i := 5) sc__law_right.nd rfl (.inl rfl)) (pgs_cons (pg_name (i := 6) sc__law_right.nd rfl (.inl rfl)) pgs_nil))))
      (pss_cons (ps_if (PW.pt (pw_or (pt_not (pt_val (pe_useG dI hr8 hg rfl (pa_cons (pv 5) (pa_cons (pv 4) (pa_cons (pv 3) pa_nil)))))) (pw_or1 (pt_not (pt_val (pe_useG dI hr8 hg rfl (pa_cons (pv 6) (pa_cons (pv 4) (pa_cons (pv 3) pa_nil))))))))) (pss_one (ps_ret pe_bl)) pss_nil)
      (pss_cons (ps_if (PW.pt (pw_or (pt_not (pt_val (pe_useG dE hr8 hg rfl (pa_cons (pv 0) (pa_cons (pv 5) (pa_cons (pv 4) (pa_cons (pv 6) (pa_cons (pv 1) pa_nil)))))))) (pw_or1 (pt_not (pt_val (pe_useG dF hr12 hg rfl (pa_cons (pv 0) pa_nil))))))) (pss_one (ps_ret pe_bl)) pss_nil)
      (pss_one (ps_set (i := 1) sc__law_right.nd rfl (Or.inl rfl) (pe_lst (pa_cons (pv 5) (pa_cons (pv 4) pa_nil)))))))))))
      (pss_one (ps_ret pe_bl)))), ?_⟩
    have nm : Nms C H [V.int 1] [(1, 1)] := nms_ints (ns := [1]) fun n hn => by
      rw [List.mem_singleton.mp hn]
      exact bd_one (by decide)
    refine tab_new nm (ones_desc (k := 1) (by decide) (by decide)) fun x H1 tx s1 _ => ?_
    refine ⟨(by show 2 ≤ sizeLine; decide), fun a ha => ⟨(by show 1 ≤ sizeLine; decide), fun b hb => ⟨(by show 2 ≤ sizeLine; decide), fun c hc => ⟨(by show 1 ≤ sizeLine; decide), fun d hd => ?_⟩⟩⟩⟩
    refine ⟨d, 4, _, rfl, rfl, upd_same, by decide, by decide, (by show 1 * 4 ≤ sizeLine; decide), fun e he => ?_⟩
    have z1 := same_upd (o := .tup [V.int 1, V.int 1]) ha
    have z2 := same_upd (o := .lst [V.ref a]) hb
    have z3 := same_upd (o := .tup [V.int 0, V.int 1]) hc
    have z4 := same_upd (o := .lst [V.ref c]) hd
    have z5 := same_upd (o := .lst (List.replicate (4 : Int).toNat [V.ref c]).flatten) he
    refine ⟨b, e, _, _, rfl, rfl, ((z3.trans z4).trans z5) _ _ upd_same, upd_same, (by show 5 ≤ sizeLine; decide), fun g hg => ?_⟩
    have z6 := same_upd (o := .lst ([V.ref a] ++ (List.replicate (4 : Int).toNat [V.ref c]).flatten)) hg
    refine ⟨(by show 2 ≤ sizeLine; decide), fun bs hbs => ?_⟩
    have z7 := same_upd (o := .lst [V.ref x, V.ref g]) hbs
    have z17 := ((((z2.trans z3).trans z4).trans z5).trans z6).trans z7
    have z37 := ((z4.trans z5).trans z6).trans z7
    have s17 := s1.trans (z1.trans z17)
    have ty := tx.same (z1.trans z17)
    have pa : PairAt (upd H1 a (.tup [V.int 1, V.int 1])) a (1, 1) := upd_same
    have pc : PairAt (upd (upd (upd H1 a (.tup [V.int 1, V.int 1])) b (.lst [V.ref a])) c (.tup [V.int 0, V.int 1])) c z01 := upd_same
    have pa' := pa.same z17
    have pc' := pc.same z37
    have PB : Prs _ g (pad [(1, 1)]) := ⟨[a, c, c, c, c], z7 _ _ upd_same, Par.cons pa' (Par.cons pc' (Par.cons pc' (Par.cons pc' (Par.one pc'))))⟩
    have eB : (upd (upd (upd (upd (upd (upd (upd H1 a (.tup [V.int 1, V.int 1])) b (.lst [V.ref a])) c (.tup [V.int 0, V.int 1])) d (.lst [V.ref c])) e (.lst (List.replicate (4 : Int).toNat [V.ref c]).flatten)) g (.lst ([V.ref a] ++ (List.replicate (4 : Int).toNat [V.ref c]).flatten))) bs (.lst [V.ref x, V.ref g])) bs = some (.lst [V.ref x, V.ref g]) := upd_same
    generalize (upd (upd (upd (upd (upd (upd (upd H1 a (.tup [V.int 1, V.int 1])) b (.lst [V.ref a])) c (.tup [V.int 0, V.int 1])) d (.lst [V.ref c])) e (.lst (List.replicate (4 : Int).toNat [V.ref c]).flatten)) g (.lst ([V.ref a] ++ (List.replicate (4 : Int).toNat [V.ref c]).flatten))) bs (.lst [V.ref x, V.ref g])) = H2 at s17 ty PB eB ⊢
    have t2 : Stp p H H2 := Stp.of s17 hp
    refine ⟨4, rfl, by decide, by decide, ?_⟩
    refine for_it (walk_range (lo := 0) (n := (4 : Int).toNat)) (fun i σ H' => ∃ (v2 v3 v4 v5 v6 : Option V) (bs x g : Addr) (qs : List Fr2), σ = [some (.ref p), some (.ref bs), v2, v3, v4, v5, v6] ∧ Stp p H H' ∧ H' bs = some (.lst [V.ref x, V.ref g]) ∧ TabAt C D H' x qs ∧ Prs H' g qs)
      ⟨_, _, _, _, _, bs, x, g, _, rfl, t2, eB, ty, PB⟩ (fun _ _ _ _ _ => trivial) ?_ ?_
    · rintro i v σ Ha Hb hi ⟨v2, v3, v4, v5, v6, bs, x, g, qs, rfl, st, eb, tb, pb⟩ ⟨rfl, rfl⟩
      refine ⟨_, rfl, p, rfl, st.pot, fun ls ss Hc pss sps hex sc hn => ?_⟩
      refine ⟨_, rfl, ls, ss, rfl, pss, sps, fun lp Hd pps sd hn2 => ?_⟩
      have tc := sc.sm sd
      have td := st.trans tc
      refine ⟨_, rfl, _, rfl, _, rfl, p, lp, ls, ss, rfl, td.pot, pps, pss.same sd, sps, hex, fun gb m o He eg tm to se => ?_⟩
      refine ⟨gb, _, rfl, SqL.of eg, rfl, _, _, rfl, _, _, rfl, rfl, ?_⟩
      have te := td.trans se
      have pp := pps.st td.pot se
      have pst := (pss.same sd).st td.pot se
      have bd := pts_bd5 sps
      have estp : stepsOf (ptsR ss) = ss := steps_pts sps.lw
      have pst' : Prs He ls (stepsOf (ptsR ss)) := by rw [estp]; exact pst
      refine ⟨_, rfl, _, rfl, _, rfl, m, lp, ls, _, rfl, tm, pp, pst', bd, fun Hf sf => ⟨_, rfl, ?_⟩⟩
      refine ⟨_, rfl, _, rfl, _, rfl, o, lp, ls, _, rfl, to.same sf, pp.same sf, pst'.same sf, bd, fun Hg sg => ⟨_, rfl, ?_⟩⟩
      refine iteF ?_
      have sfg := sf.trans sg
      have tbe := (tc.trans se).sm sfg
      have ebG := lst_st eb (nt_ref [x, g]) st.pot tbe
      refine ⟨_, rfl, _, rfl, _, rfl, _, rfl, _, rfl, p, m, lp, o, bs, x, g, ptsR ss, qs, rfl, tm.same sfg, pp.same sfg, to.same sfg, bd, ebG, tab_st tb st.pot tbe, pb.st st.pot tbe, fun Hh sh => ⟨_, rfl, ?_⟩⟩
      have tH := (te.sm sfg).sm sh
      refine ⟨_, rfl, p, rfl, tH.pot, fun Hi si => ⟨_, rfl, ?_⟩⟩
      refine iteF ?_
      have tI := tH.trans si
      refine ⟨_, rfl, _, rfl, (by show 2 ≤ sizeLine; decide), fun nb hnb => ?_⟩
      have tJ := si.sm (same_upd (o := .lst [V.ref m, V.ref lp]) hnb)
      have sf3 := sfg.trans sh
      exact ⟨_, _, _, _, _, nb, m, lp, ptsR ss, rfl, tH.trans tJ, upd_same, tab_st (tm.same sf3) tH.pot tJ, (pp.same sf3).st tH.pot tJ⟩
    rintro σ Ha ⟨v2, v3, v4, v5, v6, bs, x, g, qs, rfl, st, _⟩
    exact q _ st
end
end Lb
/-! The law itself. -/
namespace Lb
open PySem PySem.Spec PyProof.Rows L2 Ow Pt Rm Ra La Tb
theorem allT : ∀ n : Nat, (List.replicate n true).all id = true
  | 0 => rfl
  | n + 1 => by rw [List.replicate_succ, List.all_cons, allT n]; rfl
section
variable {P : Program} {w : World} {K : PySem.W.Frag} {mg : Str → Option Value} {base : Heap}
def spLaw (K : PySem.W.Frag) : Sp := fun vs H Q _ => ∃ (a : Addr) (ns : List Int), vs = [.ref a] ∧ ns.length ≤ 63 ∧ SqL K H a (ns.map V.int) ∧ ∀ H', Q (.bl true) H'
abbrev n_law : List Str := ["_law_script", "_law_at"]
theorem sc_law : FnScope n_law ["_law_script"] (defScope d_law) := ⟨rfl, rfl, rfl, by decide +kernel, rfl, by decide +kernel, by decide +kernel⟩
theorem ok_law {f : Addr} {fd : FuncData} (F : FnP K "law" "law" d_law [] f fd) (B : Blt mg) (dPo : Dfn P w K mg base 1 "_law_pot" ["_law_script", "_law_at"] (spPot K)) (dRi : DfnG P w K mg base 14 "_law_right" ["_law_pot_here"] (spRi K)) :
    FnG P w K mg base CX0 15 f fd ["_law_script"] (spLaw K) := by
  refine fnG_ok (k := 14) F sc_law (fun vs H Q E h => ?_) (fun cdv A outer s H vs Q E hr hg h => ?_)
  · obtain ⟨a, ns, rfl, _⟩ := h
    rfl
  · obtain ⟨a, ns, rfl, hn, hs, q⟩ := h
    have hr1 := hr.mono (by decide : 1 ≤ 14)
    refine ⟨_, PSs.nox (pss_one (ps_ret (pe_callB (cr_all rfl) (by rfl) B.all PyProof.Rows.boot_all (pa_cons (pe_lc rfl sc_law.nd (pi_range1 rfl B.range (pa_cons (pe_callB (call_max2 rfl) (by rfl) B.max PyProof.Rows.boot_max (pa_cons pe_int (pa_cons (pe_callB (call_min2 rfl) (by rfl) B.min PyProof.Rows.boot_min (pa_cons (pe_callB (r := rLenS K) call_len_seq (by rfl) B.len PySem.boot_len (pa_cons (pv 0) pa_nil)) (pa_cons pe_int pa_nil))) pa_nil))) pa_nil)) (blkOk_by (own := [("_law_at", 1)]) (by show blkC n_law (defScope d_law) _ _ = true; decide +kernel)) (fun _ _ _ _ _ => pg_name (i := 1) sc_law.nd rfl (.inl rfl)) (fun _ _ _ _ _ => pts_nil) (fun _ _ _ _ _ => (pe_useG dRi hr hg rfl (pa_cons (pe_use dPo hr1 rfl (pa_cons (pv 0) (pa_cons (pv 1) pa_nil))) pa_nil)))) pa_nil)))), ?_⟩
    refine ⟨_, rfl, a, _, rfl, .inl hs, _, _, rfl, _, _, rfl, ?_⟩
    generalize hN : (ns.map V.int).length = n
    have hb : ∀ r : Int, r = (if (if (3 : Int) < (n : Int) then (3 : Int) else (n : Int)) > 1 then (if (3 : Int) < (n : Int) then (3 : Int) else (n : Int)) else 1) → 0 ≤ r ∧ r ≤ 3 := by
      intro r e
      subst e
      split <;> split <;> omega
    obtain ⟨r0, r3⟩ := hb _ rfl
    generalize (if (if (3 : Int) < (n : Int) then (3 : Int) else (n : Int)) > 1 then (if (3 : Int) < (n : Int) then (3 : Int) else (n : Int)) else 1) = r at r0 r3 ⊢
    refine ⟨r, rfl, Int.le_trans (by decide) r0, Int.lt_of_le_of_lt r3 (by decide), fun D0 hD => ?_⟩
    refine lc_range (lo := 0) (n := r.toNat) (fun i H' => Same H H' ∧ H' D0 = some (.lst ((List.replicate i true).map V.bl))) ⟨same_upd hD, upd_same⟩ ?_ ?_
    · rintro i H5 hi ⟨s5, hD5⟩
      refine ⟨rfl, tYes_at ?_⟩
      refine ⟨_, rfl, _, rfl, a, ns, _, rfl, SqL.ext hs s5, by omega, fun p x y hx hp => ?_⟩
      refine ⟨p, rfl, ⟨x, y, upd_same, hx⟩, fun H7 s7 => ?_⟩
      have nDp : D0 ≠ p := ne_of_none hD5 hp
      have hD7 := s7.keep D0 _ nDp (by rw [upd_ne nDp]; exact hD5)
      refine ⟨_, hD7, ?_, fun b o e => ?_, ?_⟩
      · rw [List.length_map, List.length_replicate]
        exact Nat.lt_of_le_of_lt (show i ≤ 1000 by omega) (by decide)
      · have e5 := s5 _ _ e
        have n1 : b ≠ p := ne_of_none e5 hp
        have n2 : b ≠ D0 := ne_of_none e hD
        rw [upd_ne n2]
        exact s7.keep b o n1 (by rw [upd_ne n1]; exact e5)
      · rw [upd_same, List.replicate_succ', List.map_append]
        rfl
    · rintro H' ⟨s5, hD5⟩
      refine ⟨D0, List.replicate r.toNat true, rfl, SqL.of hD5, ?_⟩
      rw [allT]
      exact q _
end
end Lb
/-! Classmethods, operators' defs, at the text's top. -/
namespace Hd
open PySem PySem.Spec PyProof.Rows L2 Ow
/-- where a classmethod's def stands -/
def cmac (cl x : Str) (K : Fr) : Addr := He5.wf K (He.ga K cl) "classmethod" x
def aCM (cl x : Str) : Ask := fun K => He5.wrapB K (He.ga K cl) "classmethod" "classmethod.__get__" x && PySem.W.fnIn K (cmac cl x K)
def aRdc (cl : Str) : Ask := fun K => PySem.W.readsIn K (He.ga K cl) (.type "type")
def aFnI (cl x : Str) : Ask := fun K => PySem.W.fnIn K (pac cl x K)
section
variable {K : Fr}
theorem cm_of {cl x : Str} (c : aCM cl x K = true) : ClX.CMet K (He.ga K cl) (.type "type") x (pac cl x K) (cmac cl x K) := He5.cmet_of (He.ba c).1 (He.ba c).2
theorem rdc_of {cl : Str} (c : aRdc cl K = true) : ClX.CRead K (He.ga K cl) (.type "type") := by
  have c0 : PySem.W.readsIn K (He.ga K cl) (.type "type") = true := c
  refine ⟨c0, ?_⟩
  unfold PySem.W.readsIn at c0
  simp only [Bool.and_eq_true, beq_iff_eq] at c0
  unfold PySem.W.specialIn
  rw [c0.1.1.1.2]
  exact c0.1.1.2
theorem fni_of {cl x : Str} (c : aOp cl x K = true) (d : aFnI cl x K = true) (f : Addr) (o : OpOf K (He.ga K cl) x f) : PySem.W.fnIn K f = true := by
  have a := (op_of c).at_.symm.trans o.at_
  have e : pac cl x K = f := by
    injection a with a
    injection a with a
    injection a
  rw [← e]
  exact d
end
theorem kb_swap {K : PySem.W.Frag} {x qual : Str} {pa : Arguments} {bd : List Stmt} {sc : Scope} {kws : List (Str × V)} {f : Addr} {fd : FuncData} {ps ks : List Str} (F : FunD K x qual pa bd sc [] kws f fd)
    (h : ∀ (kV doc pm : Value) (an : Option Addr) (cdv ct : Value) (us ws : List Value), us.length = 1 → ws.length = ks.length → bindArgs (PySem.W.fnOf x qual pa bd sc .none kV doc pm an cdv ct) ⟨us, ks.zip ws⟩ = pure (ps.zip (mix us [] ws))) :
    KBn K fd ps 1 ks (fun us ws => mix us [] ws) (fun vs zs => mix vs [] zs) := by
  obtain ⟨oc, od, dV, kV, doc, pm, an, cdv, ct, osl, rfl, lk, hcd, hD, hK⟩ := F.ex
  rcases hD with ⟨_, rfl⟩ | ⟨e, _⟩
  · exact ⟨fun s us ws _ l1 l2 => .of_eq (h kV doc pm an cdv ct us ws l1 l2), fun a b => mix_ok a .nil b⟩
  · exact absurd rfl e
end Hd
namespace Hd
open PySem PySem.Spec PyProof.Rows L2 Ow Pt Rm Ra La
def ds : List He5.DefA := ([
  ⟨fun K => He.ga K "is_integer", "is_integer", "is_integer", defArgs sIsInt, defBody sIsInt, defScope sIsInt, [], []⟩,
  ⟨fun K => He.ga K "is_number", "is_number", "is_number", defArgs sNumber, defBody sNumber, defScope sNumber, [], []⟩,
  ⟨fun K => He.ga K "as_ratio", "as_ratio", "as_ratio", defArgs sAsRatio, defBody sAsRatio, defScope sAsRatio, [], []⟩,
  ⟨pac "Ratio" "__init__", "__init__", "Ratio.__init__", defArgs sInit, defBody sInit, defScope sInit, [.int 1], []⟩,
  ⟨getac "Ratio" "top", "top", "Ratio.top", defArgs sTop, defBody sTop, defScope sTop, [], []⟩,
  ⟨getac "Ratio" "bottom", "bottom", "Ratio.bottom", defArgs sBottom, defBody sBottom, defScope sBottom, [], []⟩,
  ⟨getac "Ratio" "sign", "sign", "Ratio.sign", defArgs sSign, defBody sSign, defScope sSign, [], []⟩,
  ⟨cmac "Ratio" "total", "total", "Ratio.total", defArgs sTotal, defBody sTotal, defScope sTotal, [], []⟩,
  ⟨pac "Ratio" "__add__", "__add__", "Ratio.__add__", defArgs sAdd, defBody sAdd, defScope sAdd, [], []⟩,
  ⟨pac "Ratio" "__sub__", "__sub__", "Ratio.__sub__", defArgs sSub, defBody sSub, defScope sSub, [], []⟩,
  ⟨pac "Ratio" "__neg__", "__neg__", "Ratio.__neg__", defArgs sNeg, defBody sNeg, defScope sNeg, [], []⟩,
  ⟨pac "Ratio" "is_below", "is_below", "Ratio.is_below", defArgs sBelow, defBody sBelow, defScope sBelow, [], []⟩,
  ⟨pac "Ratio" "__eq__", "__eq__", "Ratio.__eq__", defArgs sEq, defBody sEq, defScope sEq, [], []⟩,
  ⟨pac "Ratio" "__repr__", "__repr__", "Ratio.__repr__", defArgs sRepr, defBody sRepr, defScope sRepr, [], []⟩,
  ⟨fun K => He.ga K "is_place", "is_place", "is_place", defArgs d_is_place, defBody d_is_place, defScope d_is_place, [], []⟩,
  ⟨fun K => He.ga K "check_many", "check_many", "check_many", defArgs d_check_many, defBody d_check_many, defScope d_check_many, [], []⟩,
  ⟨fun K => He.ga K "check_points", "check_points", "check_points", defArgs d_check_points, defBody d_check_points, defScope d_check_points, [], []⟩,
  ⟨fun K => He.ga K "check_steps", "check_steps", "check_steps", defArgs d_check_steps, defBody d_check_steps, defScope d_check_steps, [], []⟩,
  ⟨pac "Table" "__init__", "__init__", "Table.__init__", defArgs d_Table___init__, defBody d_Table___init__, defScope d_Table___init__, [], []⟩,
  ⟨cmac "Table" "of_steps", "of_steps", "Table.of_steps", defArgs d_Table_of_steps, defBody d_Table_of_steps, defScope d_Table_of_steps, [], []⟩,
  ⟨cmac "Table" "first_places", "first_places", "Table.first_places", defArgs d_Table_first_places, defBody d_Table_first_places, defScope d_Table_first_places, [], []⟩,
  ⟨cmac "Table" "steep", "steep", "Table.steep", defArgs d_Table_steep, defBody d_Table_steep, defScope d_Table_steep, [], []⟩,
  ⟨pac "Table" "points", "points", "Table.points", defArgs d_Table_points, defBody d_Table_points, defScope d_Table_points, [], []⟩,
  ⟨pac "Table" "steps", "steps", "Table.steps", defArgs d_Table_steps, defBody d_Table_steps, defScope d_Table_steps, [], []⟩] : List He5.DefA) ++ ([
  ⟨pac "Table" "__getitem__", "__getitem__", "Table.__getitem__", defArgs d_Table___getitem__, defBody d_Table___getitem__, defScope d_Table___getitem__, [], []⟩,
  ⟨getac "Table" "paid", "paid", "Table.paid", defArgs d_Table_paid, defBody d_Table_paid, defScope d_Table_paid, [], []⟩,
  ⟨pac "Table" "__eq__", "__eq__", "Table.__eq__", defArgs d_Table___eq__, defBody d_Table___eq__, defScope d_Table___eq__, [], []⟩,
  ⟨pac "Table" "__repr__", "__repr__", "Table.__repr__", defArgs d_Table___repr__, defBody d_Table___repr__, defScope d_Table___repr__, [], []⟩,
  ⟨fun K => He.ga K "_law_pot", "_law_pot", "_law_pot", defArgs sPot, defBody sPot, defScope sPot, [], []⟩,
  ⟨fun K => He.ga K "_law_draw", "_law_draw", "_law_draw", defArgs sDraw, defBody sDraw, defScope sDraw, [], []⟩,
  ⟨fun K => He.ga K "_law_pick", "_law_pick", "_law_pick", defArgs sPick, defBody sPick, defScope sPick, [], []⟩,
  ⟨fun K => He.ga K "_law_common", "_law_common", "_law_common", defArgs sCommon, defBody sCommon, defScope sCommon, [], []⟩,
  ⟨fun K => He.ga K "_law_low", "_law_low", "_law_low", defArgs sLow, defBody sLow, defScope sLow, [], []⟩,
  ⟨fun K => He.ga K "_law_plus", "_law_plus", "_law_plus", defArgs sPlus, defBody sPlus, defScope sPlus, [], []⟩,
  ⟨fun K => He.ga K "_law_minus", "_law_minus", "_law_minus", defArgs sMinus, defBody sMinus, defScope sMinus, [], []⟩,
  ⟨fun K => He.ga K "_law_steps", "_law_steps", "_law_steps", defArgs d__law_steps, defBody d__law_steps, defScope d__law_steps, [], []⟩,
  ⟨fun K => He.ga K "_law_points", "_law_points", "_law_points", defArgs d__law_points, defBody d__law_points, defScope d__law_points, [], []⟩,
  ⟨fun K => He.ga K "_law_number", "_law_number", "_law_number", defArgs d__law_number, defBody d__law_number, defScope d__law_number, [], []⟩,
  ⟨fun K => He.ga K "_law_paid", "_law_paid", "_law_paid", defArgs d__law_paid, defBody d__law_paid, defScope d__law_paid, [], []⟩,
  ⟨fun K => He.ga K "_law_shown", "_law_shown", "_law_shown", defArgs d__law_shown, defBody d__law_shown, defScope d__law_shown, [], []⟩,
  ⟨fun K => He.ga K "_law_is", "_law_is", "_law_is", defArgs d__law_is, defBody d__law_is, defScope d__law_is, [], []⟩,
  ⟨fun K => He.ga K "_law_by_points", "_law_by_points", "_law_by_points", defArgs d__law_by_points, defBody d__law_by_points, defScope d__law_by_points, [], []⟩,
  ⟨fun K => He.ga K "_law_by_steps", "_law_by_steps", "_law_by_steps", defArgs d__law_by_steps, defBody d__law_by_steps, defScope d__law_by_steps, [], []⟩,
  ⟨fun K => He.ga K "_law_both", "_law_both", "_law_both", defArgs d__law_both, defBody d__law_both, defScope d__law_both, [], []⟩,
  ⟨fun K => He.ga K "_law_equal_right", "_law_equal_right", "_law_equal_right", defArgs d__law_equal_right, defBody d__law_equal_right, defScope d__law_equal_right, [], []⟩,
  ⟨fun K => He.ga K "_law_fixed_right", "_law_fixed_right", "_law_fixed_right", defArgs d__law_fixed_right, defBody d__law_fixed_right, defScope d__law_fixed_right, [], []⟩,
  ⟨fun K => He.ga K "_law_right", "_law_right", "_law_right", defArgs d__law_right, defBody d__law_right, defScope d__law_right, [], []⟩,
  ⟨fun K => He.ga K "law", "law", "law", defArgs d_law, defBody d_law, defScope d_law, [], []⟩] : List He5.DefA)
def cs : List Ask := ([
  aCls "Ratio",
  aNoat "Ratio" "_top",
  aNoat "Ratio" "_bottom",
  aGlo "Ratio",
  aSelf "Ratio",
  aSub (vb "int") (vc "Ratio") false,
  aSub (vc "Ratio") (vb "int") false,
  aFindB "Ratio" "__class__" "object.__class__",
  aObjG,
  aObjT,
  aMro "Ratio",
  aKit (vc "Ratio") (vc "Ratio") true,
  aKit (vb "int") (vc "Ratio") false,
  aFree "isinstance",
  aFree "int",
  aFree "bool",
  aFree "str",
  aBlt "gcd" "math.gcd",
  aFree "len",
  aFree "abs",
  aFree "max",
  aFree "min",
  aFree "divmod",
  aFree "range"] : List Ask) ++ ([
  aFree "all",
  aFree "zip",
  aFree "repr",
  aFree "list",
  aFree "tuple",
  aFree "any",
  aFree "enumerate",
  aKit (vb "str") (vc "Ratio") false,
  aKit (vc "Ratio") (vb "int") false,
  aKit (vc "Ratio") (vb "bool") false,
  aKit (vc "Ratio") (vb "str") false,
  aCls "Table",
  aNoat "Table" "_points",
  aGlo "Table",
  aInt "PLACES" 5,
  aFindB "Table" "__class__" "object.__class__",
  aMro "Table",
  aKit (vc "Table") (vc "Table") true,
  aKit (vb "list") (vc "Table") false,
  aKit (vb "tuple") (vc "Table") false,
  aKit (vb "NoneType") (vc "Table") false,
  aKit (vb "bool") (vc "Table") false,
  aKit (vb "str") (vc "Table") false,
  aKit (vb "int") (vc "Table") false] : List Ask) ++ ([
  aKit (vc "Ratio") (vc "Table") false,
  aNF "Table" (vb "list"),
  aNF "Table" (vb "tuple"),
  aNF "Table" (vb "NoneType"),
  aNF "Table" (vb "bool"),
  aNF "Table" (vb "str"),
  aNF "Table" (vb "int"),
  aNF "Table" (vc "Ratio"),
  aNF "Table" (vc "Table"),
  aSub (vc "Table") (vb "list") false,
  aSub (vc "Table") (vb "tuple") false,
  aSub (vc "Table") (vb "NoneType") false,
  aSub (vc "Table") (vb "bool") false,
  aSub (vc "Table") (vb "str") false,
  aSub (vc "Table") (vb "int") false,
  aKit (vc "Table") (vc "Ratio") false,
  aNF "Ratio" (vc "Table"),
  aGlo "is_integer",
  aMkr "Ratio",
  aGlo "as_ratio",
  aPrp "Ratio" "top",
  aPrp "Ratio" "bottom",
  aPrp "Ratio" "sign",
  aOp "Ratio" "__add__"] : List Ask) ++ ([
  aOp "Ratio" "__radd__",
  aIntS "__add__",
  aIntS "__radd__",
  aOp "Ratio" "__neg__",
  aOp "Ratio" "__sub__",
  aOp "Ratio" "__rsub__",
  aIntS "__sub__",
  aIntS "__rsub__",
  aOp "Ratio" "__repr__",
  aGlo "is_number",
  aMeth "Ratio" "is_below",
  aOp "Ratio" "__eq__",
  aFindB "Ratio" "__ne__" "object.__ne__",
  aNF "Ratio" (vc "Ratio"),
  aRdc "Ratio",
  aCM "Ratio" "total",
  aGlo "is_place",
  aGlo "check_many",
  aGlo "check_points",
  aGlo "check_steps",
  aMkr "Table",
  aRdc "Table",
  aCM "Table" "of_steps",
  aCM "Table" "first_places"] : List Ask) ++ ([
  aCM "Table" "steep",
  aMeth "Table" "points",
  aMeth "Table" "steps",
  aOp "Table" "__getitem__",
  aFnI "Table" "__getitem__",
  aPrp "Table" "paid",
  aOp "Table" "__eq__",
  aFindB "Table" "__ne__" "object.__ne__",
  aOp "Table" "__repr__",
  aGlo "_law_pot",
  aGlo "_law_draw",
  aGlo "_law_pick",
  aGlo "_law_common",
  aGlo "_law_low",
  aGlo "_law_plus",
  aGlo "_law_minus",
  aGlo "_law_steps",
  aGlo "_law_points",
  aGlo "_law_number",
  aGlo "_law_paid",
  aGlo "_law_shown",
  aGlo "_law_is",
  aGlo "_law_by_points",
  aGlo "_law_by_steps"] : List Ask) ++ ([
  aGlo "_law_both",
  aGlo "_law_equal_right",
  aGlo "_law_fixed_right",
  aGlo "_law_right",
  aGlo "law"] : List Ask)
end Hd
namespace Hd
open PySem PySem.Spec PyProof.Rows L2 Ow Pt Rm Ra La
section
variable {P : Program} {w : World} {K : Fr} {h : Heap} {mg : Str → Option Value} {f : Addr}
theorem facts (X : K.In h) (G : h.Ns mainGlobals mg) (hfa : mg ("law" : Str) = some (.ref f)) (c : Says cs ds K) :
    ∃ fd : FuncData, (∀ (s : Shared) (v : Value), BindsTo s fd ⟨[v], []⟩ [("_law_script", v)]) ∧ ∀ base : Heap, K.In base → base.Ns mainGlobals mg → FnG P w K mg base CX0 15 f fd ["_law_script"] (Lb.spLaw K) := by
  obtain ⟨fd0, F0⟩ := c.dfn 0 rfl
  have F0 : FnP K "is_integer" "is_integer" sIsInt [] (He.ga K "is_integer") fd0 := F0
  obtain ⟨fd1, F1⟩ := c.dfn 1 rfl
  have F1 : FnP K "is_number" "is_number" sNumber [] (He.ga K "is_number") fd1 := F1
  obtain ⟨fd2, F2⟩ := c.dfn 2 rfl
  have F2 : FnP K "as_ratio" "as_ratio" sAsRatio [] (He.ga K "as_ratio") fd2 := F2
  obtain ⟨fd3, F3⟩ := c.dfn 3 rfl
  have F3 : FnP K "__init__" "Ratio.__init__" sInit [.int 1] (pac "Ratio" "__init__" K) fd3 := F3
  obtain ⟨fd4, F4⟩ := c.dfn 4 rfl
  have F4 : FnP K "top" "Ratio.top" sTop [] (getac "Ratio" "top" K) fd4 := F4
  obtain ⟨fd5, F5⟩ := c.dfn 5 rfl
  have F5 : FnP K "bottom" "Ratio.bottom" sBottom [] (getac "Ratio" "bottom" K) fd5 := F5
  obtain ⟨fd6, F6⟩ := c.dfn 6 rfl
  have F6 : FnP K "sign" "Ratio.sign" sSign [] (getac "Ratio" "sign" K) fd6 := F6
  obtain ⟨fd7, F7⟩ := c.dfn 7 rfl
  have F7 : FnP K "total" "Ratio.total" sTotal [] (cmac "Ratio" "total" K) fd7 := F7
  obtain ⟨fd8, F8⟩ := c.dfn 8 rfl
  have F8 : FnP K "__add__" "Ratio.__add__" sAdd [] (pac "Ratio" "__add__" K) fd8 := F8
  obtain ⟨fd9, F9⟩ := c.dfn 9 rfl
  have F9 : FnP K "__sub__" "Ratio.__sub__" sSub [] (pac "Ratio" "__sub__" K) fd9 := F9
  obtain ⟨fd10, F10⟩ := c.dfn 10 rfl
  have F10 : FnP K "__neg__" "Ratio.__neg__" sNeg [] (pac "Ratio" "__neg__" K) fd10 := F10
  obtain ⟨fd11, F11⟩ := c.dfn 11 rfl
  have F11 : FnP K "is_below" "Ratio.is_below" sBelow [] (pac "Ratio" "is_below" K) fd11 := F11
  obtain ⟨fd12, F12⟩ := c.dfn 12 rfl
  have F12 : FnP K "__eq__" "Ratio.__eq__" sEq [] (pac "Ratio" "__eq__" K) fd12 := F12
  obtain ⟨fd13, F13⟩ := c.dfn 13 rfl
  have F13 : FnP K "__repr__" "Ratio.__repr__" sRepr [] (pac "Ratio" "__repr__" K) fd13 := F13
  obtain ⟨fd14, F14⟩ := c.dfn 14 rfl
  have F14 : FnP K "is_place" "is_place" d_is_place [] (He.ga K "is_place") fd14 := F14
  obtain ⟨fd15, F15⟩ := c.dfn 15 rfl
  have F15 : FnP K "check_many" "check_many" d_check_many [] (He.ga K "check_many") fd15 := F15
  obtain ⟨fd16, F16⟩ := c.dfn 16 rfl
  have F16 : FnP K "check_points" "check_points" d_check_points [] (He.ga K "check_points") fd16 := F16
  obtain ⟨fd17, F17⟩ := c.dfn 17 rfl
  have F17 : FnP K "check_steps" "check_steps" d_check_steps [] (He.ga K "check_steps") fd17 := F17
  obtain ⟨fd18, F18⟩ := c.dfn 18 rfl
  have F18 : FnP K "__init__" "Table.__init__" d_Table___init__ [] (pac "Table" "__init__" K) fd18 := F18
  obtain ⟨fd19, F19⟩ := c.dfn 19 rfl
  have F19 : FnP K "of_steps" "Table.of_steps" d_Table_of_steps [] (cmac "Table" "of_steps" K) fd19 := F19
  obtain ⟨fd20, F20⟩ := c.dfn 20 rfl
  have F20 : FnP K "first_places" "Table.first_places" d_Table_first_places [] (cmac "Table" "first_places" K) fd20 := F20
  obtain ⟨fd21, F21⟩ := c.dfn 21 rfl
  have F21 : FnP K "steep" "Table.steep" d_Table_steep [] (cmac "Table" "steep" K) fd21 := F21
  obtain ⟨fd22, F22⟩ := c.dfn 22 rfl
  have F22 : FnP K "points" "Table.points" d_Table_points [] (pac "Table" "points" K) fd22 := F22
  obtain ⟨fd23, F23⟩ := c.dfn 23 rfl
  have F23 : FnP K "steps" "Table.steps" d_Table_steps [] (pac "Table" "steps" K) fd23 := F23
  obtain ⟨fd24, F24⟩ := c.dfn 24 rfl
  have F24 : FnP K "__getitem__" "Table.__getitem__" d_Table___getitem__ [] (pac "Table" "__getitem__" K) fd24 := F24
  obtain ⟨fd25, F25⟩ := c.dfn 25 rfl
  have F25 : FnP K "paid" "Table.paid" d_Table_paid [] (getac "Table" "paid" K) fd25 := F25
  obtain ⟨fd26, F26⟩ := c.dfn 26 rfl
  have F26 : FnP K "__eq__" "Table.__eq__" d_Table___eq__ [] (pac "Table" "__eq__" K) fd26 := F26
  obtain ⟨fd27, F27⟩ := c.dfn 27 rfl
  have F27 : FnP K "__repr__" "Table.__repr__" d_Table___repr__ [] (pac "Table" "__repr__" K) fd27 := F27
  obtain ⟨fd28, F28⟩ := c.dfn 28 rfl
  have F28 : FnP K "_law_pot" "_law_pot" sPot [] (He.ga K "_law_pot") fd28 := F28
  obtain ⟨fd29, F29⟩ := c.dfn 29 rfl
  have F29 : FnP K "_law_draw" "_law_draw" sDraw [] (He.ga K "_law_draw") fd29 := F29
  obtain ⟨fd30, F30⟩ := c.dfn 30 rfl
  have F30 : FnP K "_law_pick" "_law_pick" sPick [] (He.ga K "_law_pick") fd30 := F30
  obtain ⟨fd31, F31⟩ := c.dfn 31 rfl
  have F31 : FnP K "_law_common" "_law_common" sCommon [] (He.ga K "_law_common") fd31 := F31
  obtain ⟨fd32, F32⟩ := c.dfn 32 rfl
  have F32 : FnP K "_law_low" "_law_low" sLow [] (He.ga K "_law_low") fd32 := F32
  obtain ⟨fd33, F33⟩ := c.dfn 33 rfl
  have F33 : FnP K "_law_plus" "_law_plus" sPlus [] (He.ga K "_law_plus") fd33 := F33
  obtain ⟨fd34, F34⟩ := c.dfn 34 rfl
  have F34 : FnP K "_law_minus" "_law_minus" sMinus [] (He.ga K "_law_minus") fd34 := F34
  obtain ⟨fd35, F35⟩ := c.dfn 35 rfl
  have F35 : FnP K "_law_steps" "_law_steps" d__law_steps [] (He.ga K "_law_steps") fd35 := F35
  obtain ⟨fd36, F36⟩ := c.dfn 36 rfl
  have F36 : FnP K "_law_points" "_law_points" d__law_points [] (He.ga K "_law_points") fd36 := F36
  obtain ⟨fd37, F37⟩ := c.dfn 37 rfl
  have F37 : FnP K "_law_number" "_law_number" d__law_number [] (He.ga K "_law_number") fd37 := F37
  obtain ⟨fd38, F38⟩ := c.dfn 38 rfl
  have F38 : FnP K "_law_paid" "_law_paid" d__law_paid [] (He.ga K "_law_paid") fd38 := F38
  obtain ⟨fd39, F39⟩ := c.dfn 39 rfl
  have F39 : FnP K "_law_shown" "_law_shown" d__law_shown [] (He.ga K "_law_shown") fd39 := F39
  obtain ⟨fd40, F40⟩ := c.dfn 40 rfl
  have F40 : FnP K "_law_is" "_law_is" d__law_is [] (He.ga K "_law_is") fd40 := F40
  obtain ⟨fd41, F41⟩ := c.dfn 41 rfl
  have F41 : FnP K "_law_by_points" "_law_by_points" d__law_by_points [] (He.ga K "_law_by_points") fd41 := F41
  obtain ⟨fd42, F42⟩ := c.dfn 42 rfl
  have F42 : FnP K "_law_by_steps" "_law_by_steps" d__law_by_steps [] (He.ga K "_law_by_steps") fd42 := F42
  obtain ⟨fd43, F43⟩ := c.dfn 43 rfl
  have F43 : FnP K "_law_both" "_law_both" d__law_both [] (He.ga K "_law_both") fd43 := F43
  obtain ⟨fd44, F44⟩ := c.dfn 44 rfl
  have F44 : FnP K "_law_equal_right" "_law_equal_right" d__law_equal_right [] (He.ga K "_law_equal_right") fd44 := F44
  obtain ⟨fd45, F45⟩ := c.dfn 45 rfl
  have F45 : FnP K "_law_fixed_right" "_law_fixed_right" d__law_fixed_right [] (He.ga K "_law_fixed_right") fd45 := F45
  obtain ⟨fd46, F46⟩ := c.dfn 46 rfl
  have F46 : FnP K "_law_right" "_law_right" d__law_right [] (He.ga K "_law_right") fd46 := F46
  obtain ⟨fd47, F47⟩ := c.dfn 47 rfl
  have F47 : FnP K "law" "law" d_law [] (He.ga K "law") fd47 := F47
  have gl : ∀ x : Str, aGlo x K = true → mg x = some (.ref (He.ga K x)) := fun x e => He.glo_ok X G e
  have fr : ∀ x : Str, aFree x K = true → mg x = none := fun x e => He.free_ok X G e
  have e := hfa.symm.trans (gl "law" (c.ask 124 rfl))
  cases e
  have b0 : Binds K fd0 ["value"] [] := F0.bindsN fun _ _ _ _ _ _ us hl => match us, hl with | [_], _ => rfl
  have b1 : Binds K fd1 ["value"] [] := F1.bindsN fun _ _ _ _ _ _ us hl => match us, hl with | [_], _ => rfl
  have b2 : Binds K fd2 ["value"] [] := F2.bindsN fun _ _ _ _ _ _ us hl => match us, hl with | [_], _ => rfl
  have b4 : Binds K fd4 ["self"] [] := F4.bindsN fun _ _ _ _ _ _ us hl => match us, hl with | [_], _ => rfl
  have b5 : Binds K fd5 ["self"] [] := F5.bindsN fun _ _ _ _ _ _ us hl => match us, hl with | [_], _ => rfl
  have b6 : Binds K fd6 ["self"] [] := F6.bindsN fun _ _ _ _ _ _ us hl => match us, hl with | [_], _ => rfl
  have b8 : Binds K fd8 ["self", "other"] [] := F8.bindsN fun _ _ _ _ _ _ us hl => match us, hl with | [_, _], _ => rfl
  have b9 : Binds K fd9 ["self", "other"] [] := F9.bindsN fun _ _ _ _ _ _ us hl => match us, hl with | [_, _], _ => rfl
  have b10 : Binds K fd10 ["self"] [] := F10.bindsN fun _ _ _ _ _ _ us hl => match us, hl with | [_], _ => rfl
  have b11 : Binds K fd11 ["self", "other"] [] := F11.bindsN fun _ _ _ _ _ _ us hl => match us, hl with | [_, _], _ => rfl
  have b12 : Binds K fd12 ["self", "other"] [] := F12.bindsN fun _ _ _ _ _ _ us hl => match us, hl with | [_, _], _ => rfl
  have b13 : Binds K fd13 ["self"] [] := F13.bindsN fun _ _ _ _ _ _ us hl => match us, hl with | [_], _ => rfl
  have b14 : Binds K fd14 ["value"] [] := F14.bindsN fun _ _ _ _ _ _ us hl => match us, hl with | [_], _ => rfl
  have b15 : Binds K fd15 ["numbers"] [] := F15.bindsN fun _ _ _ _ _ _ us hl => match us, hl with | [_], _ => rfl
  have b16 : Binds K fd16 ["points"] [] := F16.bindsN fun _ _ _ _ _ _ us hl => match us, hl with | [_], _ => rfl
  have b17 : Binds K fd17 ["steps"] [] := F17.bindsN fun _ _ _ _ _ _ us hl => match us, hl with | [_], _ => rfl
  have b20 : Binds K fd20 ["cls", "k"] [] := F20.bindsN fun _ _ _ _ _ _ us hl => match us, hl with | [_, _], _ => rfl
  have b21 : Binds K fd21 ["cls", "s", "k"] [] := F21.bindsN fun _ _ _ _ _ _ us hl => match us, hl with | [_, _, _], _ => rfl
  have b22 : Binds K fd22 ["self"] [] := F22.bindsN fun _ _ _ _ _ _ us hl => match us, hl with | [_], _ => rfl
  have b23 : Binds K fd23 ["self"] [] := F23.bindsN fun _ _ _ _ _ _ us hl => match us, hl with | [_], _ => rfl
  have b24 : Binds K fd24 ["self", "at"] [] := F24.bindsN fun _ _ _ _ _ _ us hl => match us, hl with | [_, _], _ => rfl
  have b25 : Binds K fd25 ["self"] [] := F25.bindsN fun _ _ _ _ _ _ us hl => match us, hl with | [_], _ => rfl
  have b26 : Binds K fd26 ["self", "other"] [] := F26.bindsN fun _ _ _ _ _ _ us hl => match us, hl with | [_, _], _ => rfl
  have b27 : Binds K fd27 ["self"] [] := F27.bindsN fun _ _ _ _ _ _ us hl => match us, hl with | [_], _ => rfl
  have b28 : Binds K fd28 ["_law_script", "_law_at"] [] := F28.bindsN fun _ _ _ _ _ _ us hl => match us, hl with | [_, _], _ => rfl
  have b29 : Binds K fd29 ["_law_pot_here", "_law_many"] [] := F29.bindsN fun _ _ _ _ _ _ us hl => match us, hl with | [_, _], _ => rfl
  have b30 : Binds K fd30 ["_law_pot_here", "_law_some"] [] := F30.bindsN fun _ _ _ _ _ _ us hl => match us, hl with | [_, _], _ => rfl
  have b31 : Binds K fd31 ["_law_one", "_law_two"] [] := F31.bindsN fun _ _ _ _ _ _ us hl => match us, hl with | [_, _], _ => rfl
  have b32 : Binds K fd32 ["_law_up", "_law_low_here"] [] := F32.bindsN fun _ _ _ _ _ _ us hl => match us, hl with | [_, _], _ => rfl
  have b33 : Binds K fd33 ["_law_a", "_law_b"] [] := F33.bindsN fun _ _ _ _ _ _ us hl => match us, hl with | [_, _], _ => rfl
  have b34 : Binds K fd34 ["_law_a", "_law_b"] [] := F34.bindsN fun _ _ _ _ _ _ us hl => match us, hl with | [_, _], _ => rfl
  have b35 : Binds K fd35 ["_law_pot_here"] [] := F35.bindsN fun _ _ _ _ _ _ us hl => match us, hl with | [_], _ => rfl
  have b36 : Binds K fd36 ["_law_steps_here"] [] := F36.bindsN fun _ _ _ _ _ _ us hl => match us, hl with | [_], _ => rfl
  have b37 : Binds K fd37 ["_law_pot_here", "_law_a"] [] := F37.bindsN fun _ _ _ _ _ _ us hl => match us, hl with | [_, _], _ => rfl
  have b38 : Binds K fd38 ["_law_points_here"] [] := F38.bindsN fun _ _ _ _ _ _ us hl => match us, hl with | [_], _ => rfl
  have b39 : Binds K fd39 ["_law_a"] [] := F39.bindsN fun _ _ _ _ _ _ us hl => match us, hl with | [_], _ => rfl
  have b40 : Binds K fd40 ["_law_made", "_law_points_here", "_law_steps_here"] [] := F40.bindsN fun _ _ _ _ _ _ us hl => match us, hl with | [_, _, _], _ => rfl
  have b41 : Binds K fd41 ["_law_row"] [] := F41.bindsN fun _ _ _ _ _ _ us hl => match us, hl with | [_], _ => rfl
  have b42 : Binds K fd42 ["_law_row"] [] := F42.bindsN fun _ _ _ _ _ _ us hl => match us, hl with | [_], _ => rfl
  have b43 : Binds K fd43 ["_law_pot_here", "_law_points_here", "_law_steps_here"] [] := F43.bindsN fun _ _ _ _ _ _ us hl => match us, hl with | [_, _, _], _ => rfl
  have b44 : Binds K fd44 ["_law_pot_here", "_law_made", "_law_points_here", "_law_others", "_law_beside"] [] := F44.bindsN fun _ _ _ _ _ _ us hl => match us, hl with | [_, _, _, _, _], _ => rfl
  have b45 : Binds K fd45 ["_law_pot_here"] [] := F45.bindsN fun _ _ _ _ _ _ us hl => match us, hl with | [_], _ => rfl
  have b46 : Binds K fd46 ["_law_pot_here"] [] := F46.bindsN fun _ _ _ _ _ _ us hl => match us, hl with | [_], _ => rfl
  have bL := FunD.bindsA (ps := ["_law_script"]) F47 fun _ _ _ _ _ _ us hl => match us, hl with | [_], _ => rfl
  refine ⟨fd47, fun s v => bL s [v] rfl, fun base kin _ => ?_⟩

  let C : Addr := He.ga K "Ratio"
  let D : Addr := He.ga K "Table"
  have T : RT K mg C := ⟨He.cls_ok (c.ask 0 rfl), He.noat_ok (c.ask 1 rfl), He.noat_ok (c.ask 2 rfl), (gl "Ratio" (c.ask 3 rfl)), num_of (c.ask 4 rfl) (c.ask 5 rfl) (c.ask 6 rfl), He.eqO_ok (c.ask 7 rfl), He.eqO_ok (c.ask 8 rfl), of_decide_eq_true (c.ask 9 rfl),
    mro_of (c.ask 10 rfl), (kit_of' (c.ask 11 rfl)), (kit_of' (c.ask 12 rfl)), (fr "isinstance" (c.ask 13 rfl)), (fr "int" (c.ask 14 rfl)), (fr "bool" (c.ask 15 rfl)), (fr "str" (c.ask 16 rfl)), PySem.W.mg_of X G (He.eqO_ok (c.ask 17 rfl))⟩
  have L : LT mg := ⟨(fr "len" (c.ask 18 rfl)), (fr "abs" (c.ask 19 rfl)), (fr "max" (c.ask 20 rfl)), (fr "min" (c.ask 21 rfl)), (fr "int" (c.ask 14 rfl)), (fr "divmod" (c.ask 22 rfl)), (fr "range" (c.ask 23 rfl)), (fr "all" (c.ask 24 rfl)), (fr "zip" (c.ask 25 rfl)), (fr "repr" (c.ask 26 rfl)), (fr "str" (c.ask 16 rfl)), (fr "isinstance" (c.ask 13 rfl))⟩
  have B : Tb.Blt mg := ⟨(fr "len" (c.ask 18 rfl)), (fr "list" (c.ask 27 rfl)), (fr "tuple" (c.ask 28 rfl)), (fr "str" (c.ask 16 rfl)), (fr "int" (c.ask 14 rfl)), (fr "bool" (c.ask 15 rfl)), (fr "isinstance" (c.ask 13 rfl)), (fr "all" (c.ask 24 rfl)), (fr "any" (c.ask 29 rfl)), (fr "enumerate" (c.ask 30 rfl)), (fr "range" (c.ask 23 rfl)), (fr "min" (c.ask 21 rfl)), (fr "max" (c.ask 20 rfl)), (fr "abs" (c.ask 19 rfl)), (fr "divmod" (c.ask 22 rfl)), (fr "repr" (c.ask 26 rfl)), (fr "zip" (c.ask 25 rfl))⟩
  have KT1 : Ra.KT K mg C := ⟨(kit_of' (c.ask 31 rfl)), (kit_of' (c.ask 32 rfl)), (kit_of' (c.ask 33 rfl)), (kit_of' (c.ask 34 rfl)), (fr "len" (c.ask 18 rfl)), (fr "all" (c.ask 24 rfl))⟩
  have U : Tb.TC K mg D := ⟨He.cls_ok (c.ask 35 rfl), He.noat_ok (c.ask 36 rfl), (gl "Table" (c.ask 37 rfl)), He.int_ok X G (c.ask 38 rfl)⟩
  have Z : Tb.TK K D := ⟨He.eqO_ok (c.ask 39 rfl), mro_of (c.ask 40 rfl), (kit_of' (c.ask 41 rfl))⟩
  have W : Lb.WT K C D := ⟨(kit_of' (c.ask 42 rfl)), (kit_of' (c.ask 43 rfl)), (kit_of' (c.ask 44 rfl)), (kit_of' (c.ask 45 rfl)), (kit_of' (c.ask 46 rfl)), (kit_of' (c.ask 47 rfl)), (kit_of' (c.ask 48 rfl)),
    (c.ask 49 rfl), (c.ask 50 rfl), (c.ask 51 rfl), (c.ask 52 rfl), (c.ask 53 rfl), (c.ask 54 rfl), (c.ask 55 rfl), (c.ask 56 rfl),
    (sub_of (c.ask 57 rfl)), (sub_of (c.ask 58 rfl)), (sub_of (c.ask 59 rfl)), (sub_of (c.ask 60 rfl)), (sub_of (c.ask 61 rfl)), (sub_of (c.ask 62 rfl)), (kit_of' (c.ask 63 rfl)), (c.ask 64 rfl)⟩
  have dInt : Dfn P w K mg base 1 "is_integer" ["value"] (spInt K) := ⟨⟨_, fd0, ok_isint F0 T, (gl "is_integer" (c.ask 65 rfl)), F0.kp, b0⟩⟩
  have iN : FnOk P w K mg base CX0 2 (pac "Ratio" "__init__" K) fd3 ["self", "top", "bottom"] (spInit C) := ok_init F3 T dInt
  have M : RMk P w K mg base C := by
    obtain ⟨ds2, hv2, hb2⟩ := F3.binds1 (ps := ["self", "top", "bottom"]) 3 1 (by simp) rfl fun T kV doc pm an cdv ct us its h1 h2 => match us, h1, its, h2 with | [_, _, _], _, [_], _ => ⟨_, rfl, rfl⟩
    cases hv2
    obtain ⟨ds1, hv1, hb1⟩ := F3.binds1 (ps := ["self", "top", "bottom"]) 2 0 (by simp) rfl fun T kV doc pm an cdv ct us its h1 h2 => match us, h1, its, h2 with | [_, _], _, [_], _ => ⟨_, rfl, rfl⟩
    obtain ⟨its2, kb2⟩ := F3.kbindsD (ps := ["self", "top", "bottom"]) 1 ["bottom", "top"] mix (by simp) mix_ok fun T kV doc pm an cdv ct us its ws h1 h2 h3 => match us, h1, its, h2, ws, h3 with | [_], _, [_], _, [_, _], _ => ⟨_, rfl, rfl⟩
    exact ⟨⟨(pac "Ratio" "__init__" K), fd3, He.mkr_ok (c.ask 66 rfl), iN, hb2, ⟨ds1, hv1, hb1⟩, _, _, kb2, fun _ _ _ => rfl⟩⟩
  have dAs : Dfn P w K mg base 4 "as_ratio" ["value"] (spAs C) := ⟨⟨_, fd2, ok_as F2 T M, (gl "as_ratio" (c.ask 67 rfl)), F2.kp, b2⟩⟩
  have pT : Ra.Prp P w K mg base C "top" (spTop C) := ⟨⟨_, _, fd4, prp_of (c.ask 68 rfl), ok_top F4 T, b4⟩⟩
  have pB : Ra.Prp P w K mg base C "bottom" (spBottom C) := ⟨⟨_, _, fd5, prp_of (c.ask 69 rfl), ok_bottom F5 T, b5⟩⟩
  have pS : Ra.Prp P w K mg base C "sign" (spSign C) := ⟨⟨_, _, fd6, prp_of (c.ask 70 rfl), ok_sign F6 T, b6⟩⟩
  have oA : OpX P w K mg base C .Add 5 (spBin plus C) := ⟨⟨_, fd8, op_of (c.ask 71 rfl), ok_add F8 T M dAs pT pB, b8⟩, ⟨_, (op_of (x := "__radd__") (c.ask 72 rfl)).at_, .inr ⟨_, rfl⟩⟩, int_of (x := "__add__") (c.ask 73 rfl), int_of (x := "__radd__") (c.ask 74 rfl)⟩
  have oN : OpN P w K mg base C 4 (spNeg C) := ⟨⟨_, fd10, op_of (c.ask 75 rfl), ok_neg F10 T M, b10⟩⟩
  have oS : OpX P w K mg base C .Sub 6 (spBin minus C) := ⟨⟨_, fd9, op_of (c.ask 76 rfl), ok_sub F9 T oA oN dAs, b9⟩, ⟨_, (op_of (x := "__rsub__") (c.ask 77 rfl)).at_, .inr ⟨_, rfl⟩⟩, int_of (x := "__sub__") (c.ask 78 rfl), int_of (x := "__rsub__") (c.ask 79 rfl)⟩
  have sR : ShX P w K mg base C "__repr__" shw := ⟨⟨_, fd13, op_of (c.ask 80 rfl), ok_repr F13 T, b13⟩⟩
  have dNu : Dfn P w K mg base 2 "is_number" ["value"] (spKnd K C isN) := ⟨⟨_, fd1, ok_number F1 KT1 T dInt, (gl "is_number" (c.ask 81 rfl)), F1.kp, b1⟩⟩
  have mB : Mtd P w K mg base 7 C "is_below" ["self", "other"] (spBelow C) := ⟨⟨_, _, He.meth_ok (c.ask 82 rfl), ok_below F11 T oS pS, b11⟩⟩
  have Q_ : EqX P w K mg base C := ⟨⟨_, _, op_of (c.ask 83 rfl), ok_eqv F12 T, b12⟩, He.eqO_ok (c.ask 84 rfl), (c.ask 85 rfl)⟩
  have cTo : CMS P w K mg base 6 C "total" (spTot C) := ⟨⟨_, _, _, rdc_of (c.ask 86 rfl), cm_of (c.ask 87 rfl), ok_total F7 T M oA⟩⟩
  have dPl : Dfn P w K mg base 2 "is_place" ["value"] (Tb.spPlace K) := ⟨⟨_, fd14, Tb.ok_is_place F14 U.places dInt, (gl "is_place" (c.ask 88 rfl)), F14.kp, b14⟩⟩
  have dMa : Dfn P w K mg base 1 "check_many" ["numbers"] (Tb.spMany K) := ⟨⟨_, fd15, Tb.ok_check_many F15 B U.places, (gl "check_many" (c.ask 89 rfl)), F15.kp, b15⟩⟩
  have dCP : Dfn P w K mg base 8 "check_points" ["points"] (Tb.spCheck K C) := ⟨⟨_, fd16, Tb.ok_check_points F16 B T dMa dNu dAs pS mB, (gl "check_points" (c.ask 90 rfl)), F16.kp, b16⟩⟩
  have dCS : Dfn P w K mg base 8 "check_steps" ["steps"] (Tb.spSteps K C) := ⟨⟨_, fd17, Tb.ok_check_steps F17 B T dMa dNu dAs pS, (gl "check_steps" (c.ask 91 rfl)), F17.kp, b17⟩⟩
  have tM : Tb.TMk P w K mg base C D := ⟨⟨_, He.mkr_ok (c.ask 92 rfl), Tb.ok_Table_init F18 B T U M dAs dCP⟩⟩
  have cO : CMS P w K mg base 11 D "of_steps" (Tb.spOS C D) := ⟨⟨_, _, _, rdc_of (c.ask 93 rfl), cm_of (c.ask 94 rfl), Tb.ok_of_steps F19 B T tM dCS cTo⟩⟩
  have fF := Tb.ok_first (P := P) (w := w) (base := base) F20 B tM dPl
  have fS := Tb.ok_steep (P := P) (w := w) (base := base) F21 B tM dInt dPl
  have cF : CMS P w K mg base 11 D "first_places" (Tb.spFP C D) := ⟨⟨_, _, _, rdc_of (c.ask 93 rfl), cm_of (c.ask 95 rfl), fnR_of fF b20 kin⟩⟩
  have cS : CMS P w K mg base 11 D "steep" (Tb.spSt C D) := ⟨⟨_, _, _, rdc_of (c.ask 93 rfl), cm_of (c.ask 96 rfl), fnR_of fS b21 kin⟩⟩
  have cFK : CMK P w K mg base 11 D "first_places" ["cls", "k"] ["k"] (fun vs zs => vs ++ zs) (Tb.spFP C D) := ⟨⟨_, _, _, _, _, rdc_of (c.ask 93 rfl), cm_of (c.ask 95 rfl), fF, kb_plain (ps := ["cls", "k"]) F20 1 ["k"] fun kV doc pm an cdv ct us ws h1 h2 => match us, h1, ws, h2 with | [_], _, [_], _ => rfl⟩⟩
  have cSK : CMK P w K mg base 11 D "steep" ["cls", "s", "k"] ["k", "s"] (fun vs zs => mix vs [] zs) (Tb.spSt C D) := ⟨⟨_, _, _, _, _, rdc_of (c.ask 93 rfl), cm_of (c.ask 96 rfl), fS, kb_swap (ps := ["cls", "s", "k"]) (ks := ["k", "s"]) F21 fun kV doc pm an cdv ct us ws h1 h2 => match us, h1, ws, h2 with | [_], _, [_, _], _ => rfl⟩⟩
  have mP : Mtd P w K mg base 1 D "points" ["self"] (Tb.spPts C D) := ⟨⟨_, _, He.meth_ok (c.ask 97 rfl), Tb.ok_points F22 B U, b22⟩⟩
  have mS : Mtd P w K mg base 7 D "steps" ["self"] (Tb.spStp C D) := ⟨⟨_, _, He.meth_ok (c.ask 98 rfl), Tb.ok_steps F23 B T U M oS, b23⟩⟩
  have iX : Opr P w K mg base 3 D "__getitem__" ["self", "at"] (Tb.spIx C D) := ⟨⟨_, _, op_of (c.ask 99 rfl), Tb.ok_item F24 U dPl, b24⟩⟩
  have hfX : ∀ f, OpOf K D "__getitem__" f → PySem.W.fnIn K f = true := fni_of (c.ask 99 rfl) (c.ask 100 rfl)
  have pPd : Tb.Prp P w K mg base 3 D "paid" (Tb.spPaid C D) := ⟨⟨_, _, fd25, prp_of (c.ask 101 rfl), Tb.ok_paid F25 B T U pS, b25⟩⟩
  have E_ : Lb.TEq P w K mg base C D := ⟨⟨_, _, op_of (c.ask 102 rfl), Tb.ok_teq F26 B T U Z Q_, b26⟩, He.eqO_ok (c.ask 103 rfl)⟩
  have sT : Lb.ShT P w K mg base C D := ⟨⟨_, _, op_of (c.ask 104 rfl), Tb.ok_trepr F27 B T U pS sR, b27⟩⟩
  have dPo : Dfn P w K mg base 1 "_law_pot" ["_law_script", "_law_at"] (spPot K) := ⟨⟨_, fd28, ok_pot F28 L, (gl "_law_pot" (c.ask 105 rfl)), F28.kp, b28⟩⟩
  have dD : Dfn P w K mg base 1 "_law_draw" ["_law_pot_here", "_law_many"] spDraw := ⟨⟨_, fd29, ok_draw F29 L, (gl "_law_draw" (c.ask 106 rfl)), F29.kp, b29⟩⟩
  have dP : Dfn P w K mg base 2 "_law_pick" ["_law_pot_here", "_law_some"] spPick := ⟨⟨_, fd30, ok_pick F30 L dD, (gl "_law_pick" (c.ask 107 rfl)), F30.kp, b30⟩⟩
  have dCom : Dfn P w K mg base 1 "_law_common" ["_law_one", "_law_two"] spCommon := ⟨⟨_, fd31, ok_common F31 L, (gl "_law_common" (c.ask 108 rfl)), F31.kp, b31⟩⟩
  have dLow : Dfn P w K mg base 2 "_law_low" ["_law_up", "_law_low_here"] spLow := ⟨⟨_, fd32, ok_low F32 dCom, (gl "_law_low" (c.ask 109 rfl)), F32.kp, b32⟩⟩
  have dPlus : Dfn P w K mg base 3 "_law_plus" ["_law_a", "_law_b"] (spP2 plus) := ⟨⟨_, fd33, ok_plus F33 dLow, (gl "_law_plus" (c.ask 110 rfl)), F33.kp, b33⟩⟩
  have dM : Dfn P w K mg base 3 "_law_minus" ["_law_a", "_law_b"] (spP2 minus) := ⟨⟨_, fd34, ok_minus F34 dLow, (gl "_law_minus" (c.ask 111 rfl)), F34.kp, b34⟩⟩
  have dSt : Dfn P w K mg base 4 "_law_steps" ["_law_pot_here"] (Lb.spSteps K) := ⟨⟨_, fd35, Lb.ok_steps F35 B dD dP dLow, (gl "_law_steps" (c.ask 112 rfl)), F35.kp, b35⟩⟩
  have dPt : Dfn P w K mg base 4 "_law_points" ["_law_steps_here"] Lb.spPoints := ⟨⟨_, fd36, Lb.ok_points F36 dPlus, (gl "_law_points" (c.ask 113 rfl)), F36.kp, b36⟩⟩
  have dN : Dfn P w K mg base 4 "_law_number" ["_law_pot_here", "_law_a"] (Lb.spNum C) := ⟨⟨_, fd37, Lb.ok_number F37 T M dD dP, (gl "_law_number" (c.ask 114 rfl)), F37.kp, b37⟩⟩
  have dPa : Dfn P w K mg base 1 "_law_paid" ["_law_points_here"] Lb.spLPaid := ⟨⟨_, fd38, Lb.ok_lpaid F38 B, (gl "_law_paid" (c.ask 115 rfl)), F38.kp, b38⟩⟩
  have dS : Dfn P w K mg base 1 "_law_shown" ["_law_a"] Lb.spShown := ⟨⟨_, fd39, Lb.ok_shown F39 B, (gl "_law_shown" (c.ask 116 rfl)), F39.kp, b39⟩⟩
  have dI : DfnG P w K mg base 8 "_law_is" ["_law_made", "_law_points_here", "_law_steps_here"] (Lb.spIs C D) := ⟨⟨_, fd40, Lb.ok_is F40 B T U Z sR sT dS dPa mP mS pPd iX hfX, (gl "_law_is" (c.ask 117 rfl)), F40.kp, b40⟩⟩
  have dBP : Dfn P w K mg base 11 "_law_by_points" ["_law_row"] (Lb.spBP C D) := ⟨⟨_, fd41, Lb.ok_by_points F41 B U tM, (gl "_law_by_points" (c.ask 118 rfl)), F41.kp, b41⟩⟩
  have dBS : Dfn P w K mg base 12 "_law_by_steps" ["_law_row"] (Lb.spBS C D) := ⟨⟨_, fd42, Lb.ok_by_steps F42 B U cO, (gl "_law_by_steps" (c.ask 119 rfl)), F42.kp, b42⟩⟩
  have dB : Dfn P w K mg base 13 "_law_both" ["_law_pot_here", "_law_points_here", "_law_steps_here"] (Lb.spBoth C D) := ⟨⟨_, fd43, Lb.ok_both F43 dPa dD dN dBP dBS, (gl "_law_both" (c.ask 120 rfl)), F43.kp, b43⟩⟩
  have dE : DfnG P w K mg base 8 "_law_equal_right" ["_law_pot_here", "_law_made", "_law_points_here", "_law_others", "_law_beside"] (Lb.spEqR C D) := ⟨⟨_, fd44, Lb.ok_eqr F44 B T U Z W Q_ E_ sT mP mS pPd iX hfX, (gl "_law_equal_right" (c.ask 121 rfl)), F44.kp, b44⟩⟩
  have dF : DfnG P w K mg base 12 "_law_fixed_right" ["_law_pot_here"] (Lb.spFx C D) := ⟨⟨_, fd45, Lb.ok_fixed F45 B T U Z W E_ dD dP dI dM cF cFK cS cSK fun _ _ _ => rfl, (gl "_law_fixed_right" (c.ask 122 rfl)), F45.kp, b45⟩⟩
  have dRi : DfnG P w K mg base 14 "_law_right" ["_law_pot_here"] (Lb.spRi K) := ⟨⟨_, fd46, Lb.ok_right F46 B T U tM dSt dPt dB dI dE dF, (gl "_law_right" (c.ask 123 rfl)), F46.kp, b46⟩⟩
  exact Lb.ok_law F47 B dPo dRi
end
end Hd
namespace Hd
open PySem PySem.Spec PyProof.Rows L2
abbrev ORow : PySem.W.OpenRow := PySem.W.OpenLaw.row PySem.Challenge.rw_anypoints_k15_tables_told
abbrev hk : PySem.W.Hook := hkOf 5 cs ds
def ob (s : PySem.W.SharedT) : He.AlD := lookG 5 cs ds (HandSHeadRun.getT s)
theorem ob_eq (s : PySem.W.SharedT) : ob s = hk.obs s.abs := lookG_eq (HandSHeadRun.getT_eq s)
def loose : List Str := (["_wall", "__name__", "PointsError", "InvalidNumber", "InvalidPoints", "InvalidPlace", "InvalidTable", "StateError", "DividedByZero", "is_integer", "is_number", "as_ratio", "Ratio", "PLACES", "is_place", "check_table"] : List Str) ++ (["check_many", "check_points", "check_steps", "Table", "_law_pot", "_law_draw", "_law_pick", "_law_common", "_law_low", "_law_plus", "_law_minus", "_law_times", "_law_steps", "_law_points", "_law_number", "_law_paid"] : List Str) ++ (["_law_shown", "_law_is", "_law_by_points", "_law_by_steps", "_law_both", "_law_equal_right", "_law_fixed_right", "_law_right"] : List Str)
end Hd
namespace Hd
open PySem PySem.Spec PyProof.Rows L2
abbrev qv : Program := PySem.W.view ORow.prog [0, 44]
theorem run (w : World) : HandSHeadRun.RunEqI ORow qv hk ob 30000 loose w := by
  unfold HandSHeadRun.RunEqI
  kernel_rfl
end Hd
open PySem PySem.W PySem.Calls PyProof.Rows
theorem PySem.Challenge.cw_anypoints_k15_tables_told_holds : PySem.Challenge.rw_anypoints_k15_tables_told.Holds := by
  w_on; o_law
  refine HandSHeadRun.head_imp (r := Hd.ORow) (q := Hd.qv) (H := Hd.hk) (ob := Hd.ob) (M := 30000) (loose := Hd.loose) (d := HandSHeadRun.topDef Hd.ORow.prog 44) (kwd := []) Hd.ob_eq Hd.run
    (by kernel_rfl) (by kernel_rfl) (by kernel_rfl) (by rfl) (by first | assumption | decide +kernel) (by decide +kernel) ⟨rfl, rfl, rfl, rfl, rfl, by decide +kernel⟩ ?hw ?hc
  case hw => w_witness2
  case hc =>
    refine Ow.walk_ofG (l := PySem.Challenge.rw_anypoints_k15_tables_told) (n := 63) (k := 15) (x := "_law_script") (CX := L2.CX0) rfl (by decide) (by kernel_rfl) ⟨rfl, by decide, by decide⟩ ?F (fun _ _ _ _ z => z)
    intro w mg fa h Y G hmg0
    obtain ⟨K, KX, c⟩ := Y
    have hmg : mg ("law" : PySem.Str) = some (.ref fa) := by
      have e : (HandSHeadRun.topDef Hd.ORow.prog 44).name = ("law" : PySem.Str) := by kernel_rfl
      rw [← e]
      exact hmg0
    obtain ⟨fd, hb, hF⟩ := Hd.facts (P := (PySem.Challenge.rw_anypoints_k15_tables_told).prog) (w := w) KX G hmg c
    exact ⟨K, fd, Lb.spLaw K, KX, hb, fun H a ns hl _ hS => ⟨a, ns, rfl, hl, hS, fun _ => rfl⟩, hF⟩
