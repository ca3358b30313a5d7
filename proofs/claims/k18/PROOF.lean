import PyProof.Rows.All
import Wide.All
import OpenK.AllK
import Wide.FinOn
import HandS.ForMost
import HandS.OwnEq
import KE.KOpsOwn
import PyProof.ListMulRight
import KE.KCallOwn
import PyProof.ReprRoads
import HandS.Defaults
import HandS.HeadHook2
import KE.GoesMore
import KE.GoesEnum
import PyProof.EnumMake
import PyProof.EnumFor
import PyProof.Draws
import HandS.Walk
import HandS.IsInst
import PyProof.InstEq
import HandS.Strs
import HandS.Star
import HandS.Dict
import HandS.Deep
import HandS.Property
import HandS.ClsMeth
import HandS.MakeKw
import HandS.Head0
import HandS.Head1
import HandS.Head2
import HandS.Head3
import HandS.HeadEnd
import HandS.HeadHook1
import HandS.HeadNt
import PyProof.ReprNest
import PyProof.ReprLoop
import PyProof.ReprHeads
import PyProof.ReprHeadsEmpty
import HandS.Style
import HandS.MakeKwOnly
import HandS.HeadHook3
import HandS.Gcd
import HandS.FStr
import HandS.Wide
import HandS.WideBits
import HandS.RaiseMore
import HandS.Text
import HandS.TupAny
import PyProof.ReprText
import PyProof.ReprUnder
import PySem.Challenge.RW_anypoints_k18_tables_and_ratios_share_no
set_option Elab.async false
set_option linter.all false
set_option maxRecDepth 100000
set_option maxHeartbeats 0
namespace Ow
open PySem PySem.Spec PyProof.Rows L2
open Builtin

theorem int_add_ref (C dx : Addr) (a : Int) (t : Tok) (l : Addr) :
    Meets (Builtin.«int.__add__» ⟨[.int a t, .ref l], []⟩) (fun _ R s => s.heap.get? l = some (PySem.W.instObj C dx) ∧ R (.ok (.ret Value.notImplemented)) s) :=
  .of_wp fun prog w A R s h => by obtain ⟨hp, g, d, tk, os⟩ := s; obtain ⟨hl, h⟩ := h; wp_walk; exact ⟨_, rfl, h⟩
theorem int_sub_ref (C dx : Addr) (a : Int) (t : Tok) (l : Addr) :
    Meets (Builtin.«int.__sub__» ⟨[.int a t, .ref l], []⟩) (fun _ R s => s.heap.get? l = some (PySem.W.instObj C dx) ∧ R (.ok (.ret Value.notImplemented)) s) :=
  .of_wp fun prog w A R s h => by obtain ⟨hp, g, d, tk, os⟩ := s; obtain ⟨hl, h⟩ := h; wp_walk; exact ⟨_, rfl, h⟩
theorem int_mul_ref (C dx : Addr) (a : Int) (t : Tok) (l : Addr) :
    Meets (Builtin.«int.__mul__» ⟨[.int a t, .ref l], []⟩) (fun _ R s => s.heap.get? l = some (PySem.W.instObj C dx) ∧ R (.ok (.ret Value.notImplemented)) s) :=
  .of_wp fun prog w A R s h => by obtain ⟨hp, g, d, tk, os⟩ := s; obtain ⟨hl, h⟩ := h; wp_walk; exact ⟨_, rfl, h⟩

section
variable {prog : Program} {w : World} {A : Around} {E : Value → Shared → Prop} {s : Shared} {K : PySem.W.Frag} {x C f : Addr} {ox : Obj} {od : Option Obj}

open PySem.W in
/-- int op instance: the int declines, the class's reflected method takes it -/
theorem bin_rint {op : Operator} {id : String} {i : Int} {t : Tok} {Q : Value → Shared → Prop} (X : K.In s.heap) (I : InstAt s.heap x ox C od) (hc : selfFirst K C = true)
    (hfT : fillsNumberSlot (.type "int") op.info.2 = pure true)
    (hl : Slot "int" (PySem.dunder op.info.2) id)
    (hs : findIn K (.ref C) (PySem.dunder op.info.2) = some (some (.ref f))) 
    {g : Addr} (hg : findIn K (.ref C) (dunderR op.info.2) = some (some (.ref g))) (hfg : isFn K (.ref g) = true)
    (hsub : subIn K (.ref C) (.type "int") = some false)
    (hd : wpAny (model prog w) A (call (.builtin id) [.int i t, .ref x]) (fun v s' => v = .notImplemented ∧ s' = s) E s)
    (h : wpAny (model prog w) A (call (.ref g) [.ref x, .int i t]) (PySem.W.CmpBack Q) E s) : wpAny (model prog w) A (binaryOp op (.int i t) (.ref x)) Q E s := by
  obtain ⟨cd, rest, hcd, hm⟩ := ksp_first hc
  rcases hi : op.info with ⟨sym, nm'⟩
  rw [hi] at hfT hl hs hg
  dsimp only at hfT hl hs hg
  have one := ksp_try X I hg hfg h
  have L1 : Looks (model prog w) s.heap (typeOf (.ref x)) (.ref C) := I.type
  have L3 : Looks (model prog w) s.heap (fillsNumberSlot (.ref C) nm') true := fills_K X hcd hm hs
  have L5 : Looks (model prog w) s.heap (isSubtype (.ref C) (.type "int")) false := looks_subIn X hsub
  have hne : (Value.type "int" == Value.ref C) = false := Bool.eq_false_iff.mpr fun q => by cases beq_iff_eq.mp q
  simp only [binaryOp, hi]
  refine wpAny_holding (wpAny_bind ?_)
  unfold binaryOp1
  refine wpAny_bind (wpAny_typeOf (typeIs_int _ _ _) (wpAny_bind (L1.here (wpAny_bind (wpAny_of_eq hfT ?_)))))
  simp only [hne, Bool.false_eq_true, if_false]
  refine wpAny_bind (L3.here ?_)
  simp only [Bool.and_self, if_true]
  refine wpAny_bind (L5.here ?_)
  have hpy : numberSlotInPython (.type "int") nm' = pure false := rfl
  simp only [Bool.false_eq_true, if_false, pure_bind, Bool.not_false, Bool.and_self, if_true, hpy]
  refine wpAny_bind (wpAny_tryMethod_declines (typeIs_int _ _ _) hl (wpAny_mono hd (fun v s' q => ⟨q.1, ?_⟩) fun _ _ e => e))
  obtain ⟨_, rfl⟩ := q
  refine wpAny_bind (wpAny_mono one (fun r s2 z => ?_) fun _ _ e => e)
  obtain ⟨v, rfl, hq⟩ := z
  refine wpAny_bind (wpAny_rule (wpAny_pure ?_))
  exact wpAny_pure hq
end
end Ow
namespace Ow
open PySem PySem.Spec PyProof.Rows L2

/-- the class at C has the operator nm as a def of its own, at f -/
structure OpOf (K : PySem.W.Frag) (C : Addr) (nm : Str) (f : Addr) : Prop where
  at_ : PySem.W.findIn K (.ref C) nm = some (some (.ref f))
  fn : PySem.W.isFn K (.ref f) = true
/-- it stands ahead of builtins, of int -/
structure Num (K : PySem.W.Frag) (C : Addr) : Prop where
  sf : PySem.W.selfFirst K C = true
  ic : PySem.W.subIn K (.type "int") (.ref C) = some false
  ci : PySem.W.subIn K (.ref C) (.type "int") = some false

theorem back {Q : Value → Shared → Prop} {v : V} {u : Value} {s : Shared} (r : RelV v u) (q : Q u s) : PySem.W.CmpBack Q u s := by
  cases v <;> (try (obtain ⟨t, r⟩ := r)) <;> (try cases r) <;> exact q

section
variable {X : Cx} {CX : CXT} {k : Nat} {C f : Addr} {fd : FuncData} {ps : List Str} {sp : Sp} {E : XK} {dvs : List V} {ds : List Value}

/-- x op y, both instances of C -/
def rOwn (C : Addr) (sp : Sp) (E : XK) : R2 := fun x y H Q => ∃ a dx fs b dy gs, x = .ref a ∧ H a = some (.ins C dx fs) ∧ y = .ref b ∧ H b = some (.ins C dy gs) ∧ sp [.ref a, .ref b] H Q E
/-- x op i -/
def rOwnI (C : Addr) (sp : Sp) (E : XK) : R2 := fun x y H Q => ∃ a dx fs i, x = .ref a ∧ H a = some (.ins C dx fs) ∧ y = .int i ∧ sp [.ref a, .int i] H Q E
/-- i op x -/
def rIOwn (C : Addr) (sp : Sp) (E : XK) : R2 := fun x y H Q => ∃ a dx fs i, y = .ref a ∧ H a = some (.ins C dx fs) ∧ x = .int i ∧ sp [.ref a, .int i] H Q E

theorem run_back {pins : List (Addr × Obj)} {σ : L2.St} {H : Hp} {s : Shared} {Q : VK} {us : List Value} {vs : List V} (F : FnOk X.prog X.w X.K X.mg X.base CX k f fd ps sp) (hr : Room k X.A) (hb : Binds X.K fd ps []) (hx : Passes CX X E)
    (I : Inv X pins σ H s) (r : Vals vs us) (h : sp vs H Q E) : wpAny (model X.prog X.w) X.A (call (.ref f) us) (PySem.W.CmpBack (EP X pins σ Q)) X.xe s := by
  refine wpAny_mono (run_fn (dvs := []) (ds := []) F hr hb .nil hx I r (by rw [List.append_nil]; exact h)) (fun u s' q => ?_) fun _ _ e => e
  obtain ⟨v, H', I', rv, q'⟩ := id q
  exact back rv q

theorem inst_of {pins : List (Addr × Obj)} {σ : L2.St} {H : Hp} {s : Shared} {a dx : Addr} {fs : List (Str × V)} (I : Inv X pins σ H s) (ea : H a = some (.ins C dx fs)) :
    ∃ od, PySem.W.InstAt s.heap a (PySem.W.instObj C dx) C (some od) := by
  obtain ⟨mA, O, _, _, _, _⟩ := ins_get I.hok ea
  obtain ⟨od, J, _⟩ := O.look
  exact ⟨od, J⟩

theorem op_own {op : Operator} (n : PySem.W.selfFirst X.K C = true) (o : OpOf X.K C (PySem.dunder op.info.2) f) (F : FnOk X.prog X.w X.K X.mg X.base CX k f fd ps sp) (hr : Room k X.A) (hb : Binds X.K fd ps []) (hx : Passes CX X E) :
    OpR X (binaryOp op) (rOwn C sp E) := by
  intro pins s σ H x y u v Q I rx ry hq
  obtain ⟨a, dx, fs, b, dy, gs, rfl, ea, rfl, eb, q⟩ := hq
  cases rx
  cases ry
  obtain ⟨od, J⟩ := inst_of I ea
  obtain ⟨od', J'⟩ := inst_of I eb
  obtain ⟨m, hF⟩ := I.fr
  exact PySem.W.binop_K hF I.ok.mod.kin J J'.type n o.at_ o.fn (run_back (vs := [.ref a, .ref b]) F hr hb hx I (.cons rfl (.cons rfl .nil)) q)

theorem op_ownI {op : Operator} {fo ro rc : Option Value} (n : Num X.K C) (o : OpOf X.K C (PySem.dunder op.info.2) f) (F : FnOk X.prog X.w X.K X.mg X.base CX k f fd ps sp) (hr : Room k X.A) (hb : Binds X.K fd ps []) (hx : Passes CX X E)
    (hrf : PySem.W.findIn X.K (.ref C) (dunderR op.info.2) = some rc) (hp : rc = none ∨ ∃ g : Addr, rc = some (.ref g))
    (h1 : PySem.W.findIn X.K (.type "int") (PySem.dunder op.info.2) = some fo) (h2 : PySem.W.findIn X.K (.type "int") (dunderR op.info.2) = some ro) :
    OpR X (binaryOp op) (rOwnI C sp E) := by
  intro pins s σ H x y u v Q I rx ry hq
  obtain ⟨a, dx, fs, i, rfl, ea, rfl, q⟩ := hq
  cases rx
  obtain ⟨t, rfl⟩ := ry
  obtain ⟨od, J⟩ := inst_of I ea
  obtain ⟨m, hF⟩ := I.fr
  exact PySem.W.ksp_binT (T := "int") hF I.ok.mod.kin J rfl n.sf o.at_ o.fn hrf hp h1 h2 n.ic (run_back (vs := [.ref a, .int i]) F hr hb hx I (.cons rfl (.cons ⟨t, rfl⟩ .nil)) q)

theorem op_Iown {op : Operator} {id : String} {g : Addr} {gd : FuncData} (n : Num X.K C) (o : OpOf X.K C (PySem.dunder op.info.2) f) (og : OpOf X.K C (dunderR op.info.2) g) (F : FnOk X.prog X.w X.K X.mg X.base CX k g gd ps sp) (hr : Room k X.A) (hb : Binds X.K gd ps []) (hx : Passes CX X E)
    (hfT : fillsNumberSlot (.type "int") op.info.2 = pure true) (hl : Slot "int" (PySem.dunder op.info.2) id)
    (hd : ∀ (s : Shared) (a dx : Addr) (i : Int) (t : Tok), s.heap.get? a = some (PySem.W.instObj C dx) → wpAny (model X.prog X.w) X.A (call (.builtin id) [.int i t, .ref a]) (fun v s' => v = .notImplemented ∧ s' = s) X.xe s) :
    OpR X (binaryOp op) (rIOwn C sp E) := by
  intro pins s σ H x y u v Q I rx ry hq
  obtain ⟨a, dx, fs, i, rfl, ea, rfl, q⟩ := hq
  cases ry
  obtain ⟨t, rfl⟩ := rx
  obtain ⟨od, J⟩ := inst_of I ea
  obtain ⟨mA, O, _, _, _, _⟩ := ins_get I.hok ea
  exact bin_rint I.kIn J n.sf hfT hl o.at_ og.at_ og.fn n.ci (hd s a dx i t O.obj) (run_back (vs := [.ref a, .int i]) F hr hb hx I (.cons rfl (.cons ⟨t, rfl⟩ .nil)) q)

theorem decl_add {X : Cx} {C : Addr} (s : Shared) (a dx : Addr) (i : Int) (t : Tok) (h : s.heap.get? a = some (PySem.W.instObj C dx)) : wpAny (model X.prog X.w) X.A (call (.builtin "int.__add__") [.int i t, .ref a]) (fun v s' => v = .notImplemented ∧ s' = s) X.xe s :=
  call_meets F.slot_int_add (typeIs_int s i t) F.entry_int_add (F.args_int_add_2 _ _) (int_add_ref C dx i t a) ⟨h, rfl, rfl⟩
theorem decl_sub {X : Cx} {C : Addr} (s : Shared) (a dx : Addr) (i : Int) (t : Tok) (h : s.heap.get? a = some (PySem.W.instObj C dx)) : wpAny (model X.prog X.w) X.A (call (.builtin "int.__sub__") [.int i t, .ref a]) (fun v s' => v = .notImplemented ∧ s' = s) X.xe s :=
  call_meets F.slot_int_sub (typeIs_int s i t) F.entry_int_sub (F.args_int_sub_2 _ _) (int_sub_ref C dx i t a) ⟨h, rfl, rfl⟩
theorem decl_mul {X : Cx} {C : Addr} (s : Shared) (a dx : Addr) (i : Int) (t : Tok) (h : s.heap.get? a = some (PySem.W.instObj C dx)) : wpAny (model X.prog X.w) X.A (call (.builtin "int.__mul__") [.int i t, .ref a]) (fun v s' => v = .notImplemented ∧ s' = s) X.xe s :=
  call_meets F.slot_int_mul (typeIs_int s i t) F.entry_int_mul (F.args_int_mul_2 _ _) (int_mul_ref C dx i t a) ⟨h, rfl, rfl⟩

/-- - x -/
def rNegOwn (C : Addr) (sp : Sp) (E : XK) : V → Hp → VK → Prop := fun x H Q => ∃ a dx fs, x = .ref a ∧ H a = some (.ins C dx fs) ∧ sp [.ref a] H Q E
theorem un_own (o : OpOf X.K C "__neg__" f) (F : FnOk X.prog X.w X.K X.mg X.base CX k f fd ps sp) (hr : Room k X.A) (hb : Binds X.K fd ps []) (hx : Passes CX X E) : UnR X (unaryOp .USub) (rNegOwn C sp E) := by
  intro pins s σ H x u Q I rx hq
  obtain ⟨a, dx, fs, rfl, ea, q⟩ := hq
  cases rx
  obtain ⟨od, J⟩ := inst_of I ea
  obtain ⟨m, hF⟩ := I.fr
  exact PySem.W.ksp_neg hF I.ok.mod.kin J o.at_ o.fn (run_fn (vs := [.ref a]) (dvs := []) (ds := []) F hr hb .nil hx I (.cons rfl .nil) q)
end
end Ow
namespace Ow
open PySem PySem.Spec PyProof.Rows L2

section
variable {X : Cx} {CX : CXT} {k : Nat} {C f : Addr} {fd : FuncData} {ps : List Str} {sp : Sp} {E : XK}

/-- a callee run from within a built-in: an around with the same frames -/
theorem run_in {A : Around} {pins : List (Addr × Obj)} {σ : L2.St} {H : Hp} {s : Shared} {Q : VK} {us : List Value} {vs : List V} (F : FnOk X.prog X.w X.K X.mg X.base CX k f fd ps sp) (hr : Room k A) (hf : A.frames = X.A.frames) (hb : Binds X.K fd ps []) (hx : Passes CX X E)
    (I : Inv X pins σ H s) (r : Vals vs us) (h : sp vs H Q E) : wpAny (model X.prog X.w) A (call (.ref f) us) (EP X pins σ Q) X.xe s := by
  have hl : us.length = ps.length := by rw [← r.length]; exact F.len _ _ _ _ h
  have e0 := I.env0
  have e1 : Env0 X.prog X.w X.K X.mg X.base A X.stack s H := ⟨hf.trans e0.frames, e0.mod, e0.bs, e0.bsz, e0.funs, e0.frf, e0.hok, e0.bare⟩
  have b := hb s us I.kIn (by rw [List.append_nil]; exact hl)
  rw [List.append_nil] at b
  refine wpAny_call (codeAny_mono (F.run A X.stack s H ⟨us, []⟩ us vs Q E hr e1 b r h) fun res s' hq => ?_)
  cases res with
  | error err => exact hx pins σ H s err s' I hq
  | ok fl => cases fl with
    | ret u => exact I.after hq
    | next => exact hq.elim
    | brk => exact hq.elim
    | cont => exact hq.elim

/-- repr(x), str(x) of an instance: its own def, which tells a text -/
def rShow (C : Addr) (sp : Sp) (E : XK) : List V → Hp → VK → Prop := fun vs H Q => ∃ a dx fs, vs = [.ref a] ∧ H a = some (.ins C dx fs) ∧ sp [.ref a] H (fun v H' => ∃ z, v = .str z ∧ Q (.str z) H') E

theorem shown_back {pins : List (Addr × Obj)} {σ : L2.St} {Q : VK} {u : Value} {s' : Shared} (h : EP X pins σ (fun v H' => ∃ z, v = .str z ∧ Q (.str z) H') u s') : PySem.W.StrBack (EP X pins σ Q) u s' := by
  obtain ⟨v, H', I', rv, z, rfl, q⟩ := h
  obtain ⟨t, rfl⟩ := rv
  exact ⟨.str z, H', I', ⟨t, rfl⟩, q⟩

theorem call_repr_own (o : OpOf X.K C "__repr__" f) (F : FnOk X.prog X.w X.K X.mg X.base CX k f fd ps sp) (hr : Room (k + 1) X.A) (hb : Binds X.K fd ps []) (hx : Passes CX X E) : CallR X (.builtin "repr") (rShow C sp E) := by
  intro pins s σ H vs us Q I r hq
  obtain ⟨a, dx, fs, rfl, ea, q⟩ := hq
  obtain ⟨u, rfl, ru⟩ := vals1 r
  cases ru
  obtain ⟨od, J⟩ := inst_of I ea
  obtain ⟨m, hF⟩ := I.fr
  exact PySem.W.repr_K hr.in1.units0 hF I.ok.mod.kin J o.at_ o.fn (wpAny_mono (run_in (vs := [.ref a]) F hr.in1 rfl hb hx I (.cons rfl .nil) q) (fun _ _ z => shown_back z) fun _ _ e => e)

theorem call_str_own (o : OpOf X.K C "__str__" f) (F : FnOk X.prog X.w X.K X.mg X.base CX k f fd ps sp) (hr : Room (k + 2) X.A) (hb : Binds X.K fd ps []) (hx : Passes CX X E) : CallR X (.type "str") (rShow C sp E) := by
  intro pins s σ H vs us Q I r hq
  obtain ⟨a, dx, fs, rfl, ea, q⟩ := hq
  obtain ⟨u, rfl, ru⟩ := vals1 r
  cases ru
  obtain ⟨od, J⟩ := inst_of I ea
  exact PySem.W.kso_call hr.in1.in1.units0 I.kIn J o.at_ o.fn (wpAny_mono (run_in (vs := [.ref a]) F hr.in1.in1 rfl hb hx I (.cons rfl .nil) q) (fun _ _ z => shown_back z) fun _ _ e => e)

/-- repr of data, where nothing is being shown -/
def rData (K : PySem.W.Frag) : List V → Hp → VK → Prop := fun vs H Q => ∃ a d, vs = [.ref a] ∧ Dp K H (.ref a) d ∧ d.showable = true ∧ d.hasDict = false ∧ d.depth ≤ 20 ∧ d.shown.length ≤ sizeLine ∧ Q (.str d.shown) H
theorem call_repr_data (hg : X.A.guards = some []) (hr : Room 0 X.A) : CallR X (.builtin "repr") (rData X.K) := by
  intro pins s σ H vs us Q I r hq
  obtain ⟨a, d, rfl, hd, hs, hn, hdp, hz, q⟩ := hq
  obtain ⟨u, rfl, ru⟩ := vals1 r
  obtain ⟨as, rd⟩ := Dp.reads I d _ _ hd ru
  cases ru
  have hu := hr.units
  exact repr_of_reads' rd hs (PyData.noDict_hsm hn) hg (by omega) (fun _ _ e => e) (fun h' u tk hk => ⟨.str d.shown, H, I.kept hk, ⟨u, rfl⟩, q⟩) hz
end
end Ow
/-! A promise of a def that is only called where nothing is being shown (no guard stands on the stack): FnG. -/
namespace Ow
open PySem PySem.Spec PyProof.Rows L2

structure FnG (P : Program) (w : World) (K : PySem.W.Frag) (mg : Str → Option Value) (base : Heap) (CX : CXT) (k : Nat) (f : Addr) (fd : FuncData) (ps : List Str) (sp : Sp) : Prop where
  len : ∀ vs H Q E, sp vs H Q E → vs.length = ps.length
  run : ∀ (A : Around) (out : List Env) (s : Shared) (H : Hp) (gs : Args) (us : List Value) (vs : List V) (Q : VK) (E : XK),
    Room k A → A.guards = some [] → Env0 P w K mg base A out s H → BindsTo s fd gs (ps.zip us) → Vals vs us → sp vs H Q E →
    codeAny (model P w) A (.call (.ref f) gs) (CR CX out P w H s Q E) s

section
variable {P : Program} {w : World} {K : PySem.W.Frag} {mg : Str → Option Value} {base : Heap} {CX : CXT} {k : Nat} {f : Addr} {fd : FuncData} {ps N : List Str} {sp : Sp}
variable {x qual : Str} {pa : Arguments} {bd : List Stmt} {sc : Scope} {dvs : List V} {kws : List (Str × V)}

theorem FnG.mono {j : Nat} (F : FnG P w K mg base CX j f fd ps sp) (h : j ≤ k) : FnG P w K mg base CX k f fd ps sp :=
  ⟨F.len, fun A out s H gs us vs Q E hr => F.run A out s H gs us vs Q E (hr.mono h)⟩

theorem guards_deeper (A : Around) (env : Env) : (A.deeper env).guards = A.guards := rfl

/-- the rule, as FunD.ok, the body run where no guard stands -/
theorem fnG_ok (F : FunD K x qual pa bd sc dvs kws f fd) (S : FnScope N ps sc) (len : ∀ vs H Q E, sp vs H Q E → vs.length = ps.length)
    (body : ∀ (cdv : Value) (A : Around) (out : List Env) (s : Shared) (H : Hp) (vs : List V) (Q : VK) (E : XK),
      Room k (A.deeper (envOfC qual sc s.heap.objs.size f cdv)) → (A.deeper (envOfC qual sc s.heap.objs.size f cdv)).guards = some [] → sp vs H Q E →
      ∃ t, PSs (cxOf CX P w K mg base N qual sc f cdv A out s H E) bd t ∧ t { nx := fun _ H' => Q .non H', rt := Q } (start N vs) H) :
    FnG P w K mg base CX (k + 1) f fd ps sp := by
  obtain ⟨oc, od, dV, kV, doc, pm, an, cdv, ct, osl, rfl, lk, hcd, _, _⟩ := F.ex
  refine ⟨len, fun A out s H gs us vs Q E hr hg e0 hb r hsp => ?_⟩
  have bs1 : ∀ b o, base.get? b = some o → s.heap.get? b = some o := fun b o e => (e0.bs b o e).1
  have kinds : ∀ q ∈ ps.zip us, sc.names.lookup q.1 = some .local ∨ (sc.names.lookup q.1 = some .cell ∧
      ((cellsFrom (s.heap.objs.size + 1) sc.names []).lookup q.1).isSome = true) := by
    rintro ⟨n, v⟩ hq
    cases S.par n (List.of_mem_zip hq).1 with
    | inl z => exact Or.inl z
    | inr z => exact Or.inr ⟨z, PySem.W.cellsFrom_some _ _ _ (Or.inl z)⟩
  refine codeAny_call_function hr.depth ((e0.mod.kin.keeps bs1) _ _ lk) rfl S.co S.gen rfl
    (PySem.W.codeRec_of (e0.mod.kin.keeps bs1) hcd) (hb _ _ _ _ (wpAny_newFunctionEnv_cells S.kind kinds fun env he t1 ent => ?_))
  cases he
  obtain ⟨t, ht, hq⟩ := body cdv A out s H vs Q E (hr.deeper _) hg hsp
  have I : Inv (cxOf CX P w K mg base N qual sc f cdv A out s H E) [] (start N vs) H t1 := inv_start S hr.hd e0 (len _ _ _ _ hsp) r ent
  refine ⟨(e0.mod.nolimit.keeps bs1).keeps ent.toInCall.keep, codeAny_func (wpAny_mono (ht.run [] t1 _ H _ I hq) (fun fl t2 got => ?_) fun _ _ z => z)⟩
  cases fl with
  | ret u =>
    obtain ⟨v, _, G, J, rv, q⟩ := got
    exact ⟨v, G, J.os, J.bare, J.base, J.hok, rv, q⟩
  | next =>
    obtain ⟨_, G, J, q⟩ := got
    exact ⟨V.non, G, J.os, J.bare, J.base, J.hok, rfl, q⟩
  | brk => exact got.elim fun _ z => z.elim fun _ z => z.2.elim
  | cont => exact got.elim fun _ z => z.elim fun _ z => z.2.elim

end

section
variable {X : Cx} {CX : CXT} {k : Nat} {f : Addr} {fd : FuncData} {ps : List Str} {sp : Sp} {E : XK} {x : Str} {p pos : Pos} {e : Expr} {es : List Expr} {t : TA}
theorem runG {pins : List (Addr × Obj)} {σ : L2.St} {H : Hp} {s : Shared} {Q : VK} {us : List Value} {vs : List V} (F : FnG X.prog X.w X.K X.mg X.base CX k f fd ps sp) (hr : Room k X.A) (hg : X.A.guards = some []) (hb : Binds X.K fd ps []) (hx : Passes CX X E)
    (I : Inv X pins σ H s) (r : Vals vs us) (h : sp vs H Q E) : wpAny (model X.prog X.w) X.A (call (.ref f) us) (EP X pins σ Q) X.xe s := by
  have hl : us.length = ps.length := by rw [← r.length]; exact F.len _ _ _ _ h
  have b := hb s us I.kIn (by rw [List.append_nil]; exact hl)
  rw [List.append_nil] at b
  refine wpAny_call (codeAny_mono (F.run X.A X.stack s H ⟨us, []⟩ us vs Q E hr hg I.env0 b r h) fun res s' hq => ?_)
  cases res with
  | error err => exact hx pins σ H s err s' I hq
  | ok fl => cases fl with
    | ret u => exact I.after hq
    | next => exact hq.elim
    | brk => exact hq.elim
    | cont => exact hq.elim

theorem pe_callG (F : FnG X.prog X.w X.K X.mg X.base CX k f fd ps sp) (hr : Room k X.A) (hgu : X.A.guards = some []) (hg : Gl X x) (hm : X.mg x = some (.ref f)) (hk : PySem.W.keepIn X.K (.ref f) = true) (hb : Binds X.K fd ps []) (hx : Passes CX X E)
    (ha : PA X (e :: es) t) (hdb : (x == ("__debug__" : Str)) = false := by decide) (he : starEach (e :: es) X.env = (false, eval e X.env) :: starEach es X.env := by rfl) (hpl : (backTo pos (starEach es X.env)).any (·.1) = false := by rfl) :
    PE X (.Call (.Name x p) (e :: es) [] pos) (tCall sp [] E t) := by
  refine ⟨fun pins s σ H Q I h => wpAny_Call_Name_kw (ld_glob I hg hm ?_ hdb)⟩
  refine PySem.W.callWith_K (h₀ := X.base) I.ok.mod.kin hk (thn (ha.run pos pins s σ H _ I h) fun us s1 got => ?_) he hpl
  obtain ⟨vs, H1, I1, r, q⟩ := got
  rw [List.append_nil] at q
  exact ⟨I1.kIn, runG F hr hgu hb hx I1 r q⟩
end

section
/-- the law's own call, by such a promise -/
theorem law_callG {P : Program} {w : World} {K : PySem.W.Frag} {mg mb : Str → Option Value} {CX : CXT} {k : Nat} {fa a : Addr} {fd : FuncData} {x : Str} {sp : Sp} {t0 : Shared} {us : List Value} {ns : List Int}
    (KX : K.In t0.heap) (hns : t0.heap.Ns mainGlobals mg) (hb : t0.heap.Ns builtinsNs mb) (hbb : ∀ x : Str, x ≠ "__name__" → mb x = bootBuiltins x) (hlim : t0.heap.NoLimit) (hgen : t0.gens = #[])
    (ha : t0.heap.get? a = some { cls := .type "list", data := .seq us.toArray }) (hi : IntsAre us ns) (hl : ns.length ≤ sizeLine) (hr : Room k callerA)
    (F : ∀ base : Heap, K.In base → base.Ns mainGlobals mg → FnG P w K mg base CX k fa fd [x] sp) (hbind : ∀ (s : Shared) (u : Value), BindsTo s fd ⟨[u], []⟩ [(x, u)])
    (hsp : ∀ H : Hp, Only H → SqL K H a (ns.map V.int) → sp [.ref a] H (fun v _ => v = .bl true) fun _ _ _ => False)
    (hCX : ∀ H e s', CX [] H t0 (fun _ _ _ => False) e s' → False) :
    codeAny (model P w) callerA (.call (.ref fa) ⟨[.ref a], []⟩) (fun r s' => r = .ok (.ret (.bool true)) ∧ OldK t0.heap s'.heap ∧ s'.os = t0.os ∧ AllBare s'.gens) t0 := by
  have vals := vals_ints hi
  suffices main : ∀ G : Hp, Only G → SqL K G a (ns.map V.int) → HOk P w G t0.heap → (∀ b, G b ≠ none → b = a) → (G a ≠ none → K.lookup a = none) →
      codeAny (model P w) callerA (.call (.ref fa) ⟨[.ref a], []⟩) (fun r s' => r = .ok (.ret (.bool true)) ∧ OldK t0.heap s'.heap ∧ s'.os = t0.os ∧ AllBare s'.gens) t0 by
    cases hk : K.lookup a with
    | some o =>
      have eo := KX a o hk
      rw [ha] at eo
      cases eo
      refine main (fun _ => none) (fun _ => Or.inl rfl) (Or.inr ⟨_, us.toArray, _, hk, rfl, rfl, rfl, ?_, ?_⟩) (fun _ _ z => nomatch z) (fun _ z => absurd rfl z) (fun z => absurd rfl z)
      · rw [List.size_toArray, hi.length]; exact hl
      · simpa using vals
    | none =>
      have there : ∀ b : Addr, b = a → (fun b => if b = a then some (HO.frz { cls := .type "list", data := .seq us.toArray } (.lst (ns.map V.int))) else none) b = some (HO.frz { cls := .type "list", data := .seq us.toArray } (.lst (ns.map V.int))) := fun b e => if_pos e
      have away : ∀ b : Addr, b ≠ a → (fun b => if b = a then some (HO.frz { cls := .type "list", data := .seq us.toArray } (.lst (ns.map V.int))) else none) b = none := fun b e => if_neg e
      refine main (fun b => if b = a then some (HO.frz { cls := .type "list", data := .seq us.toArray } (.lst (ns.map V.int))) else none) (fun b => ?_) (Or.inl (Or.inr ⟨_, there a rfl⟩)) (fun b u z => ?_) (fun b z => ?_) fun _ => hk
      · exact (Classical.em (b = a)).elim (fun e => Or.inr ⟨_, _, there b e⟩) fun e => Or.inl (away b e)
      · cases Classical.em (b = a) with
        | inl e =>
          have z' := (there b e).symm.trans z
          cases z'
          subst e
          exact ⟨ha, by rw [List.length_map]; exact hl, us, _, vals, ha⟩
        | inr e => exact nomatch (away b e).symm.trans z
      · exact Classical.byContradiction fun e => z (away b e)
  intro G hO hS hok hA hK
  have free : ∀ {b : Addr} {o : Obj}, t0.heap.get? b = some o → (∀ es ep, o.data = .dict es ep → G b = none) := fun {b o} e es ep d => by
    cases q : G b with
    | none => rfl
    | some u =>
      cases hA b (by rw [q]; exact nofun)
      rw [ha] at e
      cases e
      exact nomatch (d : Data.seq us.toArray _ = Data.dict es ep)
  have spaces : ∀ {b : Addr} {m : Str → Option Value}, t0.heap.Ns b m → (hidT t0.heap G).Ns b m := fun {b m} h => by
    obtain ⟨o, es, ep, e, d, r⟩ := h
    exact ⟨o, es, ep, hidT_get e (free e es ep d), d, r⟩
  have KB : K.In (hidT t0.heap G) := fun b o e => hidT_get (KX b o e) (by
    cases q : G b with
    | none => rfl
    | some u =>
      cases hA b (by rw [q]; exact nofun)
      rw [hK (by rw [q]; exact nofun)] at e
      exact nomatch e)
  have e0 : Env0 P w K mg (hidT t0.heap G) callerA [] t0 G := by
    refine ⟨rfl, ⟨KB, spaces hns, ⟨mb, spaces hb, hbb⟩, ?_⟩, fun _ _ e => of_hidT e, Nat.le_of_eq (hidT_size _ _), trivial, fun b z => absurd (show b ∈ ([] : List Addr) from z) List.not_mem_nil, hok, .of_eq hgen⟩
    obtain ⟨mc, h1, h2⟩ := hlim
    exact ⟨mc, spaces h1, h2⟩
  refine codeAny_mono ((F _ KB (spaces hns)).run callerA [] t0 G ⟨[.ref a], []⟩ [.ref a] [.ref a] _ _ hr rfl e0 (hbind t0 (.ref a)) (.cons rfl .nil) (hsp G hO hS)) fun res s' h => ?_
  cases res with
  | error err => exact (hCX G err s' h).elim
  | ok fl => cases fl with
    | next => exact h.elim
    | brk => exact h.elim
    | cont => exact h.elim
    | ret u =>
      obtain ⟨v, G', os, bare, un, hok', rv, q⟩ := h
      cases (show v = .bl true from q)
      cases (show u = Value.bool true from rv)
      refine ⟨rfl, OldK.of_keep fun b o e => ?_, os, bare⟩
      cases hO b with
      | inl n => exact un.keep b o e n (fun z => absurd (show b ∈ ([] : List Addr) from z) List.not_mem_nil) List.not_mem_nil
      | inr z =>
        obtain ⟨ob, xs, z⟩ := z
        have k1 := (hok b _ z).1
        rw [e] at k1
        cases k1
        exact (hok' b _ (un.frzs b _ _ z)).1

theorem walk_ofG {l : PySem.W.OpenLaw} {n k : Nat} {q : Program} {loose : List Str} {XP : (Str → Option Value) → Heap → Prop} {YP : World → Heap → Prop} {d : DefRec} {CX : CXT} {x : Str}
    (hn : l.most = some n) (hn2 : n ≤ sizeLine) (hdf : d.params.defaults = []) (hr : Room k callerA)
    (F : ∀ (w : World) (mg : Str → Option Value) (fa : Addr) (h : Heap), YP w h → h.Ns mainGlobals mg → mg d.name = some (.ref fa) →
      ∃ (K : PySem.W.Frag) (fd : FuncData) (sp : Sp), K.In h ∧ (∀ (s : Shared) (u : Value), BindsTo s fd ⟨[u], []⟩ [(x, u)]) ∧
        (∀ (H : Hp) (a : Addr) (ns : List Int), ns.length ≤ n → Only H → SqL K H a (ns.map V.int) → sp [.ref a] H (fun v _ => v = .bl true) fun _ _ _ => False) ∧
        ∀ base : Heap, K.In base → base.Ns mainGlobals mg → FnG l.prog w K mg base CX k fa fd [x] sp)
    (hCX : ∀ (H : Hp) (s : Shared) (e : Value) (s' : Shared), CX [] H s (fun _ _ _ => False) e s' → False) :
    PySem.W.WalkO q loose XP YP l.row.toRowW d [] (fun f vs => PySem.call f vs) := by
  refine Att.attach_call hn hdf fun w t t0 mg mb fa o pm cd doc a us ns T Y _ _ _ hmg hobj hints hlen hgen => ?_
  obtain ⟨K, fd, sp, KX, hb, hsp, hF⟩ := F w mg fa _ Y T.T.g hmg
  exact law_callG KX T.T.g T.T.b T.T.builtins T.T.nolimit hgen hobj hints (Nat.le_trans hlen hn2) hr hF hb (fun H hO hS => hsp H a ns hlen hO hS) fun H e s' => hCX H t0 e s'
end
end Ow
/-! enumerate of a tuple. -/
namespace Ow
open PySem PySem.Spec PyProof.Rows L2

theorem newE (t : Addr) (its : Array Value) :
    Meets (Builtin.«enumerate.__new__» ⟨[.type "enumerate", .ref t], []⟩) (fun _ R s => s.heap.IsTuple t its ∧
      R (.ok (.ret (.ref (s.heap.push ⟨.type "tuple_iterator", none, .fields #[.ref t, .int 0 0], #[]⟩).objs.size)))
        { s with heap := (s.heap.push ⟨.type "tuple_iterator", none, .fields #[.ref t, .int 0 0], #[]⟩).push ⟨.type "enumerate", none, .fields #[.none, .bool false, .ref s.heap.objs.size, rawInt 0, .none, .none], #[]⟩ }) :=
  .of_wp fun prog w A R s h => by
    obtain ⟨hp, g, d, tk, os⟩ := s
    obtain ⟨h1, h⟩ := h
    have hsub := sub_enumerate
    have q1 : ∀ {B : Around} {E : Value → Shared → Prop} {Q : Value → Shared → Prop}, Q (.ref hp.objs.size) ⟨hp.push ⟨.type "tuple_iterator", none, .fields #[.ref t, .int 0 0], #[]⟩, g, d, tk, os⟩ → wpAny (model prog w) B (pyIter (.ref t)) Q E ⟨hp, g, d, tk, os⟩ :=
      fun q => (begins_tuple t its).iter prog w _ _ ⟨hp, g, d, tk, os⟩ _ h1 q
    wp_walk using q1
    refine wpAny_stack_any fun st => wpAny_pure ?_
    split
    · rename_i c _ _ _ _ _
      cases (c == Value.type "enumerate") <;> (wp_walk using q1; exact ⟨_, rfl, h⟩)
    · wp_walk using q1
      exact ⟨_, rfl, h⟩

section
variable {prog : Program} {w : World} {A : Around} {E : Value → Shared → Prop} {s : Shared}
theorem call_enumT {t : Addr} {its : Array Value} {Q : Value → Shared → Prop} (ht : s.heap.IsTuple t its)
    (h : ∀ h', IsEnum h' (s.heap.objs.size + 1) s.heap.objs.size 0 .none → h'.IsTupleIter s.heap.objs.size t 0 → h'.objs.size = s.heap.objs.size + 2 →
      (∀ b o, s.heap.get? b = some o → h'.get? b = some o) → Q (.ref (s.heap.objs.size + 1)) { s with heap := h' }) :
    wpAny (model prog w) A (call (.type "enumerate") [.ref t]) Q E s := by
  refine callType_new F.called_enumerate (by decide) (F.typeCall_enumerate_1 _) (F.newCall_enumerate_1 _) (fun obj => F.args_object_init_2 obj _) F.entry_enumerate_new (newE t its) ⟨ht, ?_⟩
  generalize e1 : (⟨.type "tuple_iterator", none, .fields #[.ref t, .int 0 0], #[]⟩ : Obj) = o1
  generalize e2 : (⟨.type "enumerate", none, .fields #[.none, .bool false, .ref s.heap.objs.size, rawInt 0, .none, .none], #[]⟩ : Obj) = o2
  have f1 : o1.isFreed = false := by rw [← e1]; rfl
  have f2 : o2.isFreed = false := by rw [← e2]; rfl
  have hz : (s.heap.push o1).objs.size = s.heap.objs.size + 1 := Heap.size_push ..
  have g2 : ((s.heap.push o1).push o2).get? (s.heap.objs.size + 1) = some o2 := by
    have z := Heap.get?_push_size (s.heap.push o1) f2
    rw [hz] at z
    exact z
  have g1 : ((s.heap.push o1).push o2).get? s.heap.objs.size = some o1 := Heap.get?_push_of_some _ (Heap.get?_push_size _ f1)
  show _ ∧ _
  rw [hz]
  refine ⟨⟨_, g2, by rw [← e2]⟩, h _ (by rw [← e2] at g2 ⊢; exact g2) ⟨o1, g1, by rw [← e1], by rw [← e1]; rfl⟩ (by rw [Heap.size_push, hz]) fun b o x => Heap.get?_push_of_some _ (Heap.get?_push_of_some _ x)⟩
end

/-- the tuple at a, each item with its place in a new pair -/
def IteT (K : PySem.W.Frag) (a : Addr) : It :=
  ⟨fun i H => ∃ (xs : List V) (x : V), SqT K H a xs ∧ xs[i]? = some x, fun i H v H' => ∃ T x, v = .ref T ∧ H T = none ∧ H' = upd H T (.tup [.int (i : Nat), x]) ∧ ∀ xs, SqT K H a xs → xs[i]? = some x, fun i H => ∃ xs : List V, SqT K H a xs ∧ xs.length = i⟩
theorem turn_enumT {P : Program} {w : World} {K : PySem.W.Frag} {elts : List Expr} {kk : Nat} {tpos : Pos} (a e it : Addr) :
    Turn P w K (.Tuple elts kk tpos) (IteT K a) [e, it] e (fun i h => (∃ old, IsEnum h e it ((i : Nat) : Int) old) ∧ h.IsTupleIter it a i ∧ e ≠ it ∧ a ≠ it ∧ e ≠ a) where
  mem := by simp
  obj := fun i h st b hb => by
    obtain ⟨⟨old, he⟩, ⟨o, ho, hc, hd⟩, _⟩ := st
    rcases (by simpa using hb : b = e ∨ b = it) with rfl | rfl
    · exact ⟨_, he, fun v q => nomatch q⟩
    · exact ⟨o, ho, fun v q => by rw [hd] at q; cases q⟩
  keep := fun i h h' st k => by
    obtain ⟨⟨old, he⟩, hi, hne⟩ := st
    exact ⟨⟨old, k e (by simp) _ he⟩, hi.at fun o q => k it (by simp) o q, hne⟩
  item := by
    intro X hP hw hK hc i pins s σ H E I hf st hg
    subst hP hw hK
    obtain ⟨⟨old, he⟩, hit, hne, na, nea⟩ := st
    obtain ⟨xs, x, hq, hx⟩ := hg
    obtain ⟨its, rv, p, hz⟩ := I.tuple hq
    obtain ⟨u, hu, ru⟩ := rv.get hx
    have hel : e < s.heap.objs.size := Heap.lt_size he
    have hil : it < s.heap.objs.size := by obtain ⟨_, q, _⟩ := hit; exact Heap.lt_size q
    have hlt : i < its.toArray.size := by simpa using (List.getElem?_eq_some_iff.mp hu).1
    have DD := Draws.tuple (prog := X.prog) (w := X.w) (A := X.A.in1) (show X.A.in1.handled = none from I.ok.hd hc) it a na its.toArray
    refine wpAny_pyNext_enum_itemD DD he ⟨hit, p⟩ hlt hne (by simp [hne, nea]) fun y h' tk hy ho hst hT hsz hk => ?_
    have ey : y = u := by
      have : its.toArray[i]? = some u := by simpa using hu
      rw [this] at hy
      exact (Option.some.inj hy).symm
    subst ey
    refine ⟨_, rfl, wpAny_letOwnedTupleGo_enum (s := { s with heap := h', toks := tk + 1 }) ho fun h'' he' sb => ?_⟩
    have hT2 : h''.get? s.heap.objs.size = some { cls := .type "tuple", data := .seq #[.int i tk, y] } := (sb.2 _ (Nat.ne_of_gt hel)).trans hT
    have new : ObjOk X.prog X.w (upd H s.heap.objs.size (.tup [.int (i : Nat), x])) h'' s.heap.objs.size (.tup [.int (i : Nat), x]) :=
      ⟨by show 2 ≤ sizeLine; decide, [.int i tk, y], .cons ⟨_, rfl⟩ (.cons ru .nil), ⟨_, hT2, rfl, _, rfl⟩⟩
    have I1 : Inv X pins σ (upd H s.heap.objs.size (.tup [.int (i : Nat), x])) { s with heap := h'', toks := tk + 1 } :=
      I.turnedNew (ch := [e, it]) (fun b ob hb q => (sb.2 b (fun z => hb (by simp [z]))).trans (hk b ob (fun z => hb (by simp [z])) (fun z => hb (by simp [z])) q)) hf (Nat.le_refl _) new
    refine ⟨.ref s.heap.objs.size, _, I1, rfl, ⟨_, x, rfl, I.hok.fresh (Nat.le_refl _), rfl, fun ys hy => by rw [I.tuple_inj hy hq]; exact hx⟩, ⟨⟨y, ?_⟩, hst.1.at fun o q => (sb.2 it (Ne.symm hne)).trans q, hne, na, nea⟩, fun b hb => ?_⟩
    · rw [show ((i + 1 : Nat) : Int) = (i : Int) + 1 by omega]
      exact he'
    · have hb' : b < s.heap.objs.size := by
        rcases (by simpa using hb : b = e ∨ b = it) with rfl | rfl
        · exact hel
        · exact hil
      rw [upd_ne (Nat.ne_of_lt hb')]
      exact (hf b hb).1
  done := by
    intro X hP hw hK hc i pins s σ H E I hf st hg
    subst hP hw hK
    obtain ⟨⟨old, he⟩, hit, hne, na, nea⟩ := st
    obtain ⟨xs, hq, hx⟩ := hg
    obtain ⟨its, rv, p, hz⟩ := I.tuple hq
    obtain ⟨f0, f1, f2, f3, f4, f5⟩ := hf it (by simp)
    have hl := rv.length
    have hn : its.toArray.size = i := by rw [List.size_toArray, ← hl]; exact hx
    have DD := Draws.tuple (prog := X.prog) (w := X.w) (A := X.A.in1) (show X.A.in1.handled = none from I.ok.hd hc) it a na its.toArray
    exact wpAny_pyNext_enum_endD DD he ⟨by rw [hn]; exact hit, p⟩ fun h' eb => ⟨rfl, I.turned (t' := s.toks) (fun b o hb q => eb b o hb q) f0 f1 f3 f4 f5⟩
  self := fun A i s Q E st h => by
    obtain ⟨⟨_, he⟩, _⟩ := st
    exact wpAny_pyIter_enum he h
def iEnumT (K : PySem.W.Frag) (ta : TA) : TI := fun σ H R => ta σ H fun vs H1 => ∃ a xs, vs = [.ref a] ∧ SqT K H1 a xs ∧ R (IteT K a) H1
theorem pi_enumT {X : Cx} {e : Expr} {ta : TA} {p pos tpos : Pos} {elts : List Expr} {kk : Nat} (hg : Gl X "enumerate") (hm : X.mg "enumerate" = none) (ha : PA X [e] ta) (hs : starEach [e] X.env = [(false, eval e X.env)] := by rfl) :
    PI X (.Tuple elts kk tpos) (.Call (.Name "enumerate" p) [e] [] pos) (iEnumT X.K ta) := by
  refine ⟨fun pins s σ H R I h => ?_⟩
  refine Call_ (ld_blt I hg hm boot_enumerate (PyProof.Rows.callWith_type1 (thn (ha.run pos pins s σ H _ I h) fun us s1 got => ?_) hs rfl))
  obtain ⟨vs, H1, I1, r1, a, xs, rfl, hq, q⟩ := got
  obtain ⟨u, rfl, ru⟩ := vals1 r1
  cases ru
  obtain ⟨its, rv, p', hz⟩ := I1.tuple hq
  obtain ⟨oa, hoa, _⟩ := id p'
  have hal : a < s1.heap.objs.size := Heap.lt_size hoa
  refine call_enumT (show s1.heap.IsTuple a its.toArray from p') fun h' he hit hsz hk => wpAny_pyIter_enum he ?_
  have I2 : Inv X pins σ H1 { s1 with heap := h' } := I1.kept (t' := s1.toks) hk
  refine ⟨s1.heap.objs.size + 1, [s1.heap.objs.size + 1, s1.heap.objs.size], _, _, H1, rfl, I2, turn_enumT a (s1.heap.objs.size + 1) s1.heap.objs.size, ⟨⟨.none, he⟩, hit, Nat.succ_ne_self _, Nat.ne_of_lt hal, Nat.ne_of_gt (Nat.lt_succ_of_lt hal)⟩, fun b hb => ?_, q⟩
  have hle : s1.heap.objs.size ≤ b := by
    rcases (by simpa using hb : b = s1.heap.objs.size + 1 ∨ b = s1.heap.objs.size) with rfl | rfl
    · exact Nat.le_add_right _ _
    · exact Nat.le_refl _
  exact I1.fpOk hle (I1.hok.fresh hle)
theorem walk_enumT {K : PySem.W.Frag} {a : Addr} {xs : List V} : Walk (IteT K a) xs.length (fun H => SqT K H a xs) (YPair (fun i => some (.int (i : Nat))) (fun i => xs[i]?)) := by
  refine ⟨fun i H hi q => ⟨xs, xs[i], q, List.getElem?_eq_getElem hi⟩, fun H q => ⟨xs, q, rfl⟩, fun i H v H' hi q y => ?_⟩
  obtain ⟨T, x, h1, h2, h3, h4⟩ := y
  exact ⟨T, .int (i : Nat), x, h1, h2, h3, rfl, h4 xs q⟩
end Ow
/-! == of an instance of an own class with whatever else. -/
namespace Ow
open PySem PySem.Spec PyProof.Rows L2
section
variable {X : Cx} {CX : CXT} {k : Nat} {C f : Addr} {fd : FuncData} {ps : List Str} {sp : Sp} {E : XK}
/-- x == y, x an instance of C with its own ==, y of a type t that is no subclass of it -/
def rEqI (K : PySem.W.Frag) (C : Addr) (sp : Sp) (E : XK) : R2 := fun x y H Q => ∃ a dx fs t, x = .ref a ∧ H a = some (.ins C dx fs) ∧ TyX K H y t ∧ PySem.W.notFirst K C t = true ∧ sp [.ref a, y] H Q E
theorem op_eqI (o : OpOf X.K C "__eq__" f) (F : FnOk X.prog X.w X.K X.mg X.base CX k f fd ps sp) (hr : Room k X.A) (hb : Binds X.K fd ps []) (hx : Passes CX X E) : OpR X (compareOp .Eq) (rEqI X.K C sp E) := by
  intro pins s σ H x y u v Q I rx ry hq
  obtain ⟨a, dx, fs, t, rfl, ea, ty, hn, q⟩ := hq
  cases rx
  obtain ⟨od, J⟩ := inst_of I ea
  obtain ⟨m, hF⟩ := I.fr
  obtain ⟨P, kx, hp, _⟩ := kit_of I ry ty
  exact PySem.W.cmp_ofEq (PySem.W.cmp_K (op := .Eq) hr.units0 hF I.ok.mod.kin J (kx.ty _ _ I.kIn hp) hn o.at_ o.fn (run_back (vs := [.ref a, y]) F hr hb hx I (.cons rfl (.cons ry .nil)) q))
end
end Ow
namespace Ow
open PySem PySem.Spec PyProof.Rows L2
section
variable {prog : Program} {w : World} {A : Around} {E : Value → Shared → Prop} {s : Shared} {K : PySem.W.Frag} {x C f : Addr} {ox : Obj} {od : Option Obj}
open PySem.W in
/-- a built-in on the left declines, the instance's own == decides -/
theorem eq_right {T id : String} {v : Value} {Q : Value → Shared → Prop} (hu : A.units < cLine) (X : K.In s.heap) (I : InstAt s.heap x ox C od) (hv : s.TypeIs v T) (hone : oneThing? .Eq v (.ref x) = none)
    (hsub : subIn K (.ref C) (.type T) = some false) (slot : Slot T "__eq__" id) (hd : wpAny (model prog w) A (call (.builtin id) [v, .ref x]) (fun r s' => r = .notImplemented ∧ s' = s) E s)
    (hs : findIn K (.ref C) "__eq__" = some (some (.ref f))) (hf : isFn K (.ref f) = true) (h : wpAny (model prog w) A (call (.ref f) [.ref x, v]) (PySem.W.CmpBack Q) E s) : wpAny (model prog w) A (richCompare .Eq v (.ref x)) Q E s := by
  have one : wpAny (model prog w) A (tryCompare (.ref x) (cmpInfo .Eq).2.2 v) (fun r s' => ∃ y, r = some y ∧ Q y s') E s := by
    unfold tryCompare
    refine wpAny_bind (ifBound_K X I hs hf (wpAny_mono h (fun y s' hy => ?_) fun _ _ e => e))
    cases y <;> first | exact hy.elim | exact wpAny_pure ⟨_, rfl, hy⟩
  unfold richCompare
  simp only [hone]
  refine wpAny_holding (wpAny_bind (wpAny_cRoomFor hu ?_))
  refine wpAny_bind (wpAny_typeOf hv (wpAny_bind (I.type.here ?_)))
  have ne : (Value.type T != Value.ref C) = true := rfl
  rw [if_pos ne]
  refine wpAny_bind ((looks_subIn X hsub).here ?_)
  simp only [Bool.false_eq_true, if_false]
  refine wpAny_bind (wpAny_tryCompare_declines hv slot (wpAny_mono hd (fun r s' q => ⟨q.1, ?_⟩) fun _ _ e => e))
  obtain ⟨_, rfl⟩ := q
  simp only [Bool.not_false, if_true]
  refine wpAny_bind (wpAny_mono one (fun r s' z => ?_) fun _ _ e => e)
  obtain ⟨y, rfl, hq⟩ := z
  exact wpAny_pure hq
end
end Ow
namespace Ow
open PySem PySem.Spec PyProof.Rows L2
open Builtin
theorem int_eq_ref (C dx : Addr) (a : Int) (t : Tok) (l : Addr) :
    Meets (Builtin.«int.__eq__» ⟨[.int a t, .ref l], []⟩) (fun _ R s => s.heap.get? l = some (PySem.W.instObj C dx) ∧ R (.ok (.ret Value.notImplemented)) s) :=
  .of_wp fun prog w A R s h => by obtain ⟨hp, g, d, tk, os⟩ := s; obtain ⟨hl, h⟩ := h; wp_walk; exact ⟨_, rfl, h⟩
theorem str_eq_ref (C dx : Addr) (a : Str) (t : Tok) (l : Addr) :
    Meets (Builtin.«str.__eq__» ⟨[.str a t, .ref l], []⟩) (fun _ R s => s.heap.get? l = some (PySem.W.instObj C dx) ∧ R (.ok (.ret Value.notImplemented)) s) :=
  .of_wp fun prog w A R s h => by obtain ⟨hp, g, d, tk, os⟩ := s; obtain ⟨hl, h⟩ := h; wp_walk; exact ⟨_, rfl, h⟩
section
variable {X : Cx} {CX : CXT} {k : Nat} {C f : Addr} {fd : FuncData} {ps : List Str} {sp : Sp} {E : XK}
/-- i == x, x an instance with its own == -/
def rEqIr (C : Addr) (sp : Sp) (E : XK) : R2 := fun v y H Q => ∃ a dx fs i, v = .int i ∧ y = .ref a ∧ H a = some (.ins C dx fs) ∧ sp [.ref a, .int i] H Q E
def rEqSr (C : Addr) (sp : Sp) (E : XK) : R2 := fun v y H Q => ∃ a dx fs z, v = .str z ∧ y = .ref a ∧ H a = some (.ins C dx fs) ∧ sp [.ref a, .str z] H Q E
theorem op_eqIr (o : OpOf X.K C "__eq__" f) (hsub : PySem.W.subIn X.K (.ref C) (.type "int") = some false) (F : FnOk X.prog X.w X.K X.mg X.base CX k f fd ps sp) (hr : Room k X.A) (hb : Binds X.K fd ps []) (hx : Passes CX X E) : OpR X (compareOp .Eq) (rEqIr C sp E) := by
  intro pins s σ H v y u w_ Q I rx ry hq
  obtain ⟨a, dx, fs, i, rfl, rfl, ea, q⟩ := hq
  obtain ⟨t, rfl⟩ := rx
  cases ry
  obtain ⟨od, J⟩ := inst_of I ea
  obtain ⟨mA, O, _⟩ := ins_get I.hok ea
  exact PySem.W.cmp_ofEq (eq_right hr.units0 I.kIn J (typeIs_int s i t) rfl hsub PySem.F.slot_int_eq
    (call_meets PySem.F.slot_int_eq (typeIs_int s i t) PySem.F.entry_int_eq (PySem.F.args_int_eq_2 _ _) (int_eq_ref C dx i t a) ⟨O.obj, rfl, rfl⟩)
    o.at_ o.fn (run_back (vs := [.ref a, .int i]) F hr hb hx I (.cons rfl (.cons ⟨t, rfl⟩ .nil)) q))
theorem op_eqSr (o : OpOf X.K C "__eq__" f) (hsub : PySem.W.subIn X.K (.ref C) (.type "str") = some false) (F : FnOk X.prog X.w X.K X.mg X.base CX k f fd ps sp) (hr : Room k X.A) (hb : Binds X.K fd ps []) (hx : Passes CX X E) : OpR X (compareOp .Eq) (rEqSr C sp E) := by
  intro pins s σ H v y u w_ Q I rx ry hq
  obtain ⟨a, dx, fs, z, rfl, rfl, ea, q⟩ := hq
  obtain ⟨t, rfl⟩ := rx
  cases ry
  obtain ⟨od, J⟩ := inst_of I ea
  obtain ⟨mA, O, _⟩ := ins_get I.hok ea
  exact PySem.W.cmp_ofEq (eq_right hr.units0 I.kIn J (typeIs_str s z t) rfl hsub PySem.F.slot_str_eq
    (call_meets PySem.F.slot_str_eq (typeIs_str s z t) PySem.F.entry_str_eq (PySem.F.args_str_eq_2 _ _) (str_eq_ref C dx z t a) ⟨O.obj, rfl, rfl⟩)
    o.at_ o.fn (run_back (vs := [.ref a, .str z]) F hr hb hx I (.cons rfl (.cons ⟨t, rfl⟩ .nil)) q))
end
end Ow
/-! built-ins on the left of ==, an instance on the right: they decline. -/
namespace Ow
open PySem PySem.Spec PyProof.Rows L2
open Builtin
theorem bool_eq_ref (C dx : Addr) (b : Bool) (l : Addr) :
    Meets (Builtin.«int.__eq__» ⟨[.bool b, .ref l], []⟩) (fun _ R s => s.heap.get? l = some (PySem.W.instObj C dx) ∧ R (.ok (.ret Value.notImplemented)) s) :=
  .of_wp fun prog w A R s h => by obtain ⟨hp, g, d, tk, os⟩ := s; obtain ⟨hl, h⟩ := h; wp_walk; exact ⟨_, rfl, h⟩
theorem non_eq_ref (C dx : Addr) (l : Addr) :
    Meets (Builtin.«NoneType.__eq__» ⟨[.none, .ref l], []⟩) (fun _ R s => s.heap.get? l = some (PySem.W.instObj C dx) ∧ R (.ok (.ret Value.notImplemented)) s) :=
  .of_wp fun prog w A R s h => by obtain ⟨hp, g, d, tk, os⟩ := s; obtain ⟨hl, h⟩ := h; wp_walk; exact ⟨_, rfl, h⟩
end Ow
/-! != of an instance whose class has an own == and no own !=. -/
namespace Ow
open PySem PySem.Spec PyProof.Rows L2
open Builtin
section
variable {prog : Program} {w : World} {A : Around} {E : Value → Shared → Prop} {s : Shared} {K : PySem.W.Frag} {x C f : Addr} {ox : Obj} {od : Option Obj} {y : Value}
open PySem.W in
theorem check_ne (X : K.In s.heap) (I : InstAt s.heap x ox C od) (hm : mroIn K C (.type "object") = some true) {Q : Unit → Shared → Prop} (q : Q () s) :
    wpAny (model prog w) A (checkBuiltinCall "object.__ne__" ⟨[.ref x, y], []⟩) Q E s := by
  simp only [checkBuiltinCall, F.cmpKind_ne, F.cmpSplit_ne]
  refine wpAny_bind ?_
  unfold isInstance
  refine wpAny_bind (I.type.here ?_)
  refine (looks_mroIn X hm).here ?_
  simp only [Bool.not_true, Bool.false_eq_true, if_false]
  exact wpAny_of_eq (F.cmpArgs_ne (.ref x) y) q
open PySem.W in
theorem body_ne (hu : A.units < cLine) (X : K.In s.heap) (I : InstAt s.heap x ox C od) (hs : findIn K (.ref C) "__eq__" = some (some (.ref f))) (hf : isFn K (.ref f) = true) {Q : Fin → Shared → Prop}
    (h : wpAny (model prog w) A (call (.ref f) [.ref x, y]) (fun v s' => ∃ b, v = .bool b ∧ Q (.done (.ret (.bool (!b)))) s') E s) :
    wpAny (model prog w) A (Builtin.«object.__ne__» ⟨[.ref x, y], []⟩) Q E s := by
  unfold Builtin.«object.__ne__»
  repeat (first
    | with_reducible refine wpAny_cRoomFor hu ?_
    | (refine wpAny_bind (m := callSpecialIfBound? (.ref x) (Str.ofString "__eq__") [y]) (ifBound_K X I hs hf (wpAny_mono h (fun r s' hr => by
        obtain ⟨b, rfl, hq⟩ := hr
        repeat (first | exact hq | exact wpAny_pure hq | exact wpAny_truthy_bool hq | (refine wpAny_bind (m := truthy (.bool _)) (wpAny_truthy_bool ?_)) | wp_step)) fun _ _ e => e)))
    | wp_step)
open PySem.W in
theorem ifBound_ne {M : Model} {Q : Option Value → Shared → Prop} (X : K.In s.heap) (I : InstAt s.heap x ox C od) (hne : findIn K (.ref C) "__ne__" = some (some (.builtin "object.__ne__")))
    (h : wpAny M A (call (.builtin "object.__ne__") [.ref x, y]) (fun v => Q (some v)) E s) : wpAny M A (callSpecialIfBound? (.ref x) "__ne__" [y]) Q E s := by
  simp only [callSpecialIfBound?, bindSpecialIfBound?]
  refine wpAny_holding (wpAny_bind (wpAny_bind (wpAny_bind (I.type.here ((looks_findIn X hne).here ?_)))))
  simp only [F.cmp_object.ne.bind]
  refine wpAny_bind (wpAny_askSetting (wpAny_ite ?_))
  have fin : wpAny M A (call (.builtin "object.__ne__") ([.ref x] ++ [y]) >>= fun v => pure (some v)) Q E s := wpAny_bind (wpAny_mono h (fun v s' q => wpAny_pure q) fun _ _ e => e)
  split
  · exact wpAny_bind (wpAny_pure (wpAny_pure fin))
  · exact wpAny_tryCatch (wpAny_bind (wpAny_pure (wpAny_pure fin)))
open PySem.W in
theorem rc_ne (hu : A.units + 1 < cLine) {tb : Value} (X : K.In s.heap) (I : InstAt s.heap x ox C od) (hb : Looks (model prog w) s.heap (typeOf y) tb) (hn : notFirst K C tb = true) (hm : mroIn K C (.type "object") = some true)
    (hne : findIn K (.ref C) "__ne__" = some (some (.builtin "object.__ne__"))) (hs : findIn K (.ref C) "__eq__" = some (some (.ref f))) (hf : isFn K (.ref f) = true) {Q : Value → Shared → Prop}
    (h : wpAny (model prog w) A.in1 (call (.ref f) [.ref x, y]) (fun v s' => ∃ b, v = .bool b ∧ Q (.bool (!b)) s') E s) : wpAny (model prog w) A (richCompare .NotEq (.ref x) y) Q E s := by
  have go : wpAny (model prog w) A (call (.builtin "object.__ne__") [.ref x, y]) (fun v s' => ∃ b, v = .bool b ∧ Q (.bool b) s') E s := by
    refine wpAny_call (codeAny_call_builtin F.cmp_object.ne.plain F.cmpEntry_ne (check_ne X I hm (body_ne (A := A.in1) hu X I hs hf (wpAny_mono h (fun v s' hv => ?_) fun _ _ e => e))))
    obtain ⟨b, rfl, hq⟩ := hv
    exact ⟨b, rfl, _, rfl, hq⟩
  have one : wpAny (model prog w) A (tryCompare (.ref x) (cmpInfo .NotEq).2.1 y) (fun r s' => ∃ v, r = some v ∧ Q v s') E s := by
    unfold tryCompare
    refine wpAny_bind (ifBound_ne X I hne (wpAny_mono go (fun v s' q => ?_) fun _ _ e => e))
    obtain ⟨b, rfl, hq⟩ := q
    exact wpAny_pure ⟨_, rfl, hq⟩
  have ends : ∀ next : Option Value → Sem Value, (∀ v s', Q v s' → wpAny (model prog w) A (next (some v)) Q E s') → wpAny (model prog w) A (tryCompare (.ref x) (cmpInfo .NotEq).2.1 y >>= next) Q E s :=
    fun next hk => wpAny_bind (wpAny_mono one (fun r s' z => z.elim fun v zv => zv.1 ▸ hk v s' zv.2) fun _ _ e => e)
  unfold richCompare
  simp only [oneThing_ref]
  refine wpAny_holding (wpAny_bind (wpAny_cRoomFor (Nat.lt_of_succ_lt hu) (wpAny_bind (I.type.here (wpAny_bind (hb.here ?_))))))
  by_cases same : tb = .ref C
  · rw [if_neg (by rw [same]; simp)]
    exact wpAny_bind (wpAny_pure (ends _ fun v s' hq => wpAny_pure hq))
  · have esub : subIn K tb (.ref C) = some false := by
      have y := hn
      unfold notFirst at y
      rw [beq_false_of_ne same, Bool.false_or] at y
      exact beq_iff_eq.mp y
    rw [if_pos (by simpa using fun z : Value.ref C = tb => same z.symm)]
    exact wpAny_bind ((looks_subIn X esub).here (ends _ fun v s' hq => wpAny_pure hq))
end
section
variable {X : Cx} {CX : CXT} {k : Nat} {C f : Addr} {fd : FuncData} {ps : List Str} {sp : Sp} {E : XK}
/-- x != y, x an instance of C with its own ==, which tells a truth -/
def rNeI (K : PySem.W.Frag) (C : Addr) (sp : Sp) (E : XK) : R2 := fun x y H Q => ∃ a dx fs t, x = .ref a ∧ H a = some (.ins C dx fs) ∧ TyX K H y t ∧ PySem.W.notFirst K C t = true ∧ sp [.ref a, y] H (fun v H' => ∃ b, v = .bl b ∧ Q (.bl (!b)) H') E
theorem op_neI (o : OpOf X.K C "__eq__" f) (hne : PySem.W.findIn X.K (.ref C) "__ne__" = some (some (.builtin "object.__ne__"))) (hm : PySem.W.mroIn X.K C (.type "object") = some true)
    (F : FnOk X.prog X.w X.K X.mg X.base CX k f fd ps sp) (hr : Room (k + 1) X.A) (hb : Binds X.K fd ps []) (hx : Passes CX X E) : OpR X (compareOp .NotEq) (rNeI X.K C sp E) := by
  intro pins s σ H x y u v Q I rx ry hq
  obtain ⟨a, dx, fs, t, rfl, ea, ty, hn, q⟩ := hq
  cases rx
  obtain ⟨od, J⟩ := inst_of I ea
  obtain ⟨P, kx, hp, _⟩ := kit_of I ry ty
  refine PySem.W.cmp_ofNotEq (rc_ne (by have := hr.in1.units0; exact this) I.kIn J (kx.ty _ _ I.kIn hp) hn hm hne o.at_ o.fn ?_)
  refine wpAny_mono (run_in (vs := [.ref a, y]) F hr.in1 rfl hb hx I (.cons rfl (.cons ry .nil)) q) (fun z s' got => ?_) fun _ _ e => e
  obtain ⟨v, H', I', rv, b, rfl, q'⟩ := got
  cases (show z = Value.bool b from rv)
  exact ⟨b, rfl, .bl (!b), H', I', rfl, q'⟩
end
end Ow
/-! lists, tuples on the left of ==, an instance on the right: they decline. -/
namespace Ow
open PySem PySem.Spec PyProof.Rows L2
open Builtin
section
variable {prog : Program} {w : World} {A : Around} {K : PySem.W.Frag} {x C : Addr} {ox : Obj} {od : Option Obj}
theorem not_inst {E : Value → Shared → Prop} {s : Shared} {T : String} {Q : Bool → Shared → Prop} (X : K.In s.heap) (I : PySem.W.InstAt s.heap x ox C od) (hsub : PySem.W.subIn K (.ref C) (.type T) = some false) (q : Q false s) : wpAny (model prog w) A (isInstance (.ref x) (.type T)) Q E s := by
  unfold isInstance
  exact wpAny_bind (I.type.here ((PySem.W.looks_subIn X hsub).here q))
theorem list_decl {R : Result → Shared → Prop} {s : Shared} {l : Addr} (X : K.In s.heap) (I : PySem.W.InstAt s.heap x ox C od) (hsub : PySem.W.subIn K (.ref C) (.type "list") = some false) (q : R (.ok (.ret Value.notImplemented)) s) :
    wpAny (model prog w) A.in1 (Builtin.«list.__eq__» ⟨[.ref l, .ref x], []⟩) (GQ.FinOf prog w A R) (fun e s' => R (.error e) s') s := by
  obtain ⟨hp, g, d, tk, os⟩ := s
  have isI : ∀ {B : Around} {E : Value → Shared → Prop} {Q : Bool → Shared → Prop}, Q false ⟨hp, g, d, tk, os⟩ → wpAny (model prog w) B (isInstance (.ref x) (.type "list")) Q E ⟨hp, g, d, tk, os⟩ := fun z => not_inst X I hsub z
  wp_walk using isI
  exact q
theorem tup_decl {R : Result → Shared → Prop} {s : Shared} {l : Addr} (X : K.In s.heap) (I : PySem.W.InstAt s.heap x ox C od) (hsub : PySem.W.subIn K (.ref C) (.type "tuple") = some false) (q : R (.ok (.ret Value.notImplemented)) s) :
    wpAny (model prog w) A.in1 (Builtin.«tuple.__eq__» ⟨[.ref l, .ref x], []⟩) (GQ.FinOf prog w A R) (fun e s' => R (.error e) s') s := by
  obtain ⟨hp, g, d, tk, os⟩ := s
  have isI : ∀ {B : Around} {E : Value → Shared → Prop} {Q : Bool → Shared → Prop}, Q false ⟨hp, g, d, tk, os⟩ → wpAny (model prog w) B (isInstance (.ref x) (.type "tuple")) Q E ⟨hp, g, d, tk, os⟩ := fun z => not_inst X I hsub z
  wp_walk using isI
  exact q
end
section
variable {X : Cx} {CX : CXT} {k : Nat} {C f : Addr} {fd : FuncData} {ps : List Str} {sp : Sp} {E : XK}
/-- l == x, l a list, x an instance with its own == -/
def rEqLr (C : Addr) (sp : Sp) (E : XK) : R2 := fun v y H Q => ∃ a dx fs l xs, v = .ref l ∧ H l = some (.lst xs) ∧ y = .ref a ∧ H a = some (.ins C dx fs) ∧ sp [.ref a, .ref l] H Q E
def rEqTr (C : Addr) (sp : Sp) (E : XK) : R2 := fun v y H Q => ∃ a dx fs l xs, v = .ref l ∧ H l = some (.tup xs) ∧ y = .ref a ∧ H a = some (.ins C dx fs) ∧ sp [.ref a, .ref l] H Q E
theorem op_eqLr (o : OpOf X.K C "__eq__" f) (hsub : PySem.W.subIn X.K (.ref C) (.type "list") = some false) (F : FnOk X.prog X.w X.K X.mg X.base CX k f fd ps sp) (hr : Room k X.A) (hb : Binds X.K fd ps []) (hx : Passes CX X E) : OpR X (compareOp .Eq) (rEqLr C sp E) := by
  intro pins s σ H v y u w_ Q I rx ry hq
  obtain ⟨a, dx, fs, l, xs, rfl, hl, rfl, ea, q⟩ := hq
  cases rx
  cases ry
  obtain ⟨od, J⟩ := inst_of I ea
  obtain ⟨its, rv, pl, _⟩ := I.list (SqL.of hl)
  obtain ⟨ob, ho, hc, _⟩ := pl.isList
  have hT : s.TypeIs (.ref l) "list" := ⟨ob, ho, hc⟩
  refine PySem.W.cmp_ofEq (eq_right hr.units0 I.kIn J hT (oneThing_ref _ _ _) hsub PySem.F.slot_list_eq ?_
    o.at_ o.fn (run_back (vs := [.ref a, .ref l]) F hr hb hx I (.cons rfl (.cons rfl .nil)) q))
  exact GQ.call_here PySem.F.slot_list_eq hT PySem.F.entry_list_eq (PySem.F.args_list_eq_2 _ _) (list_decl (R := wants (fun v s' => v = .notImplemented ∧ s' = s) X.xe) I.kIn J hsub ⟨rfl, rfl⟩)
theorem op_eqTr (o : OpOf X.K C "__eq__" f) (hsub : PySem.W.subIn X.K (.ref C) (.type "tuple") = some false) (F : FnOk X.prog X.w X.K X.mg X.base CX k f fd ps sp) (hr : Room k X.A) (hb : Binds X.K fd ps []) (hx : Passes CX X E) : OpR X (compareOp .Eq) (rEqTr C sp E) := by
  intro pins s σ H v y u w_ Q I rx ry hq
  obtain ⟨a, dx, fs, l, xs, rfl, hl, rfl, ea, q⟩ := hq
  cases rx
  cases ry
  obtain ⟨od, J⟩ := inst_of I ea
  obtain ⟨its, rv, pl, _⟩ := I.tuple (SqT.of hl)
  obtain ⟨ob, ho, hc, _⟩ := id pl
  have hT : s.TypeIs (.ref l) "tuple" := ⟨ob, ho, hc⟩
  refine PySem.W.cmp_ofEq (eq_right hr.units0 I.kIn J hT (oneThing_ref _ _ _) hsub PySem.F.slot_tuple_eq ?_
    o.at_ o.fn (run_back (vs := [.ref a, .ref l]) F hr hb hx I (.cons rfl (.cons rfl .nil)) q))
  exact GQ.call_here PySem.F.slot_tuple_eq hT PySem.F.entry_tuple_eq (PySem.F.args_tuple_eq_2 _ _) (tup_decl (R := wants (fun v s' => v = .notImplemented ∧ s' = s) X.xe) I.kIn J hsub ⟨rfl, rfl⟩)
/-- None == x, b == x -/
def rEqNr (C : Addr) (sp : Sp) (E : XK) : R2 := fun v y H Q => ∃ a dx fs, v = .non ∧ y = .ref a ∧ H a = some (.ins C dx fs) ∧ sp [.ref a, .non] H Q E
def rEqBr (C : Addr) (sp : Sp) (E : XK) : R2 := fun v y H Q => ∃ a dx fs b, v = .bl b ∧ y = .ref a ∧ H a = some (.ins C dx fs) ∧ sp [.ref a, .bl b] H Q E
theorem op_eqNr (o : OpOf X.K C "__eq__" f) (hsub : PySem.W.subIn X.K (.ref C) (.type "NoneType") = some false) (F : FnOk X.prog X.w X.K X.mg X.base CX k f fd ps sp) (hr : Room k X.A) (hb : Binds X.K fd ps []) (hx : Passes CX X E) : OpR X (compareOp .Eq) (rEqNr C sp E) := by
  intro pins s σ H v y u w_ Q I rx ry hq
  obtain ⟨a, dx, fs, rfl, rfl, ea, q⟩ := hq
  cases rx
  cases ry
  obtain ⟨od, J⟩ := inst_of I ea
  obtain ⟨mA, O, _⟩ := ins_get I.hok ea
  have hT : s.TypeIs Value.none "NoneType" := rfl
  exact PySem.W.cmp_ofEq (eq_right hr.units0 I.kIn J hT rfl hsub PySem.F.slot_NoneType_eq
    (call_meets PySem.F.slot_NoneType_eq hT PySem.F.entry_NoneType_eq (PySem.F.args_NoneType_eq_2 _ _) (non_eq_ref C dx a) ⟨O.obj, rfl, rfl⟩)
    o.at_ o.fn (run_back (vs := [.ref a, .non]) F hr hb hx I (.cons rfl (.cons rfl .nil)) q))
theorem op_eqBr (o : OpOf X.K C "__eq__" f) (hsub : PySem.W.subIn X.K (.ref C) (.type "bool") = some false) (F : FnOk X.prog X.w X.K X.mg X.base CX k f fd ps sp) (hr : Room k X.A) (hb : Binds X.K fd ps []) (hx : Passes CX X E) : OpR X (compareOp .Eq) (rEqBr C sp E) := by
  intro pins s σ H v y u w_ Q I rx ry hq
  obtain ⟨a, dx, fs, b, rfl, rfl, ea, q⟩ := hq
  cases (show u = Value.bool b from rx)
  cases ry
  obtain ⟨od, J⟩ := inst_of I ea
  obtain ⟨mA, O, _⟩ := ins_get I.hok ea
  have hT : s.TypeIs (Value.bool b) "bool" := rfl
  exact PySem.W.cmp_ofEq (eq_right hr.units0 I.kIn J hT rfl hsub PySem.F.slot_bool_eq
    (call_meets PySem.F.slot_bool_eq hT PySem.F.entry_int_eq (PySem.F.args_int_eq_2 _ _) (bool_eq_ref C dx b a) ⟨O.obj, rfl, rfl⟩)
    o.at_ o.fn (run_back (vs := [.ref a, .bl b]) F hr hb hx I (.cons rfl (.cons rfl .nil)) q))
end
end Ow
namespace Ow
open PySem PySem.Spec PyProof.Rows L2
open Builtin
section
variable {prog : Program} {w : World} {A : Around} {K : PySem.W.Frag} {x C : Addr} {ox : Obj} {od : Option Obj}
theorem dict_decl {R : Result → Shared → Prop} {s : Shared} {l : Addr} (X : K.In s.heap) (I : PySem.W.InstAt s.heap x ox C od) (hT : s.TypeIs (.ref l) "dict") (hsub : PySem.W.subIn K (.ref C) (.type "dict") = some false) (q : R (.ok (.ret Value.notImplemented)) s) :
    wpAny (model prog w) A.in1 (Builtin.«dict.__eq__» ⟨[.ref l, .ref x], []⟩) (GQ.FinOf prog w A R) (fun e s' => R (.error e) s') s := by
  obtain ⟨hp, g, d, tk, os⟩ := s
  have isI : ∀ {B : Around} {E : Value → Shared → Prop} {Q : Bool → Shared → Prop}, Q false ⟨hp, g, d, tk, os⟩ → wpAny (model prog w) B (isInstance (.ref x) (.type "dict")) Q E ⟨hp, g, d, tk, os⟩ := fun z => not_inst X I hsub z
  wp_walk using isI
  exact q
end
section
variable {X : Cx} {CX : CXT} {k : Nat} {C f : Addr} {fd : FuncData} {ps : List Str} {sp : Sp} {E : XK}
/-- d == x, d a dict, x an instance with its own == -/
def rEqDr (C : Addr) (sp : Sp) (E : XK) : R2 := fun v y H Q => ∃ a dx fs l kvs, v = .ref l ∧ H l = some (.dK kvs) ∧ y = .ref a ∧ H a = some (.ins C dx fs) ∧ sp [.ref a, .ref l] H Q E
theorem op_eqDr (o : OpOf X.K C "__eq__" f) (hsub : PySem.W.subIn X.K (.ref C) (.type "dict") = some false) (F : FnOk X.prog X.w X.K X.mg X.base CX k f fd ps sp) (hr : Room k X.A) (hb : Binds X.K fd ps []) (hx : Passes CX X E) : OpR X (compareOp .Eq) (rEqDr C sp E) := by
  intro pins s σ H v y u w_ Q I rx ry hq
  obtain ⟨a, dx, fs, l, kvs, rfl, hl, rfl, ea, q⟩ := hq
  cases rx
  cases ry
  obtain ⟨od, J⟩ := inst_of I ea
  obtain ⟨_, _, _, _, ob, _, _, ho, ex, _⟩ := I.hok l _ hl
  have hT : s.TypeIs (.ref l) "dict" := ⟨ob, ho, ex.1⟩
  refine PySem.W.cmp_ofEq (eq_right hr.units0 I.kIn J hT (oneThing_ref _ _ _) hsub PySem.F.slot_dict_eq ?_
    o.at_ o.fn (run_back (vs := [.ref a, .ref l]) F hr hb hx I (.cons rfl (.cons rfl .nil)) q))
  exact GQ.call_here PySem.F.slot_dict_eq hT PySem.F.entry_dict_eq (PySem.F.args_dict_eq_2 _ _) (dict_decl (R := wants (fun v s' => v = .notImplemented ∧ s' = s) X.xe) I.kIn J hT hsub ⟨rfl, rfl⟩)
end
end Ow
/-! ==, in, index of lists whose items have their own ==, the answer a truth. -/
namespace Ow
open PySem PySem.Spec PyProof.Rows L2 PySem.SeqAt
open AutoSeq1 (wpAny_loadPart')
open MeetsSeq MeetsSeq2 MeetsSeq3 SeqRoads2
section
variable {prog : Program} {w : World} {A : Around} {R : Result → Shared → Prop}
abbrev FO (prog : Program) (w : World) (A : Around) (R : Result → Shared → Prop) := GQ.FinOf prog w A R
/-- a list of N items stands at l; each item beside the value answers e i -/
def HasI (prog : Program) (w : World) (A : Around) (E : Value → Shared → Prop) (l : Addr) (x : Value) (N : Nat) (e : Nat → Bool) (I : Shared → Prop) : Prop :=
  ∀ s, I s → ∃ (items : Array Value) (n : Nat), s.heap.get? l = some { cls := .type "list", data := .seq items n } ∧ items.size = N ∧
    ∀ (i : Nat) (h : i < items.size), wpAny (model prog w) A.in1 (eqBool items[i] x) (fun r s' => r = e i ∧ I s') E s
theorem has_loop (l : Addr) (x : Value) (N : Nat) (e : Nat → Bool) (I : Shared → Prop) (hl : HasI prog w A (fun e s' => R (.error e) s') l x N e I) (k : Nat) :
    ∀ i : Nat, N - i = k → ∀ s, I s → (∀ s', I s' → R (.ok (.ret (.bool (((List.range N).drop i).any e)))) s') →
      wpAny (model prog w) A.in1 (Builtin.«list.__contains__.loop» ⟨[.ref l, x, rawInt i], []⟩) (FO prog w A R) (fun e s' => R (.error e) s') s := by
  induction k with
  | zero =>
    intro i hk s h fin
    obtain ⟨items, n, g1, hs, _⟩ := hl _ h
    have q := fin s h
    obtain ⟨hp, g, d, tk, os⟩ := s
    wp_walk using wpAny_loadPart' g1
    have hi : items[((i : Nat) : Int).toNat]? = none := by simp; omega
    have hd : (List.range N).drop i = [] := by simp; omega
    rw [hd] at q
    rw [hi]
    wp_walk
    exact q
  | succ k ih =>
    intro i hk s h fin
    obtain ⟨items, n, g1, hs, turn⟩ := hl _ h
    have hlt : i < items.size := by omega
    have tr := turn i hlt
    have hd : (List.range N).drop i = i :: (List.range N).drop (i + 1) := by simp [List.drop_eq_getElem_cons, show i < N by omega]
    rw [hd] at fin
    obtain ⟨hp, g, d, tk, os⟩ := s
    wp_walk using wpAny_loadPart' g1
    have hi : items[((i : Nat) : Int).toNat]? = some items[i] := by simp [hlt]
    rw [hi]
    refine wpAny_bind (wpAny_mono tr (fun r s2 q2 => ?_) fun _ _ z => z)
    obtain ⟨rfl, q2⟩ := q2
    cases hb : e i with
    | true =>
      have q := fin s2 q2
      rw [List.any_cons, hb] at q
      obtain ⟨hp2, g2, d2, tk2, os2⟩ := s2
      wp_walk
      exact q
    | false =>
      have hrec := ih (i + 1) (by omega) s2 q2 (fun s' q => by
        have z := fin s' q
        rw [List.any_cons, hb, Bool.false_or] at z
        exact z)
      have hc : ((i : Int) + 1) = ((i + 1 : Nat) : Int) := by push_cast; rfl
      obtain ⟨hp2, g2, d2, tk2, os2⟩ := s2
      wp_walk
      rw [hc]
      exact ⟨plainId_quiet plain_contains_loop _, codeAny_builtin entry_contains_loop (by
        rw [Around.under_plainId plain_contains_loop _]
        exact hrec)⟩
theorem has_all (l : Addr) (x : Value) (N : Nat) (e : Nat → Bool) (I : Shared → Prop) (hl : HasI prog w A (fun e s' => R (.error e) s') l x N e I) {s : Shared} (h : I s)
    (fin : ∀ s', I s' → R (.ok (.ret (.bool ((List.range N).any e)))) s') : wpAny (model prog w) A.in1 (Builtin.«list.__contains__» ⟨[.ref l, x], []⟩) (FO prog w A R) (fun e s' => R (.error e) s') s := by
  obtain ⟨items, n, g1, hs, _⟩ := hl _ h
  have hrec := has_loop (R := R) l x N e I hl _ 0 rfl s h (by simpa using fin)
  obtain ⟨hp, g, d, tk, os⟩ := s
  wp_walk using wpAny_loadPart' g1
  exact ⟨plainId_quiet plain_contains_loop _, codeAny_builtin entry_contains_loop (by
    rw [Around.under_plainId plain_contains_loop _]
    exact hrec)⟩
/-- the index of the first that answers True -/
theorem ix_loop (l : Addr) (x : Value) (N : Nat) (e : Nat → Bool) (I : Shared → Prop) (hl : HasI prog w A (fun e s' => R (.error e) s') l x N e I) (upto : Int) (j : Nat) (hj : j < N) (hu : (j : Int) < upto) (hit : e j = true) (k : Nat) :
    ∀ i : Nat, j - i = k → i ≤ j → (∀ m, i ≤ m → m < j → e m = false) → ∀ s, I s → (∀ s', I s' → R (.ok (.ret (.int j s'.toks))) { s' with toks := s'.toks + 1 }) →
      wpAny (model prog w) A.in1 (Builtin.«list.index.loop» ⟨[.ref l, x, rawInt i, rawInt upto], []⟩) (FO prog w A R) (fun e s' => R (.error e) s') s := by
  induction k with
  | zero =>
    intro i hk hij hno s h fin
    obtain ⟨items, n, g1, hs, turn⟩ := hl _ h
    have hij' : i = j := by omega
    subst hij'
    have hlt : i < items.size := by omega
    have tr := turn i hlt
    obtain ⟨hp, g, d, tk, os⟩ := s
    wp_walk using wpAny_loadPart' g1
    have hi : (if (i : Int) < upto then items[((i : Nat) : Int).toNat]? else none) = some items[i] := by simp [hu, hlt]
    rw [hi]
    refine wpAny_bind (wpAny_mono tr (fun r s2 q2 => ?_) fun _ _ z => z)
    obtain ⟨rfl, q2⟩ := q2
    have q := fin s2 q2
    rw [hit]
    obtain ⟨hp2, g2, d2, tk2, os2⟩ := s2
    wp_walk
    exact q
  | succ k ih =>
    intro i hk hij hno s h fin
    obtain ⟨items, n, g1, hs, turn⟩ := hl _ h
    have hlt : i < items.size := by omega
    have hst : (i : Int) < upto := by omega
    have tr := turn i hlt
    obtain ⟨hp, g, d, tk, os⟩ := s
    wp_walk using wpAny_loadPart' g1
    have hi : (if (i : Int) < upto then items[((i : Nat) : Int).toNat]? else none) = some items[i] := by simp [hst, hlt]
    have hc : ((i : Int) + 1) = ((i + 1 : Nat) : Int) := by push_cast; rfl
    rw [hi]
    refine wpAny_bind (wpAny_mono tr (fun r s2 q2 => ?_) fun _ _ z => z)
    obtain ⟨rfl, q2⟩ := q2
    rw [hno i (Nat.le_refl _) (by omega)]
    have hrec := ih (i + 1) (by omega) (by omega) (fun m h1 h2 => hno m (by omega) h2) s2 q2 fin
    obtain ⟨hp2, g2, d2, tk2, os2⟩ := s2
    wp_walk
    rw [hc]
    exact ⟨plainId_quiet plain_index_loop _, codeAny_builtin entry_index_loop (by
      rw [Around.under_plainId plain_index_loop _]
      exact hrec)⟩
theorem ix_all (l : Addr) (x : Value) (N : Nat) (e : Nat → Bool) (I : Shared → Prop) (hl : HasI prog w A (fun e s' => R (.error e) s') l x N e I) (j : Nat) (hj : j < N) (hsm : (j : Int) < 2 ^ 63 - 1) (hit : e j = true) (hno : ∀ m, m < j → e m = false)
    {s : Shared} (h : I s) (fin : ∀ s', I s' → R (.ok (.ret (.int j s'.toks))) { s' with toks := s'.toks + 1 }) : wpAny (model prog w) A.in1 (Builtin.«list.index» ⟨[.ref l, x], []⟩) (FO prog w A R) (fun e s' => R (.error e) s') s := by
  obtain ⟨items, n, g1, hs, _⟩ := hl _ h
  have hrec := ix_loop (R := R) l x N e I hl (2 ^ 63 - 1) j hj hsm hit _ 0 rfl (Nat.zero_le _) (fun m _ h2 => hno m h2) s h fin
  obtain ⟨hp, g, d, tk, os⟩ := s
  wp_walk using wpAny_loadPart' g1
  have a1 : ((fun i : Int => if i < 0 then max 0 (i + (items.size : Int)) else i) ((none : Option Int).getD 0)) = ((0 : Nat) : Int) := by simp
  have a2 : ((fun i : Int => if i < 0 then max 0 (i + (items.size : Int)) else i) ((none : Option Int).getD (2 ^ 63 - 1))) = 2 ^ 63 - 1 := by simp
  rw [a1, a2]
  exact ⟨plainId_quiet plain_index_loop _, codeAny_builtin entry_index_loop (by
    rw [Around.under_plainId plain_index_loop _]
    exact hrec)⟩
/-- two lists of N items stand at l and b; the i-th two answer e i -/
def TwoI (prog : Program) (w : World) (A : Around) (E : Value → Shared → Prop) (l b : Addr) (N : Nat) (e : Nat → Bool) (I : Shared → Prop) : Prop :=
  ∀ s, I s → ∃ (items items2 : Array Value) (n n2 : Nat), s.heap.get? l = some { cls := .type "list", data := .seq items n } ∧ s.heap.get? b = some { cls := .type "list", data := .seq items2 n2 } ∧ items.size = N ∧ items2.size = N ∧
    ∀ (i : Nat) (h1 : i < items.size) (h2 : i < items2.size), wpAny (model prog w) A.in1 (eqBool items[i] items2[i]) (fun r s' => r = e i ∧ I s') E s
theorem two_loop (l b : Addr) (N : Nat) (e : Nat → Bool) (I : Shared → Prop) (hl : TwoI prog w A (fun e s' => R (.error e) s') l b N e I) (k : Nat) :
    ∀ i : Nat, N - i = k → ∀ s, I s → (∀ s', I s' → R (.ok (.ret (.bool (((List.range N).drop i).all e)))) s') →
      wpAny (model prog w) A.in1 (Builtin.«list.__eq__.loop» ⟨[.ref l, .ref b, rawInt i, rawInt 2], []⟩) (FO prog w A R) (fun e s' => R (.error e) s') s := by
  induction k with
  | zero =>
    intro i hk s h fin
    obtain ⟨items, items2, n, n2, g1, g2, hs1, hs2, _⟩ := hl _ h
    have q := fin s h
    obtain ⟨hp, g, d, tk, os⟩ := s
    wp_walk using wpAny_loadPart' g1, wpAny_loadPart' g2
    have hi1 : items[((i : Nat) : Int).toNat]? = none := by simp; omega
    have hi2 : items2[((i : Nat) : Int).toNat]? = none := by simp; omega
    have hd : (List.range N).drop i = [] := by simp; omega
    rw [hd] at q
    rw [hi1, hi2]
    wp_walk using wpAny_loadPart' g1, wpAny_loadPart' g2
    show R (.ok (.ret (.bool (items.size == items2.size)))) _
    rw [hs1, hs2]
    simpa using q
  | succ k ih =>
    intro i hk s h fin
    obtain ⟨items, items2, n, n2, g1, g2, hs1, hs2, turn⟩ := hl _ h
    have hlt : i < items.size := by omega
    have hlt2 : i < items2.size := by omega
    have tr := turn i hlt hlt2
    have hd : (List.range N).drop i = i :: (List.range N).drop (i + 1) := by simp [List.drop_eq_getElem_cons, show i < N by omega]
    rw [hd] at fin
    obtain ⟨hp, g, d, tk, os⟩ := s
    wp_walk using wpAny_loadPart' g1, wpAny_loadPart' g2
    have hi1 : items[((i : Nat) : Int).toNat]? = some items[i] := by simp [hlt]
    have hi2 : items2[((i : Nat) : Int).toNat]? = some items2[i] := by simp [hlt2]
    have hc : ((i : Int) + 1) = ((i + 1 : Nat) : Int) := by push_cast; rfl
    rw [hi1, hi2]
    refine wpAny_bind (wpAny_mono tr (fun r s2 q2 => ?_) fun _ _ z => z)
    obtain ⟨rfl, q2⟩ := q2
    cases hb : e i with
    | true =>
      have hrec := ih (i + 1) (by omega) s2 q2 (fun s' q => by
        have z := fin s' q
        rw [List.all_cons, hb, Bool.true_and] at z
        exact z)
      obtain ⟨hp2, g3, d2, tk2, os2⟩ := s2
      wp_walk
      rw [hc]
      exact ⟨plainId_quiet plain_eq_loop _, codeAny_builtin entry_eq_loop (by
        rw [Around.under_plainId plain_eq_loop _]
        exact hrec)⟩
    | false =>
      have q := fin s2 q2
      rw [List.all_cons, hb, Bool.false_and] at q
      obtain ⟨jt, jt2, m, m2, k1, k2, ks1, ks2, _⟩ := hl _ q2
      have lt3 : i < jt.size := by omega
      have lt4 : i < jt2.size := by omega
      have hj1 : jt[((i : Nat) : Int).toNat]? = some jt[i] := by simp [lt3]
      have hj2 : jt2[((i : Nat) : Int).toNat]? = some jt2[i] := by simp [lt4]
      obtain ⟨hp2, g3, d2, tk2, os2⟩ := s2
      wp_walk using wpAny_loadPart' k1, wpAny_loadPart' k2
      rw [hj1, hj2]
      wp_walk
      exact q
theorem two_all (l b : Addr) (N : Nat) (e : Nat → Bool) (I : Shared → Prop) (hl : TwoI prog w A (fun e s' => R (.error e) s') l b N e I) {s : Shared} (h : I s)
    (fin : ∀ s', I s' → R (.ok (.ret (.bool ((List.range N).all e)))) s') : wpAny (model prog w) A.in1 (Builtin.«list.__eq__» ⟨[.ref l, .ref b], []⟩) (FO prog w A R) (fun e s' => R (.error e) s') s := by
  obtain ⟨items, items2, n, n2, g1, g2, hs1, hs2, _⟩ := hl _ h
  have hrec := two_loop (R := R) l b N e I hl _ 0 rfl s h (by simpa using fin)
  obtain ⟨hp, g, d, tk, os⟩ := s
  have f3 := AutoSeq1.sub_list_list
  have hne : ¬ (items.size != items2.size) = true := by simp [hs1, hs2]
  wp_walk using wpAny_loadPart' g1, wpAny_loadPart' g2
  exact ⟨plainId_quiet plain_eq_loop _, codeAny_builtin entry_eq_loop (by
    rw [Around.under_plainId plain_eq_loop _]
    exact hrec)⟩
end
end Ow
namespace Ow
open PySem PySem.Spec PyProof.Rows L2
/-- how two values compare by ==: the answer -/
abbrev EqD := V → V → Bool → Hp → Prop
def MonB (D : EqD) : Prop := ∀ x y b H H', Ext H H' → D x y b H → D x y b H'
def EqB (X : Cx) (n : Nat) (D : EqD) : Prop :=
  ∀ (A : Around) (pins : List (Addr × Obj)) (s : Shared) (σ : L2.St) (H : Hp) (x y : V) (u v : Value) (b : Bool), Sub X n A → Inv X pins σ H s → RelV x u → RelV y v → D x y b H →
    wpAny (model X.prog X.w) A (eqBool u v) (fun r s' => r = b ∧ LoopI X pins σ H s') X.xe s
section
variable {X : Cx} {n : Nat} {D : EqD}
/-- what the own == is asked and answers -/
structure OwnB (K : PySem.W.Frag) (C : Addr) (sp : Sp) (E : XK) (D : EqD) : Prop where
  ex : ∀ x y b H, D x y b H → ∃ a c dx fs t, x = .ref a ∧ y = .ref c ∧ H a = some (.ins C dx fs) ∧ TyX K H y t ∧ PySem.W.notFirst K C t = true ∧ (a = c → b = true) ∧ ∀ Q : VK, (∀ H', Ext H H' → Q (.bl b) H') → sp [.ref a, .ref c] H Q E
theorem eqB_own {CX : CXT} {C f : Addr} {fd : FuncData} {ps : List Str} {sp : Sp} {E : XK} (W : OwnB X.K C sp E D) (o : OpOf X.K C "__eq__" f) (F : FnOk X.prog X.w X.K X.mg X.base CX n f fd ps sp) (hb : Binds X.K fd ps []) (hx : Passes CX X E) : EqB X n D := by
  intro A pins s σ H x y u v b sb I rx ry d
  obtain ⟨a, c, dx, fs, t, rfl, rfl, ea, ty, hn, hac, hsp⟩ := W.ex _ _ _ _ d
  cases rx
  cases ry
  by_cases hab : a = c
  · subst hab
    rw [hac rfl]
    exact SeqAt.EqAt.same (A := A) (s := s) (.ref a) X.prog X.w X.xe _ ⟨rfl, H, I, Ext.rfl'⟩
  · obtain ⟨od, J⟩ := inst_of I ea
    obtain ⟨m, hF⟩ := I.fr
    obtain ⟨P, kx, hp, _⟩ := kit_of I (show RelV (.ref c) (.ref c) from rfl) ty
    have call := run_in F sb.room sb.fr hb hx I (vs := [.ref a, .ref c]) (.cons rfl (.cons rfl .nil)) (hsp (fun z H' => z = .bl b ∧ Ext H H') fun H' e => ⟨rfl, e⟩)
    refine GQ.eqBool_refG hab (PySem.W.cmp_K (op := .Eq) (Q := fun r s' => ∃ q, r = .bool q ∧ q = b ∧ LoopI X pins σ H s') sb.room.units0 hF I.ok.mod.kin J (kx.ty _ _ I.kIn hp) hn o.at_ o.fn (wpAny_mono call (fun z s' q => ?_) fun _ _ e => e))
    obtain ⟨z', H', I', rz, ez, e⟩ := q
    cases ez
    cases rz
    exact back (v := .bl b) rfl ⟨b, rfl, rfl, H', I', e⟩
theorem hasI_of (hD : MonB D) (h : EqB X n D) {A : Around} (sb : Sub X (n + 1) A) {pins : List (Addr × Obj)} {σ : L2.St} {H : Hp} {p : Addr} {xs : List V} {x : V} {u : Value} {e : Nat → Bool} (hp : H p = some (.lst xs)) (rx : RelV x u)
    (d : ∀ (i : Nat) z, xs[i]? = some z → D z x (e i) H) : HasI X.prog X.w A X.xe p u xs.length e (LoopI X pins σ H) := by
  intro s' q
  obtain ⟨H1, I1, e1⟩ := id q
  obtain ⟨z, its, k, r, g⟩ := I1.hok p _ (e1 _ _ hp)
  refine ⟨its.toArray, k, g, by rw [List.size_toArray, ← r.length], fun i hi => ?_⟩
  have hl : i < xs.length := by rw [r.length]; simpa using hi
  obtain ⟨w1, hw, rw1⟩ := r.get (List.getElem?_eq_getElem hl)
  have g1 : its[i]? = some its.toArray[i] := by
    have h1' : i < its.length := by simpa using hi
    rw [List.getElem?_eq_getElem h1']; simp
  rw [g1] at hw
  rw [Option.some.inj hw]
  refine wpAny_mono (h A.in1 pins s' σ H1 _ _ _ _ _ sb.in1 I1 rw1 rx (hD _ _ _ _ _ e1 (d i _ (List.getElem?_eq_getElem hl)))) (fun r2 s2 q2 => ?_) fun _ _ z => z
  obtain ⟨hr2, H2, I2, e2⟩ := q2
  exact ⟨hr2, H2, I2, e1.trans e2⟩
/-- x in xs -/
def rInB (D : EqD) : R2 := fun x y H Q => ∃ (p : Addr) (xs : List V) (es : Nat → Bool), y = .ref p ∧ H p = some (.lst xs) ∧ (∀ (i : Nat) z, xs[i]? = some z → D z x (es i) H) ∧ ∀ H', Ext H H' → Q (.bl ((List.range xs.length).any es)) H'
theorem op_inB (hD : MonB D) (h : EqB X n D) (hr : Room (n + 1) X.A) : OpR X (compareOp .In) (rInB D) := by
  intro pins s σ H x y u v Q I rx ry hq
  obtain ⟨p, xs, es, rfl, hp, d, q⟩ := hq
  cases ry
  obtain ⟨z, its, k, r, g⟩ := I.hok p _ hp
  have HI := hasI_of (pins := pins) (σ := σ) hD h (A := X.A) ⟨hr, rfl⟩ hp rx d
  show wpAny (model X.prog X.w) X.A (do return Value.bool (← contains (Value.ref p) u) : Sem Value) (EP X pins σ Q) X.xe s
  refine wpAny_bind (wpAny_contains_slot ⟨_, g, rfl⟩ PySem.F.slot_list_contains (wpAny_mono (GQ.call_here (Q := fun v s' => v = .bool ((List.range xs.length).any es) ∧ LoopI X pins σ H s') PySem.F.slot_list_contains ⟨_, g, rfl⟩ PySem.F.entry_list_contains (PySem.F.args_list_contains_2 _ _)
    (has_all (R := wants (fun v s' => v = .bool ((List.range xs.length).any es) ∧ LoopI X pins σ H s') X.xe) p u xs.length es (LoopI X pins σ H) HI ⟨H, I, Ext.rfl'⟩ fun s' q => ⟨rfl, q⟩)) (fun v s' hv => ?_) fun _ _ e => e))
  obtain ⟨rfl, H', I', e'⟩ := hv
  exact wpAny_truthy_bool (wpAny_pure ⟨.bl _, H', I', rfl, q H' e'⟩)
/-- xs.index(x): the first that is equal -/
def rIxB (D : EqD) : V → List V → Hp → VK → Prop := fun x vs H Q => ∃ (p : Addr) (xs : List V) (y : V) (es : Nat → Bool) (j : Nat), x = .ref p ∧ vs = [y] ∧ H p = some (.lst xs) ∧ (∀ (i : Nat) z, xs[i]? = some z → D z y (es i) H) ∧ j < xs.length ∧ es j = true ∧ (∀ m, m < j → es m = false) ∧ ∀ H', Ext H H' → Q (.int (j : Nat)) H'
theorem mt_indexB (hD : MonB D) (h : EqB X n D) (hr : Room (n + 1) X.A) : MtR X "list.index" (rIxB D) := by
  intro pins s σ H x xs v us Q I rx rxs hq
  obtain ⟨p, ys, y, es, j, rfl, rfl, hp, d, hj, hit, hno, q⟩ := hq
  cases rx
  cases rxs with
  | cons ry rt =>
    rename_i uy ut
    cases rt
    obtain ⟨z, its, k, r, g⟩ := I.hok p _ hp
    have HI := hasI_of (pins := pins) (σ := σ) hD h (A := X.A) ⟨hr, rfl⟩ hp ry d
    have hsl := sizeLine_eq
    have hz : ys.length ≤ sizeLine := z
    refine GQ.call_here (Q := EP X pins σ Q) PySem.F.slot_list_index ⟨_, g, rfl⟩ PySem.F.entry_list_index (PySem.F.args_list_index_2 _ _)
      (ix_all (R := wants (EP X pins σ Q) X.xe) p uy ys.length es (LoopI X pins σ H) HI j hj (by omega) hit hno ⟨H, I, Ext.rfl'⟩ fun s' q2 => ?_)
    obtain ⟨H', I', e'⟩ := q2
    exact ⟨.int (j : Nat), H', I'.tok _, ⟨_, rfl⟩, q H' e'⟩
/-- xs == ys, lists of one length -/
def DListB (D : EqD) : EqD := fun x y b H => ∃ (a c : Addr) (xs ys : List V) (es : Nat → Bool), x = .ref a ∧ y = .ref c ∧ H a = some (.lst xs) ∧ H c = some (.lst ys) ∧ xs.length = ys.length ∧ (∀ (i : Nat) z w, xs[i]? = some z → ys[i]? = some w → D z w (es i) H) ∧ b = (List.range xs.length).all es
def rEqB (D : EqD) : R2 := fun x y H Q => ∃ b, D x y b H ∧ ∀ H', Ext H H' → Q (.bl b) H'
theorem twoI_of (hD : MonB D) (h : EqB X n D) {A : Around} (sb : Sub X (n + 1) A) {pins : List (Addr × Obj)} {σ : L2.St} {H : Hp} {a c : Addr} {xs ys : List V} {e : Nat → Bool} (ha : H a = some (.lst xs)) (hc : H c = some (.lst ys)) (hl : xs.length = ys.length)
    (d : ∀ (i : Nat) z w, xs[i]? = some z → ys[i]? = some w → D z w (e i) H) : TwoI X.prog X.w A X.xe a c xs.length e (LoopI X pins σ H) := by
  intro s' q
  obtain ⟨H1, I1, e1⟩ := id q
  obtain ⟨z, its, k, r, g⟩ := I1.hok a _ (e1 _ _ ha)
  obtain ⟨z2, its2, k2, r2, g2⟩ := I1.hok c _ (e1 _ _ hc)
  refine ⟨its.toArray, its2.toArray, k, k2, g, g2, by rw [List.size_toArray, ← r.length], by rw [List.size_toArray, ← r2.length, hl], fun i hi hi2 => ?_⟩
  have hl1 : i < xs.length := by rw [r.length]; simpa using hi
  have hl2 : i < ys.length := by rw [r2.length]; simpa using hi2
  obtain ⟨w1, hw, rw1⟩ := r.get (List.getElem?_eq_getElem hl1)
  obtain ⟨w2, hw2, rw2⟩ := r2.get (List.getElem?_eq_getElem hl2)
  have k1 : its[i]? = some its.toArray[i] := by
    have h1' : i < its.length := by simpa using hi
    rw [List.getElem?_eq_getElem h1']; simp
  have k2 : its2[i]? = some its2.toArray[i] := by
    have h1' : i < its2.length := by simpa using hi2
    rw [List.getElem?_eq_getElem h1']; simp
  rw [k1] at hw
  rw [k2] at hw2
  rw [Option.some.inj hw, Option.some.inj hw2]
  refine wpAny_mono (h A.in1 pins s' σ H1 _ _ _ _ _ sb.in1 I1 rw1 rw2 (hD _ _ _ _ _ e1 (d i _ _ (List.getElem?_eq_getElem hl1) (List.getElem?_eq_getElem hl2)))) (fun r2 s2 q2 => ?_) fun _ _ z => z
  obtain ⟨hr2, H2, I2, e2⟩ := q2
  exact ⟨hr2, H2, I2, e1.trans e2⟩
theorem rcB_list (hD : MonB D) (h : EqB X n D) {A : Around} (sb : Sub X (n + 1) A) {pins : List (Addr × Obj)} {s : Shared} {σ : L2.St} {H : Hp} {x y : V} {u v : Value} {b : Bool} (I : Inv X pins σ H s) (rx : RelV x u) (ry : RelV y v) (d : DListB D x y b H) :
    wpAny (model X.prog X.w) A (richCompare .Eq u v) (fun r s' => r = .bool b ∧ LoopI X pins σ H s') X.xe s := by
  obtain ⟨a, c, xs, ys, es, rfl, rfl, ha, hc, hl, d, rfl⟩ := d
  cases rx
  cases ry
  obtain ⟨z, its, k, r, g⟩ := I.hok a _ ha
  obtain ⟨z2, its2, k2, r2, g2⟩ := I.hok c _ hc
  have TI := twoI_of (pins := pins) (σ := σ) hD h (A := A) sb ha hc hl d
  refine wpAny_richCompare_same_room (op := .Eq) ⟨_, g, rfl⟩ ⟨_, g2, rfl⟩ PySem.F.slot_list_eq (GQ.call_here PySem.F.slot_list_eq ⟨_, g, rfl⟩ PySem.F.entry_list_eq (PySem.F.args_list_eq_2 _ _) ?_) sb.room.units0
  exact two_all (R := wants (fun v s' => v ≠ .notImplemented ∧ v = .bool ((List.range xs.length).all es) ∧ LoopI X pins σ H s') X.xe) a c xs.length es (LoopI X pins σ H) TI ⟨H, I, Ext.rfl'⟩ (fun s' q => ⟨(fun x => nomatch x), rfl, q⟩)
theorem op_eqLB (hD : MonB D) (h : EqB X n D) (hr : Room (n + 1) X.A) : OpR X (compareOp .Eq) (rEqB (DListB D)) := by
  intro pins s σ H x y u v Q I rx ry hq
  obtain ⟨b, d, q⟩ := hq
  refine PySem.W.cmp_ofEq (wpAny_mono (rcB_list hD h (A := X.A) ⟨hr, rfl⟩ I rx ry d) (fun r s' z => ?_) fun _ _ e => e)
  obtain ⟨rfl, H', I', e⟩ := z
  exact ⟨.bl b, H', I', rfl, q H' e⟩
theorem op_or {f : Value → Value → Sem Value} {r r' : R2} (a : OpR X f r) (b : OpR X f r') : OpR X f (fun x y H Q => r x y H Q ∨ r' x y H Q) := fun pins s σ H x y v u Q I rx ry h =>
  h.elim (a pins s σ H x y v u Q I rx ry) (b pins s σ H x y v u Q I rx ry)
end
end Ow
/-! An instance's own [], in, len. -/
namespace Ow
open PySem PySem.Spec PyProof.Rows L2
section
variable {X : Cx} {CX : CXT} {k : Nat} {C f : Addr} {fd : FuncData} {ps : List Str} {sp : Sp} {E : XK} {a b : Expr} {ta tb : TE} {pos : Pos}
/-- x[y], x an instance with its own [] -/
def rIxO (C : Addr) (sp : Sp) (E : XK) : R2 := fun x y H Q => ∃ a dx fs, x = .ref a ∧ H a = some (.ins C dx fs) ∧ sp [.ref a, y] H Q E
theorem pe_ixO (o : OpOf X.K C "__getitem__" f) (hf : PySem.W.fnIn X.K f = true) (F : FnOk X.prog X.w X.K X.mg X.base CX k f fd ps sp) (hr : Room (k + 1) X.A) (hb : Binds X.K fd ps []) (hx : Passes CX X E) (ha : PE X a ta) (hbb : PE X b tb)
    (hsl : ∀ x i, subscripted b true (.ref x) i = runValue (.builtin "lifetime.subscript" ⟨[.ref x, i], []⟩) := by intro x i; with_unfolding_all rfl) : PE X (.Subscript a b pos) (tOp (rIxO C sp E) ta tb) := by
  refine ⟨fun pins s σ H Q I h => ?_⟩
  refine Subscript_ (binT ha hbb I h fun v u s2 x y H2 I2 rx ry q => ?_)
  obtain ⟨a, dx, fs, rfl, ea, q⟩ := q
  cases rx
  obtain ⟨od, J⟩ := inst_of I2 ea
  obtain ⟨m, hF⟩ := I2.fr
  exact PySem.W.sub_K hF I2.ok.mod.kin J o.at_ hf o.fn (run_in (vs := [.ref a, y]) F hr.in1 rfl hb hx I2 (.cons rfl (.cons ry .nil)) q) (hsl a u)
/-- x in y, y an instance with its own in, which tells a truth -/
def rInO (C : Addr) (sp : Sp) (E : XK) : R2 := fun x y H Q => ∃ a dx fs, y = .ref a ∧ H a = some (.ins C dx fs) ∧ sp [.ref a, x] H (fun v H' => ∃ t, v = .bl t ∧ Q (.bl t) H') E
def rNotInO (C : Addr) (sp : Sp) (E : XK) : R2 := fun x y H Q => ∃ a dx fs, y = .ref a ∧ H a = some (.ins C dx fs) ∧ sp [.ref a, x] H (fun v H' => ∃ t, v = .bl t ∧ Q (.bl (!t)) H') E
theorem op_inO (o : OpOf X.K C "__contains__" f) (F : FnOk X.prog X.w X.K X.mg X.base CX k f fd ps sp) (hr : Room k X.A) (hb : Binds X.K fd ps []) (hx : Passes CX X E) : OpR X (compareOp .In) (rInO C sp E) := by
  intro pins s σ H x y v u Q I rx ry hq
  obtain ⟨a, dx, fs, rfl, ea, q⟩ := hq
  cases ry
  obtain ⟨od, J⟩ := inst_of I ea
  obtain ⟨m, hF⟩ := I.fr
  refine PySem.W.in_K hF I.ok.mod.kin J o.at_ o.fn (wpAny_mono (run_in (vs := [.ref a, x]) F hr rfl hb hx I (.cons rfl (.cons rx .nil)) q) (fun r s' z => ?_) fun _ _ e => e)
  obtain ⟨w, H', I', rw', t, rfl, q⟩ := z
  cases rw'
  exact wpAny_truthy_bool ⟨.bl t, H', I', rfl, q⟩
theorem op_notInO (o : OpOf X.K C "__contains__" f) (F : FnOk X.prog X.w X.K X.mg X.base CX k f fd ps sp) (hr : Room k X.A) (hb : Binds X.K fd ps []) (hx : Passes CX X E) : OpR X (compareOp .NotIn) (rNotInO C sp E) := by
  intro pins s σ H x y v u Q I rx ry hq
  obtain ⟨a, dx, fs, rfl, ea, q⟩ := hq
  cases ry
  obtain ⟨od, J⟩ := inst_of I ea
  obtain ⟨m, hF⟩ := I.fr
  refine PySem.W.notIn_K hF I.ok.mod.kin J o.at_ o.fn (wpAny_mono (run_in (vs := [.ref a, x]) F hr rfl hb hx I (.cons rfl (.cons rx .nil)) q) (fun r s' z => ?_) fun _ _ e => e)
  obtain ⟨w, H', I', rw', t, rfl, q⟩ := z
  cases rw'
  exact wpAny_truthy_bool ⟨.bl (!t), H', I', rfl, q⟩
/-- len(x), x an instance with its own len -/
def rLenO (C : Addr) (sp : Sp) (E : XK) : List V → Hp → VK → Prop := fun vs H Q => ∃ a dx fs, vs = [.ref a] ∧ H a = some (.ins C dx fs) ∧ sp [.ref a] H (fun v H' => ∃ n : Nat, v = .int n ∧ n ≤ sizeLine ∧ Q (.int n) H') E
theorem call_len_own (o : OpOf X.K C "__len__" f) (F : FnOk X.prog X.w X.K X.mg X.base CX k f fd ps sp) (hr : Room (k + 1) X.A) (hb : Binds X.K fd ps []) (hx : Passes CX X E) : CallR X (.builtin "len") (rLenO C sp E) := by
  intro pins s σ H vs us Q I r hq
  obtain ⟨a, dx, fs, rfl, ea, q⟩ := hq
  obtain ⟨u, rfl, rx⟩ := vals1 r
  cases rx
  obtain ⟨od, J⟩ := inst_of I ea
  obtain ⟨m, hF⟩ := I.fr
  refine PySem.W.len_K hF I.ok.mod.kin J o.at_ o.fn (wpAny_mono (run_in (vs := [.ref a]) F hr.in1 rfl hb hx I (.cons rfl .nil) q) (fun r s' z => ?_) fun _ _ e => e)
  obtain ⟨w, H', I', rw', n, rfl, hn, q⟩ := z
  obtain ⟨t, rfl⟩ := rw'
  have hl := line63
  exact ⟨⟨by omega, by omega⟩, .int n, H', I'.tok _, ⟨_, rfl⟩, q⟩
end
end Ow
/-! len(set(xs)), xs a list of any texts. -/
namespace Ow
open PySem PySem.Spec PyProof.Rows L2
/-- the texts met so far, each once -/
def met (xs : List Str) : Nat → List Str
  | 0 => []
  | i + 1 => if (met xs i).any (· == xs.getD i Str.empty) then met xs i else met xs i ++ [xs.getD i Str.empty]
theorem met_le (xs : List Str) : ∀ i, (met xs i).length ≤ i
  | 0 => Nat.le_refl _
  | i + 1 => by
    have h := met_le xs i
    unfold met
    split
    · omega
    · rw [List.length_append]; simp; omega
theorem met_any (xs : List Str) (i : Nat) (k : Str) : (met xs (i + 1)).any (· == k) = ((met xs i).any (· == k) || decide (k = xs.getD i Str.empty)) := by
  rw [show met xs (i + 1) = if (met xs i).any (· == xs.getD i Str.empty) then met xs i else met xs i ++ [xs.getD i Str.empty] from rfl]
  by_cases c : (met xs i).any (· == xs.getD i Str.empty) = true
  · rw [if_pos c]
    by_cases e : k = xs.getD i Str.empty
    · rw [e, c]; simp
    · rw [decide_eq_false e, Bool.or_false]
  · rw [if_neg c, List.any_append]
    by_cases e : k = xs.getD i Str.empty
    · rw [e]; simp
    · have : (xs.getD i Str.empty == k) = false := beq_eq_false_iff_ne.mpr fun z => e z.symm
      rw [decide_eq_false e, List.any_cons, List.any_nil, this]
      rfl
theorem met_len (xs : List Str) (i : Nat) : (met xs (i + 1)).length = if (met xs i).any (· == xs.getD i Str.empty) then (met xs i).length else (met xs i).length + 1 := by
  show (if _ then _ else _ : List Str).length = _
  split <;> simp
theorem met_mem (xs : List Str) : ∀ i, i ≤ xs.length → ∀ k, k ∈ met xs i ↔ k ∈ xs.take i
  | 0, _, k => by simp [met]
  | i + 1, h, k => by
    have e := met_mem xs i (by omega) k
    have g : xs.getD i Str.empty = xs[i] := by rw [List.getD_eq_getElem?_getD, List.getElem?_eq_getElem (by omega)]; rfl
    rw [List.take_add_one, List.getElem?_eq_getElem (by omega)]
    unfold met
    rw [g]
    simp only [Option.toList_some, List.mem_append, List.mem_singleton]
    by_cases c : (met xs i).any (· == xs[i]) = true
    · rw [if_pos c, e]
      refine ⟨.inl, fun z => z.elim id fun z => ?_⟩
      obtain ⟨y, hy, e2⟩ := List.any_eq_true.mp c
      rw [z, ← beq_iff_eq.mp e2]
      exact (met_mem xs i (by omega) y).mp hy
    · rw [if_neg c, List.mem_append, e, List.mem_singleton]
theorem met_nodup (xs : List Str) : ∀ i, i ≤ xs.length → ((met xs i).length = i ↔ (xs.take i).Nodup)
  | 0, _ => by simp [met]
  | i + 1, h => by
    have ih := met_nodup xs i (by omega)
    have g : xs.getD i Str.empty = xs[i] := by rw [List.getD_eq_getElem?_getD, List.getElem?_eq_getElem (by omega)]; rfl
    have le := met_le xs i
    rw [List.take_add_one, List.getElem?_eq_getElem (by omega), met_len, g, Option.toList_some, List.nodup_append]
    by_cases c : (met xs i).any (· == xs[i]) = true
    · rw [if_pos c]
      refine ⟨fun z => by omega, fun z => ?_⟩
      obtain ⟨y, hy, e2⟩ := List.any_eq_true.mp c
      exact absurd (beq_iff_eq.mp e2) (z.2.2 y ((met_mem xs i (by omega) y).mp hy) _ List.mem_cons_self)
    · rw [if_neg c]
      refine ⟨fun z => ⟨ih.mp (by omega), by simp, fun a ha b hb e => ?_⟩, fun z => by rw [ih.mpr z.1]⟩
      rw [List.mem_singleton] at hb
      subst hb
      exact c (List.any_eq_true.mpr ⟨a, (met_mem xs i (by omega) a).mpr ha, beq_iff_eq.mpr e⟩)
theorem met_all (xs : List Str) : (met xs xs.length).length = xs.length ↔ xs.Nodup := by
  have := met_nodup xs xs.length (Nat.le_refl _)
  rw [List.take_length] at this
  exact this
section
variable {prog : Program} {w : World} {A : Around} {R : Result → Shared → Prop} {I : Addr} {fp wr : List Addr} {G : Array GenState → Array GenState → Prop} {n : Nat} {P : Nat → Value → Prop} {St : Nat → Shared → Prop}
abbrev SOf (prog : Program) (w : World) (h : Heap) (S : Addr) (xs : List Str) (i : Nat) : Prop := h.SetOf (PySem.strKind prog w) S (fun k' => (met xs i).any (· == k')) (met xs i).length
theorem upd_texts (W : WalksS prog w A.in1 I fp wr G n P St) (S : Addr) (hSf : S ∉ fp) (xs : List Str) (hsz : xs.length = n) (hb : n + 1 < scanBound) (hval : ∀ i v, P i v → ∃ t, v = .str (xs.getD i Str.empty) t) : ∀ (k i : Nat) (s : Shared), n - i = k → i ≤ n → St i s →
      SOf prog w s.heap S xs i → (∀ s', Moved (S :: wr) G s s' → SOf prog w s'.heap S xs n → R (.ok (.ret .none)) s') → codeAny (model prog w) A (.builtin "set.update.loop" ⟨[.ref S, .ref I], []⟩) R s := by
  have nS : S ∉ wr := fun z => hSf (W.sub _ z)
  have up : ∀ b ∈ wr, b ∈ S :: wr := fun b z => List.mem_cons_of_mem _ z
  have stay : ∀ {s s' : Shared} {i : Nat}, Moved wr G s s' → SOf prog w s.heap S xs i → SOf prog w s'.heap S xs i := fun hm ⟨o, es, ep, t, ho, r⟩ => ⟨o, es, ep, t, hm.heap S _ nS ho, r⟩
  intro k
  induction k with
  | zero =>
    intro i s hk hi hst hS hR
    have e : i = n := by omega
    subst e
    refine codeAny_builtin PyProof.Rows.F.entry_set_update_loop (by
      rw [Around.under_plainId PyProof.Rows.F.plain_set_update_loop _]
      exact wpAny_bind (m := pyNext (.ref I)) (W.done s _ _ hst fun s' hm => wpAny_pure (hR s' (hm.mono up) (stay hm hS))))
  | succ k ih =>
    intro i s hk hi hst hS hR
    have hlt : i < n := by omega
    have hroom : (met xs i).length + 1 < scanBound := by have := met_le xs i; omega
    refine codeAny_builtin PyProof.Rows.F.entry_set_update_loop ?_
    rw [Around.under_plainId PyProof.Rows.F.plain_set_update_loop _]
    refine wpAny_bind (m := pyNext (.ref I)) (W.item i s _ _ hlt hst fun v s' hP hst' hm => ?_)
    obtain ⟨t, rfl⟩ := hval i v hP
    refine wpAny_bind (m := holding [Value.str (xs.getD i Str.empty) t] (setAdd S (.str (xs.getD i Str.empty) t))) (wpAny_holding ?_)
    unfold setAdd
    refine wpAny_holding (wpAny_bind ((PySem.strKind prog w).pyHash (k := xs.getD i Str.empty) (strKind_is _ _ _ _) ?_))
    refine wpAny_setAddHashed_of (knd := PySem.strKind prog w) (s := { s' with toks := s'.toks + 1 }) (strKind_is _ _ _ _) rfl (show SOf prog w s'.heap S xs i from stay hm hS) hroom fun h' hsb hS2 => ?_
    have nb : ∀ {b : Addr}, b ∈ fp → b ≠ S := fun hb z => hSf (z ▸ hb)
    refine wpAny_pure ⟨plainId_quiet PyProof.Rows.F.plain_set_update_loop _, ih (i + 1) _ (by omega) hlt (W.frame _ s' _ _ hst' (Nat.le_succ _) fun b hb o e => by rw [hsb.2 b (nb hb)]; exact e) (PyProof.Rows.SetOf_congr hS2 (fun k' => (met_any xs i k').symm) (met_len xs i).symm) fun s'' hm'' hS'' => ?_⟩
    refine hR s'' (Moved.trans W.gtrans ((hm.mono up).then_heap (Nat.le_succ _) fun b o hb e => ?_) hm'') hS''
    rw [hsb.2 b (fun z => hb (by rw [z]; exact List.mem_cons_self))]
    exact e
end
section
variable {prog : Program} {w : World} {A : Around} {E : Value → Shared → Prop} {s : Shared}
/-- set(l), l a list of texts -/
theorem set_texts {l : Addr} {items : Array Value} {xs : List Str} {Q : Value → Shared → Prop} (hh : A.handled = none) (hl : s.heap.IsList l items) (hi : PyProof.Rows.StrsAre items.toList xs) (hb : xs.length + 1 < scanBound)
    (h : ∀ (h' : Heap) (tk : Nat), SOf prog w h' s.heap.objs.size xs xs.length → (∀ b o, b < s.heap.objs.size → s.heap.get? b = some o → h'.get? b = some o) → Q (.ref s.heap.objs.size) { s with heap := h', toks := tk }) :
    wpAny (model prog w) A (call (.type "set") [.ref l]) Q E s := by
  obtain ⟨c, tl, hmro⟩ := PySem.F.called_set.mro
  have made := PySem.F.called_set.made
  have sub := PySem.F.called_set.sub
  have nt := PySem.F.called_set.notType
  have can := PySem.F.called_set.canCreate
  have tc := PySem.F.typeCall_set_1 (.ref l)
  have hsz : xs.length = items.size := by rw [← StrsAre.len_eq hi, Array.length_toList]
  refine wpAny_call (codeAny_of_tree ?_)
  refine (show wpAny _ _ (callAny (.type "set") _) _ _ _ from wpAny_pure ⟨Code.quiet_builtin _ (by decide +kernel), codeAny_builtin PySem.F.entry_type_call ?_⟩)
  rw [Around.under_plain (weight_type_call_type "set" [.ref l] []) rfl]
  repeat (any_goals (first | assumption | wp_step))
  refine codeAny_mono (code_set_new_1 (.ref l) (E := E) (Q₁ := fun obj s₁ => ∃ led : Bool, obj = .ref s.heap.objs.size ∧ s₁ = { s with heap := s.heap.push { cls := .type "set", dict := none, data := .set #[] 0 (.fresh 0 0 led) } }) fun led => ⟨led, rfl, rfl⟩) fun r s₁ hr => ?_
  cases r with
  | error e => exact hr
  | ok fl => cases fl with
    | next => exact hr.elim
    | brk => exact hr.elim
    | cont => exact hr.elim
    | ret obj =>
      obtain ⟨led, rfl, rfl⟩ := hr
      have hS : (s.heap.push { cls := .type "set", dict := none, data := .set #[] 0 (.fresh 0 0 led) }).get? s.heap.objs.size = some { cls := .type "set", dict := none, data := .set #[] 0 (.fresh 0 0 led) } := Heap.get?_push_size _ rfl
      have hT : Shared.TypeIs { s with heap := s.heap.push { cls := .type "set", dict := none, data := .set #[] 0 (.fresh 0 0 led) } } (.ref s.heap.objs.size) "set" := ⟨_, hS, rfl⟩
      have lk := PySem.F.called_set.init.lookup
      have bd := PySem.F.called_set.init.bind (.ref s.heap.objs.size)
      repeat (any_goals (first | assumption | wp_step))
      refine codeAny_mono (codeAny_call_builtin (R := wants (fun r s₂ => r = .none ∧ ∃ h' tk, s₂ = { s with heap := h', toks := tk } ∧ SOf prog w h' s.heap.objs.size xs xs.length ∧ (∀ b o, b < s.heap.objs.size → s.heap.get? b = some o → h'.get? b = some o)) E)
        PySem.F.called_set.init.plain PySem.F.entry_set_init (check_set_init_1 hT ?_)) fun r₂ s₂ hr₂ => ?_
      · obtain ⟨⟨cl, dd, data, sl⟩, hol, hc, nl, hd⟩ := id hl
        simp only at hc hd
        subst hc hd
        have hol' : (s.heap.push { cls := .type "set", dict := none, data := .set #[] 0 (.fresh 0 0 led) }).get? l = some { cls := .type "list", dict := dd, data := .seq items nl, slots := sl } := Heap.get?_push_of_some _ hol
        have s1 := PySem.F.sub_list_set
        have s2 := PySem.F.sub_list_frozenset
        have ne : (Value.type "list" == Value.type "dict") = false := by decide
        have hl1 : (s.heap.push { cls := .type "set", dict := none, data := .set #[] 0 (.fresh 0 0 led) }).IsList l items := ⟨_, hol', rfl, nl, rfl⟩
        have hlS : l < s.heap.objs.size := Heap.lt_size hol
        unfold Builtin.«set.__init__» noKeywords Builtin.Frozenset.updateFrom
        generalize hPI : pyIter = PI
        wp_walk
        subst hPI
        refine wpAny_pyIter_list hl1 (wpAny_bind (wpAny_runValue ?_))
        have hh3 : A.in1.in1.in1.handled = none := by simp [hh]
        have nI : l ≠ (s.heap.push { cls := .type "set", dict := none, data := .set #[] 0 (.fresh 0 0 led) }).objs.size := by
          rw [Heap.size_push]
          exact Nat.ne_of_lt (Nat.lt_succ_of_lt hlS)
        have nS : s.heap.objs.size ∉ [(s.heap.push { cls := .type "set", dict := none, data := .set #[] 0 (.fresh 0 0 led) }).objs.size, l] := by
          rw [Heap.size_push]
          simp only [List.mem_cons, List.mem_singleton, List.not_mem_nil, or_false, not_or]
          exact ⟨Nat.ne_of_lt (Nat.lt_succ_self _), Nat.ne_of_gt hlS⟩
        refine upd_texts ((Walks.list hh3 _ l nI items).toS) s.heap.objs.size nS xs hsz (by rw [← hsz]; exact hb) (fun i v hv => SS.strs_at hi i v (by rw [Array.getElem?_toList]; exact hv)) (items.size - 0) 0 _ (by omega) (Nat.zero_le _) ⟨⟨_, Heap.get?_push_size _ rfl, rfl, rfl⟩, (hl1.push _)⟩ ?hS0 ?hR
        case hS0 =>
          exact PyProof.Rows.SetOf_congr ((PyProof.Rows.setObjOf_fresh (knd := PySem.strKind prog w) led).setOf (Heap.get?_push_of_some _ hS) (by unfold scanBound; omega)) (fun _ => rfl) rfl
        case hR =>
          intro s' hm hS'
          obtain ⟨h', g', d', tk', os'⟩ := s'
          have eg : g' = s.gens := hm.gens
          have ed : d' = s.drawn := hm.drawn
          have eo : os' = s.os := hm.os
          subst eg ed eo
          refine wpAny_pure (wpAny_pure ⟨rfl, h', tk', rfl, (by rw [hsz]; exact hS'), fun b o hb e => ?_⟩)
          have b1 : b ≠ s.heap.objs.size := Nat.ne_of_lt hb
          have b2 : b ≠ (s.heap.push { cls := .type "set", dict := none, data := .set #[] 0 (.fresh 0 0 led) }).objs.size := by
            rw [Heap.size_push]
            exact Nat.ne_of_lt (Nat.lt_succ_of_lt hb)
          refine hm.heap b o ?_ (Heap.get?_push_of_some _ (Heap.get?_push_of_some _ e))
          simp only [List.mem_cons, List.mem_singleton, List.not_mem_nil, or_false, not_or]
          exact ⟨b1, b2⟩
      · cases r₂ with
        | error e => exact hr₂
        | ok f2 => cases f2 with
          | next => exact hr₂.elim
          | brk => exact hr₂.elim
          | cont => exact hr₂.elim
          | ret r =>
            obtain ⟨rfl, h', tk, rfl, hS', hk'⟩ := hr₂
            repeat (any_goals (first | assumption | wp_step))
            exact h _ _ hS' hk'
end
section
variable {X : Cx}
/-- len(set(xs)): how many unlike texts -/
def tLenSetT (K : PySem.W.Frag) (ta : TE) : TE := fun σ H Q => ta σ H fun x H1 => ∃ (l : Addr) (xs : List Str), x = .ref l ∧ SqL K H1 l (xs.map V.str) ∧ xs.length ≤ 1000 ∧ Q (.int ((met xs xs.length).length : Nat)) H1
theorem pe_lenSetT {a : Expr} {ta : TE} {p p2 q pos : Pos} (hg : Gl X "len") (hm : X.mg "len" = none) (hg2 : Gl X "set") (hm2 : X.mg "set" = none) (ha : PE X a ta) (hc : X.calm = true := by rfl)
    (na : starEach [a] X.env = (false, eval a X.env) :: starEach [] X.env := by rfl) : PE X (.Call (.Name "len" p) [.Call (.Name "set" p2) [a] [] q] [] pos) (tLenSetT X.K ta) := by
  refine ⟨fun pins s σ H Q I h => ?_⟩
  refine Call_ (ld_blt I hg hm boot_len (PyProof.Rows.callWith_builtin1 (PyProof.Rows.args_cons ?_ rfl) rfl rfl))
  refine Call_ (ld_blt I hg2 hm2 boot_set (PyProof.Rows.callWith_type1 (PyProof.Rows.args_cons (thn (ha.run pins s σ H _ I h) fun v s1 got => PyProof.Rows.args_nil ?_) na) na rfl))
  obtain ⟨x, H1, I1, r1, l, xs, rfl, hq, hl, q1⟩ := got
  cases r1
  obtain ⟨its, r, pl, hz⟩ := I1.list hq
  have hs : xs.length + 1 < scanBound := by unfold scanBound; omega
  refine set_texts (I1.ok.hd hc) pl.isList (by simpa using strsAre_of r) hs fun h' tk hS hk => PyProof.Rows.args_nil ?_
  obtain ⟨o, es, ep, t, ho, hex, hd, _, _, _, hf, hn⟩ := hS
  have I2 : Inv X pins σ H1 { s1 with heap := h', toks := tk } := I1.kept fun b o e => hk b o (Heap.lt_size e) e
  have ml := met_le xs xs.length
  exact call_len_set ho hex hd hf (by rw [hn]; omega) ⟨.int ((met xs xs.length).length : Nat), H1, I2.tok _, ⟨_, by rw [hn]⟩, q1⟩
end
end Ow
/-! Displays of many things of a kind O, read while I holds. -/
namespace Ow
open PySem PySem.Spec PyProof.Rows L2
def OdE (O : Hp → V → Prop) (I : Hp → Prop) (σ : L2.St) (te : TE) : Prop := ∀ (H : Hp) (Q : VK), I H → (∀ v H', O H' v → Same H H' → Q v H') → te σ H Q
def OdA (O : Hp → V → Prop) (I : Hp → Prop) (σ : L2.St) (t : TA) (n : Nat) : Prop := ∀ (H : Hp) (Q : List V → Hp → Prop), I H → (∀ vs H', vs.length = n → (∀ v ∈ vs, O H' v) → Same H H' → Q vs H') → t σ H Q
def StV (O : Hp → V → Prop) : Prop := ∀ H H' v, O H v → Same H H' → O H' v
def StI (I : Hp → Prop) : Prop := ∀ H H', I H → Same H H' → I H'
theorem sm_upd {H : Hp} {p : Addr} {o : HO} (h : H p = none) : Same H (upd H p o) := fun b u e => by
  rw [upd_ne (ne_of_none e h)]
  exact e
theorem tyof_same {K : PySem.W.Frag} {H H' : Hp} {x : V} {t : Value} (s : Same H H') (h : TyOf K H x t) : TyOf K H' x t := by
  cases h with
  | non => exact .non
  | bl b => exact .bl b
  | int i => exact .int i
  | str z => exact .str z
  | flt z => exact .flt z
  | lst e => exact .lst (s _ _ e)
  | frz e => exact .frz (s _ _ e)
  | tup e => exact .tup (s _ _ e)
  | dK e => exact .dK (s _ _ e)
  | dT e => exact .dT (s _ _ e)
  | ins e a b c d g => exact .ins (s _ _ e) a b c d g
theorem ty_ext {K : PySem.W.Frag} {H H' : Hp} {x : V} {t : Value} (s : Same H H') (h : TyX K H x t) : TyX K H' x t := by
  cases h with
  | base b => exact .base (tyof_same s b)
  | byt b => exact .byt b
  | set e => exact .set (s _ _ e)
  | kList e c => exact .kList e c
  | kTuple e c => exact .kTuple e c
  | kDict e c => exact .kDict e c
  | fTuple e => exact .fTuple (s _ _ e)
  | fDict e => exact .fDict (s _ _ e)
section
variable {O : Hp → V → Prop} {I : Hp → Prop} {σ : L2.St} {te : TE} {t : TA} {n : Nat}
theorem od_nil : OdA O I σ tNil 0 := fun H Q _ h => h [] H rfl (fun v hv => absurd hv List.not_mem_nil) (Same.refl H)
theorem od_cons (hO : StV O) (hI : StI I) (a : OdE O I σ te) (b : OdA O I σ t n) : OdA O I σ (tCons te t) (n + 1) := fun H Q i h => a H _ i fun v H1 h1 s1 => b H1 _ (hI _ _ i s1) fun vs H2 hl h2 s2 =>
  h (v :: vs) H2 (by rw [List.length_cons, hl]) (fun y hy => by
    rcases List.mem_cons.mp hy with e | e
    · rw [e]; exact hO _ _ _ h1 s2
    · exact h2 y e) (s1.trans s2)
/-- what is told by a constant -/
theorem od_c {v : V} (h : ∀ H, I H → O H v) : OdE O I σ (tC v) := fun H Q i k => k v H (h H i) (Same.refl H)
theorem od_var {i : Nat} {v : V} (e : σ[i]? = some (some v)) (h : ∀ H, I H → O H v) : OdE O I σ (tVar i) := fun H Q j k => ⟨v, e, k v H (h H j) (Same.refl H)⟩
/-- a list, a tuple of what leaves all else as it was -/
def QuA (I : Hp → Prop) (σ : L2.St) (t : TA) : Prop := ∀ (H : Hp) (Q : List V → Hp → Prop), I H → (∀ vs H', vs.length ≤ 9 → Same H H' → Q vs H') → t σ H Q
theorem qu_nil : QuA I σ tNil := fun H Q _ h => h [] H (by decide) (Same.refl H)
theorem qu_c (v : V) : QuA I σ (tCons (tC v) tNil) := fun H Q _ h => h [v] H (by show 1 ≤ 9; decide) (Same.refl H)
theorem qu_c2 (v w : V) : QuA I σ (tCons (tC v) (tCons (tC w) tNil)) := fun H Q _ h => h [v, w] H (by show 2 ≤ 9; decide) (Same.refl H)
theorem qu_v {i : Nat} {v : V} (e : σ[i]? = some (some v)) : QuA I σ (tCons (tVar i) tNil) := fun H Q _ h => ⟨v, e, h [v] H (by show 1 ≤ 9; decide) (Same.refl H)⟩
theorem od_lst (q : QuA I σ t) (h : ∀ (H : Hp) (p : Addr) (xs : List V), H p = some (.lst xs) → O H (.ref p)) : OdE O I σ (tLst t) := fun H Q i k => q H _ i fun vs H1 hl s1 => ⟨Nat.le_trans hl (by decide), fun p hp => k _ _ (h _ p vs upd_same) (s1.trans (sm_upd hp))⟩
theorem od_tup (q : QuA I σ t) (h : ∀ (H : Hp) (p : Addr) (xs : List V), H p = some (.tup xs) → O H (.ref p)) : OdE O I σ (tTup t) := fun H Q i k => q H _ i fun vs H1 hl s1 => ⟨Nat.le_trans hl (by decide), fun p hp => k _ _ (h _ p vs upd_same) (s1.trans (sm_upd hp))⟩
theorem od_dict (h : ∀ (H : Hp) (p : Addr) (kvs : List (Key × V)), H p = some (.dK kvs) → O H (.ref p)) : OdE O I σ tDNewK := fun H Q i k p hp => k _ _ (h _ p [] upd_same) (sm_upd hp)
theorem od_disp (z : Key) {tk : TE} {v : V} (hk : ∀ (H : Hp) (Q : VK), Q (kV z) H → tk σ H Q) (h : ∀ (H : Hp) (p : Addr) (kvs : List (Key × V)), H p = some (.dK kvs) → O H (.ref p)) : OdE O I σ (tDisp [(tk, tC v)]) := fun H Q i k p hp =>
  hk _ _ ⟨upd_same, [(z, v)], by cases z <;> rfl, (by show 1 ≤ 15; decide), k _ _ (h _ p _ upd_same) (by rw [upd_upd]; exact sm_upd hp)⟩
theorem od_seq {g : TG} {b : TS} {D : Ends} {H : Hp} (hn : n ≤ 100) (i : I H) (o : OdA O I σ t n)
    (h : ∀ vs H1 l, vs.length = n → (∀ v ∈ vs, O H1 v) → Same H H1 → H1 l = none → g (.ref l) σ (upd H1 l (.lst vs)) fun σ2 H2 => b D σ2 H2) : tSeq (tAsg (tLst t) g) b D σ H :=
  o H _ i fun vs H1 hl ho s => ⟨Nat.le_trans (Nat.le_of_eq hl) (Nat.le_trans hn (by decide)), fun l hp => h vs H1 l hl ho s hp⟩
end
end Ow
/-! Comprehensions: each turn leaves the heap related, and an item that says El. -/
namespace Ow
open PySem PySem.Spec PyProof.Rows L2
/-- len of a list, a tuple -/
def rLenS (K : PySem.W.Frag) : List V → Hp → VK → Prop := fun xs H Q => ∃ (p : Addr) (ys : List V), xs = [V.ref p] ∧ (SqL K H p ys ∨ SqT K H p ys) ∧ Q (.int ys.length) H
structure RelD (Rl : Hp → Hp → Prop) (H1 : Hp) (D : Addr) : Prop where
  tr : ∀ {a b c : Hp}, Rl a b → Rl b c → Rl a c
  ats : ∀ {a b : Hp} {l : List V}, Rl a b → a D = some (.lst l) → b D = some (.lst l)
  up : ∀ {b : Hp} {l l' : List V}, Rl H1 b → b D = some (.lst l) → Rl H1 (upd b D (.lst l'))
  st : Rl H1 (upd H1 D (.lst []))
theorem same_at {H1 H : Hp} {D : Addr} {o : HO} (s : Same H1 H) (hD : H1 D = none) : Same H1 (upd H D o) := fun b u e => by
  rw [upd_ne (ne_of_none e hD)]
  exact s _ _ e
theorem rel_same {H1 : Hp} {D : Addr} (hD : H1 D = none) : RelD Same H1 D := ⟨fun a b => a.trans b, fun s e => s _ _ e, fun s _ => same_at s hD, same_at (Same.refl H1) hD⟩
section
variable {J : It} {n : Nat} {G : Hp → Prop} {Y : Nat → Hp → V → Hp → Prop} {g : TG} {te : TE} {vs : List Nat} {σ : L2.St} {H1 : Hp} {D : Addr} {Qd : Hp → Prop} {Rl : Hp → Hp → Prop}
theorem lc_el (w : Walk J n G Y) (rd : RelD Rl H1 D) (hn : n ≤ 100000) (El : Nat → V → Hp → Prop) (hE1 : ∀ j v H H', Rl H H' → El j v H → El j v H') (hE2 : ∀ j v H l l', H D = some (.lst l) → El j v H → El j v (upd H D (.lst l')))
    (hG : ∀ H, Rl H1 H → G H)
    (hs : ∀ i x H H', i < n → Rl H1 H → (∃ acc, H D = some (.lst acc) ∧ acc.length = i ∧ ∀ (j : Nat) v, acc[j]? = some v → El j v H) → Y i H x H' → ∀ R : VK, (∀ y H4, Rl H H4 → El i y H4 → R y H4) → g x (wipe σ vs) H' fun σ2 H2 => wipe σ2 vs = wipe σ vs ∧ te σ2 H2 R)
    (hd : ∀ H acc, Rl H1 H → H D = some (.lst acc) → acc.length = n → (∀ (j : Nat) v, acc[j]? = some v → El j v H) → Qd H) :
    ∃ W : Nat → Nat → Hp → Prop, (∃ m, W 0 m (upd H1 D (.lst []))) ∧ ∀ i m H, W i m H →
      (J.stop i H ∧ Qd H) ∨ (J.go i H ∧ ∃ Nx : Hp → Prop, (∀ H', Nx H' → ∃ m', m' < m ∧ W (i + 1) m' H') ∧ ∀ x H', J.yld i H x H' → g x (wipe σ vs) H' fun σ2 H2 => wipe σ2 vs = wipe σ vs ∧ tYes σ2 H2 fun b H3 =>
        if b = true then te σ2 H3 fun y H4 => ∃ acc, H4 D = some (.lst acc) ∧ acc.length < sizeLine ∧ Nx (upd H4 D (.lst (acc ++ [y]))) else Nx H3) := by
  refine lc_it w (fun i H => Rl H1 H ∧ ∃ acc, H D = some (.lst acc) ∧ acc.length = i ∧ ∀ (j : Nat) v, acc[j]? = some v → El j v H) ⟨rd.st, [], upd_same, rfl, fun j v e => by simp at e⟩ (fun i H _ h => hG H h.1) ?_ ?_
  · intro i x H H' hi h y
    obtain ⟨r1, acc, ha, hl, he⟩ := id h
    have := hs i x H H' hi r1 h.2 y (fun y H4 => ∃ acc, H4 D = some (.lst acc) ∧ acc.length < sizeLine ∧ (Rl H1 (upd H4 D (.lst (acc ++ [y]))) ∧ ∃ acc2, (upd H4 D (.lst (acc ++ [y]))) D = some (.lst acc2) ∧ acc2.length = i + 1 ∧ ∀ (j : Nat) v, acc2[j]? = some v → El j v (upd H4 D (.lst (acc ++ [y])))))
      (fun y H4 r4 e4 => ⟨acc, rd.ats r4 ha, Nat.lt_of_le_of_lt (show acc.length ≤ 100000 by omega) (by decide), rd.up (rd.tr r1 r4) (rd.ats r4 ha), acc ++ [y], upd_same, by rw [List.length_append, hl]; rfl, fun j v ev => by
        rcases Nat.lt_or_ge j acc.length with c | c
        · rw [List.getElem?_append_left c] at ev
          exact hE2 _ _ _ _ _ (rd.ats r4 ha) (hE1 _ _ _ _ r4 (he j v ev))
        · rw [List.getElem?_append_right c] at ev
          have : j - acc.length = 0 := by
            rcases Nat.eq_zero_or_pos (j - acc.length) with z | z
            · exact z
            · rw [List.getElem?_eq_none (by simp; omega)] at ev
              exact nomatch ev
          rw [this] at ev
          have ej : j = i := by omega
          cases ev
          rw [ej]
          exact hE2 _ _ _ _ _ (rd.ats r4 ha) e4⟩)
    exact this
  · rintro H ⟨r, acc, ha, hl, he⟩
    exact hd H acc r ha hl he
/-- the items known ahead -/
theorem lc_vals (w : Walk J n G Y) (rd : RelD Rl H1 D) (vals : List V) (hn : vals.length = n) (hz : n ≤ 100000) (hG : ∀ H, Rl H1 H → G H)
    (hs : ∀ i x H H' v, i < n → vals[i]? = some v → Rl H1 H → (∃ acc, H D = some (.lst acc)) → Y i H x H' → ∀ R : VK, (∀ H4, Rl H H4 → R v H4) → g x (wipe σ vs) H' fun σ2 H2 => wipe σ2 vs = wipe σ vs ∧ te σ2 H2 R)
    (hd : ∀ H, Rl H1 H → H D = some (.lst vals) → Qd H) :
    ∃ W : Nat → Nat → Hp → Prop, (∃ m, W 0 m (upd H1 D (.lst []))) ∧ ∀ i m H, W i m H →
      (J.stop i H ∧ Qd H) ∨ (J.go i H ∧ ∃ Nx : Hp → Prop, (∀ H', Nx H' → ∃ m', m' < m ∧ W (i + 1) m' H') ∧ ∀ x H', J.yld i H x H' → g x (wipe σ vs) H' fun σ2 H2 => wipe σ2 vs = wipe σ vs ∧ tYes σ2 H2 fun b H3 =>
        if b = true then te σ2 H3 fun y H4 => ∃ acc, H4 D = some (.lst acc) ∧ acc.length < sizeLine ∧ Nx (upd H4 D (.lst (acc ++ [y]))) else Nx H3) := by
  refine lc_el w rd hz (fun j v _ => vals[j]? = some v) (fun _ _ _ _ _ e => e) (fun _ _ _ _ _ _ e => e) hG (fun i x H H' hi r ha y R k => ?_) (fun H acc r ha hl he => hd H r ?_)
  · obtain ⟨acc, ha, _⟩ := ha
    have hv : vals[i]? = some vals[i] := List.getElem?_eq_getElem (by omega)
    exact hs i x H H' _ hi hv r ⟨acc, ha⟩ y R fun H4 r4 => k _ H4 r4 hv
  · rw [ha]
    have : acc = vals := by
      apply List.ext_getElem?
      intro j
      rcases Nat.lt_or_ge j n with c | c
      · rw [List.getElem?_eq_getElem (show j < acc.length by omega)]
        exact (he j _ (List.getElem?_eq_getElem (by omega))).symm
      · rw [List.getElem?_eq_none (by omega), List.getElem?_eq_none (by omega)]
    rw [this]
/-- those of the first i that are kept -/
def kept (keep : Nat → Bool) (vals : List V) (i : Nat) : List V := ((List.range i).filter keep).filterMap fun j => vals[j]?
theorem kept_succ (keep : Nat → Bool) (vals : List V) (i : Nat) (v : V) (h : vals[i]? = some v) : kept keep vals (i + 1) = if keep i = true then kept keep vals i ++ [v] else kept keep vals i := by
  unfold kept
  rw [List.range_succ, List.filter_append, List.filterMap_append]
  by_cases c : keep i = true
  · rw [if_pos c, List.filter_cons_of_pos c, List.filter_nil]
    simp [h]
  · rw [if_neg c, List.filter_cons_of_neg c, List.filter_nil]
    simp
theorem kept_len (keep : Nat → Bool) (vals : List V) (i : Nat) (h : i ≤ vals.length) : (kept keep vals i).length = ((List.range i).filter keep).length := by
  induction i with
  | zero => rfl
  | succ i ih =>
    rw [kept_succ keep vals i vals[i] (List.getElem?_eq_getElem (by omega)), List.range_succ, List.filter_append]
    by_cases c : keep i = true
    · rw [if_pos c, List.filter_cons_of_pos c, List.filter_nil, List.length_append, List.length_append, ih (by omega)]
      rfl
    · rw [if_neg c, List.filter_cons_of_neg c, List.filter_nil, List.append_nil, ih (by omega)]
theorem kept_le (keep : Nat → Bool) (vals : List V) (i : Nat) (h : i ≤ vals.length) : (kept keep vals i).length ≤ i := by
  rw [kept_len keep vals i h]
  exact Nat.le_trans (List.length_filter_le ..) (by simp)
/-- with a test: those of the walked that are kept -/
theorem lc_filter {tt : TT} (w : Walk J n G Y) (rd : RelD Rl H1 D) (vals : List V) (keep : Nat → Bool) (hn : vals.length = n) (hz : n ≤ 100000) (hG : ∀ H, Rl H1 H → G H)
    (hs : ∀ i x H H' v, i < n → vals[i]? = some v → Rl H1 H → (∃ acc, H D = some (.lst acc)) → Y i H x H' → ∀ (RR : VK) (SS : Hp → Prop), (keep i = true → ∀ H4, Rl H H4 → RR v H4) → (keep i = false → ∀ H4, Rl H H4 → SS H4) →
      g x (wipe σ vs) H' fun σ2 H2 => wipe σ2 vs = wipe σ vs ∧ tt σ2 H2 fun b H3 => if b = true then te σ2 H3 RR else SS H3)
    (hd : ∀ H, Rl H1 H → H D = some (.lst (kept keep vals n)) → Qd H) :
    ∃ W : Nat → Nat → Hp → Prop, (∃ m, W 0 m (upd H1 D (.lst []))) ∧ ∀ i m H, W i m H →
      (J.stop i H ∧ Qd H) ∨ (J.go i H ∧ ∃ Nx : Hp → Prop, (∀ H', Nx H' → ∃ m', m' < m ∧ W (i + 1) m' H') ∧ ∀ x H', J.yld i H x H' → g x (wipe σ vs) H' fun σ2 H2 => wipe σ2 vs = wipe σ vs ∧ tt σ2 H2 fun b H3 =>
        if b = true then te σ2 H3 fun y H4 => ∃ acc, H4 D = some (.lst acc) ∧ acc.length < sizeLine ∧ Nx (upd H4 D (.lst (acc ++ [y]))) else Nx H3) := by
  refine lc_it w (fun i H => Rl H1 H ∧ H D = some (.lst (kept keep vals i)) ∧ i ≤ n) ⟨rd.st, upd_same, Nat.zero_le _⟩ (fun i H _ h => hG H h.1) ?_ ?_
  · rintro i x H H' hi ⟨r1, ha, _⟩ y
    have hv : vals[i]? = some vals[i] := List.getElem?_eq_getElem (by omega)
    have ks := kept_succ keep vals i _ hv
    refine hs i x H H' _ hi hv r1 ⟨_, ha⟩ y _ _ (fun c H4 r4 => ?_) (fun c H4 r4 => ?_)
    · rw [if_pos c] at ks
      refine ⟨_, rd.ats r4 ha, Nat.lt_of_le_of_lt (show _ ≤ 100000 from Nat.le_trans (kept_le keep vals i (by omega)) (by omega)) (by decide), rd.up (rd.tr r1 r4) (rd.ats r4 ha), ?_, hi⟩
      rw [upd_same, ks]
    · rw [if_neg (by rw [c]; exact Bool.false_ne_true)] at ks
      refine ⟨rd.tr r1 r4, ?_, hi⟩
      rw [ks]
      exact rd.ats r4 ha
  · rintro H ⟨r, ha, _⟩
    exact hd H r ha
end
end Ow
/-! Pots, and what stands while they are drawn from; data that lies in the heap. -/
namespace Pt
open PySem PySem.Spec PyProof.Rows L2 Ow
abbrev FnP (K : PySem.W.Frag) (x qual : Str) (st : Stmt) (dvs : List V) (f : Addr) (fd : FuncData) : Prop := FunD K x qual (defArgs st) (defBody st) (defScope st) dvs [] f fd
/-- a def of the text, as others call it -/
structure Dfn (P : Program) (w : World) (K : PySem.W.Frag) (mg : Str → Option Value) (base : Heap) (k : Nat) (x : Str) (ps : List Str) (sp : Sp) : Prop where
  ex : ∃ f fd, FnOk P w K mg base CX0 k f fd ps sp ∧ mg x = some (.ref f) ∧ PySem.W.keepIn K (.ref f) = true ∧ Binds K fd ps []
theorem pe_use {X : Cx} {k : Nat} {x : Str} {ps : List Str} {sp : Sp} {p pos : Pos} {e : Expr} {es : List Expr} {t : TA} (D : Dfn X.prog X.w X.K X.mg X.base k x ps sp) (hr : Room k X.A) (hg : Gl X x) (ha : PA X (e :: es) t)
    (hdb : (x == ("__debug__" : Str)) = false := by decide) (he : starEach (e :: es) X.env = (false, eval e X.env) :: starEach es X.env := by rfl) (hpl : (backTo pos (starEach es X.env)).any (·.1) = false := by rfl) :
    PE X (.Call (.Name x p) (e :: es) [] pos) (tCall sp [] E0 t) := by
  obtain ⟨f, fd, F, hm, hk, hb⟩ := D.ex
  exact pe_call F hr hg hm hk hb .nil pass0 ha hdb he hpl
structure DfnG (P : Program) (w : World) (K : PySem.W.Frag) (mg : Str → Option Value) (base : Heap) (k : Nat) (x : Str) (ps : List Str) (sp : Sp) : Prop where
  ex : ∃ f fd, FnG P w K mg base CX0 k f fd ps sp ∧ mg x = some (.ref f) ∧ PySem.W.keepIn K (.ref f) = true ∧ Binds K fd ps []
theorem pe_useG {X : Cx} {k : Nat} {x : Str} {ps : List Str} {sp : Sp} {p pos : Pos} {e : Expr} {es : List Expr} {t : TA} (D : DfnG X.prog X.w X.K X.mg X.base k x ps sp) (hr : Room k X.A) (hgu : X.A.guards = some []) (hg : Gl X x) (ha : PA X (e :: es) t)
    (hdb : (x == ("__debug__" : Str)) = false := by decide) (he : starEach (e :: es) X.env = (false, eval e X.env) :: starEach es X.env := by rfl) (hpl : (backTo pos (starEach es X.env)).any (·.1) = false := by rfl) :
    PE X (.Call (.Name x p) (e :: es) [] pos) (tCall sp [] E0 t) := by
  obtain ⟨f, fd, F, hm, hk, hb⟩ := D.ex
  exact pe_callG F hr hgu hg hm hk hb pass0 ha hdb he hpl
/-- a method, as others call it -/
structure Mtd (P : Program) (w : World) (K : PySem.W.Frag) (mg : Str → Option Value) (base : Heap) (k : Nat) (C : Addr) (m : Str) (ps : List Str) (sp : Sp) : Prop where
  ex : ∃ f fd, Meth K C m f ∧ FnOk P w K mg base CX0 k f fd ps sp ∧ Binds K fd ps []
/-- an own operator, as others use it -/
structure Opr (P : Program) (w : World) (K : PySem.W.Frag) (mg : Str → Option Value) (base : Heap) (k : Nat) (C : Addr) (m : Str) (ps : List Str) (sp : Sp) : Prop where
  ex : ∃ f fd, OpOf K C m f ∧ FnOk P w K mg base CX0 k f fd ps sp ∧ Binds K fd ps []
section
variable {X : Cx} {C : Addr} {m : Str} {k : Nat} {ps : List Str} {sp : Sp} {o e : Expr} {es : List Expr} {ta : TE} {t : TA} {apos pos : Pos}
theorem pe_mt {pl : Sem Bool} (c : Cls X.K C) (M : Mtd X.prog X.w X.K X.mg X.base k C m ps sp) (hr : Room k X.A) (he : PE X o ta) (ha : PA X (e :: es) t)
    (hst : starEach (e :: es) X.env = (false, eval e X.env) :: starEach es X.env := by rfl) (hpl : (backTo pos (starEach es X.env)).any (·.1) = false := by rfl)
    (ht : eval (.Call (.Attribute o m apos) (e :: es) [] pos) X.env = (do
      let ov ← eval o X.env
      standAt apos.atName
      let (f, first) ← holding [ov] (getMethod ov m pl)
      callWith pos f first (backTo pos (starEach (e :: es) X.env)) (backToKw pos (keywordEach [] X.env))) := by rfl) :
    PE X (.Call (.Attribute o m apos) (e :: es) [] pos) (tMeth C m sp [] E0 ta t) := by
  obtain ⟨f, fd, hm, F, hb⟩ := M.ex
  exact pe_meth (pl := pl) he c hm F hr hb .nil pass0 ha hst hpl ht
theorem pe_mt0 {pl : Sem Bool} (c : Cls X.K C) (M : Mtd X.prog X.w X.K X.mg X.base k C m ps sp) (hr : Room k X.A) (he : PE X o ta)
    (ht : eval (.Call (.Attribute o m apos) [] [] pos) X.env = (do
      let ov ← eval o X.env
      standAt apos.atName
      let (f, first) ← holding [ov] (getMethod ov m pl)
      callWith pos f first (backTo pos (starEach [] X.env)) (backToKw pos (keywordEach [] X.env))) := by rfl) :
    PE X (.Call (.Attribute o m apos) [] [] pos) (tMeth C m sp [] E0 ta tNil) := by
  obtain ⟨f, fd, hm, F, hb⟩ := M.ex
  exact pe_meth0 (pl := pl) he c hm F hr hb .nil pass0 ht
end
/-! ### own operators -/
structure OpX (P : Program) (w : World) (K : PySem.W.Frag) (mg : Str → Option Value) (base : Heap) (C : Addr) (op : Operator) (k : Nat) (sp : Sp) : Prop where
  ex : ∃ f fd, OpOf K C (PySem.dunder op.info.2) f ∧ FnOk P w K mg base CX0 k f fd ["self", "other"] sp ∧ Binds K fd ["self", "other"] []
  rf : ∃ rc, PySem.W.findIn K (.ref C) (dunderR op.info.2) = some rc ∧ (rc = none ∨ ∃ g : Addr, rc = some (.ref g))
  i1 : ∃ fo, PySem.W.findIn K (.type "int") (PySem.dunder op.info.2) = some fo
  i2 : ∃ ro, PySem.W.findIn K (.type "int") (dunderR op.info.2) = some ro
structure OpY (P : Program) (w : World) (K : PySem.W.Frag) (mg : Str → Option Value) (base : Heap) (C : Addr) (op : Operator) (k : Nat) (sp : Sp) : Prop where
  at_ : ∃ f, OpOf K C (PySem.dunder op.info.2) f
  ex : ∃ g gd, OpOf K C (dunderR op.info.2) g ∧ FnOk P w K mg base CX0 k g gd ["self", "other"] sp ∧ Binds K gd ["self", "other"] []
section
variable {X : Cx} {C : Addr} {k : Nat} {sp : Sp} {op : Operator}
theorem op_xx (O : OpX X.prog X.w X.K X.mg X.base C op k sp) (n : Num X.K C) (hr : Room k X.A) : OpR X (binaryOp op) (rOwn C sp E0) := by
  obtain ⟨f, fd, o, F, hb⟩ := O.ex
  exact op_own n.sf o F hr hb pass0
theorem op_xi (O : OpX X.prog X.w X.K X.mg X.base C op k sp) (n : Num X.K C) (hr : Room k X.A) : OpR X (binaryOp op) (rOwnI C sp E0) := by
  obtain ⟨f, fd, o, F, hb⟩ := O.ex
  obtain ⟨rc, h1, h2⟩ := O.rf
  obtain ⟨fo, h3⟩ := O.i1
  obtain ⟨ro, h4⟩ := O.i2
  exact op_ownI n o F hr hb pass0 h1 h2 h3 h4
theorem op_ixM (O : OpY X.prog X.w X.K X.mg X.base C .Mult k sp) (n : Num X.K C) (hr : Room k X.A) : OpR X (binaryOp .Mult) (rIOwn C sp E0) := by
  obtain ⟨f, o⟩ := O.at_
  obtain ⟨g, gd, og, F, hb⟩ := O.ex
  exact op_Iown n o og F hr hb pass0 PySem.F.fills_int_mul PySem.F.slot_int_mul decl_mul
end
/-! ### pots -/
/-- a pot: two numbers, the first one from 0 on -/
def Pot (H : Hp) (p : Addr) : Prop := ∃ a b : Int, H p = some (.lst [.int a, .int b]) ∧ 0 ≤ a
/-- all but the pot at p is as it was -/
structure Stp (p : Addr) (H H' : Hp) : Prop where
  keep : ∀ q o, q ≠ p → H q = some o → H' q = some o
  pot : Pot H' p
section
variable {p q : Addr} {H H' H1 H2 : Hp} {K : PySem.W.Frag} {o : HO} {a : Addr} {xs : List V}
theorem Stp.trans (a : Stp p H H1) (b : Stp p H1 H2) : Stp p H H2 := ⟨fun q o n e => b.keep q o n (a.keep q o n e), b.pot⟩
theorem Stp.refl (h : Pot H p) : Stp p H H := ⟨fun _ _ _ e => e, h⟩
theorem Pot.same (h : Pot H p) (s : Same H H') : Pot H' p := by
  obtain ⟨a, b, e, h0⟩ := h
  exact ⟨a, b, s _ _ e, h0⟩
theorem Stp.of (s : Same H H') (h : Pot H p) : Stp p H H' := ⟨fun _ _ _ e => s _ _ e, h.same s⟩
theorem Stp.sm (a : Stp p H H1) (s : Same H1 H2) : Stp p H H2 := a.trans (Stp.of s a.pot)
theorem Stp.new (a : Stp p H H1) (h : H1 q = none) : Stp p H (upd H1 q o) := a.sm (sm_upd h)
theorem pot_ne (h : Pot H p) (hq : H q = none) : q ≠ p := fun z => by
  obtain ⟨x, y, e, _⟩ := h
  rw [← z, hq] at e
  exact nomatch e
theorem Stp.none (s : Stp p H H') (n : q ≠ p) (h : H' q = none) : H q = none := by
  cases e : H q with
  | none => rfl
  | some o =>
    rw [s.keep q o n e] at h
    exact nomatch h
/-- a store to what was not there at the start -/
theorem Stp.upd (s : Stp p H H') (hl : H q = .none) (n : q ≠ p) : Stp p H (L2.upd H' q o) := by
  refine ⟨fun x u nx ex => by rw [upd_ne (ne_of_none ex hl)]; exact s.keep x u nx ex, ?_⟩
  obtain ⟨a, b, e, h0⟩ := s.pot
  exact ⟨a, b, by rw [upd_ne n.symm]; exact e, h0⟩
theorem same_none (s : Same H H') (h : H' q = none) : H q = none := by
  cases e : H q with
  | none => rfl
  | some o =>
    rw [s q o e] at h
    exact nomatch h
/-- a step that leaves the pot a pot -/
def SP (p : Addr) (a b : Hp) : Prop := Pot a p ∧ Stp p a b
theorem SP.refl (h : Pot H p) : SP p H H := ⟨h, Stp.refl h⟩
theorem SP.of (s : Same H H') (h : Pot H p) : SP p H H' := ⟨h, Stp.of s h⟩
theorem SP.trans (a : SP p H H1) (b : SP p H1 H2) : SP p H H2 := ⟨a.1, a.2.trans b.2⟩
theorem rel_sp {D : Addr} (hp : Pot H1 p) (hD : H1 D = none) : RelD (SP p) H1 D :=
  have n := pot_ne hp hD
  ⟨fun a b => ⟨a.1, a.2.trans b.2⟩, fun s e => s.2.keep _ _ n e, fun s _ => ⟨s.1, s.2.upd hD n⟩, hp, (Stp.refl hp).upd hD n⟩
/-! ### lists that are no pots -/
def NotTwo (xs : List V) : Prop := ∀ i j : Int, xs ≠ [.int i, .int j]
theorem at_st {u : HO} (h : H a = some u) (n : ∀ i j : Int, u ≠ .lst [.int i, .int j]) (hp : Pot H p) (s : Stp p H H') : H' a = some u := by
  refine s.keep a u (fun z => ?_) h
  obtain ⟨x, y, e, _⟩ := hp
  rw [z, e] at h
  exact n x y (Option.some.inj h).symm
theorem lst_st (h : H a = some (.lst xs)) (n : NotTwo xs) (hp : Pot H p) (s : Stp p H H') : H' a = some (.lst xs) := at_st h (fun i j z => n i j (HO.lst.inj z)) hp s
theorem sql_st (h : SqL K H a xs) (n : NotTwo xs) (hp : Pot H p) (s : Stp p H H') : SqL K H' a xs := by
  rcases h with (h | ⟨ob, h⟩) | h
  · exact .inl (.inl (lst_st h n hp s))
  · exact .inl (.inr ⟨ob, at_st h (fun i j z => nomatch z) hp s⟩)
  · exact .inr h
theorem sqt_st (h : SqT K H a xs) (hp : Pot H p) (s : Stp p H H') : SqT K H' a xs := by
  rcases h with (h | ⟨ob, h⟩) | h
  · exact .inl (.inl (at_st h (fun i j z => nomatch z) hp s))
  · exact .inl (.inr ⟨ob, at_st h (fun i j z => nomatch z) hp s⟩)
  · exact .inr h
theorem nt_map {α : Type} (f : α → V) (hf : ∀ x i, f x ≠ .int i) (l : List α) : NotTwo (l.map f) := fun i j z => by
  cases l with
  | nil => exact nomatch z
  | cons x l =>
    rw [List.map_cons] at z
    exact hf x i (List.cons.inj z).1
theorem nt_ref (l : List Addr) : NotTwo (l.map V.ref) := nt_map _ (by intro x i z; cases z) l
theorem nt_str (l : List Str) : NotTwo (l.map V.str) := nt_map _ (by intro x i z; cases z) l
end
/-! ### data: what Same keeps, what is told of it -/
section
variable {K : PySem.W.Frag} {H H' : Hp}
mutual
theorem dpd_same (s : Same H H') : ∀ (d : PyData) (v : V), Dp K H v d → Dp K H' v d
  | .none, _, h => by cases h; exact .non
  | .bool b, _, h => by cases h; exact .bl b
  | .int i, _, h => by cases h; exact .int i
  | .str x, _, h => by cases h; exact .str x
  | .list ds, _, h => by
    cases h with
    | lst h t => exact .lst (SqL.ext h s) (dpd_all s ds _ t)
  | .tuple ds, _, h => by
    cases h with
    | tup h t => exact .tup (SqT.ext h s) (dpd_all s ds _ t)
  | .dict kvs, _, h => by cases h
theorem dpd_all (s : Same H H') : ∀ (ds : List PyData) (vs : List V), DpAll K H vs ds → DpAll K H' vs ds
  | [], _, h => by cases h; exact .nil
  | d :: ds, _, h => by
    cases h with
    | cons h t => exact .cons (dpd_same s d _ h) (dpd_all s ds _ t)
end
theorem dp_same {v : V} {d : PyData} (s : Same H H') (h : Dp K H v d) : Dp K H' v d := dpd_same s d v h
theorem dpa_same {vs : List V} {ds : List PyData} (s : Same H H') (h : DpAll K H vs ds) : DpAll K H' vs ds := dpd_all s ds vs h
theorem dp_list {v : V} {ds : List PyData} (h : Dp K H v (.list ds)) : ∃ a xs, v = .ref a ∧ SqL K H a xs ∧ DpAll K H xs ds := by
  cases h with
  | lst h t => exact ⟨_, _, rfl, h, t⟩
theorem dp_tup {v : V} {ds : List PyData} (h : Dp K H v (.tuple ds)) : ∃ a xs, v = .ref a ∧ SqT K H a xs ∧ DpAll K H xs ds := by
  cases h with
  | tup h t => exact ⟨_, _, rfl, h, t⟩
theorem dpa_len : ∀ {vs : List V} {ds : List PyData}, DpAll K H vs ds → vs.length = ds.length
  | _, _, .nil => rfl
  | _, _, .cons _ t => by rw [List.length_cons, List.length_cons, dpa_len t]
theorem dpa_get : ∀ {vs : List V} {ds : List PyData}, DpAll K H vs ds → ∀ (i : Nat) v d, vs[i]? = some v → ds[i]? = some d → Dp K H v d
  | _, _, .nil, i, v, d, h, _ => by simp at h
  | _, _, .cons h t, 0, v, d, h1, h2 => by
    simp at h1 h2
    rw [← h1, ← h2]
    exact h
  | _, _, .cons h t, i + 1, v, d, h1, h2 => dpa_get t i v d (by simpa using h1) (by simpa using h2)
theorem dpa_of : ∀ {vs : List V} {ds : List PyData}, vs.length = ds.length → (∀ (i : Nat) v d, vs[i]? = some v → ds[i]? = some d → Dp K H v d) → DpAll K H vs ds
  | [], [], _, _ => .nil
  | v :: vs, d :: ds, hl, h => .cons (h 0 v d rfl rfl) (dpa_of (by simpa using hl) fun i v d h1 h2 => h (i + 1) v d (by simpa using h1) (by simpa using h2))
theorem dpa_app : ∀ {xs ys : List V} {ds es : List PyData}, DpAll K H xs ds → DpAll K H ys es → DpAll K H (xs ++ ys) (ds ++ es)
  | _, _, _, _, .nil, b => b
  | _, _, _, _, .cons h t, b => .cons h (dpa_app t b)
theorem dp_str {v : V} {z : Str} (h : Dp K H v (.str z)) : v = .str z := by cases h; rfl
theorem dp_int {v : V} {n : Int} (h : Dp K H v (.int n)) : v = .int n := by cases h; rfl
theorem dp_non {v : V} (h : Dp K H v .none) : v = .non := by cases h; rfl
theorem dpa_map {α : Type} {f : α → V} {g : α → PyData} (h : ∀ x, Dp K H (f x) (g x)) : ∀ l : List α, DpAll K H (l.map f) (l.map g)
  | [] => .nil
  | x :: l => .cons (h x) (dpa_map h l)
theorem dpa_inv {α : Type} {f : α → V} {g : α → PyData} (h : ∀ v x, Dp K H v (g x) → v = f x) : ∀ {vs : List V} (l : List α), DpAll K H vs (l.map g) → vs = l.map f
  | _, [], .nil => rfl
  | _, x :: l, .cons a t => by rw [List.map_cons, h _ _ a, dpa_inv h l t]
end
end Pt
namespace Ra
open PySem PySem.Spec PyProof.Rows L2 Ow Pt
/-! ### the text by places -/
def top (i : Nat) : Stmt := PySem.Challenge.pw_anypoints_k18_tables_and_ratios_share_no.main.body.getD i (.Pass ⟨0, 0, 0, 0⟩)
abbrev sIsInt : Stmt := top 11
abbrev sAsRatio : Stmt := top 13
abbrev sNumber : Stmt := top 12
abbrev sInit : Stmt := inClass (top 14) 0
abbrev sTop : Stmt := inClass (top 14) 1
abbrev sBottom : Stmt := inClass (top 14) 2
abbrev sSign : Stmt := inClass (top 14) 3
abbrev sTotal : Stmt := inClass (top 14) 4
abbrev sAdd : Stmt := inClass (top 14) 5
abbrev sRadd : Stmt := inClass (top 14) 6
abbrev sSub : Stmt := inClass (top 14) 7
abbrev sRsub : Stmt := inClass (top 14) 8
abbrev sMul : Stmt := inClass (top 14) 9
abbrev sRmul : Stmt := inClass (top 14) 10
abbrev sNeg : Stmt := inClass (top 14) 11
abbrev sOver : Stmt := inClass (top 14) 12
abbrev sBelow : Stmt := inClass (top 14) 13
abbrev sEq : Stmt := inClass (top 14) 14
abbrev sStr : Stmt := inClass (top 14) 15
abbrev sRepr : Stmt := inClass (top 14) 16
abbrev sMany : Stmt := top 21
abbrev sCheck : Stmt := top 22
abbrev sTInit : Stmt := inClass (top 24) 0
abbrev sPot : Stmt := top 26
abbrev sDraw : Stmt := top 27
abbrev sPick : Stmt := top 28
abbrev sCommon : Stmt := top 29
abbrev sLow : Stmt := top 30
abbrev sPlus : Stmt := top 31
abbrev sMinus : Stmt := top 32
abbrev sTimes : Stmt := top 33
abbrev sRight : Stmt := top 46
abbrev sLaw : Stmt := top 47
abbrev d__wall : Stmt := top 1
abbrev d_InvalidNumber___init__ : Stmt := inClass (top 4) 0
abbrev d_InvalidPoints___init__ : Stmt := inClass (top 5) 0
abbrev d_InvalidPlace___init__ : Stmt := inClass (top 6) 0
abbrev d_InvalidTable___init__ : Stmt := inClass (top 7) 0
abbrev d_DividedByZero___init__ : Stmt := inClass (top 9) 0
abbrev d_is_integer : Stmt := top 11
abbrev d_is_number : Stmt := top 12
abbrev d_as_ratio : Stmt := top 13
abbrev d_Ratio___init__ : Stmt := inClass (top 14) 0
abbrev d_Ratio_top : Stmt := inClass (top 14) 1
abbrev d_Ratio_bottom : Stmt := inClass (top 14) 2
abbrev d_Ratio_sign : Stmt := inClass (top 14) 3
abbrev d_Ratio_total : Stmt := inClass (top 14) 4
abbrev d_Ratio___add__ : Stmt := inClass (top 14) 5
abbrev d_Ratio___radd__ : Stmt := inClass (top 14) 6
abbrev d_Ratio___sub__ : Stmt := inClass (top 14) 7
abbrev d_Ratio___rsub__ : Stmt := inClass (top 14) 8
abbrev d_Ratio___mul__ : Stmt := inClass (top 14) 9
abbrev d_Ratio___rmul__ : Stmt := inClass (top 14) 10
abbrev d_Ratio___neg__ : Stmt := inClass (top 14) 11
abbrev d_Ratio_over : Stmt := inClass (top 14) 12
abbrev d_Ratio_is_below : Stmt := inClass (top 14) 13
abbrev d_Ratio___eq__ : Stmt := inClass (top 14) 14
abbrev d_Ratio___str__ : Stmt := inClass (top 14) 15
abbrev d_Ratio___repr__ : Stmt := inClass (top 14) 16
abbrev d_is_place : Stmt := top 17
abbrev d_without_divisor : Stmt := top 18
abbrev d_whole_numbers : Stmt := top 19
abbrev d_check_table : Stmt := top 20
abbrev d_check_many : Stmt := top 21
abbrev d_check_points : Stmt := top 22
abbrev d_check_steps : Stmt := top 23
abbrev d_Table___init__ : Stmt := inClass (top 24) 0
abbrev d_Table_of_steps : Stmt := inClass (top 24) 1
abbrev d_Table_first_places : Stmt := inClass (top 24) 2
abbrev d_Table_steep : Stmt := inClass (top 24) 3
abbrev d_Table_points : Stmt := inClass (top 24) 4
abbrev d_Table_steps : Stmt := inClass (top 24) 5
abbrev d_Table___getitem__ : Stmt := inClass (top 24) 6
abbrev d_Table___iter__ : Stmt := inClass (top 24) 7
abbrev d_Table_paid : Stmt := inClass (top 24) 8
abbrev d_Table_is_like : Stmt := inClass (top 24) 9
abbrev d_Table_reduced : Stmt := inClass (top 24) 10
abbrev d_Table___add__ : Stmt := inClass (top 24) 11
abbrev d_Table___mul__ : Stmt := inClass (top 24) 12
abbrev d_Table___rmul__ : Stmt := inClass (top 24) 13
abbrev d_Table___eq__ : Stmt := inClass (top 24) 14
abbrev d_Table___repr__ : Stmt := inClass (top 24) 15
abbrev d__law_pot : Stmt := top 26
abbrev d__law_draw : Stmt := top 27
abbrev d__law_pick : Stmt := top 28
abbrev d__law_common : Stmt := top 29
abbrev d__law_low : Stmt := top 30
abbrev d__law_plus : Stmt := top 31
abbrev d__law_minus : Stmt := top 32
abbrev d__law_times : Stmt := top 33
abbrev d__law_steps : Stmt := top 34
abbrev d__law_points : Stmt := top 35
abbrev d__law_number : Stmt := top 36
abbrev d__law_paid : Stmt := top 37
abbrev d__law_shown : Stmt := top 38
abbrev d__law_by_points : Stmt := top 39
abbrev d__law_by_steps : Stmt := top 40
abbrev d__law_all : Stmt := top 41
abbrev d__law_spoil : Stmt := top 42
abbrev d__law_lists_right : Stmt := top 43
abbrev d__law_deeds_right : Stmt := top 44
abbrev d__law_shared : Stmt := top 45
abbrev d__law_right : Stmt := top 46
abbrev d_law : Stmt := top 47

end Ra
/-! What a text's top leaves behind, as tests of the written part of the heap. -/
namespace Hd
open PySem PySem.Spec PyProof.Rows L2 Ow
abbrev Fr := PySem.W.Frag
abbrev Ask := Fr → Bool
/-- the tests' answers, what stands at each def -/
def look (cs : List Ask) (ds : List He5.DefA) (K : Fr) : He.AlD := (cs.all (fun c => c K) && ds.all (fun d => d.ok K), ds.map (fun d => He5.fnA K (d.at_ K)))
def good (ds : List He5.DefA) : He.AlD := (true, ds.map (fun d => d.val))
def Says (cs : List Ask) (ds : List He5.DefA) (K : Fr) : Prop := look cs ds K = good ds
def lookG (n : Nat) (cs : List Ask) (ds : List He5.DefA) (g : Addr → Option Obj) : He.AlD := look cs ds (He.frG g (He5.asA g n))
def hkOf (n : Nat) (cs : List Ask) (ds : List He5.DefA) : PySem.W.Hook :=
  { α := He.AlD, obs := fun s => lookG n cs ds s.heap.get?, val := fun _ => good ds, says := fun _ h => ∃ K : Fr, K.In h ∧ Says cs ds K,
    of := fun _ _ e => ⟨_, He.frG_in, e⟩, keeps := fun _ _ _ z k => z.elim fun K c => ⟨K, PySem.W.Frag.In.keeps c.1 k, c.2⟩ }
theorem lookG_eq {n : Nat} {cs : List Ask} {ds : List He5.DefA} {g : Addr → Option Obj} {s : Shared} (h : ∀ a, g a = s.heap.get? a) : lookG n cs ds g = (hkOf n cs ds).obs s := by
  rw [show g = s.heap.get? from funext h]
  rfl
theorem Says.ask {cs : List Ask} {ds : List He5.DefA} {K : Fr} (c : Says cs ds K) (i : Nat) {a : Ask} (h : cs[i]? = some a := by rfl) : a K = true := by
  have c1 := congrArg Prod.fst c
  exact List.all_eq_true.mp (He.ba c1).1 a (List.mem_of_getElem? h)
theorem Says.dfn {cs : List Ask} {ds : List He5.DefA} {K : Fr} (c : Says cs ds K) (i : Nat) {d : He5.DefA} (h : ds[i]? = some d := by rfl) : ∃ fd, FunD K d.name d.qual d.params d.body d.scope (d.dvs K) (d.kws K) (d.at_ K) fd := by
  have c1 := List.all_eq_true.mp (He.ba (congrArg Prod.fst c)).2 d (List.mem_of_getElem? h)
  have c2 : (ds.map (fun d => He5.fnA K (d.at_ K)))[i]? = (ds.map (fun d => d.val))[i]? := congrArg (fun z : He.AlD => z.2[i]?) c
  rw [List.getElem?_map, List.getElem?_map, h] at c2
  exact He5.DefA.funD (Option.some.inj c2) c1
/-! ### where things are -/
def pac (cl x : Str) (K : Fr) : Addr := He.ma K (He.ga K cl) x
def getac (cl x : Str) (K : Fr) : Addr := match PySem.W.recIn K (pac cl x K) "property" with
  | some (.ref g :: _) => g
  | _ => 0
def aGlo (x : Str) : Ask := fun K => (He.Fa.glo x).ok K
def aFree (x : Str) : Ask := fun K => (He.Fa.free x).ok K
def aBlt (x : Str) (id : String) : Ask := fun K => He.eqO (PySem.W.nsIn K mainGlobals x) (some (some (.builtin id)))
def vc (cl : Str) : Fr → Value := fun K => .ref (He.ga K cl)
def vb (n : String) : Fr → Value := fun _ => .type n
def aSelf (cl : Str) : Ask := fun K => PySem.W.selfFirst K (He.ga K cl)
def aSub (s t : Fr → Value) (b : Bool) : Ask := fun K => decide (PySem.W.subIn K (s K) (t K) = some b)
def aKit (s t : Fr → Value) (b : Bool) : Ask := fun K => decide (PySem.W.kitOne K (s K) (t K) = some b)
def aNF (cl : Str) (t : Fr → Value) : Ask := fun K => PySem.W.notFirst K (He.ga K cl) (t K)
def aFindB (cl x : Str) (id : String) : Ask := fun K => He.eqO (PySem.W.findIn K (.ref (He.ga K cl)) x) (some (some (.builtin id)))
def aObjG : Ask := fun K => He.eqO (PySem.W.specialIn K (.builtin "object.__class__") "__get__") (some (some (.builtin "getset_descriptor.__get__")))
def aObjT : Ask := fun K => decide (PySem.W.takesIn K (.builtin "object.__class__") = some true)
def aMro (cl : Str) : Ask := fun K => decide (PySem.W.mroIn K (He.ga K cl) (.type "object") = some true)
def aFnI (cl x : Str) : Ask := fun K => PySem.W.fnIn K (pac cl x K)
def aPrp (cl x : Str) : Ask := fun K => He.eqO (PySem.W.findIn K (.ref (He.ga K cl)) x) (some (some (.ref (pac cl x K)))) && (He.eqO (PySem.W.specialIn K (.ref (pac cl x K)) "__get__") (some (some (.builtin "property.__get__"))) &&
  (decide (PySem.W.takesIn K (.ref (pac cl x K)) = some true) && (match PySem.W.recIn K (pac cl x K) "property" with
    | some (.ref _ :: _) => true
    | _ => false)))
def aOp (cl x : Str) : Ask := fun K => He.eqO (PySem.W.findIn K (.ref (He.ga K cl)) x) (some (some (.ref (pac cl x K)))) && PySem.W.isFn K (.ref (pac cl x K))
def aIntS (x : Str) : Ask := fun K => (PySem.W.findIn K (.type "int") x).isSome
def aCls (cl : Str) : Ask := fun K => (He.Fa.cls cl).ok K
def aNoat (cl x : Str) : Ask := fun K => (He.Fa.noat cl x).ok K
def aMkr (cl : Str) : Ask := fun K => (He.Fa.mkr cl).ok K
def aMeth (cl x : Str) : Ask := fun K => (He.Fa.meth cl x).ok K
def aStr (x v : Str) : Ask := fun K => (He.Fa.str x v).ok K
def aInt (x : Str) (v : Int) : Ask := fun K => (He.Fa.int x v).ok K
section
variable {K : Fr}
theorem sub_of {s t : Fr → Value} {b : Bool} (h : aSub s t b K = true) : PySem.W.subIn K (s K) (t K) = some b := of_decide_eq_true h
theorem kit_of' {s t : Fr → Value} {b : Bool} (h : aKit s t b K = true) : PySem.W.kitOne K (s K) (t K) = some b := of_decide_eq_true h
theorem mro_of {cl : Str} (h : aMro cl K = true) : PySem.W.mroIn K (He.ga K cl) (.type "object") = some true := of_decide_eq_true h
theorem num_of {cl : Str} (a : aSelf cl K = true) (b : aSub (vb "int") (vc cl) false K = true) (c : aSub (vc cl) (vb "int") false K = true) : Num K (He.ga K cl) := ⟨a, sub_of b, sub_of c⟩
theorem prp_of {cl x : Str} (c : aPrp cl x K = true) : PropOf K (He.ga K cl) x (pac cl x K) (getac cl x K) := by
  obtain ⟨h1, h⟩ := He.ba c
  obtain ⟨h2, h⟩ := He.ba h
  obtain ⟨h3, h4⟩ := He.ba h
  refine ⟨He.eqO_ok h1, He.eqO_ok h2, of_decide_eq_true h3, ?_⟩
  unfold getac
  split at h4
  · rename_i g r e
    exact ⟨r, by rw [e]⟩
  · exact nomatch h4
theorem op_of {cl x : Str} (c : aOp cl x K = true) : OpOf K (He.ga K cl) x (pac cl x K) := ⟨He.eqO_ok (He.ba c).1, (He.ba c).2⟩
theorem fni_of {cl x : Str} (c : aOp cl x K = true) (d : aFnI cl x K = true) (f : Addr) (o : OpOf K (He.ga K cl) x f) : PySem.W.fnIn K f = true := by
  have a := (op_of c).at_.symm.trans o.at_
  have e : pac cl x K = f := by
    injection a with a
    injection a with a
    injection a
  rw [← e]
  exact d
theorem int_of {x : Str} (c : aIntS x K = true) : ∃ v, PySem.W.findIn K (.type "int") x = some v := Option.isSome_iff_exists.mp c
end
theorem kb_plain {K : PySem.W.Frag} {x qual : Str} {pa : Arguments} {bd : List Stmt} {sc : Scope} {kws : List (Str × V)} {f : Addr} {fd : FuncData} {ps : List Str} (F : FunD K x qual pa bd sc [] kws f fd) (n : Nat) (ks : List Str)
    (h : ∀ (kV doc pm : Value) (an : Option Addr) (cdv ct : Value) (us ws : List Value), us.length = n → ws.length = ks.length → bindArgs (PySem.W.fnOf x qual pa bd sc .none kV doc pm an cdv ct) ⟨us, ks.zip ws⟩ = pure (ps.zip (us ++ ws))) :
    KBn K fd ps n ks (fun us ws => us ++ ws) (fun vs zs => vs ++ zs) := by
  obtain ⟨oc, od, dV, kV, doc, pm, an, cdv, ct, osl, rfl, lk, hcd, hD, hK⟩ := F.ex
  rcases hD with ⟨_, rfl⟩ | ⟨e, _⟩
  · exact ⟨fun s us ws _ l1 l2 => .of_eq (h kV doc pm an cdv ct us ws l1 l2), fun a b => a.append b⟩
  · exact absurd rfl e
/-- Ratio(bottom=.., top=..): the parameters' order -/
def mix {α : Type} (us its ws : List α) : List α := match us, ws with
  | [a], [b, c] => [a, c, b]
  | _, _ => []
theorem mix_ok {vs ds zs : List V} {us its ws : List Value} (h1 : Vals vs us) (h2 : Vals ds its) (h3 : Vals zs ws) : Vals (mix vs ds zs) (mix us its ws) := by
  cases h1 with
  | nil => exact .nil
  | cons a r1 => cases r1 with
    | cons _ _ => exact .nil
    | nil => cases h3 with
      | nil => exact .nil
      | cons b r3 => cases r3 with
        | nil => exact .nil
        | cons c r4 => cases r4 with
          | cons _ _ => exact .nil
          | nil => exact .cons a (.cons c (.cons b .nil))
end Hd
/-! repr of a list whose items show themselves by defs of their own. -/
namespace Ow
open PySem PySem.Spec PyProof.Rows L2
/-- how a value shows itself -/
abbrev ShD := V → Str → Hp → Prop
def MonS (D : ShD) : Prop := ∀ x t H H', Ext H H' → D x t H → D x t H'
def ShB (X : Cx) (n : Nat) (D : ShD) : Prop :=
  ∀ (A : Around) (pins : List (Addr × Obj)) (s : Shared) (σ : L2.St) (H : Hp) (x : V) (u : Value) (t : Str) (b : Nat), Sub X n A → Inv X pins σ H s → RelV x u → D x t H → b + t.length ≤ sizeLine →
    wpAny (model X.prog X.w) A (pyReprUnder b u) (fun r s' => r = t ∧ LoopI X pins σ H s') X.xe s
theorem shB_or {X : Cx} {n : Nat} {D1 D2 : ShD} (h1 : ShB X n D1) (h2 : ShB X n D2) : ShB X n (fun x t H => D1 x t H ∨ D2 x t H) := fun A pins s σ H x u t b sb I r d hb =>
  d.elim (fun d => h1 A pins s σ H x u t b sb I r d hb) fun d => h2 A pins s σ H x u t b sb I r d hb
theorem monS_or {D1 D2 : ShD} (h1 : MonS D1) (h2 : MonS D2) : MonS (fun x t H => D1 x t H ∨ D2 x t H) := fun x t H H' e d => d.imp (h1 x t H H' e) (h2 x t H H' e)
/-- plain things -/
def leafS : ShD := fun x t _ => (∃ i : Int, x = .int i ∧ i.natAbs.log2 < 1920 ∧ t = toString i) ∨ (∃ b : Bool, x = .bl b ∧ t = (if b then Str.ofString "True" else Str.ofString "False")) ∨ (x = .non ∧ t = Str.ofString "None") ∨ ∃ z : Str, x = .str z ∧ (reprText z).length ≤ sizeLine ∧ t = reprText z
theorem mon_leaf : MonS leafS := fun _ _ _ _ _ d => d
theorem shB_leaf {X : Cx} {n : Nat} : ShB X n leafS := by
  intro A pins s σ H x u t b sb I r d hb
  have fin : ∀ tk : Nat, t = t ∧ LoopI X pins σ H { s with toks := tk } := fun tk => ⟨rfl, H, I.tok tk, Ext.rfl'⟩
  rcases d with ⟨i, rfl, hi, rfl⟩ | ⟨c, rfl, rfl⟩ | ⟨rfl, rfl⟩ | ⟨z, rfl, hz, rfl⟩
  · obtain ⟨tk, rfl⟩ := r
    exact ReprIs.int tk hi b hb A X.xe s _ fin
  · cases r
    exact ReprIs.bool c b hb A X.xe s _ fin
  · cases r
    exact ReprIs.none b hb A X.xe s _ fin
  · obtain ⟨tk, rfl⟩ := r
    exact ReprIs.str z tk hz b hb A X.xe s _ fin
/-- an instance whose class has its own def for it -/
structure OwnS (C : Addr) (sp : Sp) (E : XK) (D : ShD) : Prop where
  ex : ∀ x t H, D x t H → ∃ a dx fs, x = .ref a ∧ H a = some (.ins C dx fs) ∧ ∀ Q : VK, (∀ H', Ext H H' → Q (.str t) H') → sp [.ref a] H Q E
theorem under_own {K : PySem.W.Frag} {prog : Program} {w : World} {A : Around} {E : Value → Shared → Prop} {s : Shared} {x f C : Addr} {ox : Obj} {od : Option Obj} {b : Nat} {Q : Str → Shared → Prop}
    (hu : A.units < cLine) (hb : b ≤ sizeLine) (X : K.In s.heap) (I : PySem.W.InstAt s.heap x ox C od) (hs : PySem.W.findIn K (.ref C) "__repr__" = some (some (.ref f))) (hf : PySem.W.isFn K (.ref f) = true)
    (h : wpAny (model prog w) A (call (.ref f) [.ref x]) (fun v s' => ∃ t u, v = .str t u ∧ Q t s') E s) : wpAny (model prog w) A (pyReprUnder b (.ref x)) Q E s := by
  refine wpAny_pyReprUnder_ref hb ?_
  unfold pyReprObjUnder pyReprObjBy
  refine wpAny_bind (wpAny_cRoomFor hu ?_)
  refine wpAny_bind (wpAny_bind (I.type.here ((PySem.W.looks_findIn X hs).here ?_)))
  show wpAny _ _ (if (some (Value.ref f)).isNone = true then _ else _) _ _ _
  rw [if_neg (by simp)]
  refine wpAny_bind ?_
  simp only [callSpecialIfBoundBy?, bindSpecialIfBound?]
  refine wpAny_holding (wpAny_bind (wpAny_bind (wpAny_bind (I.type.here ((PySem.W.looks_findIn X hs).here ?_)))))
  refine wpAny_bind (wpAny_askSetting (wpAny_ite ?_))
  have fin : wpAny (model prog w) A (call (.ref f) [.ref x] >>= fun v => pure (some v)) (fun r s' => wpAny (model prog w) A (match r with
      | some r => (do if (← isInstance r (.type "str")) = true then pure r else raiseError "TypeError" s!"__repr__ returned non-string (type {← typeNameOf r})")
      | none => unsupported "repr:special-get-raises") (fun v s' => ∃ x u, v = .str x u ∧ Q x s') E s') E s := by
    refine wpAny_bind (wpAny_mono h (fun v s' hv => wpAny_pure ?_) fun _ _ e => e)
    obtain ⟨t, u, rfl, q⟩ := hv
    exact wpAny_bind (wpAny_isInstance (T := "str") (b := true) rfl isSubtype_str_str (wpAny_pure ⟨t, u, rfl, q⟩))
  split
  · exact wpAny_bind ((PySem.W.bind_fn X _ (beq_iff_eq.mp hf)).here (wpAny_pure (by exact fin)))
  · exact wpAny_tryCatch (wpAny_bind ((PySem.W.bind_fn X _ (beq_iff_eq.mp hf)).here (wpAny_pure (by exact fin))))
theorem shB_own {X : Cx} {n : Nat} {D : ShD} {CX : CXT} {C f : Addr} {fd : FuncData} {ps : List Str} {sp : Sp} {E : XK} (W : OwnS C sp E D) (o : OpOf X.K C "__repr__" f) (F : FnOk X.prog X.w X.K X.mg X.base CX n f fd ps sp) (hb : Binds X.K fd ps []) (hx : Passes CX X E) : ShB X n D := by
  intro A pins s σ H x u t b sb I r d hz
  obtain ⟨a, dx, fs, rfl, ea, hsp⟩ := W.ex _ _ _ d
  cases r
  obtain ⟨od, J⟩ := inst_of I ea
  have call := run_in F sb.room sb.fr hb hx I (vs := [.ref a]) (.cons rfl .nil) (hsp (fun z H' => z = .str t ∧ Ext H H') fun H' e => ⟨rfl, e⟩)
  refine under_own sb.room.units0 (by omega) I.kIn J o.at_ o.fn (wpAny_mono call (fun z s' q => ?_) fun _ _ e => e)
  obtain ⟨z', H', I', rz, ez, e⟩ := q
  cases ez
  obtain ⟨tk, rfl⟩ := rz
  exact ⟨t, tk, rfl, rfl, H', I', e⟩
end Ow
namespace Ow
open PySem PySem.Spec PyProof.Rows L2
theorem under_sub {X : Cx} {n : Nat} {A : Around} {args : Args} (sb : Sub X (n + 1) A) : Sub X n (A.under (.builtin "list.__repr__.loop" args)) := by
  refine ⟨⟨?_, ?_, ?_⟩, ?_⟩
  · have := sb.room.hd
    first | exact this | (simp [Around.under, Code.weight, Code.isCreation, Code.isGuard, Code.isCaller, Code.frames, Code.isFrame]; exact this)
  · have := sb.room.dp
    have e : (A.under (.builtin "list.__repr__.loop" args)).depth = A.depth + 1 := by
      have g := isGuard_list_loop args
      simp [Around.under, Code.weight, Code.isCreation, g, Code.isCaller, Code.frames, Code.isFrame]
    rw [e]
    omega
  · have := sb.room.un
    rw [units_under_list_loop]
    omega
  · first | exact sb.fr | (simp [Around.under, Code.frames, Code.isFrame]; exact sb.fr)
abbrev pObj (acc : Array Value) (c : Nat) : Obj := { cls := .type "list", dict := none, data := .seq acc c, slots := #[] }
section
variable {X : Cx} {n : Nat} {D : ShD}
/-- what is known of the place where the parts are gathered -/
structure Place (X : Cx) (pins : List (Addr × Obj)) (P : Addr) : Prop where
  yg : P ∈ X.ex ∨ X.s_0.heap.objs.size ≤ P
  nc : ∀ x c, X.env.cells.lookup x = some c → c ≠ P
  np : ∀ p ∈ X.pn ++ pins, p.1 ≠ P
theorem place_step {P : Addr} {o o' : Obj} {pins : List (Addr × Obj)} {σ : L2.St} {H : Hp} {s : Shared} {h' : Heap} {t' : Nat} (I : Inv X ((P, o) :: pins) σ H s) (pl : Place X pins P) (kp : ∀ b u, b ≠ P → s.heap.get? b = some u → h'.get? b = some u)
    (hn : h'.get? P = some o') (nc : ∀ v, o'.data ≠ .cell v) : Inv X ((P, o') :: pins) σ H { s with heap := h', toks := t' } := by
  obtain ⟨_, nP, nL, nF, nV⟩ := I.pin (P, o) (List.mem_append_right _ List.mem_cons_self)
  have J := (ClX.unpin I).turned (t' := t') (it := P) (h' := h') kp nP nL pl.yg pl.nc pl.np
  refine J.pins_of fun p hp => ?_
  rcases List.mem_cons.mp hp with rfl | hp
  · exact ⟨hn, nP, nL, nF, nc⟩
  · exact J.pin p (List.mem_append_right _ hp)
theorem sh_loop (hD : MonS D) (hs : ShB X n D) {A : Around} (sb : Sub X (n + 1) A) {a P : Addr} {pins : List (Addr × Obj)} {σ : L2.St} {H0 : Hp} {xs : List V} {ts : List Str} {Q : VK}
    (hx : SqL X.K H0 a xs) (hlen : ts.length = xs.length) (hT : ∀ (i : Nat) x t, xs[i]? = some x → ts[i]? = some t → D x t H0) (pl : Place X pins P) (hz : (listText ts).length ≤ sizeLine)
    (q : ∀ H', Ext H0 H' → Q (.str (listText ts)) H') :
    ∀ (k i : Nat) (s : Shared) (H : Hp) (acc : Array Value) (c : Nat) (dn : List (Str × Tok)), xs.length - i = k → i ≤ xs.length → Ext H0 H → Inv X ((P, pObj acc c) :: pins) σ H s → acc.toList = strValues dn → dn.map (·.1) = ts.take i →
      codeAny (model X.prog X.w) A (.builtin "list.__repr__.loop" ⟨[.ref a, rawInt i, .ref P, rawInt ((piled (ts.take i) : Nat) : Int)], []⟩) (callEnd (EP X pins σ Q) X.xe) s := by
  have hp3 := piled_le_listText ts
  intro k
  induction k with
  | zero =>
    intro i s H acc c dn hk hi e I ha hd
    obtain ⟨its, r, ⟨oa, na, ga, _, _, da⟩, _⟩ := I.list (SqL.ext hx e)
    have gP : s.heap.get? P = some (pObj acc c) := ClX.pin_at I
    refine codeAny_builtin F.entry_list_repr_loop ?_
    show wpAny _ _ (Builtin.«list.__repr__.loop» ⟨[.ref a, .int (i : Nat) 0, .ref P, .int ((piled (ts.take i) : Nat) : Int) 0], []⟩) _ _ s
    rw [repr_loop_tree]
    refine wpAny_bind (wpAny_listItems ga da ?_)
    have none_ : its.toArray[(i : Int).toNat]? = none := by
      have := r.length
      simp
      omega
    simp only [none_]
    unfold reprEnd
    refine wpAny_bind (wpAny_listItems gP rfl ?_)
    rw [ha, repr_fold]
    refine wpAny_bind (wpAny_pure ?_)
    have all : dn.map (·.1) = ts := by rw [hd, show i = ts.length by omega, List.take_length]
    rw [all]
    refine wpAny_bind (wpAny_mkStr (wpAny_pure ?_) hz)
    exact ⟨.str (listText ts), H, (ClX.unpin I).tok _, ⟨_, rfl⟩, q H e⟩
  | succ k ih =>
    intro i s H acc c dn hk hi e I ha hd
    have hlt : i < xs.length := by omega
    have hltT : i < ts.length := by omega
    obtain ⟨its, r, ⟨oa, na, ga, _, _, da⟩, _⟩ := I.list (SqL.ext hx e)
    have hl2 : i < its.length := by rw [← r.length]; exact hlt
    obtain ⟨u, hu, ru⟩ := r.get (List.getElem?_eq_getElem hlt)
    rw [List.getElem?_eq_getElem hl2] at hu
    cases hu
    have gP : s.heap.get? P = some (pObj acc c) := ClX.pin_at I
    have ht := List.getElem?_eq_getElem hltT
    have d := hD _ _ _ _ e (hT i _ _ (List.getElem?_eq_getElem hlt) ht)
    have hp1 := piled_take_succ ht
    have hp2 := piled_take_le ts (i + 1)
    have szT : ts[i].length ≤ sizeLine := by omega
    refine codeAny_builtin F.entry_list_repr_loop ?_
    show wpAny _ _ (Builtin.«list.__repr__.loop» ⟨[.ref a, .int (i : Nat) 0, .ref P, .int ((piled (ts.take i) : Nat) : Int) 0], []⟩) _ _ s
    rw [repr_loop_tree]
    refine wpAny_bind (wpAny_listItems ga da ?_)
    have some_ : its.toArray[(i : Int).toNat]? = some its[i] := by
      simp [hl2]
    simp only [some_]
    rw [Int.toNat_natCast]
    refine wpAny_bind (wpAny_holding (wpAny_mono (hs _ _ s σ H _ _ _ (piled (ts.take i) + 1) (under_sub sb) I ru d (by omega)) (fun z s1 got => ?_) fun _ _ z => z))
    obtain ⟨rfl, H1, I1, e1⟩ := got
    refine wpAny_bind (wpAny_mkStr ?_ szT)
    refine wpAny_bind ?_
    show wpAny _ _ (updateSeq P _) _ _ _
    have gP1 : s1.heap.get? P = some (pObj acc c) := ClX.pin_at I1
    have hasz : acc.size ≤ sizeLine := by
      have e1 : acc.toList.length = acc.size := by simp
      have e2 : (strValues dn).length = dn.length := by simp [strValues]
      have e3 : dn.length = (ts.take i).length := by rw [← hd, List.length_map]
      have e4 : (ts.take i).length ≤ i := by rw [List.length_take]; omega
      have e5 : ∀ l : List Str, 2 * l.length ≤ piled l := by
        intro l
        induction l with
        | nil => exact Nat.le_refl 0
        | cons t l ih => rw [piled_cons, List.length_cons]; omega
      have e6 := e5 ts
      rw [ha] at e1
      omega
    refine wpAny_updateSeq gP1 rfl (wpAny_pure ⟨F.quiet_list_repr_loop _, ?_⟩) hasz
    have c1 : ((i : Int) + 1) = ((i + 1 : Nat) : Int) := by omega
    have c2 : piled (ts.take i) + (ts[i].length + 2) = piled (ts.take (i + 1)) := by omega
    rw [c1, c2]
    refine ih (i + 1) _ H1 (acc.push (.str ts[i] s1.toks)) ?c (dn ++ [(ts[i], s1.toks)]) (by omega) hlt (e.trans e1) ?inv ?t1 ?t2
    case t1 =>
      rw [Array.toList_push, ha]
      unfold strValues
      rw [List.map_append]
      rfl
    case t2 =>
      rw [List.map_append, hd, List.take_add_one, ht]
      rfl
    case inv =>
      refine place_step (I1.tok (s1.toks + 1)) pl ?_ ?_ ?_
      · exact fun b o hb eb => (Heap.get?_update_other _ _ (fun z : P = b => hb z.symm)).trans eb
      · refine Heap.get?_update_self _ gP1 ?_
        rfl
      · exact fun v z => by cases z
def rShL (K : PySem.W.Frag) (D : ShD) : List V → Hp → VK → Prop := fun vs H Q => ∃ (a : Addr) (xs : List V) (ts : List Str), vs = [.ref a] ∧ SqL K H a xs ∧ ts.length = xs.length ∧ (∀ (i : Nat) x t, xs[i]? = some x → ts[i]? = some t → D x t H) ∧ (listText ts).length ≤ sizeLine ∧
  ∀ H', Ext H H' → Q (.str (listText ts)) H'
theorem call_repr_lst (hD : MonS D) (hs : ShB X n D) (hg : X.A.guards = some []) (hr : Room (n + 3) X.A) : CallR X (.builtin "repr") (rShL X.K D) := by
  intro pins s σ H vs us Q I r hq
  obtain ⟨a, xs, ts, rfl, hx, hlen, hT, hz, q⟩ := hq
  obtain ⟨u, rfl, ru⟩ := vals1 r
  cases ru
  obtain ⟨its, rv, ⟨oa, na, ga, ca, _, da⟩, _⟩ := I.list hx
  have hu := hr.un
  have hTy : s.TypeIs (.ref a) "list" := ⟨oa, ga, ca⟩
  refine call_repr_slot (by omega) hTy F.slot_list_repr.toG ?_
  cases xs with
  | nil =>
    cases rv
    obtain rfl : ts = [] := List.length_eq_zero_iff.mp hlen
    refine call_list_repr_empty hTy ga da ⟨_, _, rfl, .str (listText []), H, I.tok _, ⟨s.toks, by rw [listText_nil]⟩, q H Ext.rfl'⟩
  | cons x xs =>
    cases rv with
    | cons rx rt =>
      rename_i u0 ut
      have sb : Sub X (n + 2) X.A.in1 := ⟨hr.in1, rfl⟩
      refine wpAny_call (codeAny_call_builtin F.slot_list_repr.plain F.entry_list_repr (F.slot_list_repr.check _ _ _ _ _ _ _ _ hTy (F.args_list_repr_1 _) ?_))
      refine wpAny_list_repr_head (A := X.A.in1.in1) (g := []) hg (fun v rest kw hm => absurd hm List.not_mem_nil) ga da ?_
      refine wpAny_bind (m := newList []) (wpAny_newObj_type ?_)
      refine wpAny_pure ⟨F.quiet_list_repr_loop _, ?_⟩
      have nP : H s.heap.objs.size = none := I.hok.fresh (Nat.le_refl _)
      have nL : s.heap.objs.size ≠ X.env.locals := Nat.ne_of_gt I.lt
      have pl : Place X pins s.heap.objs.size := ⟨.inr I.sz, fun y c ey z => ?_, fun p hp z => ?_⟩
      · have I1 : Inv X pins σ H { s with heap := s.heap.push (pObj #[] 0), toks := s.toks } := I.kept fun b o e => Heap.get?_push_of_some _ e
        refine codeAny_mono (sh_loop (X := X) (pins := pins) (σ := σ) (Q := fun z H' => (∃ t, z = .str t) ∧ Q z H') (P := s.heap.objs.size) hD hs (sb.mono (by omega)) hx hlen hT pl hz (fun H' e => ⟨⟨_, rfl⟩, q H' e⟩) _ 0 _ H #[] 0 [] rfl (Nat.zero_le _) Ext.rfl' ?_ rfl (by simp)) fun r s' h => ?_
        · refine I1.pins_of fun p hp => ?_
          rcases List.mem_cons.mp hp with rfl | hp
          · exact ⟨Heap.get?_push_size _ rfl, nP, nL, I.nofs (Nat.le_refl _), fun v z => nomatch z⟩
          · exact I1.pin p (List.mem_append_right _ hp)
        · cases r with
          | error e => exact h
          | ok fl => cases fl with
            | ret u => 
              obtain ⟨v, H', I', rv, ⟨z, rfl⟩, qq⟩ := h
              obtain ⟨t, rfl⟩ := rv
              exact ⟨z, t, rfl, .str z, H', I', ⟨t, rfl⟩, qq⟩
            | next => exact h
            | brk => exact h
            | cont => exact h
      · obtain ⟨v, o, ho, _⟩ := I.cell y c ey
        rw [z] at ho
        exact absurd (Heap.lt_size ho) (Nat.lt_irrefl _)
      · have ho := (I.pin p hp).1
        rw [z] at ho
        exact absurd (Heap.lt_size ho) (Nat.lt_irrefl _)
end
end Ow
/-! xs[:0:-1] -/
namespace Ow
open PySem PySem.Spec PyProof.Rows L2
theorem fm_all {α : Type} : ∀ (zs : List α), (List.range zs.length).filterMap (fun k => zs[k]?) = zs := by
  intro zs
  induction zs with
  | nil => rfl
  | cons z zs ih =>
    rw [List.length_cons, List.range_succ_eq_map, List.filterMap_cons]
    simp only [List.getElem?_cons_zero]
    rw [List.filterMap_map]
    congr 1
theorem fm_congr {α β : Type} {f g : α → Option β} : ∀ l : List α, (∀ x ∈ l, f x = g x) → l.filterMap f = l.filterMap g
  | [], _ => rfl
  | x :: l, h => by
    rw [List.filterMap_cons, List.filterMap_cons, h x List.mem_cons_self, fm_congr l fun y hy => h y (List.mem_cons_of_mem _ hy)]
theorem fm_of {α : Type} {h : Nat → Option α} {zs : List α} {m : Nat} (hm : zs.length = m) (e : ∀ k, k < m → h k = zs[k]?) : (List.range m).filterMap h = zs := by
  subst hm
  rw [fm_congr (List.range zs.length) fun k hk => e k (List.mem_range.mp hk), fm_all]
theorem pick_back (l : List Value) : slicePick l.toArray none (some 0) (some (-1)) = (l.drop 1).reverse.toArray := by
  unfold slicePick
  congr 1
  cases l with
  | nil => decide +kernel
  | cons y ys =>
    have hs : (y :: ys).toArray.size = ys.length + 1 := by simp
    rw [hs]
    have b : sliceBounds none (some 0) (some (-1)) (ys.length + 1) = ((ys.length : Int), 0, -1) := by
      unfold sliceBounds
      simp
      try omega
    rw [b]
    show (sliceRange (ys.length : Int) 0 (-1)).filterMap _ = _
    unfold sliceRange
    simp only [List.filterMap_map]
    have c : ((if (-1 : Int) > 0 then (if (ys.length : Int) < 0 then (0 - (ys.length : Int) + -1 - 1) / -1 else 0) else (if (ys.length : Int) > 0 then ((ys.length : Int) - 0 - -1 - 1) / (- -1) else 0)) : Int).toNat = ys.length := by
      rw [if_neg (by decide)]
      split
      · simp
      · omega
    rw [c]
    refine fm_of (by simp) fun k hk => ?_
    have e : ((ys.length : Int) + -1 * (k : Int)).toNat = ys.length - k := by omega
    show (y :: ys).toArray[((ys.length : Int) + -1 * (k : Int)).toNat]? = _
    rw [e, show ys.length - k = (ys.length - 1 - k) + 1 by omega]
    simp
    rw [List.getElem?_reverse (by omega)]
def tBack (K : PySem.W.Frag) (te : TE) : TE := fun σ H Q => te σ H fun x H1 => ∃ a xs, x = .ref a ∧ SqL K H1 a xs ∧ ∀ p, H1 p = none → Q (.ref p) (upd H1 p (.lst (xs.drop 1).reverse))
theorem vals_drop {xs : List V} {us : List Value} (r : Vals xs us) : Vals (xs.drop 1) (us.drop 1) := by
  cases r with
  | nil => exact .nil
  | cons _ t => exact t
section
variable {X : Cx}
theorem pe_back {e : Expr} {te : TE} {k k0 : Nat} {p0 p1 p2 p3 pos : Pos} (he : PE X e te) : PE X (.Subscript e (.Slice none (some (.Constant (.int 0) k0 p0)) (some (.UnaryOp .USub (.Constant (.int 1) k p1) p2)) p3) pos) (tBack X.K te) := by
  refine ⟨fun pins s σ H Q I h => ?_⟩
  refine Subscript_ (thn (he.run pins s σ H _ I h) fun v w1 ⟨x, G1, I1, r1, q1⟩ => ?_)
  obtain ⟨a, xs, ex, hx, q⟩ := q1
  subst ex
  cases r1
  have up : PO X (some (.Constant (.int 0) k0 p0)) (tPart (tC (.int 0))) := po_some pe_int
  have st : PO X (some (.UnaryOp .USub (.Constant (.int 1) k p1) p2)) (tPart (tUn (rU fun i => .int (-i)) (tC (.int 1)))) := po_some (pe_un un_neg pe_int)
  refine wpAny_Slice (thn (po_none.run pins w1 σ G1 (fun o G2 => o = none ∧ G2 = G1) I1 ⟨rfl, rfl⟩) fun vl w2 ⟨l, G2, I2, pl, el, e2⟩ => ?_)
  subst el e2
  refine thn (up.run pins w2 σ G2 (fun o G3 => o = some 0 ∧ G3 = G2) I2 ⟨0, rfl, rfl, rfl⟩) fun vu w3 ⟨u, G3, I3, pu, eu, e3⟩ => ?_
  subst eu e3
  refine thn (st.run pins w3 σ G3 (fun o G4 => o = some (-1) ∧ G4 = G3) I3 ⟨1, rfl, -1, rfl, rfl, rfl⟩) fun vs w4 ⟨o, G4, I4, ps, eo, e4⟩ => ?_
  subst eo e4
  have J : Inv X pins σ G4 { w4 with heap := w4.heap.push { cls := .type "slice", data := .fields #[vl, vu, vs] } } := I4.kept (t' := w4.toks) fun b ob q => Heap.get?_push_of_some _ q
  obtain ⟨its, r, ht, hz⟩ := J.list hx
  have hlen := r.length
  show wpAny _ _ (subscriptTail e (.Slice none (some (.Constant (.int 0) k0 p0)) (some (.UnaryOp .USub (.Constant (.int 1) k p1) p2)) p3) (.ref a) (.ref w4.heap.objs.size)) _ _ _
  refine tail_any (ops := [.ref a, .ref w4.heap.objs.size]) ht.isList.typeIs (PySem.slot_list_getitem.lookup) ?_ (by with_unfolding_all rfl)
  refine wpAny_getItem_list_slice ht.isList (Heap.IsSliceOf.new _ vl vu vs) pl pu ps (by decide) ?_ (by rw [List.size_toArray]; omega)
  rw [pick_back]
  refine ⟨.ref _, _, J.laid (t' := w4.toks) (o := .lst (xs.drop 1).reverse) (fun b ob q => Heap.get?_push_of_some _ q) (Nat.le_refl _) ?_, rfl, q _ (J.hok.fresh (Nat.le_refl _))⟩
  exact ⟨by rw [List.length_reverse, List.length_drop]; omega, _, 0, (vals_drop r).reverse, Heap.get?_push_size _ rfl⟩
end
end Ow
/-! A class called with a starred list alone; a classmethod called so, and by keywords. -/
namespace Ow
open PySem PySem.Spec PyProof.Rows L2
/-- x(*e), x a local name that holds the class at C; Name(*e) -/
def tMakeS (K : PySem.W.Frag) (C : Addr) (sp : Sp) (E : XK) (te : TE) : TE := fun σ H Q => te σ H fun y H1 => ∃ a xs, y = V.ref a ∧ (SqT K H1 a xs ∨ SqL K H1 a xs) ∧
  ∀ x dx, H1 x = Option.none → H1 dx = Option.none → dx ≠ x → sp (V.ref x :: xs) (upd (upd H1 dx (.own x)) x (.ins C dx [])) (fun v H2 => v = .non ∧ Q (.ref x) H2) E
def tMakeLS (K : PySem.W.Frag) (i : Nat) (C : Addr) (sp : Sp) (E : XK) (te : TE) : TE := fun σ H Q => σ[i]? = some (some (.ref C)) ∧ tMakeS K C sp E te σ H Q
section
variable {X : Cx} {CX : CXT} {k i : Nat} {C f : Addr} {sp : Sp} {E : XK} {x : Str} {p pos ps : Pos} {e : Expr} {te : TE}
theorem pe_makeLS (M : Mk X.K C f) (F : FnR X.prog X.w X.K X.mg X.base CX k f sp) (hr : Room (k + 1) X.A) (hN : X.N[i]? = some x) (hv : Vis X.env.scope x) (hx : Passes CX X E) (he : PE X e te)
    (hdb : (x == ("__debug__" : Str)) = false := by decide) (hcd : (x == ("__classdict__" : Str)) = false := by decide) (hse : starEach [.Starred e ps] X.env = [(true, eval e X.env)] := by rfl) :
    PE X (.Call (.Name x p) [.Starred e ps] [] pos) (tMakeLS X.K i C sp E te) := by
  refine ⟨fun pins s σ H Q I h => ?_⟩
  obtain ⟨hs, ht⟩ := h
  have var := (pe_var (pos := p) hN hv hdb hcd).run pins s σ H (fun v H1 => v = .ref C ∧ H1 = H) I ⟨.ref C, hs, rfl, rfl⟩
  refine wpAny_Call_Name_kw (thn var fun u s1 got => ?_)
  obtain ⟨v, H1, I1, r1, q1⟩ := got
  obtain ⟨rfl, rfl⟩ := q1
  cases r1
  refine PySem.W.callWith_S (h₀ := X.base) I.ok.mod.kin M.kp (thn (he.run pins s1 σ _ _ I1 ht) fun v s2 got => ?_) hse
  obtain ⟨y, H2, I2, ry, a, xs, ey, hxs, q⟩ := got
  subst ey
  cases ry
  exact StX.star_any I2 hxs fun us s3 I3 rv => ⟨I3.kIn, StX.run_makeR M F hr hx I3 rv q⟩
theorem pe_makeGS (M : Mk X.K C f) (F : FnR X.prog X.w X.K X.mg X.base CX k f sp) (hr : Room (k + 1) X.A) (hg : Gl X x) (hm : X.mg x = some (.ref C)) (hx : Passes CX X E) (he : PE X e te)
    (hdb : (x == ("__debug__" : Str)) = false := by decide) (hse : starEach [.Starred e ps] X.env = [(true, eval e X.env)] := by rfl) :
    PE X (.Call (.Name x p) [.Starred e ps] [] pos) (tMakeS X.K C sp E te) := by
  refine ⟨fun pins s σ H Q I h => ?_⟩
  refine wpAny_Call_Name_kw (ld_glob I hg hm ?_ hdb)
  refine PySem.W.callWith_S (h₀ := X.base) I.ok.mod.kin M.kp (thn (he.run pins s σ H _ I h) fun v s2 got => ?_) hse
  obtain ⟨y, H2, I2, ry, a, xs, ey, hxs, q⟩ := got
  subst ey
  cases ry
  exact StX.star_any I2 hxs fun us s3 I3 rv => ⟨I3.kIn, StX.run_makeR M F hr hx I3 rv q⟩
end
/-- C.m(*e), m a classmethod -/
def tCMethS (K : PySem.W.Frag) (C : Addr) (sp : Sp) (E : XK) (ta te : TE) : TE := fun σ H Q => ta σ H fun x H1 => x = .ref C ∧ te σ H1 fun y H2 => ∃ a xs, y = V.ref a ∧ (SqT K H2 a xs ∨ SqL K H2 a xs) ∧ sp (.ref C :: xs) H2 Q E
section
open ClX
variable {X : Cx} {CX : CXT} {k : Nat} {C p g : Addr} {mc : Value} {sp : Sp} {E : XK} {o e : Expr} {m : Str} {pos apos ps : Pos} {ta te : TE} {pl : Sem Bool}
/-- o.m(*e): the callee is read as a value -/
theorem lone_call {M : Model} {A : Around} {E' : Value → Shared → Prop} {s : Shared} {env : Env} {Q : Value → Shared → Prop} (hb : attributeBase o m env (eval o env) = eval o env) (hs : starEach [.Starred e ps] env = [(true, eval e env)])
    (h : wpAny M A (eval o env) (fun ov s1 => wpAny M A (getAttr ov m true) (fun fv s2 => wpAny M A (callWith pos fv [] (backTo pos [(true, eval e env)]) []) Q E' s2) E' s1) E' s) : wpAny M A (eval (.Call (.Attribute o m apos) [.Starred e ps] [] pos) env) Q E' s := by
  have k1 : backToKw pos (keywordEach [] env) = ([] : List (Option Str × Sem Value)) := rfl
  have k2 : methodCallForm ([Expr.Starred e ps].length + ([] : List Keyword).length) (backTo pos [(true, eval e env)]) [] = false := rfl
  have k3 : methodCallPos false o env apos pos = pure pos := by rfl
  have k4 : ∀ x, calleeOf false o env x m = (getAttr x m true >>= fun v => pure (v, [])) := fun x => by rfl
  rw [arm_eval_Call, hb, hs, k1]
  refine wpAny_bind (wpAny_mono h (fun x s1 z => wpAny_bind (wpAny_standAt ?_)) fun _ _ y => y)
  unfold methodCall
  rw [k2, k3, k4]
  exact wpAny_bind (wpAny_holding (wpAny_bind (wpAny_mono z (fun fv s2 z2 => wpAny_pure (wpAny_bind (wpAny_pure z2))) fun _ _ y => y)))
theorem pe_cmethS (he : PE X o ta) (r : CRead X.K C mc) (c : CMet X.K C mc m p g) (F : FnR X.prog X.w X.K X.mg X.base CX k g sp) (hr : Room k X.A) (hx : Passes CX X E) (ha : PE X e te) (hbase : attributeBase o m X.env (eval o X.env) = eval o X.env := by rfl)
    (hse : starEach [.Starred e ps] X.env = [(true, eval e X.env)] := by rfl) : PE X (.Call (.Attribute o m apos) [.Starred e ps] [] pos) (tCMethS X.K C sp E ta te) := by
  refine ⟨fun pins s σ H Q I h => ?_⟩
  refine lone_call hbase hse (thn (he.run pins s σ H _ I h) fun u s1 got => ?_)
  obtain ⟨x, H1, I1, rx, rfl, q⟩ := got
  cases rx
  refine getcmet_ok I1 r c fun s2 I2 => ?_
  refine PySem.W.ks_call (P := PySem.W.MethP X.K _ g (.ref C)) rfl (PySem.W.keeps_M c.fi) (PySem.W.ks_lone (thn (ha.run _ s2 σ H1 _ I2 q) fun v s3 got => ?_))
  obtain ⟨y, H3, I3, ry, a, xs, ey, hxs, q3⟩ := got
  subst ey
  cases ry
  refine StX.star_any I3 hxs fun us s4 I4 rv => ⟨⟨pin_at I4, I4.kIn⟩, ?_⟩
  exact run_cm F hr hx I4 rv q3
end
end Ow
/-! A classmethod called by keywords alone; one without stars by position. -/
namespace Ow
open PySem PySem.Spec PyProof.Rows L2
def tCMethK (C : Addr) (n : Nat) (sp : Sp) (gV : List V → List V → List V) (E : XK) (ta : TE) (tk : TA) : TE := fun σ H Q => ta σ H fun x H1 => x = .ref C ∧ tk σ H1 fun zs H2 => zs.length = n ∧ sp (gV [.ref C] zs) H2 Q E
section
open ClX
variable {X : Cx} {CX : CXT} {k : Nat} {C p g : Addr} {mc : Value} {fd : FuncData} {ps ks : List Str} {sp : Sp} {E : XK} {o : Expr} {m : Str} {pos apos : Pos} {ta : TE} {tk : TA} {pl : Sem Bool} {kws : List Keyword} {gf : List Value → List Value → List Value} {gV : List V → List V → List V}
/-- a classmethod's promise by position -/
theorem fnR_of {P : Program} {w : World} {K : PySem.W.Frag} {mg : Str → Option Value} {base : Heap} (F : FnOk P w K mg base CX k g fd ps sp) (hb : Binds K fd ps []) (kin : K.In base) : FnR P w K mg base CX k g sp := by
  intro A outer s H us vs Q E hr e0 r h
  have hl : us.length = ps.length := by rw [← r.length]; exact F.len _ _ _ _ h
  have b := hb s us (kin.keeps fun b o e => (e0.bs b o e).1) (by rw [List.append_nil]; exact hl)
  rw [List.append_nil] at b
  exact F.run A outer s H ⟨us, []⟩ us vs Q E hr e0 b r h
theorem run_cmK {pins : List (Addr × Obj)} {σ : L2.St} {H : Hp} {s : Shared} {Q : VK} {q : Addr} {ws : List Value} {zs : List V} (F : FnOk X.prog X.w X.K X.mg X.base CX k g fd ps sp) (hr : Room k X.A) (hb : KBn X.K fd ps 1 ks gf gV) (hx : Passes CX X E)
    (I : Inv X ((q, PySem.W.methodObj (.ref g) (.ref C)) :: pins) σ H s) (rz : Vals zs ws) (hl : zs.length = ks.length) (h : sp (gV [.ref C] zs) H Q E) : wpAny (model X.prog X.w) X.A (call (.ref q) [] (ks.zip ws)) (EP X pins σ Q) X.xe s := by
  have z : wpAny (model X.prog X.w) X.A (call (.ref q) [] (ks.zip ws)) (EP X ((q, PySem.W.methodObj (.ref g) (.ref C)) :: pins) σ Q) X.xe s := by
    refine wpAny_call (PySem.W.method_call (pin_at I) (codeAny_mono (F.run X.A X.stack s H ⟨[.ref C], ks.zip ws⟩ (gf [.ref C] ws) (gV [.ref C] zs) Q E hr I.env0 (hb.to s [.ref C] ws I.kIn rfl (rz.length.symm.trans hl)) (hb.rel (.cons rfl .nil) rz) h) fun res s' hq => ?_))
    cases res with
    | error e => exact hx _ σ H s e s' I hq
    | ok fl =>
      cases fl with
      | ret u => exact I.after hq
      | next => exact hq.elim
      | brk => exact hq.elim
      | cont => exact hq.elim
  exact thn z fun _ _ y => unpinE y
theorem pe_cmethK0 (he : PE X o ta) (r : CRead X.K C mc) (c : CMet X.K C mc m p g) (F : FnOk X.prog X.w X.K X.mg X.base CX k g fd ps sp) (hr : Room k X.A) (hb : KBn X.K fd ps 1 ks gf gV) (hx : Passes CX X E) (hkw : PK X kws tk)
    (hall : (backToKw pos (keywordEach kws X.env)).all (·.1.isSome) = true := by rfl) (hks : (backToKw pos (keywordEach kws X.env)).filterMap (·.1) = ks := by rfl)
    (hpl : ((backTo pos (starEach [] X.env)).any (·.1) || (backToKw pos (keywordEach kws X.env)).any (·.1.isNone)) = false := by rfl)
    (ht : eval (.Call (.Attribute o m apos) [] kws pos) X.env = (do
      let ov ← eval o X.env
      standAt apos.atName
      let (f, first) ← holding [ov] (getMethod ov m pl)
      callWith pos f first (backTo pos (starEach [] X.env)) (backToKw pos (keywordEach kws X.env))) := by rfl) :
    PE X (.Call (.Attribute o m apos) [] kws pos) (tCMethK C ks.length sp gV E ta tk) := by
  refine ⟨fun pins s σ H Q I h => PySem.W.methodCall_KW (pl := pl) (thn (he.run pins s σ H _ I h) fun u s1 got => ?_) ht⟩
  obtain ⟨x, H1, I1, rx, rfl, q⟩ := got
  cases rx
  refine getmethcm_ok I1 r c fun s2 I2 => ?_
  refine PySem.W.callWith_of (P := PySem.W.MethP X.K _ g (.ref C)) hpl (PySem.W.keeps_M c.fi) (evalArgs_kw2_nil hall (thn (hkw.run pos _ s2 σ H1 _ I2 q) fun ws s3 got => ?_))
  obtain ⟨zs, H3, I3, rz, hl, q3⟩ := got
  refine ⟨⟨pin_at I3, I3.kIn⟩, ?_⟩
  rw [hks]
  exact run_cmK F hr hb hx I3 rz hl q3
end
/-- a classmethod, as others call it -/
structure CMS (P : Program) (w : World) (K : PySem.W.Frag) (mg : Str → Option Value) (base : Heap) (k : Nat) (C : Addr) (m : Str) (sp : Sp) : Prop where
  ex : ∃ mc p g, ClX.CRead K C mc ∧ ClX.CMet K C mc m p g ∧ FnR P w K mg base CX0 k g sp
structure CMK (P : Program) (w : World) (K : PySem.W.Frag) (mg : Str → Option Value) (base : Heap) (k : Nat) (C : Addr) (m : Str) (ps ks : List Str) (gV : List V → List V → List V) (sp : Sp) : Prop where
  ex : ∃ mc p g fd gf, ClX.CRead K C mc ∧ ClX.CMet K C mc m p g ∧ FnOk P w K mg base CX0 k g fd ps sp ∧ KBn K fd ps 1 ks gf gV
section
variable {X : Cx} {k : Nat} {C : Addr} {ps ks : List Str} {sp : Sp} {o e : Expr} {es : List Expr} {m : Str} {pos apos sp_ : Pos} {ta te : TE} {t tk : TA} {pl : Sem Bool} {kws : List Keyword} {gV : List V → List V → List V}
theorem pe_cmR (c : CMS X.prog X.w X.K X.mg X.base k C m sp) (hr : Room k X.A) (he : PE X o ta) (ha : PA X (e :: es) t)
    (hst : starEach (e :: es) X.env = (false, eval e X.env) :: starEach es X.env := by rfl) (hpl : (backTo pos (starEach es X.env)).any (·.1) = false := by rfl)
    (ht : eval (.Call (.Attribute o m apos) (e :: es) [] pos) X.env = (do
      let ov ← eval o X.env
      standAt apos.atName
      let (f, first) ← holding [ov] (getMethod ov m pl)
      callWith pos f first (backTo pos (starEach (e :: es) X.env)) (backToKw pos (keywordEach [] X.env))) := by rfl) :
    PE X (.Call (.Attribute o m apos) (e :: es) [] pos) (ClX.tCMeth C sp E0 ta t) := by
  obtain ⟨mc, p, g, r, cm, F⟩ := c.ex
  exact ClX.pe_cmeth (pl := pl) he r cm F hr pass0 ha hst hpl ht
theorem pe_cmS (c : CMS X.prog X.w X.K X.mg X.base k C m sp) (hr : Room k X.A) (he : PE X o ta) (ha : PE X e te) (hbase : attributeBase o m X.env (eval o X.env) = eval o X.env := by rfl) (hse : starEach [.Starred e sp_] X.env = [(true, eval e X.env)] := by rfl) :
    PE X (.Call (.Attribute o m apos) [.Starred e sp_] [] pos) (tCMethS X.K C sp E0 ta te) := by
  obtain ⟨mc, p, g, r, cm, F⟩ := c.ex
  exact pe_cmethS he r cm F hr pass0 ha hbase hse
theorem pe_cmK (c : CMK X.prog X.w X.K X.mg X.base k C m ps ks gV sp) (hr : Room k X.A) (he : PE X o ta) (hkw : PK X kws tk)
    (hall : (backToKw pos (keywordEach kws X.env)).all (·.1.isSome) = true := by rfl) (hks : (backToKw pos (keywordEach kws X.env)).filterMap (·.1) = ks := by rfl)
    (hpl : ((backTo pos (starEach [] X.env)).any (·.1) || (backToKw pos (keywordEach kws X.env)).any (·.1.isNone)) = false := by rfl)
    (ht : eval (.Call (.Attribute o m apos) [] kws pos) X.env = (do
      let ov ← eval o X.env
      standAt apos.atName
      let (f, first) ← holding [ov] (getMethod ov m pl)
      callWith pos f first (backTo pos (starEach [] X.env)) (backToKw pos (keywordEach kws X.env))) := by rfl) :
    PE X (.Call (.Attribute o m apos) [] kws pos) (tCMethK C ks.length sp gV E0 ta tk) := by
  obtain ⟨mc, p, g, fd, gf, r, cm, F, hb⟩ := c.ex
  exact pe_cmethK0 (pl := pl) he r cm F hr hb pass0 hkw hall hks hpl ht
end
end Ow
/-! Classmethods, operators' defs, at the text's top. -/
namespace Hd
open PySem PySem.Spec PyProof.Rows L2 Ow
/-- where a classmethod's def stands -/
def cmac (cl x : Str) (K : Fr) : Addr := He5.wf K (He.ga K cl) "classmethod" x
def aCM (cl x : Str) : Ask := fun K => He5.wrapB K (He.ga K cl) "classmethod" "classmethod.__get__" x && PySem.W.fnIn K (cmac cl x K)
def aRdc (cl : Str) : Ask := fun K => PySem.W.readsIn K (He.ga K cl) (.type "type")
section
variable {K : Fr}
theorem cm_of {cl x : Str} (c : aCM cl x K = true) : ClX.CMet K (He.ga K cl) (.type "type") x (pac cl x K) (cmac cl x K) := He5.cmet_of (He.ba c).1 (He.ba c).2
theorem rdc_of {cl : Str} (c : aRdc cl K = true) : ClX.CRead K (He.ga K cl) (.type "type") := by
  have c0 : PySem.W.readsIn K (He.ga K cl) (.type "type") = true := c
  refine ⟨c0, ?_⟩
  unfold PySem.W.readsIn at c0
  simp only [Bool.and_eq_true, beq_iff_eq] at c0
  unfold PySem.W.specialIn
  rw [c0.1.1.1.2]
  exact c0.1.1.2
end
theorem kb_swap {K : PySem.W.Frag} {x qual : Str} {pa : Arguments} {bd : List Stmt} {sc : Scope} {kws : List (Str × V)} {f : Addr} {fd : FuncData} {ps ks : List Str} (F : FunD K x qual pa bd sc [] kws f fd)
    (h : ∀ (kV doc pm : Value) (an : Option Addr) (cdv ct : Value) (us ws : List Value), us.length = 1 → ws.length = ks.length → bindArgs (PySem.W.fnOf x qual pa bd sc .none kV doc pm an cdv ct) ⟨us, ks.zip ws⟩ = pure (ps.zip (mix us [] ws))) :
    KBn K fd ps 1 ks (fun us ws => mix us [] ws) (fun vs zs => mix vs [] zs) := by
  obtain ⟨oc, od, dV, kV, doc, pm, an, cdv, ct, osl, rfl, lk, hcd, hD, hK⟩ := F.ex
  rcases hD with ⟨_, rfl⟩ | ⟨e, _⟩
  · exact ⟨fun s us ws _ l1 l2 => .of_eq (h kV doc pm an cdv ct us ws l1 l2), fun a b => mix_ok a .nil b⟩
  · exact absurd rfl e
end Hd
namespace Hd
open PySem PySem.Spec PyProof.Rows L2 Ow
/-- two classes of the text are two -/
def aNe (a b : Str) : Ask := fun K => decide (He.ga K a ≠ He.ga K b)
theorem ne_of_ask {K : Fr} {a b : Str} (h : aNe a b K = true) : He.ga K a ≠ He.ga K b := of_decide_eq_true h
end Hd
namespace Hd
open PySem PySem.Spec PyProof.Rows L2 Ow Pt Ra
def ds : List He5.DefA := ([
  ⟨fun K => He.ga K "is_integer", "is_integer", "is_integer", defArgs sIsInt, defBody sIsInt, defScope sIsInt, [], []⟩,
  ⟨fun K => He.ga K "is_number", "is_number", "is_number", defArgs sNumber, defBody sNumber, defScope sNumber, [], []⟩,
  ⟨fun K => He.ga K "as_ratio", "as_ratio", "as_ratio", defArgs sAsRatio, defBody sAsRatio, defScope sAsRatio, [], []⟩,
  ⟨pac "Ratio" "__init__", "__init__", "Ratio.__init__", defArgs sInit, defBody sInit, defScope sInit, [.int 1], []⟩,
  ⟨getac "Ratio" "top", "top", "Ratio.top", defArgs sTop, defBody sTop, defScope sTop, [], []⟩,
  ⟨getac "Ratio" "bottom", "bottom", "Ratio.bottom", defArgs sBottom, defBody sBottom, defScope sBottom, [], []⟩,
  ⟨getac "Ratio" "sign", "sign", "Ratio.sign", defArgs sSign, defBody sSign, defScope sSign, [], []⟩,
  ⟨cmac "Ratio" "total", "total", "Ratio.total", defArgs sTotal, defBody sTotal, defScope sTotal, [], []⟩,
  ⟨pac "Ratio" "__add__", "__add__", "Ratio.__add__", defArgs sAdd, defBody sAdd, defScope sAdd, [], []⟩,
  ⟨pac "Ratio" "__mul__", "__mul__", "Ratio.__mul__", defArgs sMul, defBody sMul, defScope sMul, [], []⟩,
  ⟨pac "Ratio" "over", "over", "Ratio.over", defArgs sOver, defBody sOver, defScope sOver, [], []⟩,
  ⟨pac "Ratio" "__sub__", "__sub__", "Ratio.__sub__", defArgs sSub, defBody sSub, defScope sSub, [], []⟩,
  ⟨pac "Ratio" "__neg__", "__neg__", "Ratio.__neg__", defArgs sNeg, defBody sNeg, defScope sNeg, [], []⟩,
  ⟨pac "Ratio" "is_below", "is_below", "Ratio.is_below", defArgs sBelow, defBody sBelow, defScope sBelow, [], []⟩,
  ⟨pac "Ratio" "__eq__", "__eq__", "Ratio.__eq__", defArgs sEq, defBody sEq, defScope sEq, [], []⟩,
  ⟨pac "Ratio" "__repr__", "__repr__", "Ratio.__repr__", defArgs sRepr, defBody sRepr, defScope sRepr, [], []⟩,
  ⟨fun K => He.ga K "is_place", "is_place", "is_place", defArgs d_is_place, defBody d_is_place, defScope d_is_place, [], []⟩,
  ⟨fun K => He.ga K "without_divisor", "without_divisor", "without_divisor", defArgs d_without_divisor, defBody d_without_divisor, defScope d_without_divisor, [], []⟩,
  ⟨fun K => He.ga K "whole_numbers", "whole_numbers", "whole_numbers", defArgs d_whole_numbers, defBody d_whole_numbers, defScope d_whole_numbers, [], []⟩,
  ⟨fun K => He.ga K "check_table", "check_table", "check_table", defArgs d_check_table, defBody d_check_table, defScope d_check_table, [], []⟩,
  ⟨fun K => He.ga K "check_many", "check_many", "check_many", defArgs d_check_many, defBody d_check_many, defScope d_check_many, [], []⟩,
  ⟨fun K => He.ga K "check_points", "check_points", "check_points", defArgs d_check_points, defBody d_check_points, defScope d_check_points, [], []⟩,
  ⟨fun K => He.ga K "check_steps", "check_steps", "check_steps", defArgs d_check_steps, defBody d_check_steps, defScope d_check_steps, [], []⟩,
  ⟨pac "Table" "__init__", "__init__", "Table.__init__", defArgs d_Table___init__, defBody d_Table___init__, defScope d_Table___init__, [], []⟩] : List He5.DefA) ++ ([
  ⟨cmac "Table" "of_steps", "of_steps", "Table.of_steps", defArgs d_Table_of_steps, defBody d_Table_of_steps, defScope d_Table_of_steps, [], []⟩,
  ⟨pac "Table" "points", "points", "Table.points", defArgs d_Table_points, defBody d_Table_points, defScope d_Table_points, [], []⟩,
  ⟨pac "Table" "steps", "steps", "Table.steps", defArgs d_Table_steps, defBody d_Table_steps, defScope d_Table_steps, [], []⟩,
  ⟨pac "Table" "__getitem__", "__getitem__", "Table.__getitem__", defArgs d_Table___getitem__, defBody d_Table___getitem__, defScope d_Table___getitem__, [], []⟩,
  ⟨getac "Table" "paid", "paid", "Table.paid", defArgs d_Table_paid, defBody d_Table_paid, defScope d_Table_paid, [], []⟩,
  ⟨pac "Table" "reduced", "reduced", "Table.reduced", defArgs d_Table_reduced, defBody d_Table_reduced, defScope d_Table_reduced, [], []⟩,
  ⟨pac "Table" "__add__", "__add__", "Table.__add__", defArgs d_Table___add__, defBody d_Table___add__, defScope d_Table___add__, [], []⟩,
  ⟨pac "Table" "__mul__", "__mul__", "Table.__mul__", defArgs d_Table___mul__, defBody d_Table___mul__, defScope d_Table___mul__, [], []⟩,
  ⟨pac "Table" "__rmul__", "__rmul__", "Table.__rmul__", defArgs d_Table___rmul__, defBody d_Table___rmul__, defScope d_Table___rmul__, [], []⟩,
  ⟨pac "Table" "__eq__", "__eq__", "Table.__eq__", defArgs d_Table___eq__, defBody d_Table___eq__, defScope d_Table___eq__, [], []⟩,
  ⟨pac "Table" "__repr__", "__repr__", "Table.__repr__", defArgs d_Table___repr__, defBody d_Table___repr__, defScope d_Table___repr__, [], []⟩,
  ⟨fun K => He.ga K "_law_pot", "_law_pot", "_law_pot", defArgs sPot, defBody sPot, defScope sPot, [], []⟩,
  ⟨fun K => He.ga K "_law_draw", "_law_draw", "_law_draw", defArgs sDraw, defBody sDraw, defScope sDraw, [], []⟩,
  ⟨fun K => He.ga K "_law_pick", "_law_pick", "_law_pick", defArgs sPick, defBody sPick, defScope sPick, [], []⟩,
  ⟨fun K => He.ga K "_law_common", "_law_common", "_law_common", defArgs sCommon, defBody sCommon, defScope sCommon, [], []⟩,
  ⟨fun K => He.ga K "_law_low", "_law_low", "_law_low", defArgs sLow, defBody sLow, defScope sLow, [], []⟩,
  ⟨fun K => He.ga K "_law_plus", "_law_plus", "_law_plus", defArgs sPlus, defBody sPlus, defScope sPlus, [], []⟩,
  ⟨fun K => He.ga K "_law_minus", "_law_minus", "_law_minus", defArgs sMinus, defBody sMinus, defScope sMinus, [], []⟩,
  ⟨fun K => He.ga K "_law_steps", "_law_steps", "_law_steps", defArgs d__law_steps, defBody d__law_steps, defScope d__law_steps, [], []⟩,
  ⟨fun K => He.ga K "_law_points", "_law_points", "_law_points", defArgs d__law_points, defBody d__law_points, defScope d__law_points, [], []⟩,
  ⟨fun K => He.ga K "_law_number", "_law_number", "_law_number", defArgs d__law_number, defBody d__law_number, defScope d__law_number, [], []⟩,
  ⟨fun K => He.ga K "_law_by_points", "_law_by_points", "_law_by_points", defArgs d__law_by_points, defBody d__law_by_points, defScope d__law_by_points, [], []⟩,
  ⟨fun K => He.ga K "_law_by_steps", "_law_by_steps", "_law_by_steps", defArgs d__law_by_steps, defBody d__law_by_steps, defScope d__law_by_steps, [], []⟩,
  ⟨fun K => He.ga K "_law_all", "_law_all", "_law_all", defArgs d__law_all, defBody d__law_all, defScope d__law_all, [], []⟩] : List He5.DefA) ++ ([
  ⟨fun K => He.ga K "_law_spoil", "_law_spoil", "_law_spoil", defArgs d__law_spoil, defBody d__law_spoil, defScope d__law_spoil, [], []⟩,
  ⟨fun K => He.ga K "_law_lists_right", "_law_lists_right", "_law_lists_right", defArgs d__law_lists_right, defBody d__law_lists_right, defScope d__law_lists_right, [], []⟩,
  ⟨fun K => He.ga K "_law_deeds_right", "_law_deeds_right", "_law_deeds_right", defArgs d__law_deeds_right, defBody d__law_deeds_right, defScope d__law_deeds_right, [], []⟩,
  ⟨fun K => He.ga K "_law_shared", "_law_shared", "_law_shared", defArgs d__law_shared, defBody d__law_shared, defScope d__law_shared, [], []⟩,
  ⟨fun K => He.ga K "_law_right", "_law_right", "_law_right", defArgs d__law_right, defBody d__law_right, defScope d__law_right, [], []⟩,
  ⟨fun K => He.ga K "law", "law", "law", defArgs d_law, defBody d_law, defScope d_law, [], []⟩] : List He5.DefA)
def cs : List Ask := ([
  aCls "Ratio",
  aNoat "Ratio" "_top",
  aNoat "Ratio" "_bottom",
  aGlo "Ratio",
  aSelf "Ratio",
  aSub (vb "int") (vc "Ratio") false,
  aSub (vc "Ratio") (vb "int") false,
  aFindB "Ratio" "__class__" "object.__class__",
  aObjG,
  aObjT,
  aMro "Ratio",
  aKit (vc "Ratio") (vc "Ratio") true,
  aKit (vb "int") (vc "Ratio") false,
  aFree "isinstance",
  aFree "int",
  aFree "bool",
  aFree "str",
  aBlt "gcd" "math.gcd",
  aFree "len",
  aFree "abs",
  aFree "max",
  aFree "min",
  aFree "divmod",
  aFree "range"] : List Ask) ++ ([
  aFree "all",
  aFree "zip",
  aFree "repr",
  aFree "list",
  aFree "tuple",
  aFree "any",
  aFree "enumerate",
  aKit (vb "str") (vc "Ratio") false,
  aKit (vc "Ratio") (vb "int") false,
  aKit (vc "Ratio") (vb "bool") false,
  aKit (vc "Ratio") (vb "str") false,
  aCls "Table",
  aNoat "Table" "_points",
  aGlo "Table",
  aInt "PLACES" 5,
  aFindB "Table" "__class__" "object.__class__",
  aMro "Table",
  aKit (vc "Table") (vc "Table") true,
  aSelf "Table",
  aSub (vb "int") (vc "Table") false,
  aSub (vc "Table") (vb "int") false,
  aBlt "lcm" "math.lcm",
  aNe "Table" "Ratio",
  aGlo "is_integer"] : List Ask) ++ ([
  aMkr "Ratio",
  aGlo "as_ratio",
  aPrp "Ratio" "top",
  aPrp "Ratio" "bottom",
  aPrp "Ratio" "sign",
  aOp "Ratio" "__add__",
  aOp "Ratio" "__radd__",
  aIntS "__add__",
  aIntS "__radd__",
  aOp "Ratio" "__neg__",
  aOp "Ratio" "__sub__",
  aOp "Ratio" "__rsub__",
  aIntS "__sub__",
  aIntS "__rsub__",
  aOp "Ratio" "__mul__",
  aOp "Ratio" "__rmul__",
  aIntS "__mul__",
  aIntS "__rmul__",
  aMeth "Ratio" "over",
  aOp "Ratio" "__repr__",
  aGlo "is_number",
  aMeth "Ratio" "is_below",
  aOp "Ratio" "__eq__",
  aFindB "Ratio" "__ne__" "object.__ne__"] : List Ask) ++ ([
  aNF "Ratio" (vc "Ratio"),
  aRdc "Ratio",
  aCM "Ratio" "total",
  aGlo "is_place",
  aGlo "check_many",
  aGlo "check_points",
  aGlo "check_steps",
  aMkr "Table",
  aRdc "Table",
  aCM "Table" "of_steps",
  aMeth "Table" "points",
  aMeth "Table" "steps",
  aOp "Table" "__getitem__",
  aFnI "Table" "__getitem__",
  aPrp "Table" "paid",
  aOp "Table" "__eq__",
  aNF "Table" (vc "Table"),
  aOp "Table" "__repr__",
  aGlo "without_divisor",
  aGlo "check_table",
  aGlo "whole_numbers",
  aMeth "Table" "reduced",
  aOp "Table" "__add__",
  aNoat "Table" "__radd__"] : List Ask) ++ ([
  aOp "Table" "__mul__",
  aOp "Table" "__rmul__",
  aGlo "_law_pot",
  aGlo "_law_draw",
  aGlo "_law_pick",
  aGlo "_law_common",
  aGlo "_law_low",
  aGlo "_law_plus",
  aGlo "_law_minus",
  aGlo "_law_steps",
  aGlo "_law_points",
  aGlo "_law_number",
  aGlo "_law_by_points",
  aGlo "_law_by_steps",
  aGlo "_law_all",
  aGlo "_law_spoil",
  aGlo "_law_lists_right",
  aSub (vc "Ratio") (vc "Table") false,
  aGlo "_law_deeds_right",
  aGlo "_law_shared",
  aGlo "_law_right",
  aGlo "law"] : List Ask)
end Hd
namespace Hd
open PySem PySem.Spec PyProof.Rows L2
abbrev ORow : PySem.W.OpenRow := PySem.W.OpenLaw.row PySem.Challenge.rw_anypoints_k18_tables_and_ratios_share_no
abbrev hk : PySem.W.Hook := hkOf 5 cs ds
def ob (s : PySem.W.SharedT) : He.AlD := lookG 5 cs ds (HandSHeadRun.getT s)
theorem ob_eq (s : PySem.W.SharedT) : ob s = hk.obs s.abs := lookG_eq (HandSHeadRun.getT_eq s)
def loose : List Str := (["_wall", "__name__", "PointsError", "InvalidNumber", "InvalidPoints", "InvalidPlace", "InvalidTable", "StateError", "DividedByZero", "is_integer", "is_number", "as_ratio", "Ratio", "PLACES", "is_place", "without_divisor"] : List Str) ++ (["whole_numbers", "check_table", "check_many", "check_points", "check_steps", "Table", "_law_pot", "_law_draw", "_law_pick", "_law_common", "_law_low", "_law_plus", "_law_minus", "_law_times", "_law_steps", "_law_points"] : List Str) ++ (["_law_number", "_law_paid", "_law_shown", "_law_by_points", "_law_by_steps", "_law_all", "_law_spoil", "_law_lists_right", "_law_deeds_right", "_law_shared", "_law_right"] : List Str)
end Hd
namespace Hd
open PySem PySem.Spec PyProof.Rows L2
abbrev qv : Program := PySem.W.view ORow.prog [0, 47]
theorem run (w : World) : HandSHeadRun.RunEqI ORow qv hk ob 30000 loose w := by
  unfold HandSHeadRun.RunEqI
  kernel_rfl
end Hd
/-! Fractions in lowest terms, as plain integers. -/
namespace Rm
def sg (b : Int) : Int := if 0 < b then 1 else -1
def byv (t b : Int) : Int := (Int.gcd t b : Int) * sg b
def low (t b : Int) : Int × Int := (t.fdiv (byv t b), b.fdiv (byv t b))
structure Lw (n d : Int) : Prop where
  pos : 0 < d
  cop : Int.gcd n d = 1

theorem sg_ne (b : Int) : sg b ≠ 0 := by unfold sg; split <;> omega
theorem gcd_pos {t b : Int} (hb : b ≠ 0) : 0 < Int.gcd t b := Int.gcd_pos_of_ne_zero_right t hb
theorem byv_ne {t b : Int} (hb : b ≠ 0) : byv t b ≠ 0 := by
  have h := gcd_pos (t := t) hb
  unfold byv sg
  split <;> omega
theorem byv_eq {t b : Int} (hb : b ≠ 0) : (if b < 0 then -(Int.gcd t b : Int) else (Int.gcd t b : Int)) = byv t b := by
  unfold byv sg
  by_cases h : b < 0
  · rw [if_pos h, if_neg (by omega)]; omega
  · rw [if_neg h, if_pos (by omega)]; omega
theorem byv_natAbs {t b : Int} : (byv t b).natAbs = Int.gcd t b := by
  unfold byv sg
  split <;> simp [Int.natAbs_mul]
theorem byv_le {t b : Int} (hb : b ≠ 0) : (byv t b).natAbs ≤ b.natAbs := by
  rw [byv_natAbs]
  exact Nat.le_of_dvd (by omega) (Nat.gcd_dvd_right _ _)
theorem byv_dvd_t (t b : Int) : byv t b ∣ t := by
  have h : (Int.gcd t b : Int) ∣ t := Int.gcd_dvd_left ..
  unfold byv sg
  split
  · rw [Int.mul_one]; exact h
  · rw [Int.mul_neg, Int.mul_one]; exact Int.neg_dvd.mpr h
theorem byv_dvd_b (t b : Int) : byv t b ∣ b := by
  have h : (Int.gcd t b : Int) ∣ b := Int.gcd_dvd_right ..
  unfold byv sg
  split
  · rw [Int.mul_one]; exact h
  · rw [Int.mul_neg, Int.mul_one]; exact Int.neg_dvd.mpr h
theorem fdiv_mul_of_dvd {t g : Int} (h : g ∣ t) : t.fdiv g * g = t := Int.fdiv_mul_cancel h
theorem low_t {t b : Int} : (low t b).1 * byv t b = t := fdiv_mul_of_dvd (byv_dvd_t t b)
theorem low_b {t b : Int} : (low t b).2 * byv t b = b := fdiv_mul_of_dvd (byv_dvd_b t b)
theorem low_lw (t : Int) {b : Int} (hb : b ≠ 0) : Lw (low t b).1 (low t b).2 := by
  have e1 := low_t (t := t) (b := b)
  have e2 := low_b (t := t) (b := b)
  have hg := gcd_pos (t := t) hb
  refine ⟨?_, ?_⟩
  · unfold byv sg at e2
    by_cases h : 0 < b
    · rw [if_pos h, Int.mul_one] at e2
      have : 0 < (low t b).2 * (Int.gcd t b : Int) := by rw [e2]; exact h
      exact Int.pos_of_mul_pos_left this (by omega) |> fun z => z
    · rw [if_neg h, Int.mul_neg, Int.mul_one, Int.mul_neg] at e2
      have : 0 < (low t b).2 * (Int.gcd t b : Int) := by omega
      exact Int.pos_of_mul_pos_left this (by omega)
  · have e : Int.gcd ((low t b).1 * byv t b) ((low t b).2 * byv t b) = Int.gcd t b := by rw [e1, e2]
    rw [Int.gcd_mul_right, byv_natAbs] at e
    exact Nat.eq_of_mul_eq_mul_right hg (by rw [e, Nat.one_mul])
theorem byv_lw {n d : Int} (h : Lw n d) : byv n d = 1 := by
  unfold byv sg
  rw [h.cop, if_pos h.pos]
  rfl
theorem low_id {n d : Int} (h : Lw n d) : low n d = (n, d) := by
  unfold low
  rw [byv_lw h, Int.fdiv_one, Int.fdiv_one]
theorem lw_int (n : Int) : Lw n 1 := ⟨by omega, by simp⟩
theorem low_int (n : Int) : low n 1 = (n, 1) := low_id (lw_int n)
theorem lw_neg {n d : Int} (h : Lw n d) : Lw (-n) d := ⟨h.pos, by rw [Int.neg_gcd]; exact h.cop⟩
theorem low_neg {n d : Int} (h : Lw n d) : low (-n) d = (-n, d) := low_id (lw_neg h)
theorem natAbs_le_mul {a g : Int} (hg : g ≠ 0) : a.natAbs ≤ (a * g).natAbs := by
  rw [Int.natAbs_mul]
  exact Nat.le_mul_of_pos_right _ (by omega)
theorem low_le1 (t : Int) {b : Int} (hb : b ≠ 0) : (low t b).1.natAbs ≤ t.natAbs := by
  have := natAbs_le_mul (a := (low t b).1) (byv_ne (t := t) hb)
  rw [low_t] at this
  exact this
theorem low_le2 (t : Int) {b : Int} (hb : b ≠ 0) : (low t b).2.natAbs ≤ b.natAbs := by
  have := natAbs_le_mul (a := (low t b).2) (byv_ne (t := t) hb)
  rw [low_b] at this
  exact this

/-! sums, differences, products of fractions -/
def plus (a b : Int × Int) : Int × Int := low (a.1 * b.2 + b.1 * a.2) (a.2 * b.2)
def minus (a b : Int × Int) : Int × Int := low (a.1 * b.2 - b.1 * a.2) (a.2 * b.2)
def times (a b : Int × Int) : Int × Int := low (a.1 * b.1) (a.2 * b.2)
def over (a b : Int × Int) : Int × Int := low (a.1 * b.2) (a.2 * b.1)

/-- below 2 ^ k -/
def Bd (k : Nat) (x : Int) : Prop := x.natAbs < 2 ^ k
theorem Bd.mono {j k : Nat} {x : Int} (h : Bd j x) (l : j ≤ k) : Bd k x := Nat.lt_of_lt_of_le h (Nat.pow_le_pow_right (by decide) l)
theorem Bd.neg {k : Nat} {x : Int} (h : Bd k x) : Bd k (-x) := by unfold Bd at *; rw [Int.natAbs_neg]; exact h
theorem Bd.mul {j k : Nat} {x y : Int} (h : Bd j x) (h' : Bd k y) : Bd (j + k) (x * y) := by
  unfold Bd at *
  rw [Int.natAbs_mul, Nat.pow_add]
  exact Nat.mul_lt_mul'' h h'
theorem Bd.add {k : Nat} {x y : Int} (h : Bd k x) (h' : Bd k y) : Bd (k + 1) (x + y) := by
  unfold Bd at *
  have := Int.natAbs_add_le x y
  rw [Nat.pow_succ]
  omega
theorem Bd.sub {k : Nat} {x y : Int} (h : Bd k x) (h' : Bd k y) : Bd (k + 1) (x - y) := by
  rw [Int.sub_eq_add_neg]
  exact h.add h'.neg
theorem Bd.le {k : Nat} {x y : Int} (h : Bd k y) (l : x.natAbs ≤ y.natAbs) : Bd k x := Nat.lt_of_le_of_lt l h
theorem Bd.log2 {k : Nat} {x : Int} (h : Bd k x) (hk : 0 < k) : x.natAbs.log2 < k := by
  unfold Bd at h
  by_cases h0 : x.natAbs = 0
  · rw [h0]; simpa using hk
  · exact (Nat.log2_lt h0).mpr h
theorem bd_low1 {k : Nat} {t b : Int} (hb : b ≠ 0) (h : Bd k t) : Bd k (low t b).1 := h.le (low_le1 t hb)
theorem bd_low2 {k : Nat} {t b : Int} (hb : b ≠ 0) (h : Bd k b) : Bd k (low t b).2 := h.le (low_le2 t hb)
theorem mul_ne {a b : Int} (ha : 0 < a) (hb : 0 < b) : a * b ≠ 0 := Int.ne_of_gt (Int.mul_pos ha hb)
theorem bd_one {k : Nat} (h : 0 < k) : Bd k 1 := by
  unfold Bd
  exact Nat.one_lt_two_pow (by omega)
theorem bd_zero {k : Nat} : Bd k 0 := by
  unfold Bd
  exact Nat.pow_pos (by decide)
end Rm
/-! Fractions in lowest terms and rational numbers. -/
namespace Rm
theorem low_mul {n d m : Int} (h : Lw n d) (hm : m ≠ 0) : low (n * m) (d * m) = (n, d) := by
  have hd : d * m ≠ 0 := Int.mul_ne_zero (by have := h.pos; omega) hm
  have e : byv (n * m) (d * m) = m := by
    unfold byv sg
    rw [Int.gcd_mul_right, h.cop, Nat.one_mul]
    have hp := h.pos
    by_cases c : 0 < m
    · rw [if_pos (Int.mul_pos hp c)]; omega
    · rw [if_neg (by
        have : d * m < 0 := Int.mul_neg_of_pos_of_neg hp (by omega)
        omega)]
      omega
  unfold low
  rw [e, Int.mul_fdiv_cancel _ hm, Int.mul_fdiv_cancel _ hm]
def qv (a : Int × Int) : Rat := (a.1 : Rat) / (a.2 : Rat)
theorem cast_ne {n : Int} (h : n ≠ 0) : (n : Rat) ≠ 0 := by
  intro e
  exact h (by exact_mod_cast e)
theorem cross {a b : Int × Int} (la : Lw a.1 a.2) (lb : Lw b.1 b.2) (h : a.1 * b.2 = b.1 * a.2) : a = b := by
  have e1 := low_mul la (m := b.2) (by have := lb.pos; omega)
  have e2 := low_mul lb (m := a.2) (by have := la.pos; omega)
  rw [h, Int.mul_comm a.2 b.2, e2] at e1
  exact e1.symm
theorem q_inj {a b : Int × Int} (la : Lw a.1 a.2) (lb : Lw b.1 b.2) (h : qv a = qv b) : a = b := by
  have h1 := cast_ne (n := a.2) (by have := la.pos; omega)
  have h2 := cast_ne (n := b.2) (by have := lb.pos; omega)
  refine cross la lb ?_
  unfold qv at h
  have e : (a.1 : Rat) * (b.2 : Rat) = (b.1 : Rat) * (a.2 : Rat) := by grind
  exact_mod_cast e
theorem q_low (t : Int) {b : Int} (hb : b ≠ 0) : qv (low t b) = (t : Rat) / (b : Rat) := by
  have e1 : ((low t b).1 : Rat) * (byv t b : Rat) = (t : Rat) := by exact_mod_cast low_t (t := t) (b := b)
  have e2 : ((low t b).2 : Rat) * (byv t b : Rat) = (b : Rat) := by exact_mod_cast low_b (t := t) (b := b)
  have h1 := cast_ne (byv_ne (t := t) hb)
  have h2 := cast_ne (n := (low t b).2) (by have := (low_lw t hb).pos; omega)
  have h3 := cast_ne hb
  unfold qv
  grind
theorem q_plus {a b : Int × Int} (la : Lw a.1 a.2) (lb : Lw b.1 b.2) : qv (plus a b) = qv a + qv b := by
  have h1 := cast_ne (n := a.2) (by have := la.pos; omega)
  have h2 := cast_ne (n := b.2) (by have := lb.pos; omega)
  unfold plus
  rw [q_low _ (mul_ne la.pos lb.pos)]
  unfold qv
  rw [Rat.intCast_add, Rat.intCast_mul, Rat.intCast_mul, Rat.intCast_mul]
  grind
theorem q_minus {a b : Int × Int} (la : Lw a.1 a.2) (lb : Lw b.1 b.2) : qv (minus a b) = qv a - qv b := by
  have h1 := cast_ne (n := a.2) (by have := la.pos; omega)
  have h2 := cast_ne (n := b.2) (by have := lb.pos; omega)
  unfold minus
  rw [q_low _ (mul_ne la.pos lb.pos)]
  unfold qv
  rw [Rat.intCast_sub, Rat.intCast_mul, Rat.intCast_mul, Rat.intCast_mul]
  grind
theorem q_times {a b : Int × Int} (la : Lw a.1 a.2) (lb : Lw b.1 b.2) : qv (times a b) = qv a * qv b := by
  have h1 := cast_ne (n := a.2) (by have := la.pos; omega)
  have h2 := cast_ne (n := b.2) (by have := lb.pos; omega)
  unfold times
  rw [q_low _ (mul_ne la.pos lb.pos)]
  unfold qv
  rw [Rat.intCast_mul, Rat.intCast_mul]
  grind
theorem lw_plus {a b : Int × Int} (la : Lw a.1 a.2) (lb : Lw b.1 b.2) : Lw (plus a b).1 (plus a b).2 := low_lw _ (mul_ne la.pos lb.pos)
theorem lw_minus {a b : Int × Int} (la : Lw a.1 a.2) (lb : Lw b.1 b.2) : Lw (minus a b).1 (minus a b).2 := low_lw _ (mul_ne la.pos lb.pos)
theorem lw_times {a b : Int × Int} (la : Lw a.1 a.2) (lb : Lw b.1 b.2) : Lw (times a b).1 (times a b).2 := low_lw _ (mul_ne la.pos lb.pos)
theorem pos_q {n : Int} (h : 0 < n) : (0 : Rat) < (n : Rat) := by exact_mod_cast h
theorem q_lt {a b : Int × Int} (la : Lw a.1 a.2) (lb : Lw b.1 b.2) : a.1 * b.2 < b.1 * a.2 ↔ qv a < qv b := by
  have h1 := pos_q la.pos
  have h2 := pos_q lb.pos
  have e : a.1 * b.2 < b.1 * a.2 ↔ (a.1 : Rat) * (b.2 : Rat) < (b.1 : Rat) * (a.2 : Rat) := by
    rw [← Rat.intCast_mul, ← Rat.intCast_mul, Rat.intCast_lt_intCast]
  rw [e]
  unfold qv
  rw [Rat.div_lt_iff h1]
  have e3 : (b.1 : Rat) / (b.2 : Rat) * (a.2 : Rat) = ((b.1 : Rat) * (a.2 : Rat)) / (b.2 : Rat) := by grind
  rw [e3, Rat.lt_div_iff h2]
theorem q_zero : qv (0, 1) = 0 := by show ((0 : Int) : Rat) / ((1 : Int) : Rat) = 0; decide +kernel
theorem q_pos {a : Int × Int} (la : Lw a.1 a.2) : 0 < a.1 ↔ 0 < qv a := by
  have := q_lt (a := (0, 1)) (b := a) (lw_int 0) la
  rw [q_zero] at this
  rw [← this]
  simp
theorem q_neg {a : Int × Int} (la : Lw a.1 a.2) : a.1 < 0 ↔ qv a < 0 := by
  have := q_lt (a := a) (b := (0, 1)) la (lw_int 0)
  rw [q_zero] at this
  rw [← this]
  simp
end Rm
namespace Ra
open PySem PySem.Spec PyProof.Rows L2 Ow Pt

/-! ### what a ratio looks like -/
theorem bt_ : ¬ (("_bottom" : Str) = "_top") := by decide +kernel
theorem tb_ : ¬ (("_top" : Str) = "_bottom") := by decide +kernel
def rf (n d : Int) : List (Str × V) := putF "_bottom" (.int d) (putF "_top" (.int n) [])
theorem rf_top (n d : Int) : (rf n d).lookup ("_top" : Str) = some (.int n) := by
  unfold rf; rw [lookup_putF, if_neg tb_, lookup_putF, if_pos rfl]
theorem rf_bottom (n d : Int) : (rf n d).lookup ("_bottom" : Str) = some (.int d) := by
  unfold rf; rw [lookup_putF, if_pos rfl]
theorem rf_no (n d : Int) {m : Str} (h1 : ¬ m = "_bottom") (h2 : ¬ m = "_top") : (rf n d).lookup m = none := by
  unfold rf; rw [lookup_putF, if_neg h1, lookup_putF, if_neg h2]; rfl
def RatAt (C : Addr) (H : Hp) (p : Addr) (n d : Int) : Prop := ∃ dx, H p = some (.ins C dx (rf n d))
theorem RatAt.same {C : Addr} {H H' : Hp} {p : Addr} {n d : Int} (h : RatAt C H p n d) (s : Same H H') : RatAt C H' p n d := by
  obtain ⟨dx, e⟩ := h
  exact ⟨dx, s _ _ e⟩

/-! ### what the walk asks of the class -/
structure RT (K : PySem.W.Frag) (mg : Str → Option Value) (C : Addr) : Prop where
  cl : Cls K C
  nT : NoAttr K C "_top"
  nB : NoAttr K C "_bottom"
  mgC : mg "Ratio" = some (.ref C)
  num : Num K C
  ca : PySem.W.findIn K (.ref C) "__class__" = some (some (.builtin "object.__class__"))
  cg : PySem.W.specialIn K (.builtin "object.__class__") "__get__" = some (some (.builtin "getset_descriptor.__get__"))
  ct : PySem.W.takesIn K (.builtin "object.__class__") = some true
  cm : PySem.W.mroIn K C (.type "object") = some true
  kCC : PySem.W.kitOne K (.ref C) (.ref C) = some true
  kIC : PySem.W.kitOne K (.type "int") (.ref C) = some false
  isi : mg "isinstance" = none
  int : mg "int" = none
  bool : mg "bool" = none
  str : mg "str" = none
  gcd : mg "gcd" = some (.builtin "math.gcd")

section
variable {P : Program} {w : World} {K : PySem.W.Frag} {mg : Str → Option Value} {base : Heap}

/-! ### is_integer -/
def spInt (K : PySem.W.Frag) : Sp := fun vs H Q _ => ∃ (x : V) (t : Value) (a b : Bool), vs = [x] ∧ TyX K H x t ∧ PySem.W.kitOne K t (.type "int") = some a ∧ PySem.W.kitOne K t (.type "bool") = some b ∧ Q (.bl (a && !b)) H
theorem scInt : FnScope ["value"] ["value"] (defScope sIsInt) := ⟨rfl, rfl, rfl, by decide +kernel, rfl, by decide +kernel, by decide +kernel⟩
theorem ok_isint {f C : Addr} {fd : FuncData} (F : FnP K "is_integer" "is_integer" sIsInt [] f fd) (T : RT K mg C) : FnOk P w K mg base CX0 1 f fd ["value"] (spInt K) := by
  refine F.ok scInt (fun vs H Q E h => ?_) (fun cdv A outer s H vs Q E hr h => ?_)
  · obtain ⟨x, t, a, b, rfl, _⟩ := h
    rfl
  · obtain ⟨x, t, a, b, rfl, ty, ha, hb, q⟩ := h
    refine ⟨_, PSs.nox (pss_one (ps_ret (pe_and (pe_callB call_isi (by rfl) T.isi boot_isinstance (pa_cons (pv 0) (pa_cons (pe_bltn (v := .ty "int") rfl T.int PyProof.Rows.boot_int rfl) pa_nil)))
      (pe_one (pe_not (pe_callB call_isi (by rfl) T.isi boot_isinstance (pa_cons (pv 0) (pa_cons (pe_bltn (v := .ty "bool") rfl T.bool PyProof.Rows.boot_bool rfl) pa_nil)))))))), ?_⟩
    refine ⟨_, rfl, x, .ty "int", t, _, a, rfl, .ty _, ty, ha, a, rfl, ?_⟩
    cases a with
    | false => exact q
    | true => exact ⟨_, rfl, x, .ty "bool", t, _, b, rfl, .ty _, ty, hb, b, rfl, q⟩
theorem kII : PySem.W.kitOne K (.type "int") (.type "int") = some true := kit_ty (by decide +kernel)
theorem kIB : PySem.W.kitOne K (.type "int") (.type "bool") = some false := kit_ty (by decide +kernel)
end
end Ra
namespace Ra
open PySem PySem.Spec PyProof.Rows L2 Ow Pt Rm

/-- // by an integer of either sign -/
def CDivZ (_ j : Int) : Prop := j ≠ 0 ∧ j.natAbs.log2 < 9000
section
variable {X : Cx}
theorem op_fdivZ : OpR X (binaryOp .FloorDiv) (rI CDivZ fun i j => .int (i.fdiv j)) := opI fun i j _ _ _ _ _ hc q => floordiv_int hc.1 q (.inl (PyProof.noPylong_of_log2 hc.2))
theorem cdivZ {t b : Int} {k : Nat} (hb : b ≠ 0) (h : Bd k b) (h0 : 0 < k) (h9 : k ≤ 9000) : CDivZ t (byv t b) :=
  ⟨byv_ne hb, Nat.lt_of_lt_of_le (Bd.log2 (h.le (byv_le hb)) h0) h9⟩
theorem cdivZ' {x t b : Int} {k : Nat} (hb : b ≠ 0) (h : Bd k b) (h0 : 0 < k) (h9 : k ≤ 9000) : CDivZ x (byv t b) :=
  ⟨byv_ne hb, Nat.lt_of_lt_of_le (Bd.log2 (h.le (byv_le hb)) h0) h9⟩
end

section
variable {P : Program} {w : World} {K : PySem.W.Frag} {mg : Str → Option Value} {base : Heap}
abbrev DInt (P : Program) (w : World) (K : PySem.W.Frag) (mg : Str → Option Value) (base : Heap) : Prop := Dfn P w K mg base 1 "is_integer" ["value"] (spInt K)

/-! ### Ratio(n, d) -/
def spInit (C : Addr) : Sp := fun vs H Q _ => ∃ (p dx : Addr) (n d : Int), vs = [.ref p, .int n, .int d] ∧ d ≠ 0 ∧ Bd 8000 d ∧ H p = some (.ins C dx []) ∧ Q .non (upd H p (.ins C dx (rf (low n d).1 (low n d).2)))
theorem scInit : FnScope ["self", "top", "bottom", "shared"] ["self", "top", "bottom"] (defScope sInit) := ⟨rfl, rfl, rfl, by decide +kernel, rfl, by decide +kernel, by decide +kernel⟩
theorem ok_init {f C : Addr} {fd : FuncData} (F : FnP K "__init__" "Ratio.__init__" sInit [.int 1] f fd) (T : RT K mg C) (D : DInt P w K mg base) : FnOk P w K mg base CX0 2 f fd ["self", "top", "bottom"] (spInit C) := by
  refine F.ok scInit (fun vs H Q E h => ?_) (fun cdv A outer s H vs Q E hr h => ?_)
  · obtain ⟨p, dx, n, d, rfl, _⟩ := h
    rfl
  · obtain ⟨p, dx, n, d, rfl, hd, hb, hp, q⟩ := h
    have ne0 : decide (V.int d = V.int 0) = false := decide_eq_false fun z => hd (by cases z; rfl)
    refine ⟨_, PSs.nox (pss_cons (ps_if (pt_not (pt_val (pe_use D hr rfl (pa_cons (pv 1) pa_nil)))) pss_never pss_nil)
      (pss_cons (ps_if (PW.pt (pw_or (pt_not (pt_val (pe_use D hr rfl (pa_cons (pv 2) pa_nil)))) (pw_or1 (pt_cmpR op_eq (pv 2) pe_int (nomark _))))) pss_never pss_nil)
      (pss_cons (ps_set (i := 3) scInit.nd rfl (Or.inl rfl) (pe_callBfun cr_gcd rfl T.gcd (pa_cons (pv 1) (pa_cons (pv 2) pa_nil))))
      (pss_cons (ps_if (pt_cmpR op_lt (pv 2) pe_int (nomark _)) (pss_one (ps_set (i := 3) scInit.nd rfl (Or.inl rfl) (pe_un un_neg (pv 3)))) pss_nil)
      (pss_cons (ps_fld (pv 0) (pe_op op_fdivZ (pv 1) (pv 3)) rfl)
      (pss_one (ps_fld (pv 0) (pe_op op_fdivZ (pv 2) (pv 3)) rfl))))))), ?_⟩
    have fin : ∀ g : Int, g = byv n d → (tSeq (sFld K (tVar 0) (tOp (rI CDivZ fun i j => .int (i.fdiv j)) (tVar 1) (tVar 3)) "_top") (sFld K (tVar 0) (tOp (rI CDivZ fun i j => .int (i.fdiv j)) (tVar 2) (tVar 3)) "_bottom"))
        { nx := fun _ H' => Q .non H', rt := Q } [some (.ref p), some (.int n), some (.int d), some (.int g)] H := by
      rintro g rfl
      refine ⟨_, rfl, _, rfl, _, _, rfl, rfl, cdivZ' hd hb (by decide) (by decide), _, rfl, p, C, dx, [], rfl, hp, T.cl, T.nT, (by show 0 < 1000; decide), ?_⟩
      refine ⟨_, rfl, _, rfl, _, _, rfl, rfl, cdivZ' hd hb (by decide) (by decide), _, rfl, p, C, dx, _, rfl, upd_same, T.cl, T.nB, (by show 1 < 1000; decide), ?_⟩
      rw [upd_upd]
      exact q
    refine ⟨_, rfl, ?_⟩
    refine ⟨_, .type "int", true, false, rfl, .base (.int _), kII, kIB, true, rfl, ?_⟩
    refine iteF ?_
    refine ⟨_, rfl, ?_⟩
    refine ⟨_, .type "int", true, false, rfl, .base (.int _), kII, kIB, true, rfl, ?_⟩
    refine iteF ?_
    refine ⟨_, rfl, rfl, _, rfl, ?_⟩
    rw [ne0]
    refine iteF ?_
    refine ⟨_, rfl, _, rfl, n, d, rfl, ?_⟩
    refine ⟨_, rfl, _, _, rfl, rfl, _, rfl, ?_⟩
    have hg := byv_eq (t := n) hd
    refine ite2 (fun c => ?_) (fun c => ?_)
    · have c' : d < 0 := of_decide_eq_true c
      rw [if_pos c'] at hg
      exact ⟨_, rfl, _, rfl, fin _ hg⟩
    · have c' : ¬ d < 0 := fun z => c (decide_eq_true z)
      rw [if_neg c'] at hg
      exact fin _ hg
end
end Ra
namespace Ra
open PySem PySem.Spec PyProof.Rows L2 Ow Pt Rm

/-- a number: a ratio, or an integer -/
def NumAt (C : Addr) (H : Hp) (v : V) (n d : Int) : Prop := (∃ p, v = .ref p ∧ RatAt C H p n d) ∨ (v = .int n ∧ d = 1)
theorem NumAt.same {C : Addr} {H H' : Hp} {v : V} {n d : Int} (h : NumAt C H v n d) (s : Same H H') : NumAt C H' v n d := by
  rcases h with ⟨p, e, r⟩ | ⟨e, r⟩
  · exact .inl ⟨p, e, r.same s⟩
  · exact .inr ⟨e, r⟩
theorem same_upd {H : Hp} {p : Addr} {o : HO} (h : H p = none) : Same H (upd H p o) := fun b u e => by
  rw [upd_ne (ne_of_none e h)]
  exact e

/-- Ratio(..), as others make it -/
structure RMk (P : Program) (w : World) (K : PySem.W.Frag) (mg : Str → Option Value) (base : Heap) (C : Addr) : Prop where
  ex : ∃ f fd, Mk K C f ∧ FnOk P w K mg base CX0 2 f fd ["self", "top", "bottom"] (spInit C) ∧ Binds K fd ["self", "top", "bottom"] [] ∧ (∃ ds, Vals [V.int 1] ds ∧ Binds K fd ["self", "top", "bottom"] ds) ∧
    (∃ g gV, KBn K fd ["self", "top", "bottom"] 1 ["bottom", "top"] g gV ∧ ∀ a b c, gV [a] [b, c] = [a, c, b])
/-- a property, as others read it -/
structure Prp (P : Program) (w : World) (K : PySem.W.Frag) (mg : Str → Option Value) (base : Heap) (C : Addr) (x : Str) (sp : Sp) : Prop where
  ex : ∃ p g fd, PropOf K C x p g ∧ FnOk P w K mg base CX0 1 g fd ["self"] sp ∧ Binds K fd ["self"] []
def spTop (C : Addr) : Sp := fun vs H Q _ => ∃ p n d, vs = [.ref p] ∧ RatAt C H p n d ∧ Q (.int n) H
def spBottom (C : Addr) : Sp := fun vs H Q _ => ∃ p n d, vs = [.ref p] ∧ RatAt C H p n d ∧ Q (.int d) H
def spSign (C : Addr) : Sp := fun vs H Q _ => ∃ p n d, vs = [.ref p] ∧ RatAt C H p n d ∧ Q (.int n.sign) H

section
variable {X : Cx} {C : Addr} {x : Str} {sp : Sp} {p pos : Pos} {e e2 : Expr} {t : TA} {ta tb : TE}
theorem pe_rat2 (M : RMk X.prog X.w X.K X.mg X.base C) (hr : Room 3 X.A) (hg : Gl X "Ratio") (hm : X.mg "Ratio" = some (.ref C)) (ha : PE X e ta) (hb : PE X e2 tb)
    (he : starEach [e, e2] X.env = (false, eval e X.env) :: starEach [e2] X.env := by rfl) (he2 : starEach [e2] X.env = (false, eval e2 X.env) :: starEach [] X.env := by rfl) (hpl : (backTo pos (starEach [e2] X.env)).any (·.1) = false := by rfl) :
    PE X (.Call (.Name "Ratio" p) [e, e2] [] pos) (tMake C (spInit C) [] E0 (tCons ta (tCons tb tNil))) := by
  obtain ⟨f, fd, m, F, b2, _, _⟩ := M.ex
  exact pe_make m F hr hg hm b2 .nil pass0 (pa_cons ha (pa_cons hb pa_nil he2) he) (by decide) he hpl
theorem pe_rat1 (M : RMk X.prog X.w X.K X.mg X.base C) (hr : Room 3 X.A) (hg : Gl X "Ratio") (hm : X.mg "Ratio" = some (.ref C)) (ha : PE X e ta)
    (he : starEach [e] X.env = (false, eval e X.env) :: starEach [] X.env := by rfl) (hpl : (backTo pos (starEach [] X.env)).any (·.1) = false := by rfl) :
    PE X (.Call (.Name "Ratio" p) [e] [] pos) (tMake C (spInit C) [.int 1] E0 (tCons ta tNil)) := by
  obtain ⟨f, fd, m, F, _, ⟨ds, hv, b1⟩, _⟩ := M.ex
  exact pe_make m F hr hg hm b1 hv pass0 (pa_cons ha pa_nil he) (by decide) he hpl
theorem pe_prp (D : Prp X.prog X.w X.K X.mg X.base C x sp) (he : PE X e ta) (c : Cls X.K C) (hr : Room 2 X.A) (hab : attributeBase e x X.env (eval e X.env) = eval e X.env) : PE X (.Attribute e x pos) (tProp C sp [] E0 ta) := by
  obtain ⟨p, g, fd, hp, F, hb⟩ := D.ex
  exact pe_prop he c hp F hr hb .nil pass0 hab
end

/-- a new ratio, as its maker reads it -/
theorem rat_new {C : Addr} {H : Hp} {n d : Int} {Q : Addr → Hp → Prop} (hd : d ≠ 0) (hb : Bd 8000 d) (q : ∀ p H', RatAt C H' p (low n d).1 (low n d).2 → Same H H' → H p = none → Q p H') :
    ∀ x dx, H x = none → H dx = none → dx ≠ x → spInit C [.ref x, .int n, .int d] (upd (upd H dx (.own x)) x (.ins C dx [])) (fun v H2 => v = .non ∧ Q x H2) E0 := by
  intro x dx hx hdx ne
  refine ⟨x, dx, n, d, rfl, hd, hb, upd_same, rfl, ?_⟩
  refine q x _ ⟨dx, upd_same⟩ (fun b o e => ?_) hx
  rw [upd_upd, upd_ne (ne_of_none e hx), upd_ne (ne_of_none e hdx)]
  exact e

section
variable {P : Program} {w : World} {K : PySem.W.Frag} {mg : Str → Option Value} {base : Heap}

/-! ### properties -/
theorem scTop : FnScope ["self"] ["self"] (defScope sTop) := ⟨rfl, rfl, rfl, by decide +kernel, rfl, by decide +kernel, by decide +kernel⟩
theorem scBottom : FnScope ["self"] ["self"] (defScope sBottom) := ⟨rfl, rfl, rfl, by decide +kernel, rfl, by decide +kernel, by decide +kernel⟩
theorem scSign : FnScope ["self"] ["self"] (defScope sSign) := ⟨rfl, rfl, rfl, by decide +kernel, rfl, by decide +kernel, by decide +kernel⟩
theorem ok_top {f C : Addr} {fd : FuncData} (F : FnP K "top" "Ratio.top" sTop [] f fd) (T : RT K mg C) : FnOk P w K mg base CX0 1 f fd ["self"] (spTop C) := by
  refine F.ok scTop (fun vs H Q E h => ?_) (fun cdv A outer s H vs Q E hr h => ?_)
  · obtain ⟨p, n, d, rfl, _⟩ := h
    rfl
  · obtain ⟨p, n, d, rfl, ⟨dx, hp⟩, q⟩ := h
    exact ⟨_, PSs.nox (pss_one (ps_ret (pe_fld (pv 0) rfl))), _, rfl, p, C, dx, _, _, rfl, hp, T.cl, T.nT, rf_top _ _, q⟩
theorem ok_bottom {f C : Addr} {fd : FuncData} (F : FnP K "bottom" "Ratio.bottom" sBottom [] f fd) (T : RT K mg C) : FnOk P w K mg base CX0 1 f fd ["self"] (spBottom C) := by
  refine F.ok scBottom (fun vs H Q E h => ?_) (fun cdv A outer s H vs Q E hr h => ?_)
  · obtain ⟨p, n, d, rfl, _⟩ := h
    rfl
  · obtain ⟨p, n, d, rfl, ⟨dx, hp⟩, q⟩ := h
    exact ⟨_, PSs.nox (pss_one (ps_ret (pe_fld (pv 0) rfl))), _, rfl, p, C, dx, _, _, rfl, hp, T.cl, T.nB, rf_bottom _ _, q⟩
theorem ok_sign {f C : Addr} {fd : FuncData} (F : FnP K "sign" "Ratio.sign" sSign [] f fd) (T : RT K mg C) : FnOk P w K mg base CX0 1 f fd ["self"] (spSign C) := by
  refine F.ok scSign (fun vs H Q E h => ?_) (fun cdv A outer s H vs Q E hr h => ?_)
  · obtain ⟨p, n, d, rfl, _⟩ := h
    rfl
  · obtain ⟨p, n, d, rfl, ⟨dx, hp⟩, q⟩ := h
    refine ⟨_, PSs.nox (pss_cons (ps_if (pt_cmpR op_lt (pe_fld (pv 0) rfl) pe_int (nomark _)) (pss_one (ps_ret (pe_un un_neg pe_int))) pss_nil)
      (pss_cons (ps_if (pt_cmpR op_gt (pe_fld (pv 0) rfl) pe_int (nomark _)) (pss_one (ps_ret pe_int)) pss_nil)
      (pss_one (ps_ret pe_int)))), ?_⟩
    refine ⟨_, rfl, p, C, dx, _, _, rfl, hp, T.cl, T.nT, rf_top _ _, _, _, rfl, rfl, _, rfl, ?_⟩
    refine ite2 (fun c => ?_) (fun c => ?_)
    · have c' : n < 0 := of_decide_eq_true c
      refine ⟨_, rfl, ?_⟩
      rw [Int.sign_eq_neg_one_of_neg c'] at q
      exact q
    · have c' : ¬ n < 0 := fun z => c (decide_eq_true z)
      refine ⟨_, rfl, p, C, dx, _, _, rfl, hp, T.cl, T.nT, rf_top _ _, _, _, rfl, rfl, _, rfl, ?_⟩
      refine ite2 (fun e => ?_) (fun e => ?_)
      · have e' : 0 < n := of_decide_eq_true e
        rw [Int.sign_eq_one_of_pos e'] at q
        exact q
      · have e' : ¬ 0 < n := fun z => e (decide_eq_true z)
        have e0 : n = 0 := by omega
        rw [e0] at q
        exact q

/-! ### as_ratio -/
def spAs (C : Addr) : Sp := fun vs H Q _ => ∃ v n d, vs = [v] ∧ NumAt C H v n d ∧ ∀ q H', RatAt C H' q n d → Same H H' → Q (.ref q) H'
theorem scAs : FnScope ["value"] ["value"] (defScope sAsRatio) := ⟨rfl, rfl, rfl, by decide +kernel, rfl, by decide +kernel, by decide +kernel⟩
theorem ok_as {f C : Addr} {fd : FuncData} (F : FnP K "as_ratio" "as_ratio" sAsRatio [] f fd) (T : RT K mg C) (M : RMk P w K mg base C) : FnOk P w K mg base CX0 4 f fd ["value"] (spAs C) := by
  refine F.ok scAs (fun vs H Q E h => ?_) (fun cdv A outer s H vs Q E hr h => ?_)
  · obtain ⟨v, n, d, rfl, _⟩ := h
    rfl
  · obtain ⟨v, n, d, rfl, hv, q⟩ := h
    refine ⟨_, PSs.nox (pss_cons (ps_if (pt_val (pe_callB call_isi (by rfl) T.isi boot_isinstance (pa_cons (pv 0) (pa_cons (pe_glob (v := .ref C) rfl T.mgC rfl) pa_nil)))) (pss_one (ps_ret (pv 0))) pss_nil)
      (pss_one (ps_ret (pe_rat1 M hr rfl T.mgC (pv 0))))), ?_⟩
    rcases hv with ⟨p, rfl, ⟨dx, hp⟩⟩ | ⟨rfl, rfl⟩
    · refine ⟨_, rfl, _, .ref C, .ref C, _, true, rfl, .own C, .base (.ins hp T.cl T.ca T.cg T.ct T.cm), T.kCC, true, rfl, ?_⟩
      refine iteT ?_
      exact ⟨_, rfl, q p H ⟨dx, hp⟩ (Same.refl H)⟩
    · refine ⟨_, rfl, _, .ref C, .type "int", _, false, rfl, .own C, .base (.int n), T.kIC, false, rfl, ?_⟩
      refine iteF ?_
      refine ⟨_, rfl, ?_⟩
      refine rat_new (by decide) (bd_one (by decide)) fun p H' r sm _ => ?_
      rw [low_int] at r
      exact q p H' r sm
end
end Ra
namespace Ra
open PySem PySem.Spec PyProof.Rows L2 Ow Pt Rm

/-- a number in lowest terms, not too great -/
structure Nm (C : Addr) (H : Hp) (v : V) (n d : Int) : Prop where
  at_ : NumAt C H v n d
  lw : Lw n d
  b1 : Bd 2500 n
  b2 : Bd 2500 d
theorem Nm.same {C : Addr} {H H' : Hp} {v : V} {n d : Int} (h : Nm C H v n d) (s : Same H H') : Nm C H' v n d := ⟨h.at_.same s, h.lw, h.b1, h.b2⟩
theorem Nm.rat {C : Addr} {H : Hp} {p : Addr} {n d : Int} (h : Nm C H (.ref p) n d) : RatAt C H p n d := by
  rcases h.at_ with ⟨q, e, r⟩ | ⟨e, _⟩
  · cases e
    exact r
  · exact nomatch e
theorem cmul {j k : Nat} {x y : Int} (h : Bd j x) (h' : Bd k y) (hj : 0 < j := by decide) (hk : 0 < k := by decide) (l : j + k ≤ 1000000 := by decide) : CMulW x y := by
  have a := h.log2 hj
  have b := h'.log2 hk
  unfold CMulW
  omega
def spBin (op : Int × Int → Int × Int → Int × Int) (C : Addr) : Sp := fun vs H Q _ => ∃ p v n d m e, vs = [.ref p, v] ∧ Nm C H (.ref p) n d ∧ Nm C H v m e ∧
  ∀ q H', RatAt C H' q (op (n, d) (m, e)).1 (op (n, d) (m, e)).2 → Same H H' → Q (.ref q) H'
def spNeg (C : Addr) : Sp := fun vs H Q _ => ∃ p n d, vs = [.ref p] ∧ Nm C H (.ref p) n d ∧ ∀ q H', RatAt C H' q (-n) d → Same H H' → Q (.ref q) H'

section
variable {P : Program} {w : World} {K : PySem.W.Frag} {mg : Str → Option Value} {base : Heap}
abbrev DAs (P : Program) (w : World) (K : PySem.W.Frag) (mg : Str → Option Value) (base : Heap) (C : Addr) : Prop := Dfn P w K mg base 4 "as_ratio" ["value"] (spAs C)
abbrev PT_ (P : Program) (w : World) (K : PySem.W.Frag) (mg : Str → Option Value) (base : Heap) (C : Addr) : Prop := Prp P w K mg base C "top" (spTop C)
abbrev PB_ (P : Program) (w : World) (K : PySem.W.Frag) (mg : Str → Option Value) (base : Heap) (C : Addr) : Prop := Prp P w K mg base C "bottom" (spBottom C)
abbrev PS_ (P : Program) (w : World) (K : PySem.W.Frag) (mg : Str → Option Value) (base : Heap) (C : Addr) : Prop := Prp P w K mg base C "sign" (spSign C)

theorem scAdd : FnScope ["self", "other", "right", "top"] ["self", "other"] (defScope sAdd) := ⟨rfl, rfl, rfl, by decide +kernel, rfl, by decide +kernel, by decide +kernel⟩
theorem ok_add {f C : Addr} {fd : FuncData} (F : FnP K "__add__" "Ratio.__add__" sAdd [] f fd) (T : RT K mg C) (M : RMk P w K mg base C) (D : DAs P w K mg base C) (pT : PT_ P w K mg base C) (pB : PB_ P w K mg base C) :
    FnOk P w K mg base CX0 5 f fd ["self", "other"] (spBin plus C) := by
  refine F.ok scAdd (fun vs H Q E h => ?_) (fun cdv A outer s H vs Q E hr h => ?_)
  · obtain ⟨p, v, n, d, m, e, rfl, _⟩ := h
    rfl
  · obtain ⟨p, v, n, d, m, e, rfl, hp, hv, q⟩ := h
    have hr2 := hr.mono (by decide : 2 ≤ 4)
    have hr3 := hr.mono (by decide : 3 ≤ 4)
    refine ⟨_, PSs.nox (pss_cons (ps_set (i := 2) scAdd.nd rfl (Or.inl rfl) (pe_use D hr rfl (pa_cons (pv 1) pa_nil)))
      (pss_cons (ps_set (i := 3) scAdd.nd rfl (Or.inl rfl) (pe_op op_add (pe_op op_mulW (pe_fld (pv 0) rfl) (pe_prp pB (pv 2) T.cl hr2 rfl)) (pe_op op_mulW (pe_prp pT (pv 2) T.cl hr2 rfl) (pe_fld (pv 0) rfl))))
      (pss_one (ps_ret (pe_rat2 M hr3 rfl T.mgC (pv 3) (pe_op op_mulW (pe_fld (pv 0) rfl) (pe_prp pB (pv 2) T.cl hr2 rfl))))))), ?_⟩
    refine ⟨_, rfl, v, m, e, rfl, hv.at_, fun r H1 hr1 s1 => ?_⟩
    obtain ⟨dx, h1⟩ := (hp.rat.same s1)
    obtain ⟨dy, h2⟩ := id hr1
    refine ⟨_, rfl, p, C, dx, _, _, rfl, h1, T.cl, T.nT, rf_top _ _, _, rfl, r, dy, _, rfl, h2, r, m, e, rfl, hr1, _, _, rfl, rfl, cmul hp.b1 hv.b2, ?_⟩
    refine ⟨_, rfl, r, dy, _, rfl, h2, r, m, e, rfl, hr1, _, rfl, p, C, dx, _, _, rfl, h1, T.cl, T.nB, rf_bottom _ _, _, _, rfl, rfl, cmul hv.b1 hp.b2, _, _, rfl, rfl, ?_⟩
    refine ⟨_, rfl, _, rfl, p, C, dx, _, _, rfl, h1, T.cl, T.nB, rf_bottom _ _, _, rfl, r, dy, _, rfl, h2, r, m, e, rfl, hr1, _, _, rfl, rfl, cmul hp.b2 hv.b2, ?_⟩
    exact rat_new (mul_ne hp.lw.pos hv.lw.pos) ((hp.b2.mul hv.b2).mono (by decide)) fun z H2 hz s2 _ => q z H2 hz (s1.trans s2)

theorem scMul : FnScope ["self", "other", "right"] ["self", "other"] (defScope sMul) := ⟨rfl, rfl, rfl, by decide +kernel, rfl, by decide +kernel, by decide +kernel⟩
theorem ok_mul {f C : Addr} {fd : FuncData} (F : FnP K "__mul__" "Ratio.__mul__" sMul [] f fd) (T : RT K mg C) (M : RMk P w K mg base C) (D : DAs P w K mg base C) (pT : PT_ P w K mg base C) (pB : PB_ P w K mg base C) :
    FnOk P w K mg base CX0 5 f fd ["self", "other"] (spBin times C) := by
  refine F.ok scMul (fun vs H Q E h => ?_) (fun cdv A outer s H vs Q E hr h => ?_)
  · obtain ⟨p, v, n, d, m, e, rfl, _⟩ := h
    rfl
  · obtain ⟨p, v, n, d, m, e, rfl, hp, hv, q⟩ := h
    have hr2 := hr.mono (by decide : 2 ≤ 4)
    have hr3 := hr.mono (by decide : 3 ≤ 4)
    refine ⟨_, PSs.nox (pss_cons (ps_set (i := 2) scMul.nd rfl (Or.inl rfl) (pe_use D hr rfl (pa_cons (pv 1) pa_nil)))
      (pss_one (ps_ret (pe_rat2 M hr3 rfl T.mgC (pe_op op_mulW (pe_fld (pv 0) rfl) (pe_prp pT (pv 2) T.cl hr2 rfl)) (pe_op op_mulW (pe_fld (pv 0) rfl) (pe_prp pB (pv 2) T.cl hr2 rfl)))))), ?_⟩
    refine ⟨_, rfl, v, m, e, rfl, hv.at_, fun r H1 hr1 s1 => ?_⟩
    obtain ⟨dx, h1⟩ := (hp.rat.same s1)
    obtain ⟨dy, h2⟩ := id hr1
    refine ⟨_, rfl, p, C, dx, _, _, rfl, h1, T.cl, T.nT, rf_top _ _, _, rfl, r, dy, _, rfl, h2, r, m, e, rfl, hr1, _, _, rfl, rfl, cmul hp.b1 hv.b1, ?_⟩
    refine ⟨_, rfl, p, C, dx, _, _, rfl, h1, T.cl, T.nB, rf_bottom _ _, _, rfl, r, dy, _, rfl, h2, r, m, e, rfl, hr1, _, _, rfl, rfl, cmul hp.b2 hv.b2, ?_⟩
    exact rat_new (mul_ne hp.lw.pos hv.lw.pos) ((hp.b2.mul hv.b2).mono (by decide)) fun z H2 hz s2 _ => q z H2 hz (s1.trans s2)

theorem scNeg : FnScope ["self"] ["self"] (defScope sNeg) := ⟨rfl, rfl, rfl, by decide +kernel, rfl, by decide +kernel, by decide +kernel⟩
theorem ok_neg {f C : Addr} {fd : FuncData} (F : FnP K "__neg__" "Ratio.__neg__" sNeg [] f fd) (T : RT K mg C) (M : RMk P w K mg base C) : FnOk P w K mg base CX0 4 f fd ["self"] (spNeg C) := by
  refine F.ok scNeg (fun vs H Q E h => ?_) (fun cdv A outer s H vs Q E hr h => ?_)
  · obtain ⟨p, n, d, rfl, _⟩ := h
    rfl
  · obtain ⟨p, n, d, rfl, hp, q⟩ := h
    refine ⟨_, PSs.nox (pss_one (ps_ret (pe_rat2 M hr rfl T.mgC (pe_un un_neg (pe_fld (pv 0) rfl)) (pe_fld (pv 0) rfl)))), ?_⟩
    obtain ⟨dx, h1⟩ := hp.rat
    refine ⟨_, rfl, p, C, dx, _, _, rfl, h1, T.cl, T.nT, rf_top _ _, _, rfl, _, rfl, p, C, dx, _, _, rfl, h1, T.cl, T.nB, rf_bottom _ _, ?_⟩
    refine rat_new (by have := hp.lw.pos; omega) (hp.b2.mono (by decide)) fun z H2 hz s2 _ => ?_
    rw [low_neg hp.lw] at hz
    exact q z H2 hz s2

theorem scOver : FnScope ["self", "other", "right"] ["self", "other"] (defScope sOver) := ⟨rfl, rfl, rfl, by decide +kernel, rfl, by decide +kernel, by decide +kernel⟩
/-- over: by a number that is not 0 -/
def spOver (C : Addr) : Sp := fun vs H Q _ => ∃ p v n d m e, vs = [.ref p, v] ∧ Nm C H (.ref p) n d ∧ Nm C H v m e ∧ m ≠ 0 ∧
  ∀ q H', RatAt C H' q (over (n, d) (m, e)).1 (over (n, d) (m, e)).2 → Same H H' → Q (.ref q) H'
theorem ok_over {f C : Addr} {fd : FuncData} (F : FnP K "over" "Ratio.over" sOver [] f fd) (T : RT K mg C) (M : RMk P w K mg base C) (D : DAs P w K mg base C) (pT : PT_ P w K mg base C) (pB : PB_ P w K mg base C) (pS : PS_ P w K mg base C) :
    FnOk P w K mg base CX0 5 f fd ["self", "other"] (spOver C) := by
  refine F.ok scOver (fun vs H Q E h => ?_) (fun cdv A outer s H vs Q E hr h => ?_)
  · obtain ⟨p, v, n, d, m, e, rfl, _⟩ := h
    rfl
  · obtain ⟨p, v, n, d, m, e, rfl, hp, hv, hm, q⟩ := h
    have hr2 := hr.mono (by decide : 2 ≤ 4)
    have hr3 := hr.mono (by decide : 3 ≤ 4)
    refine ⟨_, PSs.nox (pss_cons (ps_set (i := 2) scOver.nd rfl (Or.inl rfl) (pe_use D hr rfl (pa_cons (pv 1) pa_nil)))
      (pss_cons (ps_if (pt_cmpR op_eq (pe_prp pS (pv 2) T.cl hr2 rfl) pe_int (nomark _)) pss_never pss_nil)
      (pss_one (ps_ret (pe_rat2 M hr3 rfl T.mgC (pe_op op_mulW (pe_fld (pv 0) rfl) (pe_prp pB (pv 2) T.cl hr2 rfl)) (pe_op op_mulW (pe_fld (pv 0) rfl) (pe_prp pT (pv 2) T.cl hr2 rfl))))))), ?_⟩
    refine ⟨_, rfl, v, m, e, rfl, hv.at_, fun r H1 hr1 s1 => ?_⟩
    obtain ⟨dx, h1⟩ := (hp.rat.same s1)
    obtain ⟨dy, h2⟩ := id hr1
    have hs : decide (V.int m.sign = V.int 0) = false := decide_eq_false fun z => hm (Int.sign_eq_zero_iff_zero.mp (V.int.inj z))
    refine ⟨_, rfl, r, dy, _, rfl, h2, r, m, e, rfl, hr1, rfl, _, rfl, ?_⟩
    rw [hs]
    refine iteF ?_
    refine ⟨_, rfl, p, C, dx, _, _, rfl, h1, T.cl, T.nT, rf_top _ _, _, rfl, r, dy, _, rfl, h2, r, m, e, rfl, hr1, _, _, rfl, rfl, cmul hp.b1 hv.b2, ?_⟩
    refine ⟨_, rfl, p, C, dx, _, _, rfl, h1, T.cl, T.nB, rf_bottom _ _, _, rfl, r, dy, _, rfl, h2, r, m, e, rfl, hr1, _, _, rfl, rfl, cmul hp.b2 hv.b1, ?_⟩
    exact rat_new (Int.mul_ne_zero (by have := hp.lw.pos; omega) hm) ((hp.b2.mul hv.b1).mono (by decide)) fun z H2 hz s2 _ => q z H2 hz (s1.trans s2)
end
end Ra
namespace Ra
open PySem PySem.Spec PyProof.Rows L2 Ow Pt Rm

structure OpN (P : Program) (w : World) (K : PySem.W.Frag) (mg : Str → Option Value) (base : Heap) (C : Addr) (k : Nat) (sp : Sp) : Prop where
  ex : ∃ f fd, OpOf K C "__neg__" f ∧ FnOk P w K mg base CX0 k f fd ["self"] sp ∧ Binds K fd ["self"] []

/-- ratio op number -/
def rNm (C : Addr) (sp : Sp) : R2 := fun x y H Q => ∃ p n d m e, x = .ref p ∧ RatAt C H p n d ∧ NumAt C H y m e ∧ sp [.ref p, y] H Q E0
section
variable {X : Cx} {C : Addr} {op : Operator} {k : Nat} {sp : Sp}
theorem op_nm (O : OpX X.prog X.w X.K X.mg X.base C op k sp) (n : Num X.K C) (hr : Room k X.A) : OpR X (binaryOp op) (rNm C sp) := by
  obtain ⟨f, fd, o, F, hb⟩ := O.ex
  obtain ⟨rc, h1, h2⟩ := O.rf
  obtain ⟨fo, h3⟩ := O.i1
  obtain ⟨ro, h4⟩ := O.i2
  intro pins s σ H x y u v Q I rx ry hq
  obtain ⟨p, a, b, m, e, rfl, ⟨dx, hp⟩, hy, q⟩ := hq
  rcases hy with ⟨r, rfl, ⟨dy, hr'⟩⟩ | ⟨rfl, _⟩
  · exact op_own n.sf o F hr hb pass0 pins s σ H _ _ u v Q I rx ry ⟨p, dx, _, r, dy, _, rfl, hp, rfl, hr', q⟩
  · exact op_ownI n o F hr hb pass0 h1 h2 h3 h4 pins s σ H _ _ u v Q I rx ry ⟨p, dx, _, m, rfl, hp, rfl, q⟩
theorem op_radd (O : OpY X.prog X.w X.K X.mg X.base C .Add k sp) (n : Num X.K C) (hr : Room k X.A) : OpR X (binaryOp .Add) (rIOwn C sp E0) := by
  obtain ⟨f, o⟩ := O.at_
  obtain ⟨g, gd, og, F, hb⟩ := O.ex
  exact op_Iown n o og F hr hb pass0 PySem.F.fills_int_add PySem.F.slot_int_add decl_add
theorem op_rsub (O : OpY X.prog X.w X.K X.mg X.base C .Sub k sp) (n : Num X.K C) (hr : Room k X.A) : OpR X (binaryOp .Sub) (rIOwn C sp E0) := by
  obtain ⟨f, o⟩ := O.at_
  obtain ⟨g, gd, og, F, hb⟩ := O.ex
  exact op_Iown n o og F hr hb pass0 PySem.F.fills_int_sub PySem.F.slot_int_sub decl_sub
theorem op_rmul (O : OpY X.prog X.w X.K X.mg X.base C .Mult k sp) (n : Num X.K C) (hr : Room k X.A) : OpR X (binaryOp .Mult) (rIOwn C sp E0) := by
  obtain ⟨f, o⟩ := O.at_
  obtain ⟨g, gd, og, F, hb⟩ := O.ex
  exact op_Iown n o og F hr hb pass0 PySem.F.fills_int_mul PySem.F.slot_int_mul decl_mul
theorem un_nm (O : OpN X.prog X.w X.K X.mg X.base C k sp) (hr : Room k X.A) : UnR X (unaryOp .USub) (rNegOwn C sp E0) := by
  obtain ⟨f, fd, o, F, hb⟩ := O.ex
  exact un_own o F hr hb pass0
end

theorem plus_neg (n d m e : Int) : plus (n, d) (-m, e) = minus (n, d) (m, e) := by
  unfold plus minus
  simp only [Int.neg_mul, Int.sub_eq_add_neg]
theorem plus_rsub (n d m : Int) : plus (-n, d) (m, 1) = minus (m, 1) (n, d) := by
  unfold plus minus
  simp only [Int.mul_one, Int.one_mul, Int.sub_eq_add_neg]
  rw [Int.add_comm]
theorem nm_neg {C : Addr} {H : Hp} {q p : Addr} {n d : Int} {v : V} (h : Nm C H v n d) {H' : Hp} (r : RatAt C H' q (-n) d) : Nm C H' (.ref q) (-n) d := ⟨.inl ⟨q, rfl, r⟩, lw_neg h.lw, h.b1.neg, h.b2⟩
theorem nm_rat {C : Addr} {H H' : Hp} {q : Addr} {n d : Int} {v : V} (h : Nm C H v n d) (r : RatAt C H' q n d) : Nm C H' (.ref q) n d := ⟨.inl ⟨q, rfl, r⟩, h.lw, h.b1, h.b2⟩

section
variable {P : Program} {w : World} {K : PySem.W.Frag} {mg : Str → Option Value} {base : Heap}
/-- i op x -/
def spRef (op : Int × Int → Int × Int → Int × Int) (C : Addr) : Sp := fun vs H Q _ => ∃ p n d m, vs = [.ref p, .int m] ∧ Nm C H (.ref p) n d ∧ Bd 2500 m ∧
  ∀ q H', RatAt C H' q (op (n, d) (m, 1)).1 (op (n, d) (m, 1)).2 → Same H H' → Q (.ref q) H'
def spRsub (C : Addr) : Sp := fun vs H Q _ => ∃ p n d m, vs = [.ref p, .int m] ∧ Nm C H (.ref p) n d ∧ Bd 2500 m ∧
  ∀ q H', RatAt C H' q (minus (m, 1) (n, d)).1 (minus (m, 1) (n, d)).2 → Same H H' → Q (.ref q) H'
theorem nm_int {C : Addr} {H : Hp} {m : Int} (h : Bd 2500 m) : Nm C H (.int m) m 1 := ⟨.inr ⟨rfl, rfl⟩, lw_int m, h, bd_one (by decide)⟩

theorem scRadd : FnScope ["self", "other"] ["self", "other"] (defScope sRadd) := ⟨rfl, rfl, rfl, by decide +kernel, rfl, by decide +kernel, by decide +kernel⟩
theorem ok_radd {f C : Addr} {fd : FuncData} (F : FnP K "__radd__" "Ratio.__radd__" sRadd [] f fd) (T : RT K mg C) (O : OpX P w K mg base C .Add 5 (spBin plus C)) : FnOk P w K mg base CX0 6 f fd ["self", "other"] (spRef plus C) := by
  refine F.ok scRadd (fun vs H Q E h => ?_) (fun cdv A outer s H vs Q E hr h => ?_)
  · obtain ⟨p, n, d, m, rfl, _⟩ := h
    rfl
  · obtain ⟨p, n, d, m, rfl, hp, hm, q⟩ := h
    exact ⟨_, PSs.nox (pss_one (ps_ret (pe_op (op_nm O T.num hr) (pv 0) (pv 1)))), _, rfl, _, rfl, p, n, d, m, 1, rfl, hp.rat, .inr ⟨rfl, rfl⟩, p, _, n, d, m, 1, rfl, hp, nm_int hm, q⟩
theorem scRmul : FnScope ["self", "other"] ["self", "other"] (defScope sRmul) := ⟨rfl, rfl, rfl, by decide +kernel, rfl, by decide +kernel, by decide +kernel⟩
theorem ok_rmul {f C : Addr} {fd : FuncData} (F : FnP K "__rmul__" "Ratio.__rmul__" sRmul [] f fd) (T : RT K mg C) (O : OpX P w K mg base C .Mult 5 (spBin times C)) : FnOk P w K mg base CX0 6 f fd ["self", "other"] (spRef times C) := by
  refine F.ok scRmul (fun vs H Q E h => ?_) (fun cdv A outer s H vs Q E hr h => ?_)
  · obtain ⟨p, n, d, m, rfl, _⟩ := h
    rfl
  · obtain ⟨p, n, d, m, rfl, hp, hm, q⟩ := h
    exact ⟨_, PSs.nox (pss_one (ps_ret (pe_op (op_nm O T.num hr) (pv 0) (pv 1)))), _, rfl, _, rfl, p, n, d, m, 1, rfl, hp.rat, .inr ⟨rfl, rfl⟩, p, _, n, d, m, 1, rfl, hp, nm_int hm, q⟩
theorem scSub : FnScope ["self", "other"] ["self", "other"] (defScope sSub) := ⟨rfl, rfl, rfl, by decide +kernel, rfl, by decide +kernel, by decide +kernel⟩
theorem ok_sub {f C : Addr} {fd : FuncData} (F : FnP K "__sub__" "Ratio.__sub__" sSub [] f fd) (T : RT K mg C) (O : OpX P w K mg base C .Add 5 (spBin plus C)) (N : OpN P w K mg base C 4 (spNeg C)) (D : DAs P w K mg base C) :
    FnOk P w K mg base CX0 6 f fd ["self", "other"] (spBin minus C) := by
  refine F.ok scSub (fun vs H Q E h => ?_) (fun cdv A outer s H vs Q E hr h => ?_)
  · obtain ⟨p, v, n, d, m, e, rfl, _⟩ := h
    rfl
  · obtain ⟨p, v, n, d, m, e, rfl, hp, hv, q⟩ := h
    have hr4 := hr.mono (by decide : 4 ≤ 5)
    refine ⟨_, PSs.nox (pss_one (ps_ret (pe_op (op_nm O T.num hr) (pv 0) (pe_un (un_nm N hr4) (pe_use D hr4 rfl (pa_cons (pv 1) pa_nil)))))), ?_⟩
    refine ⟨_, rfl, _, rfl, v, m, e, rfl, hv.at_, fun r H1 h1 s1 => ?_⟩
    obtain ⟨dx, hx⟩ := id h1
    refine ⟨r, dx, _, rfl, hx, r, m, e, rfl, nm_rat hv h1, fun z H2 h2 s2 => ?_⟩
    refine ⟨p, n, d, -m, e, rfl, hp.rat.same (s1.trans s2), .inl ⟨z, rfl, h2⟩, p, _, n, d, -m, e, rfl, hp.same (s1.trans s2), nm_neg (p := p) hv h2, fun y H3 h3 s3 => ?_⟩
    rw [plus_neg] at h3
    exact q y H3 h3 ((s1.trans s2).trans s3)
theorem scRsub : FnScope ["self", "other"] ["self", "other"] (defScope sRsub) := ⟨rfl, rfl, rfl, by decide +kernel, rfl, by decide +kernel, by decide +kernel⟩
theorem ok_rsub {f C : Addr} {fd : FuncData} (F : FnP K "__rsub__" "Ratio.__rsub__" sRsub [] f fd) (T : RT K mg C) (O : OpX P w K mg base C .Add 5 (spBin plus C)) (N : OpN P w K mg base C 4 (spNeg C)) :
    FnOk P w K mg base CX0 6 f fd ["self", "other"] (spRsub C) := by
  refine F.ok scRsub (fun vs H Q E h => ?_) (fun cdv A outer s H vs Q E hr h => ?_)
  · obtain ⟨p, n, d, m, rfl, _⟩ := h
    rfl
  · obtain ⟨p, n, d, m, rfl, hp, hm, q⟩ := h
    have hr4 := hr.mono (by decide : 4 ≤ 5)
    refine ⟨_, PSs.nox (pss_one (ps_ret (pe_op (op_nm O T.num hr) (pe_un (un_nm N hr4) (pv 0)) (pv 1)))), ?_⟩
    obtain ⟨dx, hx⟩ := hp.rat
    refine ⟨_, rfl, p, dx, _, rfl, hx, p, n, d, rfl, hp, fun z H2 h2 s2 => ?_⟩
    refine ⟨_, rfl, z, -n, d, m, 1, rfl, h2, .inr ⟨rfl, rfl⟩, z, _, -n, d, m, 1, rfl, nm_neg (p := p) hp h2, nm_int hm, fun y H3 h3 s3 => ?_⟩
    rw [plus_rsub] at h3
    exact q y H3 h3 (s2.trans s3)

/-! ### texts -/
def it (n : Int) : Str := Str.ofString (toString n)
def txt (n d : Int) : Str := if d = 1 then it n else (it n ++ "/") ++ it d
def shw (n d : Int) : Str := ((("Ratio(" ++ it n) ++ ", ") ++ it d) ++ ")"
def spText (g : Int → Int → Str) (C : Addr) : Sp := fun vs H Q _ => ∃ p n d, vs = [.ref p] ∧ RatAt C H p n d ∧ Bd 1900 n ∧ Bd 1900 d ∧ Q (.str (g n d)) H
theorem it_len {n : Int} (h : Bd 1900 n) : (it n).length ≤ 1901 := by
  have e := int_text_length_le (a := n) (k := 1900) (by decide) (h.log2 (by decide))
  unfold it
  rw [PySem.ofString_length]
  exact e
theorem lt1920 {n : Int} (h : Bd 1900 n) : n.natAbs.log2 < 1920 := Nat.lt_trans (h.log2 (by decide)) (by decide)
theorem len1 : (Str.ofString "/").length = 1 := by decide +kernel
theorem len2 : (Str.ofString ", ").length = 2 := by decide +kernel
theorem len3 : (Str.ofString ")").length = 1 := by decide +kernel
theorem len6 : (Str.ofString "Ratio(").length = 6 := by decide +kernel
theorem line (n : Nat) (h : n ≤ 100000) : n ≤ sizeLine := Nat.le_trans h (by decide)

theorem scStr : FnScope ["self"] ["self"] (defScope sStr) := ⟨rfl, rfl, rfl, by decide +kernel, rfl, by decide +kernel, by decide +kernel⟩
theorem ok_str {f C : Addr} {fd : FuncData} (F : FnP K "__str__" "Ratio.__str__" sStr [] f fd) (T : RT K mg C) : FnOk P w K mg base CX0 1 f fd ["self"] (spText txt C) := by
  refine F.ok scStr (fun vs H Q E h => ?_) (fun cdv A outer s H vs Q E hr h => ?_)
  · obtain ⟨p, n, d, rfl, _⟩ := h
    rfl
  · obtain ⟨p, n, d, rfl, ⟨dx, hp⟩, hn, hd, q⟩ := h
    refine ⟨_, PSs.nox (pss_cons (ps_if (pt_cmpR op_eq (pe_fld (pv 0) rfl) pe_int (nomark _)) (pss_one (ps_ret (pe_callTy call_str_int rfl T.str PyProof.Rows.boot_str (pa_cons (pe_fld (pv 0) rfl) pa_nil)))) pss_nil)
      (pss_one (ps_ret (pe_joined (.cons (pe_fmt (pe_fld (pv 0) rfl)) (.cons pe_str (.cons (pe_fmt (pe_fld (pv 0) rfl)) .nil))))))), ?_⟩
    have h1 := it_len hn
    have h2 := it_len hd
    refine ⟨_, rfl, p, C, dx, _, _, rfl, hp, T.cl, T.nB, rf_bottom _ _, rfl, _, rfl, ?_⟩
    refine ite2 (fun c => ?_) (fun c => ?_)
    · have c' : d = 1 := V.int.inj (of_decide_eq_true c)
      unfold txt at q
      rw [if_pos c'] at q
      exact ⟨_, rfl, p, C, dx, _, _, rfl, hp, T.cl, T.nT, rf_top _ _, n, rfl, lt1920 hn, q⟩
    · have c' : ¬ d = 1 := fun z => c (decide_eq_true (by rw [z]))
      unfold txt at q
      rw [if_neg c'] at q
      refine ⟨_, rfl, p, C, dx, _, _, rfl, hp, T.cl, T.nT, rf_top _ _, .inr ⟨n, rfl, lt1920 hn, _, rfl, ?_, ?_⟩⟩
      · rw [PySem.Str.empty_append]
        exact line _ (Nat.le_trans h1 (by decide))
      refine ⟨_, rfl, ?_, ?_⟩
      · rw [PySem.Str.empty_append, strLen_append, len1]
        exact line _ (Nat.le_trans (Nat.add_le_add_right h1 1) (by decide))
      refine ⟨_, rfl, p, C, dx, _, _, rfl, hp, T.cl, T.nB, rf_bottom _ _, .inr ⟨d, rfl, lt1920 hd, _, rfl, ?_, ?_⟩⟩
      · rw [PySem.Str.empty_append, strLen_append, strLen_append, len1]
        exact line _ (Nat.le_trans (Nat.add_le_add (Nat.add_le_add_right h1 1) h2) (by decide))
      · rw [PySem.Str.empty_append]
        exact q
theorem scRepr : FnScope ["self"] ["self"] (defScope sRepr) := ⟨rfl, rfl, rfl, by decide +kernel, rfl, by decide +kernel, by decide +kernel⟩
theorem ok_repr {f C : Addr} {fd : FuncData} (F : FnP K "__repr__" "Ratio.__repr__" sRepr [] f fd) (T : RT K mg C) : FnOk P w K mg base CX0 1 f fd ["self"] (spText shw C) := by
  refine F.ok scRepr (fun vs H Q E h => ?_) (fun cdv A outer s H vs Q E hr h => ?_)
  · obtain ⟨p, n, d, rfl, _⟩ := h
    rfl
  · obtain ⟨p, n, d, rfl, ⟨dx, hp⟩, hn, hd, q⟩ := h
    refine ⟨_, PSs.nox (pss_one (ps_ret (pe_joined (.cons pe_str (.cons (pe_fmt (pe_fld (pv 0) rfl)) (.cons pe_str (.cons (pe_fmt (pe_fld (pv 0) rfl)) (.cons pe_str .nil)))))))), ?_⟩
    have h1 := it_len hn
    have h2 := it_len hd
    refine ⟨_, rfl, ?_, ?_⟩
    · rw [PySem.Str.empty_append, len6]
      exact line _ (by decide)
    refine ⟨_, rfl, p, C, dx, _, _, rfl, hp, T.cl, T.nT, rf_top _ _, .inr ⟨n, rfl, lt1920 hn, _, rfl, ?_, ?_⟩⟩
    · rw [PySem.Str.empty_append, strLen_append, len6]
      exact line _ (Nat.le_trans (Nat.add_le_add_left h1 6) (by decide))
    refine ⟨_, rfl, ?_, ?_⟩
    · rw [PySem.Str.empty_append, strLen_append, strLen_append, len6, len2]
      exact line _ (Nat.le_trans (Nat.add_le_add_right (Nat.add_le_add_left h1 6) 2) (by decide))
    refine ⟨_, rfl, p, C, dx, _, _, rfl, hp, T.cl, T.nB, rf_bottom _ _, .inr ⟨d, rfl, lt1920 hd, _, rfl, ?_, ?_⟩⟩
    · rw [PySem.Str.empty_append, strLen_append, strLen_append, strLen_append, len6, len2]
      exact line _ (Nat.le_trans (Nat.add_le_add (Nat.add_le_add_right (Nat.add_le_add_left h1 6) 2) h2) (by decide))
    refine ⟨_, rfl, ?_, ?_⟩
    · rw [PySem.Str.empty_append, strLen_append, strLen_append, strLen_append, strLen_append, len6, len2, len3]
      exact line _ (Nat.le_trans (Nat.add_le_add_right (Nat.add_le_add (Nat.add_le_add_right (Nat.add_le_add_left h1 6) 2) h2) 1) (by decide))
    · rw [PySem.Str.empty_append]
      exact q
end
end Ra
namespace Ra
open PySem PySem.Spec PyProof.Rows L2 Ow Pt Rm
/-- what a value is, as far as is asked -/
inductive Knd where
  | int (n : Int) | txt (z : Str) | rat | odd
def abc : Str := "abcdefghijklmnopqrstuvwxyz"
def nameOk (z : Str) : Bool := decide (1 ≤ z.length) && (decide (z.length ≤ 8) && z.cps.toList.all (fun c => decide (c ∈ abc.cps.toList)))
def isI : Knd → Bool
  | .int _ => true
  | _ => false
def isC : Knd → Bool
  | .int n => decide (0 ≤ n)
  | _ => false
def isN : Knd → Bool
  | .int _ => true
  | .rat => true
  | _ => false
def isS : Knd → Bool
  | .txt z => nameOk z
  | _ => false
def Kd (K : PySem.W.Frag) (C : Addr) (H : Hp) (x : V) : Knd → Prop
  | .int n => x = .int n
  | .txt z => x = .str z ∧ z.length ≤ sizeLine
  | .rat => TyX K H x (.ref C)
  | .odd => ∃ t a b, TyX K H x t ∧ PySem.W.kitOne K t (.type "int") = some a ∧ PySem.W.kitOne K t (.type "bool") = some b ∧ (a && !b) = false ∧ PySem.W.kitOne K t (.ref C) = some false ∧ PySem.W.kitOne K t (.type "str") = some false
/-- what is asked of the classes besides -/
structure KT (K : PySem.W.Frag) (mg : Str → Option Value) (C : Addr) : Prop where
  sC : PySem.W.kitOne K (.type "str") (.ref C) = some false
  Ci : PySem.W.kitOne K (.ref C) (.type "int") = some false
  Cb : PySem.W.kitOne K (.ref C) (.type "bool") = some false
  Cs : PySem.W.kitOne K (.ref C) (.type "str") = some false
  len : mg "len" = none
  all : mg "all" = none
section
variable {K : PySem.W.Frag} {mg : Str → Option Value} {C : Addr} {H : Hp} {x : V}
theorem kSI : PySem.W.kitOne K (.type "str") (.type "int") = some false := kit_ty (by decide +kernel)
theorem kSB : PySem.W.kitOne K (.type "str") (.type "bool") = some false := kit_ty (by decide +kernel)
theorem kSS : PySem.W.kitOne K (.type "str") (.type "str") = some true := kit_ty (by decide +kernel)
theorem kIS : PySem.W.kitOne K (.type "int") (.type "str") = some false := kit_ty (by decide +kernel)
theorem kd_int (T : KT K mg C) : ∀ {k : Knd}, Kd K C H x k → ∃ t a b, TyX K H x t ∧ PySem.W.kitOne K t (.type "int") = some a ∧ PySem.W.kitOne K t (.type "bool") = some b ∧ (a && !b) = isI k
  | .int n, h => by cases (show x = .int n from h); exact ⟨_, true, false, .base (.int _), kII, kIB, rfl⟩
  | .txt z, h => by obtain ⟨rfl, _⟩ := h; exact ⟨_, false, false, .base (.str _), kSI, kSB, rfl⟩
  | .rat, h => ⟨_, false, false, h, T.Ci, T.Cb, rfl⟩
  | .odd, h => by obtain ⟨t, a, b, h1, h2, h3, h4, _⟩ := h; exact ⟨t, a, b, h1, h2, h3, h4⟩
theorem kd_rat (T : KT K mg C) (R : RT K mg C) : ∀ {k : Knd}, Kd K C H x k → isI k = false → ∃ t, TyX K H x t ∧ PySem.W.kitOne K t (.ref C) = some (isN k)
  | .int n, h, e => nomatch e
  | .txt z, h, _ => by obtain ⟨rfl, _⟩ := h; exact ⟨_, .base (.str _), T.sC⟩
  | .rat, h, _ => ⟨_, h, R.kCC⟩
  | .odd, h, _ => by obtain ⟨t, a, b, h1, h2, h3, h4, h5, _⟩ := h; exact ⟨t, h1, h5⟩
/-- is it a text -/
def isT : Knd → Bool
  | .txt _ => true
  | _ => false
theorem kd_txt (T : KT K mg C) : ∀ {k : Knd}, Kd K C H x k → ∃ t, TyX K H x t ∧ PySem.W.kitOne K t (.type "str") = some (isT k)
  | .int n, h => by cases (show x = .int n from h); exact ⟨_, .base (.int _), kIS⟩
  | .txt z, h => by obtain ⟨rfl, _⟩ := h; exact ⟨_, .base (.str _), kSS⟩
  | .rat, h => ⟨_, h, T.Cs⟩
  | .odd, h => by obtain ⟨t, a, b, h1, _, _, _, _, h6⟩ := h; exact ⟨t, h1, h6⟩
def spKnd (K : PySem.W.Frag) (C : Addr) (ans : Knd → Bool) : Sp := fun vs H Q _ => ∃ x k, vs = [x] ∧ Kd K C H x k ∧ ∀ H', Same H H' → Q (.bl (ans k)) H'
end

section
variable {P : Program} {w : World} {K : PySem.W.Frag} {mg : Str → Option Value} {base : Heap}
theorem use_int {C : Addr} (T : KT K mg C) {x : V} {k : Knd} {H : Hp} {Q : VK} {E : XK} (h : Kd K C H x k) (q : Q (.bl (isI k)) H) : spInt K [x] H Q E := by
  obtain ⟨t, a, b, h1, h2, h3, h4⟩ := kd_int T h
  rw [← h4] at q
  exact ⟨x, t, a, b, rfl, h1, h2, h3, q⟩
theorem scNumber : FnScope ["value"] ["value"] (defScope sNumber) := ⟨rfl, rfl, rfl, by decide +kernel, rfl, by decide +kernel, by decide +kernel⟩
theorem ok_number {f C : Addr} {fd : FuncData} (F : FnP K "is_number" "is_number" sNumber [] f fd) (T : KT K mg C) (R : RT K mg C) (D : DInt P w K mg base) : FnOk P w K mg base CX0 2 f fd ["value"] (spKnd K C isN) := by
  refine F.ok scNumber (fun vs H Q E h => ?_) (fun cdv A outer s H vs Q E hr h => ?_)
  · obtain ⟨x, k, rfl, _⟩ := h
    rfl
  · obtain ⟨x, k, rfl, hk, q⟩ := h
    refine ⟨_, PSs.nox (pss_one (ps_ret (pe_or (pe_use D hr rfl (pa_cons (pv 0) pa_nil)) (pe_one (pe_callB call_isi (by rfl) R.isi boot_isinstance (pa_cons (pv 0) (pa_cons (pe_glob (v := .ref C) rfl R.mgC rfl) pa_nil))))))), ?_⟩
    obtain ⟨t, a, b, h1, h2, h3, h4⟩ := kd_int T hk
    refine ⟨_, rfl, x, t, a, b, rfl, h1, h2, h3, _, rfl, ?_⟩
    rw [h4]
    by_cases e : isI k = true
    · have n : isN k = true := by cases k <;> first | rfl | exact nomatch e
      rw [e]
      rw [n] at q
      exact iteT (q _ (Same.refl _))
    · have e' : isI k = false := by cases h : isI k with | true => exact absurd h e | false => rfl
      obtain ⟨t, h1, h2⟩ := kd_rat T R hk e'
      rw [e']
      refine iteF ?_
      exact ⟨_, rfl, x, .ref C, t, .ref C, _, rfl, .own C, h1, h2, q _ (Same.refl _)⟩
end
end Ra
namespace Ra
open PySem PySem.Spec PyProof.Rows L2 Ow Pt Rm

/-- x(e), x a local name that holds the class at C -/
def tMakeL (i : Nat) (C : Addr) (sp : Sp) (dvs : List V) (E : XK) (t : TA) : TE := fun σ H Q => σ[i]? = some (some (.ref C)) ∧ tMake C sp dvs E t σ H Q
section
variable {X : Cx} {CX : CXT} {k i : Nat} {C f : Addr} {fd : FuncData} {ps : List Str} {sp : Sp} {dvs : List V} {ds : List Value} {E : XK} {x : Str} {p pos : Pos} {e : Expr} {es : List Expr} {t : TA}
theorem pe_makeL (M : Mk X.K C f) (F : FnOk X.prog X.w X.K X.mg X.base CX k f fd ps sp) (hr : Room (k + 1) X.A) (hN : X.N[i]? = some x) (hv : Vis X.env.scope x) (hb : Binds X.K fd ps ds) (hd : Vals dvs ds) (hx : Passes CX X E) (ha : PA X (e :: es) t)
    (hdb : (x == ("__debug__" : Str)) = false := by decide) (hcd : (x == ("__classdict__" : Str)) = false := by decide)
    (he : starEach (e :: es) X.env = (false, eval e X.env) :: starEach es X.env := by rfl) (hpl : (backTo pos (starEach es X.env)).any (·.1) = false := by rfl) : PE X (.Call (.Name x p) (e :: es) [] pos) (tMakeL i C sp dvs E t) := by
  refine ⟨fun pins s σ H Q I h => ?_⟩
  obtain ⟨hs, ht⟩ := h
  have var := (pe_var (pos := p) hN hv hdb hcd).run pins s σ H (fun v H1 => v = .ref C ∧ H1 = H) I ⟨.ref C, hs, rfl, rfl⟩
  refine wpAny_Call_Name_kw (thn var fun u s1 got => ?_)
  obtain ⟨v, H1, I1, r1, q1⟩ := got
  obtain ⟨rfl, rfl⟩ := q1
  cases r1
  refine PySem.W.callWith_K (h₀ := X.base) I.ok.mod.kin M.kp (thn (ha.run pos pins s1 σ _ _ I1 ht) fun us s2 got => ?_) he hpl
  obtain ⟨vs, H2, I2, r, q⟩ := got
  exact ⟨I2.kIn, run_make M F hr hb hd hx I2 r q⟩
end

section
variable {X : Cx} {CX : CXT} {k : Nat} {C p g : Addr} {mc : Value} {sp : Sp} {E : XK} {o e : Expr} {es : List Expr} {f m : Str} {pos apos : Pos} {ta : TE} {t : TA} {pl : Sem Bool}
open ClX in
/-- C.m(), m a classmethod -/
theorem pe_cmeth0 (he : PE X o ta) (r : CRead X.K C mc) (c : CMet X.K C mc m p g) (F : FnR X.prog X.w X.K X.mg X.base CX k g sp) (hr : Room k X.A) (hx : Passes CX X E)
    (ht : eval (.Call (.Attribute o m apos) [] [] pos) X.env = (do
      let ov ← eval o X.env
      standAt apos.atName
      let (f, first) ← holding [ov] (getMethod ov m pl)
      callWith pos f first (backTo pos (starEach [] X.env)) (backToKw pos (keywordEach [] X.env))) := by rfl) :
    PE X (.Call (.Attribute o m apos) [] [] pos) (tCMeth C sp E ta tNil) := by
  refine ⟨fun pins s σ H Q I h => PySem.W.methodCall_KW (pl := pl) (thn (he.run pins s σ H _ I h) fun u s1 got => ?_) ht⟩
  obtain ⟨x, H1, I1, rx, rfl, q⟩ := got
  cases rx
  refine getmethcm_ok I1 r c fun s2 I2 => ?_
  exact PySem.W.callWith_M0 ⟨pin_at I2, I2.kIn⟩ c.fi (run_cm (us := []) (vs := []) F hr hx I2 .nil q)
end

/-! ### Ratio.total -/
/-- a number in lowest terms, a small one -/
structure Sm (C : Addr) (H : Hp) (v : V) (n d : Int) : Prop where
  at_ : NumAt C H v n d
  lw : Lw n d
  b1 : Bd 300 n
  b2 : Bd 300 d
theorem Sm.same {C : Addr} {H H' : Hp} {v : V} {n d : Int} (h : Sm C H v n d) (s : Same H H') : Sm C H' v n d := ⟨h.at_.same s, h.lw, h.b1, h.b2⟩
theorem Sm.nm {C : Addr} {H : Hp} {v : V} {n d : Int} (h : Sm C H v n d) : Nm C H v n d := ⟨h.at_, h.lw, h.b1.mono (by decide), h.b2.mono (by decide)⟩
def Sms (C : Addr) (H : Hp) (xs : List V) (ps : List (Int × Int)) : Prop := xs.length = ps.length ∧ ∀ (i : Nat) (x : V) (p : Int × Int), xs[i]? = some x → ps[i]? = some p → Sm C H x p.1 p.2
theorem Sms.same {C : Addr} {H H' : Hp} {xs : List V} {ps : List (Int × Int)} (h : Sms C H xs ps) (s : Same H H') : Sms C H' xs ps := ⟨h.1, fun i x p h1 h2 => (h.2 i x p h1 h2).same s⟩
def sumP (ps : List (Int × Int)) : Int × Int := ps.foldl plus (0, 1)
/-- how great the sum of some may be -/
structure SB (i : Nat) (a : Int × Int) : Prop where
  lw : Lw a.1 a.2
  b1 : Bd (1 + 301 * i) a.1
  b2 : Bd (1 + 301 * i) a.2
theorem sb_zero : SB 0 (0, 1) := ⟨lw_int 0, bd_zero, bd_one (by decide)⟩
theorem sb_plus {i : Nat} {a p : Int × Int} (h : SB i a) (lp : Lw p.1 p.2) (b1 : Bd 300 p.1) (b2 : Bd 300 p.2) : SB (i + 1) (plus a p) := by
  have hd : a.2 * p.2 ≠ 0 := mul_ne h.lw.pos lp.pos
  refine ⟨low_lw _ hd, bd_low1 hd ?_, bd_low2 hd ?_⟩
  · have x := (h.b1.mul b2).add ((b1.mul h.b2).mono (show 300 + (1 + 301 * i) ≤ 1 + 301 * i + 300 by omega))
    exact x.mono (by omega)
  · exact (h.b2.mul b2).mono (by omega)
theorem sumP_snoc (ps : List (Int × Int)) (p : Int × Int) : sumP (ps ++ [p]) = plus (sumP ps) p := by
  unfold sumP
  rw [List.foldl_append]
  rfl
theorem sb_sum {C : Addr} {H : Hp} {xs : List V} {ps : List (Int × Int)} (h : Sms C H xs ps) : ∀ i, i ≤ ps.length → SB i (sumP (ps.take i)) := by
  intro i
  induction i with
  | zero =>
    intro _
    rw [List.take_zero]
    exact sb_zero
  | succ i ih =>
    intro hi
    have hlt : i < ps.length := hi
    have hx : i < xs.length := by rw [h.1]; exact hlt
    have s := h.2 i xs[i] ps[i] (List.getElem?_eq_getElem hx) (List.getElem?_eq_getElem hlt)
    rw [List.take_succ, List.getElem?_eq_getElem hlt]
    show SB (i + 1) (sumP (ps.take i ++ [ps[i]]))
    rw [sumP_snoc]
    exact sb_plus (ih (Nat.le_of_lt hlt)) s.lw s.b1 s.b2
theorem sb_nm {C : Addr} {H : Hp} {q : Addr} {i : Nat} {a : Int × Int} (h : SB i a) (hi : i ≤ 6) (r : RatAt C H q a.1 a.2) : Nm C H (.ref q) a.1 a.2 :=
  ⟨.inl ⟨q, rfl, r⟩, h.lw, h.b1.mono (by omega), h.b2.mono (by omega)⟩

section
variable {P : Program} {w : World} {K : PySem.W.Frag} {mg : Str → Option Value} {base : Heap}
/-- its body's promise: cls, the tuple of the numbers -/
def spTot0 (K : PySem.W.Frag) (C : Addr) : Sp := fun vs H Q _ => ∃ (t : Addr) (xs : List V) (ps : List (Int × Int)), vs = [.ref C, .ref t] ∧ SqT K H t xs ∧ xs.length ≤ 6 ∧ Sms C H xs ps ∧
  ∀ q H', RatAt C H' q (sumP ps).1 (sumP ps).2 → Same H H' → Q (.ref q) H'
def spTot (C : Addr) : Sp := fun vs H Q _ => ∃ (xs : List V) (ps : List (Int × Int)), vs = .ref C :: xs ∧ xs.length ≤ 6 ∧ Sms C H xs ps ∧
  ∀ q H', RatAt C H' q (sumP ps).1 (sumP ps).2 → Same H H' → Q (.ref q) H'
theorem scTot : FnScope ["cls", "numbers", "found", "number"] ["cls", "numbers"] (defScope sTotal) := ⟨rfl, rfl, rfl, by decide +kernel, rfl, by decide +kernel, by decide +kernel⟩
theorem same_sqt {H H' : Hp} {a : Addr} {xs : List V} (s : Same H H') (h : SqT K H a xs) : SqT K H' a xs := SqT.ext h s
theorem ok_total {f C : Addr} {fd : FuncData} (F : FnP K "total" "Ratio.total" sTotal [] f fd) (T : RT K mg C) (M : RMk P w K mg base C) (O : OpX P w K mg base C .Add 5 (spBin plus C)) :
    FnR P w K mg base CX0 6 f (spTot C) := by
  obtain ⟨oc, od, dV, kV, doc, pm, an, cdv, ct, osl, rfl, lk, hcd, hD, _⟩ := F.ex
  have hdV : dV = .none := by
    rcases hD with ⟨_, e⟩ | ⟨e, _⟩
    · exact e
    · exact absurd rfl e
  subst hdV
  have G := StX.fn_star (k := 5) (sp := spTot0 K C) (CX := CX0) (P := P) (w := w) (mg := mg) (base := base) (ps := ["cls"]) (pv := "numbers") lk hcd scTot StX.cxUp_none
    (StX.bind_star1 (B := fun us => bindArgs _ ⟨us, []⟩) (fun a => rfl) (fun a r rs => rfl)) (fun A outer s H vs Q E hr h => ?_)
  · refine G.imp fun vs H Q E h => ?_
    obtain ⟨xs, ps, rfl, hl, hs, q⟩ := h
    refine ⟨[.ref C], xs, rfl, rfl, line _ (Nat.le_trans hl (by decide)), fun p hp => ?_⟩
    have sm : Same H (upd H p (.tup xs)) := same_upd hp
    exact ⟨p, xs, ps, rfl, SqT.of upd_same, hl, hs.same sm, fun z H' r s' => q z H' r (sm.trans s')⟩
  · obtain ⟨t, xs, ps, rfl, ht, hl, hs, q⟩ := h
    obtain ⟨f1, fd1, m, Fi, b2, ⟨ds, hv, b1⟩, _⟩ := M.ex
    have hr3 := hr.mono (by decide : 3 ≤ 5)
    refine ⟨_, PSs.nox (pss_cons (ps_set (i := 2) scTot.nd rfl (Or.inl rfl) (pe_makeL (i := 0) m Fi hr3 rfl (Or.inl rfl) b1 hv pass0 (pa_cons pe_int pa_nil)))
      (pss_cons (ps_for PassesOwn.never rfl (pi_tup (pv 1)) (pg_name (i := 3) scTot.nd rfl (Or.inl rfl)) (pss_one (ps_set (i := 2) scTot.nd rfl (Or.inl rfl) (pe_op (op_nm O T.num hr) (pv 2) (pv 3)))))
      (pss_one (ps_ret (pv 2))))), ?_⟩
    refine ⟨rfl, ?_⟩
    refine rat_new (by decide) (bd_one (by decide)) fun z0 H1 r0 s1 _ => ?_
    rw [low_int] at r0
    refine ⟨_, rfl, t, rfl, ⟨xs, same_sqt s1 ht⟩, for_tup (K := K) (a := t) (xs := xs) (fun i σ H' => ∃ (z : Addr) (v : Option V), σ = [some (.ref C), some (.ref t), some (.ref z), v] ∧ Same H H' ∧ RatAt C H' z (sumP (ps.take i)).1 (sumP (ps.take i)).2)
      ⟨z0, none, rfl, s1, by rw [List.take_zero]; exact r0⟩ (fun i σ H' _ h => ?_) ?_ ?_⟩
    · obtain ⟨_, _, _, s2, _⟩ := h
      exact same_sqt s2 ht
    · rintro i x σ H' hx ⟨z, v, rfl, s2, rz⟩
      have hi : i < ps.length := by
        rw [← hs.1]
        exact (List.getElem?_eq_some_iff.mp hx).1
      have sx := (hs.same s2).2 i x ps[i] hx (List.getElem?_eq_getElem hi)
      have hi6 : i ≤ 6 := by have := hs.1; omega
      refine ⟨_, rfl, _, rfl, z, _, _, _, _, rfl, rz, sx.at_, z, _, _, _, _, _, rfl, sb_nm (sb_sum hs i (Nat.le_of_lt hi)) hi6 rz, sx.nm, fun y H2 h2 s3 => ?_⟩
      refine ⟨y, _, rfl, s2.trans s3, ?_⟩
      rw [List.take_succ, List.getElem?_eq_getElem hi]
      show RatAt C H2 y (sumP (ps.take i ++ [ps[i]])).1 (sumP (ps.take i ++ [ps[i]])).2
      rw [sumP_snoc]
      exact h2
    · rintro σ H' ⟨z, v, rfl, s2, rz⟩
      rw [hs.1, List.take_length] at rz
      exact ⟨_, rfl, q z H' rz s2⟩
end
end Ra
namespace Ra
open PySem PySem.Spec PyProof.Rows L2 Ow Pt Rm
section
variable {P : Program} {w : World} {K : PySem.W.Frag} {mg : Str → Option Value} {base : Heap}
/-! ### is_below -/
def spBelow (C : Addr) : Sp := fun vs H Q _ => ∃ p v n d m e, vs = [.ref p, v] ∧ Nm C H (.ref p) n d ∧ Nm C H v m e ∧ ∀ H', Same H H' → Q (.bl (decide ((minus (n, d) (m, e)).1.sign < 0))) H'
theorem scBelow : FnScope ["self", "other"] ["self", "other"] (defScope sBelow) := ⟨rfl, rfl, rfl, by decide +kernel, rfl, by decide +kernel, by decide +kernel⟩
theorem ok_below {f C : Addr} {fd : FuncData} (F : FnP K "is_below" "Ratio.is_below" sBelow [] f fd) (T : RT K mg C) (O : OpX P w K mg base C .Sub 6 (spBin minus C)) (pS : PS_ P w K mg base C) : FnOk P w K mg base CX0 7 f fd ["self", "other"] (spBelow C) := by
  refine F.ok scBelow (fun vs H Q E h => ?_) (fun cdv A outer s H vs Q E hr h => ?_)
  · obtain ⟨p, v, n, d, m, e, rfl, _⟩ := h
    rfl
  · obtain ⟨p, v, n, d, m, e, rfl, hp, hv, q⟩ := h
    refine ⟨_, PSs.nox (pss_one (ps_ret (pe_cmpR op_lt (pe_prp pS (pe_op (op_nm O T.num hr) (pv 0) (pv 1)) T.cl (hr.mono (by decide)) rfl) pe_int (nomark _)))), ?_⟩
    refine ⟨_, rfl, _, rfl, p, _, _, _, _, rfl, hp.rat, hv.at_, p, _, _, _, _, _, rfl, hp, hv, fun z H1 hz s1 => ?_⟩
    obtain ⟨dz, h1⟩ := id hz
    exact ⟨z, dz, _, rfl, h1, z, _, _, rfl, hz, _, _, rfl, rfl, q _ s1⟩
/-- ==, of two ratios, of a ratio and whatever is none -/
def spEqv (K : PySem.W.Frag) (C : Addr) : Sp := fun vs H Q _ => ∃ p v n d, vs = [.ref p, v] ∧ RatAt C H p n d ∧
  ((∃ q m e, v = .ref q ∧ RatAt C H q m e ∧ Q (.bl (decide ((n, d) = (m, e)))) H) ∨ ∃ t, TyX K H v t ∧ PySem.W.kitOne K t (.ref C) = some false ∧ Q (.bl false) H)
theorem scEqv : FnScope ["self", "other"] ["self", "other"] (defScope sEq) := ⟨rfl, rfl, rfl, by decide +kernel, rfl, by decide +kernel, by decide +kernel⟩
theorem ok_eqv {f C : Addr} {fd : FuncData} (F : FnP K "__eq__" "Ratio.__eq__" sEq [] f fd) (T : RT K mg C) : FnOk P w K mg base CX0 1 f fd ["self", "other"] (spEqv K C) := by
  refine F.ok scEqv (fun vs H Q E h => ?_) (fun cdv A outer s H vs Q E hr h => ?_)
  · obtain ⟨p, v, n, d, rfl, _⟩ := h
    rfl
  · obtain ⟨p, v, n, d, rfl, ⟨dx, hp⟩, h⟩ := h
    refine ⟨_, PSs.nox (pss_one (ps_ret (pe_and (pe_callB call_isi (by rfl) T.isi boot_isinstance (pa_cons (pv 1) (pa_cons (pe_glob (v := .ref C) rfl T.mgC rfl) pa_nil)))
      (pe_and (pe_cmpR op_eq (pe_fld (pv 0) rfl) (pe_fld (pv 1) rfl) (nomark _)) (pe_one (pe_cmpR op_eq (pe_fld (pv 0) rfl) (pe_fld (pv 1) rfl) (nomark _))))))), ?_⟩
    rcases h with ⟨q, m, e, rfl, ⟨dy, hq⟩, k⟩ | ⟨t, ty, no, k⟩
    · refine ⟨_, rfl, _, .ref C, .ref C, _, true, rfl, .own C, .base (.ins hq T.cl T.ca T.cg T.ct T.cm), T.kCC, true, rfl, ?_⟩
      refine iteT ?_
      refine ⟨_, rfl, p, C, dx, _, _, rfl, hp, T.cl, T.nT, rf_top _ _, _, rfl, q, C, dy, _, _, rfl, hq, T.cl, T.nT, rf_top _ _, rfl, _, rfl, ?_⟩
      by_cases c1 : n = m
      · rw [decide_eq_true (by rw [c1])]
        refine iteT ?_
        refine ⟨_, rfl, p, C, dx, _, _, rfl, hp, T.cl, T.nB, rf_bottom _ _, _, rfl, q, C, dy, _, _, rfl, hq, T.cl, T.nB, rf_bottom _ _, rfl, ?_⟩
        have e1 : decide (V.int d = V.int e) = decide ((n, d) = (m, e)) := by
          rw [c1]
          exact decide_eq_decide.mpr ⟨fun y => by rw [V.int.inj y], fun y => by rw [(Prod.mk.inj y).2]⟩
        rw [e1]
        exact k
      · rw [decide_eq_false (fun y => c1 (V.int.inj y))]
        refine iteF ?_
        rw [decide_eq_false (fun y => c1 (Prod.mk.inj y).1)] at k
        exact k
    · refine ⟨_, rfl, v, .ref C, t, .ref C, false, rfl, .own C, ty, no, false, rfl, ?_⟩
      exact iteF k
end
/-- o.m(k = v, ..), a method of an instance of the class at C -/
def tMethK (C : Addr) (m : Str) (n : Nat) (sp : Sp) (gV : List V → List V → List V) (E : XK) (ta : TE) (tk : TA) : TE := fun σ H Q => ta σ H fun x H1 => ∃ a dx fs, x = .ref a ∧ H1 a = some (.ins C dx fs) ∧ fs.lookup m = none ∧
  tk σ H1 fun zs H2 => zs.length = n ∧ sp (gV [x] zs) H2 Q E
section
variable {X : Cx} {CX : CXT} {k : Nat} {C f : Addr} {fd : FuncData} {ps ks : List Str} {sp : Sp} {E : XK} {m : Str} {pos apos : Pos} {o : Expr} {kws : List Keyword} {ta : TE} {tk : TA} {g : List Value → List Value → List Value} {gV : List V → List V → List V}
theorem pe_methK0 {pl : Sem Bool} (he : PE X o ta) (c : Cls X.K C) (hm : Meth X.K C m f) (F : FnOk X.prog X.w X.K X.mg X.base CX k f fd ps sp) (hr : Room k X.A) (hb : KBn X.K fd ps 1 ks g gV) (hx : Passes CX X E) (hkw : PK X kws tk)
    (hall : (backToKw pos (keywordEach kws X.env)).all (·.1.isSome) = true := by rfl) (hks : (backToKw pos (keywordEach kws X.env)).filterMap (·.1) = ks := by rfl)
    (hpl : ((backTo pos (starEach [] X.env)).any (·.1) || (backToKw pos (keywordEach kws X.env)).any (·.1.isNone)) = false := by rfl)
    (ht : eval (.Call (.Attribute o m apos) [] kws pos) X.env = (do
      let ov ← eval o X.env
      standAt apos.atName
      let (f, first) ← holding [ov] (getMethod ov m pl)
      callWith pos f first (backTo pos (starEach [] X.env)) (backToKw pos (keywordEach kws X.env))) := by rfl) :
    PE X (.Call (.Attribute o m apos) [] kws pos) (tMethK C m ks.length sp gV E ta tk) := by
  refine ⟨fun pins s σ H Q I h => PySem.W.methodCall_KW (pl := pl) (thn (he.run pins s σ H _ I h) fun u s1 got => ?_) ht⟩
  obtain ⟨x, H1, I1, rx, a, dx, fs, rfl, ea, l, q⟩ := got
  cases rx
  refine getmeth_ok I1 ea c hm l (PySem.W.callWith_KW0 (h₀ := X.base) (first := [.ref a]) I.ok.mod.kin hm.kp hall (thn (hkw.run pos pins s1 σ H1 _ I1 q) fun ws s2 got => ?_) hpl)
  obtain ⟨zs, H2, I2, rz, hl, q2⟩ := got
  refine ⟨I2.kIn, ?_⟩
  rw [hks]
  exact run_fnN (us := [.ref a]) (vs := [.ref a]) F hr hb hx I2 (.cons rfl .nil) rz rfl hl q2
end
/-- a method of one argument, by position and by its name -/
structure MtX (P : Program) (w : World) (K : PySem.W.Frag) (mg : Str → Option Value) (base : Heap) (C : Addr) (m : Str) (k : Nat) (sp : Sp) : Prop where
  ex : ∃ f fd, Meth K C m f ∧ FnOk P w K mg base CX0 k f fd ["self", "other"] sp ∧ Binds K fd ["self", "other"] [] ∧ KBn K fd ["self", "other"] 1 ["other"] (fun us ws => us ++ ws) (fun vs zs => vs ++ zs)
/-- the own == -/
structure EqX (P : Program) (w : World) (K : PySem.W.Frag) (mg : Str → Option Value) (base : Heap) (C : Addr) : Prop where
  ex : ∃ f fd, OpOf K C "__eq__" f ∧ FnOk P w K mg base CX0 1 f fd ["self", "other"] (spEqv K C) ∧ Binds K fd ["self", "other"] []
  ne : PySem.W.findIn K (.ref C) "__ne__" = some (some (.builtin "object.__ne__"))
  nf : PySem.W.notFirst K C (.ref C) = true
/-- the sign of a difference -/
theorem low_sign (t : Int) {b : Int} (hb : 0 < b) : ((low t b).1.sign < 0) ↔ t < 0 := by
  have e := low_t (t := t) (b := b)
  have hp : 0 < byv t b := by
    have := gcd_pos (t := t) (b := b) (by omega)
    unfold byv sg
    rw [if_pos hb]
    omega
  rw [Int.sign_neg_iff]
  constructor
  · intro h
    rw [← e]
    exact Int.mul_neg_of_neg_of_pos h hp
  · intro h
    rw [← e] at h
    exact Int.not_le.mp fun y => by
      have := Int.mul_nonneg y (Int.le_of_lt hp)
      omega
theorem minus_sign {a b : Int × Int} (la : Lw a.1 a.2) (lb : Lw b.1 b.2) : decide ((minus (a.1, a.2) (b.1, b.2)).1.sign < 0) = decide (a.1 * b.2 < b.1 * a.2) := by
  refine decide_eq_decide.mpr ?_
  show (low (a.1 * b.2 - b.1 * a.2) (a.2 * b.2)).1.sign < 0 ↔ _
  rw [low_sign _ (Int.mul_pos la.pos lb.pos)]
  constructor <;> intro h <;> omega
structure ShX (P : Program) (w : World) (K : PySem.W.Frag) (mg : Str → Option Value) (base : Heap) (C : Addr) (nm : Str) (g : Int → Int → Str) : Prop where
  ex : ∃ f fd, OpOf K C nm f ∧ FnOk P w K mg base CX0 1 f fd ["self"] (spText g C) ∧ Binds K fd ["self"] []
theorem shown_str {X : Cx} {C : Addr} {g : Int → Int → Str} (O : ShX X.prog X.w X.K X.mg X.base C "__str__" g) (hr : Room 3 X.A) : CallR X (.type "str") (rShow C (spText g C) E0) := by
  obtain ⟨f, fd, o, F, hb⟩ := O.ex
  exact call_str_own o F hr hb pass0
theorem shown_repr {X : Cx} {C : Addr} {g : Int → Int → Str} (O : ShX X.prog X.w X.K X.mg X.base C "__repr__" g) (hr : Room 2 X.A) : CallR X (.builtin "repr") (rShow C (spText g C) E0) := by
  obtain ⟨f, fd, o, F, hb⟩ := O.ex
  exact call_repr_own o F hr hb pass0
theorem any_false (n : Nat) : (List.replicate n false).any id = false := by
  rw [List.any_replicate]
  split <;> rfl
section
variable {K : PySem.W.Frag}
/-- == of ratios, as lists ask it -/
def DR (C : Addr) : EqD := fun x y b H => ∃ (a c : Addr) (n d m e : Int), x = .ref a ∧ y = .ref c ∧ RatAt C H a n d ∧ RatAt C H c m e ∧ b = decide ((n, d) = (m, e))
theorem monR (C : Addr) : MonB (DR C) := fun x y b H H' e d => by
  obtain ⟨a, c, n, d, m, f, h1, h2, h3, h4, h5⟩ := d
  exact ⟨a, c, n, d, m, f, h1, h2, h3.same e, h4.same e, h5⟩
theorem ownR {mg : Str → Option Value} (T : RT K mg C) (nf : PySem.W.notFirst K C (.ref C) = true) : OwnB K C (spEqv K C) E0 (DR C) := ⟨fun x y b H d => by
  obtain ⟨a, c, n, d, m, e, rfl, rfl, ⟨dx, ha⟩, ⟨dy, hc⟩, rfl⟩ := d
  refine ⟨a, c, dx, _, .ref C, rfl, rfl, ha, .base (.ins hc T.cl T.ca T.cg T.ct T.cm), nf, fun z => ?_, fun Q q => ⟨a, .ref c, n, d, rfl, ⟨dx, ha⟩, .inl ⟨c, m, e, rfl, ⟨dy, hc⟩, q H Ext.rfl'⟩⟩⟩
  subst z
  rw [ha] at hc
  have h1 := rf_top n d
  have h2 := rf_bottom n d
  injection hc with hc
  injection hc with _ _ hc
  rw [hc, rf_top] at h1
  rw [hc, rf_bottom] at h2
  cases h1
  cases h2
  exact decide_eq_true rfl⟩
end
end Ra
/-! The mathematics of tables: points, steps. -/
namespace Rm
abbrev Fr2 := Int × Int
abbrev z01 : Fr2 := (0, 1)
def Lws (ps : List Fr2) : Prop := ∀ p ∈ ps, Lw p.1 p.2
def Bds (k : Nat) (ps : List Fr2) : Prop := ∀ p ∈ ps, Bd k p.1 ∧ Bd k p.2
theorem Lws.get {ps : List Fr2} (h : Lws ps) {i : Nat} {p : Fr2} (e : ps[i]? = some p) : Lw p.1 p.2 := h p (List.mem_of_getElem? e)
theorem Bds.get {k : Nat} {ps : List Fr2} (h : Bds k ps) {i : Nat} {p : Fr2} (e : ps[i]? = some p) : Bd k p.1 ∧ Bd k p.2 := h p (List.mem_of_getElem? e)
/-- what points a table may have -/
structure Desc' (ps : List Fr2) : Prop where
  one : 1 ≤ ps.length
  five : ps.length ≤ 5
  pos : ∀ (i : Nat) p, ps[i]? = some p → 0 ≤ p.1
  first : ∀ p, ps[0]? = some p → p.1 ≠ 0
  down : ∀ (i : Nat) p r, ps[i]? = some p → ps[i + 1]? = some r → ¬ (p.1 * r.2 < r.1 * p.2)
def pad (ps : List Fr2) : List Fr2 := ps ++ List.replicate (5 - ps.length) z01
theorem pad_len {ps : List Fr2} (h : ps.length ≤ 5) : (pad ps).length = 5 := by
  unfold pad
  rw [List.length_append, List.length_replicate]
  omega
theorem pad_get {ps : List Fr2} {i : Nat} {p : Fr2} (e : (pad ps)[i]? = some p) : ps[i]? = some p ∨ (ps.length ≤ i ∧ p = z01) := by
  unfold pad at e
  rcases Nat.lt_or_ge i ps.length with c | c
  · rw [List.getElem?_append_left c] at e
    exact .inl e
  · rw [List.getElem?_append_right c, List.getElem?_replicate] at e
    split at e
    · exact .inr ⟨c, (Option.some.inj e).symm⟩
    · exact nomatch e
theorem pad_lws {ps : List Fr2} (h : Lws ps) : Lws (pad ps) := fun p hp => by
  unfold pad at hp
  rcases List.mem_append.mp hp with c | c
  · exact h p c
  · rw [List.eq_of_mem_replicate c]
    exact lw_int 0
theorem pad_desc {ps : List Fr2} (h : Desc' ps) (l : Lws ps) : Desc' (pad ps) := by
  refine ⟨by rw [pad_len h.five]; decide, by rw [pad_len h.five]; exact Nat.le_refl 5, fun i p e => ?_, fun p e => ?_, fun i p r e1 e2 => ?_⟩
  · rcases pad_get e with c | ⟨_, rfl⟩
    · exact h.pos i p c
    · exact Int.le_refl 0
  · rcases pad_get e with c | ⟨c, _⟩
    · exact h.first p c
    · have := h.one
      omega
  · rcases pad_get e2 with c2 | ⟨_, rfl⟩
    · rcases pad_get e1 with c1 | ⟨c1, _⟩
      · exact h.down i p r c1 c2
      · have := (List.getElem?_eq_some_iff.mp c2).1
        omega
    · have p0 : 0 ≤ p.1 := by
        rcases pad_get e1 with c1 | ⟨_, rfl⟩
        · exact h.pos i p c1
        · exact Int.le_refl 0
      show ¬ (p.1 * 1 < 0 * p.2)
      omega
/-- the points by the steps: sums from behind -/
def ptsR : List Fr2 → List Fr2
  | [] => []
  | s :: ss => plus ((ptsR ss).headD z01) s :: ptsR ss
theorem pts_len : ∀ ss : List Fr2, (ptsR ss).length = ss.length
  | [] => rfl
  | s :: ss => by
    show (ptsR ss).length + 1 = ss.length + 1
    rw [pts_len ss]
theorem lw_z : Lw z01.1 z01.2 := lw_int 0
theorem lws_head {ps : List Fr2} (h : Lws ps) : Lw (ps.headD z01).1 (ps.headD z01).2 := by
  cases ps with
  | nil => exact lw_z
  | cons p ps => exact h p List.mem_cons_self
theorem pts_lws : ∀ {ss : List Fr2}, Lws ss → Lws (ptsR ss)
  | [], _ => fun p hp => absurd hp List.not_mem_nil
  | s :: ss, h => fun p hp => by
    have ih : Lws (ptsR ss) := pts_lws fun x hx => h x (List.mem_cons_of_mem _ hx)
    rcases List.mem_cons.mp hp with rfl | hp
    · exact lw_plus (lws_head ih) (h s List.mem_cons_self)
    · exact ih p hp
/-- sums of values -/
def sumq (ss : List Fr2) : Rat := (ss.map qv).sum
theorem sumq_cons (s : Fr2) (ss : List Fr2) : sumq (s :: ss) = qv s + sumq ss := by
  unfold sumq
  rw [List.map_cons, List.sum_cons]
theorem q_head {ss : List Fr2} (h : Lws ss) : qv ((ptsR ss).headD z01) = sumq ss := by
  induction ss with
  | nil => exact q_zero
  | cons s ss ih =>
    have hs : Lws ss := fun x hx => h x (List.mem_cons_of_mem _ hx)
    show qv (plus ((ptsR ss).headD z01) s) = _
    rw [q_plus (lws_head (pts_lws hs)) (h s List.mem_cons_self), ih hs, sumq_cons]
    grind
theorem pts_drop : ∀ (ss : List Fr2) (i : Nat), (ptsR ss).drop i = ptsR (ss.drop i)
  | ss, 0 => by simp
  | [], i + 1 => by simp [ptsR]
  | s :: ss, i + 1 => by
    show (ptsR ss).drop i = ptsR (ss.drop i)
    exact pts_drop ss i
theorem pts_get {ss : List Fr2} {i : Nat} {p : Fr2} (e : (ptsR ss)[i]? = some p) : p = (ptsR (ss.drop i)).headD z01 := by
  rw [← pts_drop]
  have h : ((ptsR ss).drop i)[0]? = some p := by rw [List.getElem?_drop]; exact e
  cases c : (ptsR ss).drop i with
  | nil => rw [c] at h; exact nomatch h
  | cons x xs => rw [c] at h; cases h; rfl
theorem lws_drop {ss : List Fr2} (h : Lws ss) (i : Nat) : Lws (ss.drop i) := fun x hx => h x (List.mem_of_mem_drop hx)
theorem lws_take {ss : List Fr2} (h : Lws ss) (i : Nat) : Lws (ss.take i) := fun x hx => h x (List.mem_of_mem_take hx)
theorem q_pts {ss : List Fr2} (h : Lws ss) {i : Nat} {p : Fr2} (e : (ptsR ss)[i]? = some p) : qv p = sumq (ss.drop i) := by
  rw [pts_get e]
  exact q_head (lws_drop h i)
def sumL (ps : List Fr2) : Fr2 := ps.foldl plus z01
theorem fold_q : ∀ (ps : List Fr2) (a : Fr2), Lws ps → Lw a.1 a.2 → Lw (ps.foldl plus a).1 (ps.foldl plus a).2 ∧ qv (ps.foldl plus a) = qv a + sumq ps
  | [], a, _, la => ⟨la, by show qv a = qv a + sumq []; unfold sumq; simp; grind⟩
  | p :: ps, a, h, la => by
    have lp := h p List.mem_cons_self
    obtain ⟨l, q⟩ := fold_q ps (plus a p) (fun x hx => h x (List.mem_cons_of_mem _ hx)) (lw_plus la lp)
    refine ⟨l, ?_⟩
    show qv (ps.foldl plus (plus a p)) = _
    rw [q, q_plus la lp, sumq_cons]
    grind
theorem q_sumL {ps : List Fr2} (h : Lws ps) : Lw (sumL ps).1 (sumL ps).2 ∧ qv (sumL ps) = sumq ps := by
  obtain ⟨l, q⟩ := fold_q ps z01 h lw_z
  refine ⟨l, ?_⟩
  show qv (ps.foldl plus z01) = _
  rw [q, q_zero]
  grind
theorem sumL_pts {ss : List Fr2} (h : Lws ss) {i : Nat} {p : Fr2} (e : (ptsR ss)[i]? = some p) : sumL (ss.drop i) = p := by
  obtain ⟨l, q⟩ := q_sumL (lws_drop h i)
  refine q_inj l (pts_lws h |>.get e) ?_
  rw [q, q_pts h e]
theorem minus_pts {ss : List Fr2} (h : Lws ss) {i : Nat} {p s : Fr2} (e : (ptsR ss)[i]? = some p) (es : ss[i]? = some s) : minus p ((ptsR ss)[i + 1]?.getD z01) = s := by
  have lp := pts_lws h |>.get e
  have ls := h.get es
  have hi := (List.getElem?_eq_some_iff.mp es)
  obtain ⟨hi, he⟩ := hi
  have ed : ss.drop i = s :: ss.drop (i + 1) := by rw [List.drop_eq_getElem_cons hi, he]
  have lr : Lw ((ptsR ss)[i + 1]?.getD z01).1 ((ptsR ss)[i + 1]?.getD z01).2 ∧ qv ((ptsR ss)[i + 1]?.getD z01) = sumq (ss.drop (i + 1)) := by
    cases c : (ptsR ss)[i + 1]? with
    | none =>
      have : (ptsR ss).length ≤ i + 1 := List.getElem?_eq_none_iff.mp c
      rw [pts_len] at this
      rw [List.drop_of_length_le this]
      exact ⟨lw_z, q_zero⟩
    | some r => exact ⟨(pts_lws h).get c, q_pts h c⟩
  refine q_inj (lw_minus lp lr.1) ls ?_
  rw [q_minus lp lr.1, lr.2, q_pts h e, ed, sumq_cons]
  grind
/-- steps: from 0 on -/
def Nng (ss : List Fr2) : Prop := ∀ s ∈ ss, 0 ≤ s.1
theorem q_nn {a : Fr2} (la : Lw a.1 a.2) : 0 ≤ a.1 ↔ 0 ≤ qv a := by
  have := q_neg la
  constructor
  · intro h
    exact Rat.not_lt.mp fun c => by have := this.mpr c; omega
  · intro h
    exact Int.not_lt.mp fun c => Rat.not_lt.mpr h (this.mp c)
theorem sum_nn {ss : List Fr2} (h : Lws ss) (n : Nng ss) : 0 ≤ sumq ss := by
  induction ss with
  | nil => unfold sumq; simp
  | cons s ss ih =>
    rw [sumq_cons]
    have h1 := (q_nn (h s List.mem_cons_self)).mp (n s List.mem_cons_self)
    have h2 := ih (fun x hx => h x (List.mem_cons_of_mem _ hx)) (fun x hx => n x (List.mem_cons_of_mem _ hx))
    grind
theorem q_eq0 {a : Fr2} (la : Lw a.1 a.2) : a.1 = 0 ↔ qv a = 0 := by
  have h1 := q_neg la
  have h2 := q_pos la
  constructor
  · intro h
    have e : a = z01 := cross la lw_z (by show a.1 * 1 = 0 * a.2; omega)
    rw [e]
    exact q_zero
  · intro h
    rw [h] at h1 h2
    have a1 : ¬ a.1 < 0 := fun c => absurd (h1.mp c) (Rat.lt_irrefl)
    have a2 : ¬ 0 < a.1 := fun c => absurd (h2.mp c) (Rat.lt_irrefl)
    omega
theorem lw0 {a : Fr2} (la : Lw a.1 a.2) (h : a.1 = 0) : a = z01 := cross la lw_z (by show a.1 * 1 = 0 * a.2; omega)
theorem sum_pos {ss : List Fr2} (h : Lws ss) (n : Nng ss) (ex : ∃ s ∈ ss, s.1 ≠ 0) : 0 < sumq ss := by
  induction ss with
  | nil =>
    obtain ⟨s, hs, _⟩ := ex
    exact absurd hs List.not_mem_nil
  | cons s ss ih =>
    rw [sumq_cons]
    have hs : Lws ss := fun x hx => h x (List.mem_cons_of_mem _ hx)
    have ns : Nng ss := fun x hx => n x (List.mem_cons_of_mem _ hx)
    have h1 := (q_nn (h s List.mem_cons_self)).mp (n s List.mem_cons_self)
    have h2 := sum_nn hs ns
    obtain ⟨t, ht, t0⟩ := ex
    rcases List.mem_cons.mp ht with rfl | ht
    · have n0 := n t List.mem_cons_self
      have h3 := (q_pos (h t List.mem_cons_self)).mp (by omega)
      grind
    · have h3 := ih hs ns ⟨t, ht, t0⟩
      grind
theorem sum_zero {ss : List Fr2} (h : Lws ss) (n : ∀ s ∈ ss, s.1 = 0) : sumq ss = 0 := by
  induction ss with
  | nil => unfold sumq; simp
  | cons s ss ih =>
    rw [sumq_cons, ih (fun x hx => h x (List.mem_cons_of_mem _ hx)) (fun x hx => n x (List.mem_cons_of_mem _ hx)), (q_eq0 (h s List.mem_cons_self)).mp (n s List.mem_cons_self)]
    grind
end Rm
namespace Rm
theorem desc_pts {ss : List Fr2} (h : Lws ss) (n : Nng ss) (h1 : 1 ≤ ss.length) (h5 : ss.length ≤ 5) (ex : ∃ s ∈ ss, s.1 ≠ 0) : Desc' (ptsR ss) := by
  have L := pts_lws h
  refine ⟨by rw [pts_len]; exact h1, by rw [pts_len]; exact h5, fun i p e => ?_, fun p e => ?_, fun i p r e1 e2 => ?_⟩
  · refine (q_nn (L.get e)).mpr ?_
    rw [q_pts h e]
    exact sum_nn (lws_drop h i) fun s hs => n s (List.mem_of_mem_drop hs)
  · have q := q_pts h e
    rw [List.drop_zero] at q
    have := sum_pos h n ex
    rw [← q] at this
    have := (q_pos (L.get e)).mpr this
    omega
  · rw [q_lt (L.get e1) (L.get e2), q_pts h e1, q_pts h e2]
    have hi : i < ss.length := by rw [← pts_len ss]; exact (List.getElem?_eq_some_iff.mp e1).1
    rw [List.drop_eq_getElem_cons hi, sumq_cons]
    have := (q_nn (h.get (List.getElem?_eq_getElem hi))).mp (n _ (List.getElem_mem hi))
    grind
def paidN (ps : List Fr2) : Nat := (ps.filter fun p => decide (0 < p.1)).length
/-- never below 0, never rising -/
structure Dn (ps : List Fr2) : Prop where
  pos : ∀ (i : Nat) p, ps[i]? = some p → 0 ≤ p.1
  down : ∀ (i : Nat) p r, ps[i]? = some p → ps[i + 1]? = some r → ¬ (p.1 * r.2 < r.1 * p.2)
theorem Desc'.dn {ps : List Fr2} (h : Desc' ps) : Dn ps := ⟨h.pos, h.down⟩
theorem Dn.tail {p : Fr2} {ps : List Fr2} (h : Dn (p :: ps)) : Dn ps := ⟨fun i x e => h.pos (i + 1) x e, fun i x y e1 e2 => h.down (i + 1) x y e1 e2⟩
theorem dn_zero : ∀ {ps : List Fr2} {p : Fr2}, Lws (p :: ps) → Dn (p :: ps) → p.1 = 0 → ∀ x ∈ ps, x = z01
  | [], _, _, _, _ => fun x hx => absurd hx List.not_mem_nil
  | r :: ps, p, l, d, h0 => by
    have lp := l p List.mem_cons_self
    have lr := l r (List.mem_cons_of_mem _ List.mem_cons_self)
    have h1 := d.down 0 p r rfl rfl
    have h2 := d.pos 1 r rfl
    have e0 := lw0 lp h0
    rw [e0] at h1
    have r0 : r.1 = 0 := by
      have : ¬ (0 * r.2 < r.1 * 1) := h1
      omega
    intro x hx
    rcases List.mem_cons.mp hx with rfl | hx
    · exact lw0 lr r0
    · exact dn_zero (fun y hy => l y (List.mem_cons_of_mem _ hy)) d.tail r0 x hx
theorem paid_split : ∀ {ps : List Fr2}, Lws ps → Dn ps → ps.filter (fun p => decide (0 < p.1)) = ps.take (paidN ps) ∧ ∀ x ∈ ps.drop (paidN ps), x = z01
  | [], _, _ => ⟨rfl, fun x hx => absurd hx (by simp)⟩
  | p :: ps, l, d => by
    have ih := paid_split (ps := ps) (fun y hy => l y (List.mem_cons_of_mem _ hy)) d.tail
    by_cases c : 0 < p.1
    · have e : paidN (p :: ps) = paidN ps + 1 := by
        unfold paidN
        rw [List.filter_cons_of_pos (by simpa using c), List.length_cons]
      rw [e, List.filter_cons_of_pos (by simpa using c), List.take_succ_cons, List.drop_succ_cons]
      exact ⟨by rw [ih.1], ih.2⟩
    · have p0 := d.pos 0 p rfl
      have pz : p.1 = 0 := by omega
      have z := dn_zero l d pz
      have e1 : ps.filter (fun p => decide (0 < p.1)) = [] := List.filter_eq_nil_iff.mpr fun x hx => by rw [z x hx]; decide
      have e : paidN (p :: ps) = 0 := by
        unfold paidN
        rw [List.filter_cons_of_neg (by simpa using c), e1]
        rfl
      rw [e, List.filter_cons_of_neg (by simpa using c), e1]
      refine ⟨rfl, fun x hx => ?_⟩
      rw [List.drop_zero] at hx
      rcases List.mem_cons.mp hx with rfl | hx
      · exact lw0 (l x List.mem_cons_self) pz
      · exact z x hx
theorem paid_le (ps : List Fr2) : paidN ps ≤ ps.length := List.length_filter_le _ _
theorem paid_pos {ps : List Fr2} (h : Desc' ps) : 1 ≤ paidN ps := by
  have h1 := h.one
  have hm : ps[0] ∈ ps := List.getElem_mem (by omega)
  have a := h.pos 0 ps[0] (List.getElem?_eq_getElem (by omega))
  have b := h.first ps[0] (List.getElem?_eq_getElem (by omega))
  have : ps[0] ∈ ps.filter fun p => decide (0 < p.1) := List.mem_filter.mpr ⟨hm, by simp; omega⟩
  exact List.length_pos_of_mem this
theorem pad_take {ps : List Fr2} (l : Lws ps) (d : Dn ps) (h5 : ps.length = 5) {m : Nat} (hm : paidN ps ≤ m) (m5 : m ≤ 5) : pad (ps.take m) = ps := by
  have z := (paid_split l d).2
  have e : ps.drop m = List.replicate (5 - m) z01 := by
    have k := List.eq_replicate_of_mem (a := z01) (l := ps.drop m) fun x hx => z x (List.drop_subset_drop_left _ hm hx)
    rw [List.length_drop, h5] at k
    exact k
  unfold pad
  rw [List.length_take, h5, Nat.min_eq_left m5, ← e, List.take_append_drop]
theorem desc_take {ps : List Fr2} (h : Desc' ps) {m : Nat} (m1 : 1 ≤ m) (m5 : m ≤ 5) : Desc' (ps.take m) := by
  have g : ∀ (i : Nat) p, (ps.take m)[i]? = some p → ps[i]? = some p := fun i p e => by
    rw [List.getElem?_take] at e
    split at e
    · exact e
    · exact nomatch e
  have := h.one
  refine ⟨by rw [List.length_take]; omega, by rw [List.length_take]; omega, fun i p e => h.pos i p (g i p e), fun p e => h.first p (g 0 p e), fun i p r e1 e2 => h.down i p r (g _ _ e1) (g _ _ e2)⟩
theorem sumq_app (a b : List Fr2) : sumq (a ++ b) = sumq a + sumq b := by
  unfold sumq
  rw [List.map_append, List.sum_append]
/-- all but the first steps are none -/
theorem rest_zero {ss : List Fr2} (l : Lws ss) (n : Nng ss) {m : Nat} (hm : paidN (ptsR ss) ≤ m) (d : Dn (ptsR ss)) : ∀ x ∈ ss.drop m, x = z01 := by
  have L := pts_lws l
  have z := (paid_split L d).2
  have s0 : sumq (ss.drop m) = 0 := by
    rcases Nat.lt_or_ge m ss.length with c | c
    · have hi : m < (ptsR ss).length := by rw [pts_len]; exact c
      have e := List.getElem?_eq_getElem hi
      rw [← q_pts l e]
      have : (ptsR ss)[m] ∈ (ptsR ss).drop (paidN (ptsR ss)) := by
        refine List.mem_iff_getElem?.mpr ⟨m - paidN (ptsR ss), ?_⟩
        rw [List.getElem?_drop, show paidN (ptsR ss) + (m - paidN (ptsR ss)) = m by omega]
        exact e
      rw [z _ this]
      exact q_zero
    · rw [List.drop_of_length_le c]
      unfold sumq
      simp
  intro x hx
  have lx := lws_drop l m x hx
  refine lw0 lx ?_
  refine Classical.byContradiction fun c => ?_
  have := sum_pos (lws_drop l m) (fun s hs => n s (List.mem_of_mem_drop hs)) ⟨x, hx, c⟩
  rw [s0] at this
  exact absurd this Rat.lt_irrefl
theorem pts_take {ss : List Fr2} (l : Lws ss) (h5 : ss.length = 5) {m : Nat} (m5 : m ≤ 5) (z : ∀ x ∈ ss.drop m, x = z01) : pad (ptsR (ss.take m)) = ptsR ss := by
  have s0 : sumq (ss.drop m) = 0 := sum_zero (lws_drop l m) fun x hx => by rw [z x hx]
  have len : (pad (ptsR (ss.take m))).length = (ptsR ss).length := by
    rw [pad_len (by rw [pts_len, List.length_take]; omega), pts_len, h5]
  refine List.ext_getElem? fun i => ?_
  rcases Nat.lt_or_ge i 5 with c | c
  · have hi : i < (ptsR ss).length := by rw [pts_len, h5]; exact c
    have hi2 : i < (pad (ptsR (ss.take m))).length := by rw [len]; exact hi
    rw [List.getElem?_eq_getElem hi, List.getElem?_eq_getElem hi2]
    congr 1
    have e1 := List.getElem?_eq_getElem hi
    have e2 := List.getElem?_eq_getElem hi2
    have Lt := pts_lws (lws_take l m)
    have L := pts_lws l
    refine q_inj (pad_lws Lt |>.get e2) (L.get e1) ?_
    rw [q_pts l e1]
    rcases pad_get e2 with g | ⟨g, gz⟩
    · rw [q_pts (lws_take l m) g]
      have hm : i < m := by
        have := (List.getElem?_eq_some_iff.mp g).1
        rw [pts_len, List.length_take] at this
        omega
      have sp : ss.drop i = (ss.take m).drop i ++ ss.drop m := by
        have h := congrArg (List.drop i) (List.take_append_drop m ss)
        rw [List.drop_append_of_le_length (by rw [List.length_take]; omega)] at h
        exact h.symm
      rw [sp, sumq_app, s0]
      grind
    · rw [gz]
      rw [pts_len, List.length_take] at g
      have sp : ss.drop i = (ss.drop m).drop (i - m) := by
        rw [List.drop_drop]
        congr 1
        omega
      rw [sp, sum_zero (lws_drop (lws_drop l m) _) fun x hx => by rw [z x (List.mem_of_mem_drop hx)]]
      exact q_zero
  · rw [List.getElem?_eq_none (by rw [len, pts_len, h5]; exact c), List.getElem?_eq_none (by rw [pts_len, h5]; exact c)]
/-- the steps by the points -/
def stepsOf (ps : List Fr2) : List Fr2 := List.zipWith minus ps (ps.drop 1 ++ [z01])
theorem steps_len (ps : List Fr2) : (stepsOf ps).length = ps.length := by
  unfold stepsOf
  rw [List.length_zipWith, List.length_append, List.length_drop, List.length_singleton]
  omega
theorem next_get (ps : List Fr2) {i : Nat} (hi : i < ps.length) : (ps.drop 1 ++ [z01])[i]? = some (ps[i + 1]?.getD z01) := by
  rcases Nat.lt_or_ge (i + 1) ps.length with c | c
  · rw [List.getElem?_append_left (by rw [List.length_drop]; omega), List.getElem?_drop, Nat.add_comm 1 i, List.getElem?_eq_getElem c]
    rfl
  · rw [List.getElem?_append_right (by rw [List.length_drop]; omega), List.getElem?_eq_none c, List.length_drop, show i - (ps.length - 1) = 0 by omega]
    rfl
theorem steps_get {ps : List Fr2} {i : Nat} {p : Fr2} (e : ps[i]? = some p) : (stepsOf ps)[i]? = some (minus p (ps[i + 1]?.getD z01)) := by
  unfold stepsOf
  rw [List.getElem?_zipWith, e, next_get ps (List.getElem?_eq_some_iff.mp e).1]
theorem steps_pts {ss : List Fr2} (l : Lws ss) : stepsOf (ptsR ss) = ss := by
  refine List.ext_getElem? fun i => ?_
  rcases Nat.lt_or_ge i ss.length with c | c
  · have hi : i < (ptsR ss).length := by rw [pts_len]; exact c
    rw [steps_get (List.getElem?_eq_getElem hi), minus_pts l (List.getElem?_eq_getElem hi) (List.getElem?_eq_getElem c), List.getElem?_eq_getElem c]
  · rw [List.getElem?_eq_none (by rw [steps_len, pts_len]; exact c), List.getElem?_eq_none c]
end Rm
/-! Two lists side by side. -/
namespace Ow
def Par {α β : Type} (R : α → β → Prop) (as : List α) (bs : List β) : Prop := as.length = bs.length ∧ ∀ (i : Nat) a b, as[i]? = some a → bs[i]? = some b → R a b
section
variable {α β : Type} {R S : α → β → Prop} {as cs : List α} {bs ds : List β}
theorem Par.imp (h : Par R as bs) (k : ∀ a b, R a b → S a b) : Par S as bs := ⟨h.1, fun i a b e1 e2 => k a b (h.2 i a b e1 e2)⟩
theorem Par.nil : Par R [] [] := ⟨rfl, fun i a b e _ => by simp at e⟩
theorem Par.app (h : Par R as bs) (g : Par R cs ds) : Par R (as ++ cs) (bs ++ ds) := by
  refine ⟨by rw [List.length_append, List.length_append, h.1, g.1], fun i a b e1 e2 => ?_⟩
  rcases Nat.lt_or_ge i as.length with c | c
  · rw [List.getElem?_append_left c] at e1
    rw [List.getElem?_append_left (by rw [← h.1]; exact c)] at e2
    exact h.2 i a b e1 e2
  · rw [List.getElem?_append_right c] at e1
    rw [List.getElem?_append_right (by rw [← h.1]; exact c), ← h.1] at e2
    exact g.2 _ a b e1 e2
theorem Par.one {a : α} {b : β} (h : R a b) : Par R [a] [b] := ⟨rfl, fun i x y e1 e2 => by
  rcases i with _ | i
  · cases e1
    cases e2
    exact h
  · simp at e1⟩
theorem Par.cons {a : α} {b : β} (h : R a b) (t : Par R as bs) : Par R (a :: as) (b :: bs) := (Par.one h).app t
theorem Par.head {a : α} {b : β} (h : Par R (a :: as) (b :: bs)) : R a b := h.2 0 a b rfl rfl
theorem Par.tail {a : α} {b : β} (h : Par R (a :: as) (b :: bs)) : Par R as bs := ⟨by simpa using h.1, fun i x y e1 e2 => h.2 (i + 1) x y (by simpa using e1) (by simpa using e2)⟩
theorem Par.take (h : Par R as bs) (n : Nat) : Par R (as.take n) (bs.take n) := by
  refine ⟨by rw [List.length_take, List.length_take, h.1], fun i x r e1 e2 => ?_⟩
  rw [List.getElem?_take] at e1 e2
  by_cases c : i < n
  · rw [if_pos c] at e1 e2
    exact h.2 i x r e1 e2
  · rw [if_neg c] at e1
    exact nomatch e1
theorem Par.drop (h : Par R as bs) (n : Nat) : Par R (as.drop n) (bs.drop n) := by
  refine ⟨by rw [List.length_drop, List.length_drop, h.1], fun i x r e1 e2 => ?_⟩
  rw [List.getElem?_drop] at e1 e2
  exact h.2 _ x r e1 e2
theorem Par.rev (h : Par R as bs) : Par R as.reverse bs.reverse := by
  refine ⟨by rw [List.length_reverse, List.length_reverse, h.1], fun i x r e1 e2 => ?_⟩
  have hi : i < as.length := by
    rcases Nat.lt_or_ge i as.length with c | c
    · exact c
    · rw [List.getElem?_eq_none (by rw [List.length_reverse]; exact c)] at e1
      exact nomatch e1
  rw [List.getElem?_reverse hi] at e1
  rw [List.getElem?_reverse (by rw [← h.1]; exact hi), ← h.1] at e2
  exact h.2 _ x r e1 e2
theorem Par.getL (h : Par R as bs) {i : Nat} {a : α} (e : as[i]? = some a) : ∃ b, bs[i]? = some b ∧ R a b := by
  have hi := (List.getElem?_eq_some_iff.mp e).1
  have hb : i < bs.length := by rw [← h.1]; exact hi
  exact ⟨bs[i], List.getElem?_eq_getElem hb, h.2 i a _ e (List.getElem?_eq_getElem hb)⟩
theorem Par.getR (h : Par R as bs) {i : Nat} {b : β} (e : bs[i]? = some b) : ∃ a, as[i]? = some a ∧ R a b := by
  have hi := (List.getElem?_eq_some_iff.mp e).1
  have hb : i < as.length := by rw [h.1]; exact hi
  exact ⟨as[i], List.getElem?_eq_getElem hb, h.2 i _ b (List.getElem?_eq_getElem hb) e⟩
theorem Par.map {γ : Type} {T : γ → β → Prop} {f : α → γ} (h : Par R as bs) (k : ∀ a b, R a b → T (f a) b) : Par T (as.map f) bs := by
  refine ⟨by rw [List.length_map]; exact h.1, fun i x b e1 e2 => ?_⟩
  rw [List.getElem?_map] at e1
  cases c : as[i]? with
  | none => rw [c] at e1; exact nomatch e1
  | some a =>
    rw [c] at e1
    cases e1
    exact k a b (h.2 i a b c e2)
theorem Par.mapR {γ : Type} {T : α → γ → Prop} {f : β → γ} (h : Par R as bs) (k : ∀ a b, R a b → T a (f b)) : Par T as (bs.map f) := by
  refine ⟨by rw [List.length_map]; exact h.1, fun i a x e1 e2 => ?_⟩
  rw [List.getElem?_map] at e2
  cases c : bs[i]? with
  | none => rw [c] at e2; exact nomatch e2
  | some b =>
    rw [c] at e2
    cases e2
    exact k a b (h.2 i a b e1 c)
theorem Par.set {a : α} {b : β} (h : Par R as bs) (j : Nat) (r : R a b) : Par R (as.set j a) (bs.set j b) := by
  refine ⟨by rw [List.length_set, List.length_set]; exact h.1, fun i x y e1 e2 => ?_⟩
  rw [List.getElem?_set] at e1 e2
  by_cases c : j = i
  · rw [if_pos c] at e1 e2
    split at e1
    · split at e2
      · cases e1
        cases e2
        exact r
      · exact nomatch e2
    · exact nomatch e1
  · rw [if_neg c] at e1 e2
    exact h.2 i x y e1 e2
/-- each thing on the left has one on the right -/
theorem par_of {as : List α} (h : ∀ a ∈ as, ∃ b, R a b) : ∃ bs, Par R as bs := by
  induction as with
  | nil => exact ⟨[], Par.nil⟩
  | cons a as ih =>
    obtain ⟨b, hb⟩ := h a List.mem_cons_self
    obtain ⟨bs, hbs⟩ := ih fun x hx => h x (List.mem_cons_of_mem _ hx)
    exact ⟨b :: bs, Par.cons hb hbs⟩
end
end Ow
/-! Comprehensions over a list whose items are told by a list. -/
namespace Ow
open PySem PySem.Spec PyProof.Rows L2
/-- list(xs), tuple(xs) of a list, a tuple -/
def rListOf (K : PySem.W.Frag) : List V → Hp → VK → Prop := fun xs H Q => ∃ p ys, xs = [V.ref p] ∧ (SqL K H p ys ∨ SqT K H p ys) ∧ ∀ l, H l = none → Q (.ref l) (upd H l (.lst ys))
theorem mt_indexK {X : Cx} {K : PySem.W.Frag} (h : X.K = K := by rfl) : MtR X "list.index" (rIndex K) := by
  subst h
  exact mt_index
theorem pe_bmK {X : Cx} {K : PySem.W.Frag} {o e : Expr} {es : List Expr} {to : TE} {t : TA} {name : Str} {apos cpos : Pos} {T id : String} {r : V → List V → Hp → VK → Prop} (pa : PlainAttrs T) (slot : Slot T name id) (hty : typeOf (.builtin id) = pure (.type "method_descriptor")) (hm : MtR X id r) (ho : PE X o to) (ha : PA X (e :: es) t)
    (hK : X.K = K := by rfl) (hbase : attributeBase o name X.env (eval o X.env) = eval o X.env := by rfl)
    (hfew : ((backTo cpos (starEach (e :: es) X.env)).all (fun x => !x.1) && (backToKw cpos (keywordEach [] X.env)).all (fun x => x.1.isSome)
      && decide ((e :: es).length + ([] : List Keyword).length + (if ([] : List Keyword).isEmpty then 0 else 1) < 30)) = true := by rfl)
    (hline : (apos.endLine == cpos.line) = true := by rfl) (hs : starEach (e :: es) X.env = (false, eval e X.env) :: starEach es X.env := by rfl) (hplain : (backTo cpos (starEach es X.env)).any (·.1) = false := by rfl) :
    PE X (.Call (.Attribute o name apos) (e :: es) [] cpos) (tBM K T r to t) := by
  subst hK
  exact pe_bm pa slot hty hm ho ha hbase hfew hline hs hplain
theorem pe_fldK {X : Cx} {K : PySem.W.Frag} {e : Expr} {ta : TE} {f : Str} {pos : Pos} (he : PE X e ta) (hb : attributeBase e f X.env (eval e X.env) = eval e X.env) (hK : X.K = K := by rfl) : PE X (.Attribute e f pos) (tFld K ta f) := by
  subst hK
  exact pe_fld he hb
theorem map_at {α : Type} {f g : α → V} {l : List α} {i : Nat} {x v : V} (h1 : (l.map f)[i]? = some x) (h2 : (l.map g)[i]? = some v) : ∃ a, l[i]? = some a ∧ a ∈ l ∧ x = f a ∧ v = g a := by
  rw [List.getElem?_map] at h1 h2
  cases c : l[i]? with
  | none => rw [c] at h1; exact nomatch h1
  | some a =>
    rw [c] at h1 h2
    cases h1
    cases h2
    exact ⟨a, rfl, List.mem_of_getElem? c, rfl, rfl⟩
theorem map_at1 {α : Type} {f : α → V} {l : List α} {i : Nat} {x : V} (h1 : (l.map f)[i]? = some x) : ∃ a, l[i]? = some a ∧ a ∈ l ∧ x = f a := by
  obtain ⟨a, h, m, e, _⟩ := map_at h1 h1
  exact ⟨a, h, m, e⟩
/-- whether the i-th is kept -/
def keepAt {α : Type} (p : α → Bool) (l : List α) (i : Nat) : Bool := (l[i]?.map p).getD false
theorem kept_filter {α : Type} (p : α → Bool) (f : α → V) (l : List α) : ∀ n, n ≤ l.length → kept (keepAt p l) (l.map f) n = ((l.take n).filter p).map f
  | 0, _ => rfl
  | n + 1, h => by
    have e : l[n]? = some l[n] := List.getElem?_eq_getElem (by omega)
    have ih := kept_filter p f l n (by omega)
    rw [kept_succ (keepAt p l) (l.map f) n (f l[n]) (by rw [List.getElem?_map, e]; rfl), ih, List.take_add_one, e, Option.toList_some, List.filter_append, List.map_append]
    have k : keepAt p l n = p l[n] := by unfold keepAt; rw [e]; rfl
    rw [k]
    cases c : p l[n] with
    | true => rw [if_pos rfl, List.filter_cons_of_pos c]; rfl
    | false => rw [if_neg Bool.false_ne_true, List.filter_cons_of_neg (by rw [c]; exact Bool.false_ne_true)]; simp
section
variable {K : PySem.W.Frag} {a : Addr} {g : TG} {te : TE} {vs : List Nat} {σ : L2.St} {H1 : Hp} {D : Addr} {Qd : Hp → Prop} {Rl : Hp → Hp → Prop} {α : Type} {l : List α}
/-- [e for x in xs] -/
theorem lcm (f h : α → V) (rd : RelD Rl H1 D) (hz : l.length ≤ 100000) (hG : ∀ H, Rl H1 H → SqL K H a (l.map f))
    (hs : ∀ x ∈ l, ∀ H, Rl H1 H → (∃ acc, H D = some (.lst acc)) → ∀ R : VK, (∀ H4, Rl H H4 → R (h x) H4) → g (f x) (wipe σ vs) H fun σ2 H2 => wipe σ2 vs = wipe σ vs ∧ te σ2 H2 R)
    (hd : ∀ H, Rl H1 H → H D = some (.lst (l.map h)) → Qd H) :
    ∃ W : Nat → Nat → Hp → Prop, (∃ m, W 0 m (upd H1 D (.lst []))) ∧ ∀ i m H, W i m H →
      ((Itl K a).stop i H ∧ Qd H) ∨ ((Itl K a).go i H ∧ ∃ Nx : Hp → Prop, (∀ H', Nx H' → ∃ m', m' < m ∧ W (i + 1) m' H') ∧ ∀ x H', (Itl K a).yld i H x H' → g x (wipe σ vs) H' fun σ2 H2 => wipe σ2 vs = wipe σ vs ∧ tYes σ2 H2 fun b H3 =>
        if b = true then te σ2 H3 fun y H4 => ∃ acc, H4 D = some (.lst acc) ∧ acc.length < sizeLine ∧ Nx (upd H4 D (.lst (acc ++ [y]))) else Nx H3) := by
  refine lc_vals (walk_list (xs := l.map f)) rd (l.map h) (by rw [List.length_map, List.length_map]) (by rw [List.length_map]; exact hz) hG (fun i x H H' v hi hv r ha y R k => ?_) hd
  obtain ⟨rfl, hx⟩ := y
  obtain ⟨c, _, m, rfl, rfl⟩ := map_at hx hv
  exact hs c m _ r ha R k
/-- [e for x in xs if t] -/
theorem lcf {tt : TT} (f h : α → V) (p : α → Bool) (rd : RelD Rl H1 D) (hz : l.length ≤ 100000) (hG : ∀ H, Rl H1 H → SqL K H a (l.map f))
    (hs : ∀ x ∈ l, ∀ H, Rl H1 H → (∃ acc, H D = some (.lst acc)) → ∀ (RR : VK) (SS : Hp → Prop), (p x = true → ∀ H4, Rl H H4 → RR (h x) H4) → (p x = false → ∀ H4, Rl H H4 → SS H4) →
      g (f x) (wipe σ vs) H fun σ2 H2 => wipe σ2 vs = wipe σ vs ∧ tt σ2 H2 fun b H3 => if b = true then te σ2 H3 RR else SS H3)
    (hd : ∀ H, Rl H1 H → H D = some (.lst ((l.filter p).map h)) → Qd H) :
    ∃ W : Nat → Nat → Hp → Prop, (∃ m, W 0 m (upd H1 D (.lst []))) ∧ ∀ i m H, W i m H →
      ((Itl K a).stop i H ∧ Qd H) ∨ ((Itl K a).go i H ∧ ∃ Nx : Hp → Prop, (∀ H', Nx H' → ∃ m', m' < m ∧ W (i + 1) m' H') ∧ ∀ x H', (Itl K a).yld i H x H' → g x (wipe σ vs) H' fun σ2 H2 => wipe σ2 vs = wipe σ vs ∧ tt σ2 H2 fun b H3 =>
        if b = true then te σ2 H3 fun y H4 => ∃ acc, H4 D = some (.lst acc) ∧ acc.length < sizeLine ∧ Nx (upd H4 D (.lst (acc ++ [y]))) else Nx H3) := by
  refine lc_filter (walk_list (xs := l.map f)) rd (l.map h) (keepAt p l) (by rw [List.length_map, List.length_map]) (by rw [List.length_map]; exact hz) hG (fun i x H H' v hi hv r ha y RR SS k1 k2 => ?_) (fun H r e => hd H r ?_)
  · obtain ⟨rfl, hx⟩ := y
    obtain ⟨c, hc, m, rfl, rfl⟩ := map_at hx hv
    have ek : keepAt p l i = p c := by unfold keepAt; rw [hc]; rfl
    rw [ek] at k1 k2
    exact hs c m _ r ha RR SS k1 k2
  · rw [List.length_map, kept_filter p h l l.length (Nat.le_refl _), List.take_length] at e
    exact e
/-- [e for x in xs], whose items are told by a property -/
theorem lce (f : α → V) (rd : RelD Rl H1 D) (hz : l.length ≤ 100000) (El : α → V → Hp → Prop) (hE1 : ∀ c v H H', Rl H H' → El c v H → El c v H') (hE2 : ∀ c v H xs ys, H D = some (.lst xs) → El c v H → El c v (upd H D (.lst ys))) (hG : ∀ H, Rl H1 H → SqL K H a (l.map f))
    (hs : ∀ x ∈ l, ∀ H, Rl H1 H → (∃ acc, H D = some (.lst acc)) → ∀ R : VK, (∀ y H4, Rl H H4 → El x y H4 → R y H4) → g (f x) (wipe σ vs) H fun σ2 H2 => wipe σ2 vs = wipe σ vs ∧ te σ2 H2 R)
    (hd : ∀ H acc, Rl H1 H → H D = some (.lst acc) → acc.length = l.length → (∀ (j : Nat) v, acc[j]? = some v → ∃ c, l[j]? = some c ∧ El c v H) → Qd H) :
    ∃ W : Nat → Nat → Hp → Prop, (∃ m, W 0 m (upd H1 D (.lst []))) ∧ ∀ i m H, W i m H →
      ((Itl K a).stop i H ∧ Qd H) ∨ ((Itl K a).go i H ∧ ∃ Nx : Hp → Prop, (∀ H', Nx H' → ∃ m', m' < m ∧ W (i + 1) m' H') ∧ ∀ x H', (Itl K a).yld i H x H' → g x (wipe σ vs) H' fun σ2 H2 => wipe σ2 vs = wipe σ vs ∧ tYes σ2 H2 fun b H3 =>
        if b = true then te σ2 H3 fun y H4 => ∃ acc, H4 D = some (.lst acc) ∧ acc.length < sizeLine ∧ Nx (upd H4 D (.lst (acc ++ [y]))) else Nx H3) := by
  refine lc_el (walk_list (xs := l.map f)) rd (by rw [List.length_map]; exact hz) (fun j v H => ∃ c, l[j]? = some c ∧ El c v H) (fun j v H H' r ⟨c, e, k⟩ => ⟨c, e, hE1 c v H H' r k⟩) (fun j v H xs ys e ⟨c, ec, k⟩ => ⟨c, ec, hE2 c v H xs ys e k⟩) hG (fun i x H H' hi r ha y R k => ?_) (fun H acc r e hl he => hd H acc r e (by rw [hl, List.length_map]) he)
  obtain ⟨rfl, hx⟩ := y
  obtain ⟨c, hc, m, rfl⟩ := map_at1 hx
  obtain ⟨acc, hacc, _⟩ := ha
  exact hs c m _ r ⟨acc, hacc⟩ R fun y H4 r4 el => k y H4 r4 ⟨c, hc, el⟩
end
theorem all_rep : ∀ n, (List.replicate n true).all id = true
  | 0 => rfl
  | n + 1 => by rw [List.replicate_succ, List.all_cons, all_rep n]; rfl
theorem all_map_true {α : Type} (l : List α) : (l.map fun _ => true).all id = true := by
  rw [List.all_map]
  exact List.all_eq_true.mpr fun _ _ => rfl
end Ow
namespace Ow
open PySem PySem.Spec PyProof.Rows L2
theorem els {α : Type} (f : α → V) (P : α → Prop) : ∀ acc : List V, (∀ (j : Nat) v, acc[j]? = some v → ∃ c, v = f c ∧ P c) → ∃ cs : List α, acc = cs.map f ∧ cs.length = acc.length ∧ ∀ c ∈ cs, P c
  | [], _ => ⟨[], rfl, rfl, fun c h => absurd h List.not_mem_nil⟩
  | v :: acc, h => by
    obtain ⟨c, rfl, hc⟩ := h 0 v rfl
    obtain ⟨cs, e, l, hp⟩ := els f P acc fun j v hv => h (j + 1) v hv
    refine ⟨c :: cs, by rw [e]; rfl, by rw [List.length_cons, List.length_cons, l], fun d hd => ?_⟩
    rcases List.mem_cons.mp hd with rfl | hd
    · exact hc
    · exact hp d hd
end Ow
/-! Checks of points and steps. -/
namespace Tb
open PySem PySem.Spec PyProof.Rows L2 Ow Pt Rm Ra
/-- the built-in names -/
structure Blt (mg : Str → Option Value) : Prop where
  len : mg "len" = none
  list : mg "list" = none
  tuple : mg "tuple" = none
  str : mg "str" = none
  int : mg "int" = none
  bool : mg "bool" = none
  isi : mg "isinstance" = none
  all : mg "all" = none
  any : mg "any" = none
  enum : mg "enumerate" = none
  range : mg "range" = none
  min : mg "min" = none
  max : mg "max" = none
  abs : mg "abs" = none
  dm : mg "divmod" = none
  repr : mg "repr" = none
  zip : mg "zip" = none
theorem tYes_at {σ : L2.St} {H : Hp} {A B : Hp → Prop} (h : A H) : tYes σ H fun b H3 => if b = true then A H3 else B H3 := by
  show (if true = true then A H else B H)
  rw [if_pos rfl]
  exact h
abbrev Nms (C : Addr) (H : Hp) (xs : List V) (ps : List Fr2) : Prop := Par (fun x p => Nm C H x p.1 p.2) xs ps
theorem Nms.same {C : Addr} {H H' : Hp} {xs : List V} {ps : List Fr2} (h : Nms C H xs ps) (s : Same H H') : Nms C H' xs ps := Par.imp h fun _ _ k => k.same s
theorem Nms.lws {C : Addr} {H : Hp} {xs : List V} {ps : List Fr2} (h : Nms C H xs ps) : Lws ps := fun p hp => by
  obtain ⟨i, e⟩ := List.mem_iff_getElem?.mp hp
  obtain ⟨x, _, n⟩ := h.getR e
  exact n.lw
section
variable {P : Program} {w : World} {K : PySem.W.Frag} {mg : Str → Option Value} {base : Heap}
/-- a number is one -/
theorem nm_kd {C : Addr} (T : RT K mg C) {H : Hp} {v : V} {n d : Int} (h : Nm C H v n d) : ∃ k, Kd K C H v k ∧ isN k = true := by
  rcases h.at_ with ⟨p, rfl, dx, e⟩ | ⟨rfl, _⟩
  · exact ⟨.rat, .base (.ins e T.cl T.ca T.cg T.ct T.cm), rfl⟩
  · exact ⟨.int n, rfl, rfl⟩
/-! ### is_place -/
abbrev n_is_place : List Str := ["value"]
theorem sc_is_place : FnScope n_is_place ["value"] (defScope d_is_place) := ⟨rfl, rfl, rfl, by decide +kernel, rfl, by decide +kernel, by decide +kernel⟩
def spPlace (K : PySem.W.Frag) : Sp := fun vs H Q _ => ∃ n : Int, vs = [.int n] ∧ 1 ≤ n ∧ n ≤ 5 ∧ Q (.bl true) H
theorem ok_is_place {f : Addr} {fd : FuncData} (F : FnP K "is_place" "is_place" d_is_place [] f fd) (hPl : ∃ t, mg "PLACES" = some (.int 5 t)) (dI : DInt P w K mg base) : FnOk P w K mg base CX0 2 f fd ["value"] (spPlace K) := by
  obtain ⟨tPl, hPl⟩ := hPl
  refine F.ok sc_is_place (fun vs H Q E h => ?_) (fun cdv A outer s H vs Q E hr h => ?_)
  · obtain ⟨n, rfl, _⟩ := h
    rfl
  · obtain ⟨n, rfl, h1, h5, q⟩ := h
    refine ⟨_, PSs.nox (pss_one (ps_ret (pe_and (pe_use dI hr rfl (pa_cons (pv 0) pa_nil)) (pe_one (pe_chain op_le op_le pe_int (pv 0) (pe_glob (v := .int 5) rfl hPl ⟨tPl, rfl⟩)))))), ?_⟩
    refine ⟨_, rfl, .int n, _, true, false, rfl, .base (.int n), kII, kIB, true, rfl, ?_⟩
    refine iteT ?_
    refine ⟨_, rfl, _, _, rfl, rfl, _, rfl, ?_⟩
    rw [decide_eq_true h1]
    refine iteT ?_
    refine ⟨_, _, rfl, rfl, ?_⟩
    show Q (.bl (decide (n ≤ 5))) H
    rw [decide_eq_true h5]
    exact q
/-! ### check_many -/
def spMany (K : PySem.W.Frag) : Sp := fun vs H Q _ => ∃ (t : Addr) (xs : List V), vs = [.ref t] ∧ SqT K H t xs ∧ 1 ≤ xs.length ∧ xs.length ≤ 5 ∧ Q .non H
abbrev n_check_many : List Str := ["numbers"]
theorem sc_check_many : FnScope n_check_many ["numbers"] (defScope d_check_many) := ⟨rfl, rfl, rfl, by decide +kernel, rfl, by decide +kernel, by decide +kernel⟩
theorem ok_check_many {f : Addr} {fd : FuncData} (F : FnP K "check_many" "check_many" d_check_many [] f fd) (B : Blt mg) (hPl : ∃ t, mg "PLACES" = some (.int 5 t)) : FnOk P w K mg base CX0 1 f fd ["numbers"] (spMany K) := by
  obtain ⟨tPl, hPl⟩ := hPl
  refine F.ok sc_check_many (fun vs H Q E h => ?_) (fun cdv A outer s H vs Q E hr h => ?_)
  · obtain ⟨t, xs, rfl, _⟩ := h
    rfl
  · obtain ⟨t, xs, rfl, ht, h1, h5, q⟩ := h
    refine ⟨_, PSs.nox (pss_one (ps_if (pt_not (pt_chain op_le op_le pe_int (pe_callB (r := rLenS K) call_len_seq (by rfl) B.len PySem.boot_len (pa_cons (pv 0) pa_nil)) (pe_glob (v := .int 5) rfl hPl ⟨tPl, rfl⟩))) pss_never pss_nil)), ?_⟩
    refine ⟨_, rfl, t, xs, rfl, .inr ht, _, _, rfl, rfl, _, rfl, ?_⟩
    rw [decide_eq_true (show (1 : Int) ≤ (xs.length : Int) by omega)]
    refine iteT ?_
    refine ⟨_, _, rfl, rfl, _, rfl, ?_⟩
    rw [decide_eq_true (show (xs.length : Int) ≤ 5 by omega)]
    exact iteF q
/-! ### check_points -/
def spCheck (K : PySem.W.Frag) (C : Addr) : Sp := fun vs H Q _ => ∃ (t : Addr) (xs : List V) (ps : List Fr2), vs = [.ref t] ∧ SqT K H t xs ∧ Nms C H xs ps ∧ Desc' ps ∧ ∀ H', Same H H' → Q .non H'
abbrev n_check_points : List Str := ["points", "position", "point"]
theorem sc_check_points : FnScope n_check_points ["points"] (defScope d_check_points) := ⟨rfl, rfl, rfl, by decide +kernel, rfl, by decide +kernel, by decide +kernel⟩
theorem below_no (n d : Int) : (rf n d).lookup ("is_below" : Str) = none := rf_no n d (by decide +kernel) (by decide +kernel)
theorem ok_check_points {f C : Addr} {fd : FuncData} (F : FnP K "check_points" "check_points" d_check_points [] f fd) (B : Blt mg) (T : RT K mg C) (dMa : Dfn P w K mg base 1 "check_many" ["numbers"] (spMany K))
    (dNu : Dfn P w K mg base 2 "is_number" ["value"] (spKnd K C isN)) (dAs : DAs P w K mg base C) (pS : PS_ P w K mg base C) (mB : Mtd P w K mg base 7 C "is_below" ["self", "other"] (spBelow C)) :
    FnOk P w K mg base CX0 8 f fd ["points"] (spCheck K C) := by
  refine F.ok sc_check_points (fun vs H Q E h => ?_) (fun cdv A outer s H vs Q E hr h => ?_)
  · obtain ⟨t, xs, ps, rfl, _⟩ := h
    rfl
  · obtain ⟨t, xs, ps, rfl, ht, hn, hd, q⟩ := h
    have hr1 := hr.mono (by decide : 1 ≤ 7)
    have hr2 := hr.mono (by decide : 2 ≤ 7)
    have hr4 := hr.mono (by decide : 4 ≤ 7)
    refine ⟨_, PSs.nox (pss_cons (ps_expr (pe_use dMa hr1 rfl (pa_cons (pv 0) pa_nil)))
      (pss_one (ps_for PassesOwn.never rfl (pi_enumT rfl B.enum (pa_cons (pv 0) pa_nil)) (pg_tup (by rfl) (pgs_cons (pg_name (i := 1) sc_check_points.nd rfl (.inl rfl)) (pgs_cons (pg_name (i := 2) sc_check_points.nd rfl (.inl rfl)) pgs_nil)))
      (pss_cons (ps_if (PW.pt (pw_or (pt_not (pt_val (pe_use dNu hr2 rfl (pa_cons (pv 2) pa_nil)))) (pw_or1 (pt_cmpR op_lt (pe_prp pS (pe_use dAs hr4 rfl (pa_cons (pv 2) pa_nil)) T.cl hr2 rfl) pe_int (nomark _))))) pss_never pss_nil)
      (pss_cons (ps_if (PW.pt (pw_and (pt_cmpR op_eq (pv 1) pe_int (nomark _)) (pw_and1 (pt_cmpR op_eq (pe_prp pS (pe_use dAs hr4 rfl (pa_cons (pv 2) pa_nil)) T.cl hr2 rfl) pe_int (nomark _))))) pss_never pss_nil)
      (pss_one (ps_if (PW.pt (pw_and (pt_cmpR op_gt (pv 1) pe_int (nomark _)) (pw_and1 (pt_val (pe_mt T.cl mB hr (pe_use dAs hr4 rfl (pa_cons (pe_ix ix_tup (pv 0) (pe_op op_sub (pv 1) pe_int) (fun _ _ => rfl)) pa_nil)) (pa_cons (pv 2) pa_nil)))))) pss_never pss_nil))))))), ?_⟩
    have hl := hn.1
    refine ⟨_, rfl, t, _, rfl, ht, by rw [hl]; exact hd.one, by rw [hl]; exact hd.five, ?_⟩
    refine ⟨_, rfl, t, _, rfl, ht, ?_⟩
    refine for_it walk_enumT (fun i σ H' => ∃ v1 v2 : Option V, σ = [some (.ref t), v1, v2] ∧ Same H H') ⟨_, _, rfl, Same.refl _⟩ (fun i σ H' _ h => by obtain ⟨_, _, _, s1⟩ := h; exact same_sqt s1 ht) ?_ ?_
    · rintro i x σ H1 H2 hi ⟨v1, v2, rfl, s1⟩ ⟨T1, a, b, rfl, hT, rfl, ha, hb⟩
      have s2 : Same H (upd H1 T1 (.tup [a, b])) := s1.trans (same_upd hT)
      cases ha
      replace hb : xs[i]? = some b := hb
      obtain ⟨p, hp, nb⟩ := hn.getL hb
      have nb2 := nb.same s2
      have p0 := hd.pos i p hp
      have sg0 : ¬ (p.1.sign < 0) := fun z => by
        have := Int.sign_neg_iff.mp z
        omega
      obtain ⟨k, hk, ek⟩ := nm_kd T nb2
      refine ⟨T1, _, rfl, SqT.of upd_same, rfl, _, _, rfl, _, _, rfl, rfl, ?_⟩
      refine ⟨_, rfl, b, k, rfl, hk, fun H3 s3 => ⟨_, rfl, ?_⟩⟩
      rw [ek]
      refine iteF ?_
      refine ⟨_, rfl, b, p.1, p.2, rfl, (nb2.same s3).at_, fun r H4 hr4' s4 => ?_⟩
      obtain ⟨dx, h4⟩ := id hr4'
      refine ⟨r, dx, _, rfl, h4, r, _, _, rfl, hr4', _, _, rfl, rfl, _, rfl, ?_⟩
      rw [decide_eq_false sg0]
      refine iteF ?_
      refine ⟨_, rfl, rfl, _, rfl, ?_⟩
      have s24 := (s2.trans s3).trans s4
      rcases i with _ | i
      · refine iteT ?_
        refine ⟨_, rfl, b, p.1, p.2, rfl, (nb.same s24).at_, fun r5 H5 hr5 s5 => ?_⟩
        obtain ⟨dx5, h5⟩ := id hr5
        refine ⟨r5, dx5, _, rfl, h5, r5, _, _, rfl, hr5, rfl, _, rfl, ?_⟩
        rw [decide_eq_false (fun z => hd.first _ hp (Int.sign_eq_zero_iff_zero.mp (V.int.inj z)))]
        refine iteF ?_
        refine ⟨_, rfl, _, _, rfl, rfl, _, rfl, ?_⟩
        refine iteF ?_
        refine iteF ?_
        exact ⟨_, _, rfl, s24.trans s5⟩
      · rw [decide_eq_false (fun z => by have := V.int.inj z; omega)]
        refine iteF ?_
        refine iteF ?_
        refine ⟨_, rfl, _, _, rfl, rfl, _, rfl, ?_⟩
        rw [decide_eq_true (show (0 : Int) < ((i + 1 : Nat) : Int) by omega)]
        refine iteT ?_
        have hin : i < xs.length := by omega
        have hx' := List.getElem?_eq_getElem hin
        obtain ⟨p', hp', nb'⟩ := hn.getL hx'
        have hat : atI xs (((i + 1 : Nat) : Int) - 1) = some xs[i] := by
          rw [show ((i + 1 : Nat) : Int) - 1 = ((i : Nat) : Int) by omega]
          exact atI_nat hx'
        refine ⟨_, rfl, _, rfl, _, _, rfl, rfl, t, _, _, xs[i], rfl, rfl, same_sqt s24 ht, hat, xs[i], p'.1, p'.2, rfl, (nb'.same s24).at_, fun r5 H5 hr5 s5 => ?_⟩
        obtain ⟨dx5, h5⟩ := id hr5
        refine ⟨r5, dx5, _, rfl, h5, below_no _ _, _, rfl, r5, b, p'.1, p'.2, p.1, p.2, rfl, nm_rat nb' hr5, nb.same (s24.trans s5), fun H6 s6 => ⟨_, rfl, ?_⟩⟩
        have hdn := hd.down i _ _ hp' hp
        rw [minus_sign (a := p') (b := p) nb'.lw nb.lw, decide_eq_false hdn]
        refine iteF ?_
        exact ⟨_, _, rfl, (s24.trans s5).trans s6⟩
    · rintro σ H1 ⟨v1, v2, rfl, s1⟩
      exact q _ s1
end
end Tb
/-! Steps checked; the making of a table. -/
namespace Tb
open PySem PySem.Spec PyProof.Rows L2 Ow Pt Rm Ra
section
variable {P : Program} {w : World} {K : PySem.W.Frag} {mg : Str → Option Value} {base : Heap}
/-! ### check_steps -/
def spSteps (K : PySem.W.Frag) (C : Addr) : Sp := fun vs H Q _ => ∃ (t : Addr) (xs : List V) (ps : List Fr2), vs = [.ref t] ∧ SqT K H t xs ∧ Nms C H xs ps ∧ 1 ≤ ps.length ∧ ps.length ≤ 5 ∧ Nng ps ∧ (∃ s ∈ ps, s.1 ≠ 0) ∧ ∀ H', Same H H' → Q .non H'
abbrev n_check_steps : List Str := ["steps", "position", "step"]
theorem sc_check_steps : FnScope n_check_steps ["steps"] (defScope d_check_steps) := ⟨rfl, rfl, rfl, by decide +kernel, rfl, by decide +kernel, by decide +kernel⟩
theorem ok_check_steps {f C : Addr} {fd : FuncData} (F : FnP K "check_steps" "check_steps" d_check_steps [] f fd) (B : Blt mg) (T : RT K mg C) (dMa : Dfn P w K mg base 1 "check_many" ["numbers"] (spMany K))
    (dNu : Dfn P w K mg base 2 "is_number" ["value"] (spKnd K C isN)) (dAs : DAs P w K mg base C) (pS : PS_ P w K mg base C) : FnOk P w K mg base CX0 8 f fd ["steps"] (spSteps K C) := by
  refine F.ok sc_check_steps (fun vs H Q E h => ?_) (fun cdv A outer s H vs Q E hr h => ?_)
  · obtain ⟨t, xs, ps, rfl, _⟩ := h
    rfl
  · obtain ⟨t, xs, ps, rfl, ht, hn, h1, h5, nn, hex, q⟩ := h
    have hr1 := hr.mono (by decide : 1 ≤ 7)
    have hr2 := hr.mono (by decide : 2 ≤ 7)
    have hr4 := hr.mono (by decide : 4 ≤ 7)
    refine ⟨_, PSs.nox (pss_cons (ps_expr (pe_use dMa hr1 rfl (pa_cons (pv 0) pa_nil)))
      (pss_cons (ps_for PassesOwn.never rfl (pi_enumT rfl B.enum (pa_cons (pv 0) pa_nil)) (pg_tup (by rfl) (pgs_cons (pg_name (i := 1) sc_check_steps.nd rfl (.inl rfl)) (pgs_cons (pg_name (i := 2) sc_check_steps.nd rfl (.inl rfl)) pgs_nil)))
      (pss_one (ps_if (PW.pt (pw_or (pt_not (pt_val (pe_use dNu hr2 rfl (pa_cons (pv 2) pa_nil)))) (pw_or1 (pt_cmpR op_lt (pe_prp pS (pe_use dAs hr4 rfl (pa_cons (pv 2) pa_nil)) T.cl hr2 rfl) pe_int (nomark _))))) pss_never pss_nil)))
      (pss_one (ps_if (pt_val (pe_callB (cr_all rfl) (by rfl) B.all PyProof.Rows.boot_all (pa_cons (pe_lc rfl sc_check_steps.nd (pi_tup (pv 0)) (blkOk_by (own := [("step", 2)]) (by show blkC n_check_steps (defScope d_check_steps) _ _ = true; decide +kernel)) (fun _ _ _ _ _ => pg_name (i := 2) sc_check_steps.nd rfl (.inl rfl)) (fun _ _ _ _ _ => pts_nil) (fun _ _ _ _ _ => (pe_cmpR op_eq (pe_prp pS (pe_use dAs hr4 rfl (pa_cons (pv 2) pa_nil)) T.cl hr2 rfl) pe_int (nomark _)))) pa_nil))) pss_never pss_nil)))), ?_⟩
    have hl := hn.1
    refine ⟨_, rfl, t, _, rfl, ht, by rw [hl]; exact h1, by rw [hl]; exact h5, ?_⟩
    refine ⟨_, rfl, t, _, rfl, ht, ?_⟩
    refine for_it walk_enumT (fun i σ H' => ∃ v1 v2 : Option V, σ = [some (.ref t), v1, v2] ∧ Same H H') ⟨_, _, rfl, Same.refl _⟩ (fun i σ H' _ h => by obtain ⟨_, _, _, s1⟩ := h; exact same_sqt s1 ht) ?_ ?_
    · rintro i x σ H1 H2 hi ⟨v1, v2, rfl, s1⟩ ⟨T1, a, b, rfl, hT, rfl, ha, hb⟩
      have s2 : Same H (upd H1 T1 (.tup [a, b])) := s1.trans (same_upd hT)
      cases ha
      replace hb : xs[i]? = some b := hb
      obtain ⟨p, hp, nb⟩ := hn.getL hb
      have nb2 := nb.same s2
      have p0 := nn p (List.mem_of_getElem? hp)
      have sg0 : ¬ (p.1.sign < 0) := fun z => by
        have := Int.sign_neg_iff.mp z
        omega
      obtain ⟨k, hk, ek⟩ := nm_kd T nb2
      refine ⟨T1, _, rfl, SqT.of upd_same, rfl, _, _, rfl, _, _, rfl, rfl, ?_⟩
      refine ⟨_, rfl, b, k, rfl, hk, fun H3 s3 => ⟨_, rfl, ?_⟩⟩
      rw [ek]
      refine iteF ?_
      refine ⟨_, rfl, b, p.1, p.2, rfl, (nb2.same s3).at_, fun r H4 hr4' s4 => ?_⟩
      obtain ⟨dx, h4⟩ := id hr4'
      refine ⟨r, dx, _, rfl, h4, r, _, _, rfl, hr4', _, _, rfl, rfl, _, rfl, ?_⟩
      rw [decide_eq_false sg0]
      refine iteF ?_
      exact ⟨_, _, rfl, (s2.trans s3).trans s4⟩
    · rintro σ H1 ⟨v1, v2, rfl, s1⟩
      refine ⟨_, rfl, t, rfl, ⟨_, same_sqt s1 ht⟩, fun D hD => ?_⟩
      refine lc_vals (walk_tup (xs := xs)) (rel_same hD) ((ps.map fun p => decide (p.1 = 0)).map V.bl) (by rw [List.length_map, List.length_map, hl]) (by omega) (fun H' s => same_sqt (s1.trans s) ht) ?_ ?_
      · rintro i v H5 H6 u hi hu s5 _ ⟨rfl, hv⟩ R k
        obtain ⟨p, hp, nb⟩ := hn.getL hv
        rw [List.getElem?_map, List.getElem?_map, hp] at hu
        cases hu
        refine ⟨rfl, ?_⟩
        refine ⟨_, rfl, v, p.1, p.2, rfl, ((nb.same s1).same s5).at_, fun r H7 hr7 s7 => ?_⟩
        obtain ⟨dx, h7⟩ := id hr7
        refine ⟨r, dx, _, rfl, h7, r, _, _, rfl, hr7, rfl, ?_⟩
        have e : decide (V.int p.1.sign = V.int 0) = decide (p.1 = 0) := decide_eq_decide.mpr ⟨fun z => Int.sign_eq_zero_iff_zero.mp (V.int.inj z), fun z => by rw [z]; rfl⟩
        rw [e]
        exact k _ s7
      · intro H5 s5 hD5
        refine ⟨D, ps.map fun p => decide (p.1 = 0), rfl, SqL.of hD5, ?_⟩
        have e : (ps.map fun p => decide (p.1 = 0)).all id = false := by
          obtain ⟨s, hs, s0⟩ := hex
          rw [List.all_map]
          refine Bool.eq_false_iff.mpr fun z => s0 ?_
          have := List.all_eq_true.mp z s hs
          exact of_decide_eq_true this
        rw [e]
        refine ⟨_, rfl, ?_⟩
        refine iteF ?_
        exact q _ (s1.trans s5)
/-! ### Table(..) -/
def pf (L : Addr) : List (Str × V) := putF "_points" (.ref L) []
theorem pf_pts (L : Addr) : (pf L).lookup ("_points" : Str) = some (.ref L) := by
  unfold pf
  rw [lookup_putF, if_pos rfl]
theorem pf_no (L : Addr) {m : Str} (h : ¬ m = "_points") : (pf L).lookup m = none := by
  unfold pf
  rw [lookup_putF, if_neg h]
  rfl
abbrev Rats (C : Addr) (H : Hp) (rs : List Addr) (ps : List Fr2) : Prop := Par (fun r p => Nm C H (.ref r) p.1 p.2) rs ps
theorem Rats.same {C : Addr} {H H' : Hp} {rs : List Addr} {ps : List Fr2} (h : Rats C H rs ps) (s : Same H H') : Rats C H' rs ps := Par.imp h fun _ _ k => k.same s
theorem Rats.nms {C : Addr} {H : Hp} {rs : List Addr} {ps : List Fr2} (h : Rats C H rs ps) : Nms C H (rs.map V.ref) ps := Par.map h fun _ _ k => k
/-- a table of these points -/
structure TabAt (C D : Addr) (H : Hp) (x : Addr) (ps : List Fr2) : Prop where
  at_ : ∃ dx L rs, H x = some (.ins D dx (pf L)) ∧ H L = some (.lst (rs.map V.ref)) ∧ Rats C H rs ps
  len : ps.length = 5
  desc : Desc' ps
theorem TabAt.same {C D : Addr} {H H' : Hp} {x : Addr} {ps : List Fr2} (h : TabAt C D H x ps) (s : Same H H') : TabAt C D H' x ps := by
  obtain ⟨dx, L, rs, h1, h2, h3⟩ := h.at_
  exact ⟨⟨dx, L, rs, s _ _ h1, s _ _ h2, h3.same s⟩, h.len, h.desc⟩
theorem TabAt.lws {C D : Addr} {H : Hp} {x : Addr} {ps : List Fr2} (h : TabAt C D H x ps) : Lws ps := by
  obtain ⟨dx, L, rs, h1, h2, h3⟩ := h.at_
  exact h3.nms.lws
/-- its list is new -/
def Nw (D : Addr) (H H' : Hp) (x : Addr) : Prop := ∃ dx L, H' x = some (.ins D dx (pf L)) ∧ H L = none
theorem Nw.back {D : Addr} {H H1 H' : Hp} {x : Addr} (n : Nw D H1 H' x) (s : Same H H1) : Nw D H H' x := by
  obtain ⟨dx, L, e, h⟩ := n
  exact ⟨dx, L, e, same_none s h⟩
/-- the class Table -/
structure TC (K : PySem.W.Frag) (mg : Str → Option Value) (D : Addr) : Prop where
  cl : Cls K D
  nP : NoAttr K D "_points"
  mgT : mg "Table" = some (.ref D)
  places : ∃ t, mg "PLACES" = some (.int 5 t)
def spTI (C D : Addr) : Sp := fun vs H Q _ => ∃ (x dx : Addr) (xs : List V) (ps : List Fr2), vs = .ref x :: xs ∧ H x = some (.ins D dx []) ∧ Nms C H xs ps ∧ Desc' ps ∧
  ∀ H', TabAt C D H' x (pad ps) → Nw D H H' x → (∀ b o, b ≠ x → H b = some o → H' b = some o) → Q .non H'
def spTI0 (K : PySem.W.Frag) (C D : Addr) : Sp := fun vs H Q _ => ∃ (x t dx : Addr) (xs : List V) (ps : List Fr2), vs = [.ref x, .ref t] ∧ H x = some (.ins D dx []) ∧ SqT K H t xs ∧ Nms C H xs ps ∧ Desc' ps ∧
  ∀ H', TabAt C D H' x (pad ps) → Nw D H H' x → (∀ b o, b ≠ x → H b = some o → H' b = some o) → Q .non H'
abbrev n_Table___init__ : List Str := ["self", "points", "told", "point", "_"]
theorem sc_Table___init__ : FnScope n_Table___init__ ["self", "points"] (defScope d_Table___init__) := ⟨rfl, rfl, rfl, by decide +kernel, rfl, by decide +kernel, by decide +kernel⟩
theorem nm_z {C : Addr} {H : Hp} {p : Addr} (h : RatAt C H p 0 1) : Nm C H (.ref p) 0 1 := ⟨.inl ⟨p, rfl, h⟩, lw_int 0, bd_zero, bd_one (by decide)⟩
theorem ok_Table_init {f C D : Addr} {fd : FuncData} (F : FnP K "__init__" "Table.__init__" d_Table___init__ [] f fd) (B : Blt mg) (T : RT K mg C) (U : TC K mg D) (M : RMk P w K mg base C) (dAs : DAs P w K mg base C) (dCP : Dfn P w K mg base 8 "check_points" ["points"] (spCheck K C)) :
    FnR P w K mg base CX0 9 f (spTI C D) := by
  obtain ⟨oc, od, dV, kV, doc, pm, an, cdv, ct, osl, rfl, lk, hcd, hD, _⟩ := F.ex
  have hdV : dV = .none := by
    rcases hD with ⟨_, e⟩ | ⟨e, _⟩
    · exact e
    · exact absurd rfl e
  subst hdV
  obtain ⟨tPl, hPl⟩ := U.places
  have R := StX.fn_star (k := 8) (sp := spTI0 K C D) (CX := CX0) (P := P) (w := w) (mg := mg) (base := base) (ps := ["self"]) (pv := "points") lk hcd sc_Table___init__ StX.cxUp_none
    (StX.bind_star1 (B := fun us => bindArgs _ ⟨us, []⟩) (fun a => rfl) (fun a r rs => rfl)) (fun A outer s H vs Q E hr h => ?_)
  · refine R.imp fun vs H Q E h => ?_
    obtain ⟨x, dx, xs, ps, rfl, hx, hn, hd, q⟩ := h
    refine ⟨[.ref x], xs, rfl, rfl, Nat.le_trans (show xs.length ≤ 5 by rw [hn.1]; exact hd.five) (by decide), fun p hp => ?_⟩
    exact ⟨x, p, dx, xs, ps, rfl, (same_upd hp) _ _ hx, SqT.of upd_same, hn.same (same_upd hp), hd, fun H' h1 hw h2 => q H' h1 (hw.back (same_upd hp)) fun b o nb eb => h2 b o nb ((same_upd hp) _ _ eb)⟩
  · obtain ⟨x, t, dx, xs, ps, rfl, hx, ht, hn, hd, q⟩ := h
    have hr3 := hr.mono (by decide : 3 ≤ 8)
    have hr4 := hr.mono (by decide : 4 ≤ 8)
    refine ⟨_, PSs.nox (pss_cons (ps_expr (pe_use dCP hr rfl (pa_cons (pv 1) pa_nil)))
      (pss_cons (ps_setLc (i := 2) rfl sc_Table___init__.nd rfl rfl (by rfl) (pi_tup (pv 1)) (blkOk_by (own := [("point", 3)]) (by show blkC n_Table___init__ (defScope d_Table___init__) _ _ = true; decide +kernel)) (fun _ _ _ _ _ => pg_name (i := 3) sc_Table___init__.nd rfl (.inl rfl)) (fun _ _ _ _ _ => pts_nil) (fun _ _ _ _ _ => (pe_use dAs hr4 rfl (pa_cons (pv 3) pa_nil))))
      (pss_one (ps_fld (pv 0) (pe_op op_cat (pv 2) (pe_lc rfl sc_Table___init__.nd (pi_range1 rfl B.range (pa_cons (pe_op op_sub (pe_glob (v := .int 5) rfl hPl ⟨tPl, rfl⟩) (pe_callB (r := rLenS K) call_len_seq (by rfl) B.len PySem.boot_len (pa_cons (pv 2) pa_nil))) pa_nil)) (blkOk_by (own := [("_", 4)]) (by show blkC n_Table___init__ (defScope d_Table___init__) _ _ = true; decide +kernel)) (fun _ _ _ _ _ => pg_name (i := 4) sc_Table___init__.nd rfl (.inl rfl)) (fun _ _ _ _ _ => pts_nil) (fun _ _ _ _ _ => (pe_rat1 M hr3 rfl T.mgC pe_int)))) rfl)))), ?_⟩
    have hl := hn.1
    have h5 := hd.five
    have lw := hn.lws
    refine ⟨_, rfl, t, xs, ps, rfl, ht, hn, hd, fun H1 s1 => ?_⟩
    refine ⟨_, rfl, t, rfl, ⟨_, same_sqt s1 ht⟩, fun L hL => ?_⟩
    have rel : ∀ {H0 : Hp}, H0 L = none → RelD Same H0 L := fun h => rel_same h
    refine lc_el (walk_tup (xs := xs)) (rel_same hL) (by omega) (fun j v H' => ∃ r p, v = V.ref r ∧ r ≠ L ∧ ps[j]? = some p ∧ Nm C H' (.ref r) p.1 p.2) ?_ ?_ (fun H' s => same_sqt (s1.trans s) ht) ?_ ?_
    · rintro j v H5 H6 s ⟨r, p, e, n, ep, k⟩
      exact ⟨r, p, e, n, ep, k.same s⟩
    · rintro j v H5 l l' hl5 ⟨r, p, e, n, ep, k⟩
      refine ⟨r, p, e, n, ep, ⟨.inl ⟨r, rfl, ?_⟩, k.lw, k.b1, k.b2⟩⟩
      obtain ⟨dy, h⟩ := k.rat
      exact ⟨dy, by rw [upd_ne n]; exact h⟩
    · rintro i v H5 H6 hi s5 ⟨acc, hacc, _⟩ ⟨rfl, hv⟩ R k
      obtain ⟨p, hp, nb⟩ := hn.getL hv
      refine ⟨rfl, ?_⟩
      have nb5 := (nb.same s1).same s5
      refine ⟨_, rfl, v, p.1, p.2, rfl, nb5.at_, fun r H7 hr7 s7 => ?_⟩
      refine k _ H7 s7 ⟨r, p, rfl, fun z => ?_, hp, nm_rat nb5 hr7⟩
      obtain ⟨dy, h⟩ := hr7
      have hL7 := s7 _ _ hacc
      rw [← z, h] at hL7
      cases hL7
    · rintro H5 acc s5 hD5 hlen he
      obtain ⟨rs, rfl, hrs⟩ : ∃ rs : List Addr, acc = rs.map V.ref ∧ Rats C H5 rs ps := by
        obtain ⟨rs, e, hl2, _⟩ := els V.ref (fun _ => True) acc fun j v hv => by
          obtain ⟨r, p, e, _⟩ := he j v hv
          exact ⟨r, e, trivial⟩
        refine ⟨rs, e, by rw [hl2, hlen, hl], fun i a b e1 e2 => ?_⟩
        subst e
        obtain ⟨r, p, er, _, ep, k⟩ := he i (.ref a) (by rw [List.getElem?_map, e1]; rfl)
        cases er
        rw [ep] at e2
        cases e2
        exact k
      have lrs := hrs.1
      refine ⟨_, rfl, _, rfl, L, rs.map V.ref, rfl, .inl (SqL.of hD5), _, _, rfl, rfl, _, rfl, ?_, ?_, fun Z hZ => ?_⟩
      · rw [List.length_map]
        omega
      · rw [List.length_map]
        omega
      rw [List.length_map]
      refine lc_el (walk_range (lo := 0) (n := ((5 : Int) - (rs.length : Int)).toNat)) (rel_same hZ) (by omega) (fun j v H' => ∃ r, v = V.ref r ∧ r ≠ Z ∧ RatAt C H' r 0 1) ?_ ?_ (fun _ _ => trivial) ?_ ?_
      · rintro j v H6 H7 s ⟨r, e, n, k⟩
        exact ⟨r, e, n, k.same s⟩
      · rintro j v H6 l l' hl6 ⟨r, e, n, dy, h⟩
        exact ⟨r, e, n, dy, by rw [upd_ne n]; exact h⟩
      · rintro i v H6 H7 hi s6 ⟨acc, hacc, _⟩ ⟨rfl, rfl⟩ R k
        refine ⟨rfl, ?_⟩
        refine rat_new (by decide) (bd_one (by decide)) fun p H8 hp s8 hpn => ?_
        rw [low_int] at hp
        exact k _ H8 s8 ⟨p, rfl, (ne_of_none hacc hpn).symm, hp⟩
      · rintro H6 acc6 s6 hD6 hlen6 he6
        obtain ⟨zs, rfl, hzl, hzs⟩ := els V.ref (fun r => RatAt C H6 r 0 1) acc6 fun j v hv => by
          obtain ⟨r, e, _, k⟩ := he6 j v hv
          exact ⟨r, e, k⟩
        rw [List.length_map] at hlen6
        have hL6 := s6 _ _ hD5
        refine ⟨L, Z, rs.map V.ref, zs.map V.ref, rfl, rfl, hL6, hD6, ?_, fun p hp => ?_⟩
        · rw [List.length_map, List.length_map]
          exact Nat.le_trans (show rs.length + zs.length ≤ 1000 by omega) (by decide)
        have s16 : Same H H6 := (s1.trans s5).trans s6
        have sp := same_upd (o := .lst (rs.map V.ref ++ zs.map V.ref)) hp
        have s1p := s16.trans sp
        have hx6 := s1p _ _ hx
        have npx : p ≠ x := fun z => by
          rw [z] at hp
          rw [s16 _ _ hx] at hp
          exact nomatch hp
        refine ⟨_, rfl, x, D, dx, [], rfl, hx6, U.cl, U.nP, (by show 0 < 1000; decide), ?_⟩
        have keep : ∀ {b : Addr} {o : HO}, b ≠ x → H6 b = some o → upd (upd H6 p (.lst (rs.map V.ref ++ zs.map V.ref))) x (.ins D dx (putF "_points" (.ref p) [])) b = some o := fun {b o} nb eb => by
          rw [upd_ne nb]
          exact sp _ _ eb
        have insx : ∀ {n d : Int} {r : Addr}, RatAt C H6 r n d → RatAt C (upd (upd H6 p (.lst (rs.map V.ref ++ zs.map V.ref))) x (.ins D dx (putF "_points" (.ref p) []))) r n d := fun {n d r} h => by
          obtain ⟨dy, h⟩ := h
          refine ⟨dy, keep (fun z => ?_) h⟩
          rw [z, s16 _ _ hx] at h
          have e := Option.some.inj h
          injection e with e1 e2 e3
          have e4 := congrArg (fun l : List (Str × V) => l.lookup ("_top" : Str)) e3
          have e5 : (none : Option V) = (rf n d).lookup ("_top" : Str) := e4
          rw [rf_top] at e5
          exact nomatch e5
        refine q _ ⟨⟨dx, p, rs ++ zs, upd_same, ?_, ?_⟩, pad_len h5, pad_desc hd lw⟩ ⟨dx, p, upd_same, same_none s16 hp⟩ fun b o nb eb => keep nb (s16 _ _ eb)
        · rw [upd_ne npx, upd_same, List.map_append]
        · unfold pad
          refine Par.app (Par.imp (hrs.same s6) fun r p' k => ⟨.inl ⟨r, rfl, insx k.rat⟩, k.lw, k.b1, k.b2⟩) ⟨by rw [List.length_replicate]; omega, fun i a b e1 e2 => ?_⟩
          rw [List.getElem?_replicate] at e2
          split at e2
          · cases e2
            exact nm_z (insx (hzs a (List.mem_of_getElem? e1)))
          · exact nomatch e2
end
end Tb
/-! Tables by steps, the first-k and steep ones. -/
namespace Tb
open PySem PySem.Spec PyProof.Rows L2 Ow Pt Rm Ra
/-- a new table, as its maker reads it -/
theorem tab_new {C D : Addr} {H : Hp} {xs : List V} {ps : List Fr2} {Q : Addr → Hp → Prop} (hn : Nms C H xs ps) (hd : Desc' ps) (q : ∀ x H', TabAt C D H' x (pad ps) → Same H H' → Nw D H H' x → Q x H') :
    ∀ x dx, H x = none → H dx = none → dx ≠ x → spTI C D (.ref x :: xs) (upd (upd H dx (.own x)) x (.ins D dx [])) (fun v H2 => v = .non ∧ Q x H2) E0 := by
  intro x dx hx hdx ne
  have s : Same H (upd (upd H dx (.own x)) x (.ins D dx [])) := fun b o e => by
    rw [upd_ne (ne_of_none e hx), upd_ne (ne_of_none e hdx)]
    exact e
  exact ⟨x, dx, xs, ps, rfl, upd_same, hn.same s, hd, fun H' t nw k => ⟨rfl, q x H' t (fun b o e => k b o (ne_of_none e hx) (s _ _ e)) (nw.back s)⟩⟩
structure TMk (P : Program) (w : World) (K : PySem.W.Frag) (mg : Str → Option Value) (base : Heap) (C D : Addr) : Prop where
  ex : ∃ f, Mk K D f ∧ FnR P w K mg base CX0 9 f (spTI C D)
theorem bd_sm {k : Nat} {ps : List Fr2} (b : Bds k ps) {p : Fr2} (h : p ∈ ps) {j : Nat} (l : k ≤ j) : Bd j p.1 ∧ Bd j p.2 := ⟨(b p h).1.mono l, (b p h).2.mono l⟩
theorem nms_ints {C : Addr} {H : Hp} {ns : List Int} (h : ∀ n ∈ ns, Bd 2500 n) : Nms C H (ns.map V.int) (ns.map fun n => (n, 1)) := by
  refine ⟨by rw [List.length_map, List.length_map], fun i x p e1 e2 => ?_⟩
  rw [List.getElem?_map] at e1 e2
  cases c : ns[i]? with
  | none => rw [c] at e1; exact nomatch e1
  | some n =>
    rw [c] at e1 e2
    cases e1
    cases e2
    exact nm_int (h n (List.mem_of_getElem? c))
/-- whole points that go down -/
theorem desc_int {ns : List Int} (h1 : 1 ≤ ns.length) (h5 : ns.length ≤ 5) (p : ∀ n ∈ ns, 1 ≤ n) (d : ∀ (i : Nat) a b, ns[i]? = some a → ns[i + 1]? = some b → b ≤ a) : Desc' (ns.map fun n => (n, 1)) := by
  have g : ∀ (i : Nat) q, (ns.map fun n => ((n, 1) : Fr2))[i]? = some q → ∃ n, ns[i]? = some n ∧ q = (n, 1) := fun i q e => by
    rw [List.getElem?_map] at e
    cases c : ns[i]? with
    | none => rw [c] at e; exact nomatch e
    | some n =>
      rw [c] at e
      exact ⟨n, rfl, (Option.some.inj e).symm⟩
  refine ⟨by rw [List.length_map]; exact h1, by rw [List.length_map]; exact h5, fun i q e => ?_, fun q e => ?_, fun i q r e1 e2 => ?_⟩
  · obtain ⟨n, c, rfl⟩ := g i q e
    have := p n (List.mem_of_getElem? c)
    show 0 ≤ n
    omega
  · obtain ⟨n, c, rfl⟩ := g 0 q e
    have := p n (List.mem_of_getElem? c)
    show n ≠ 0
    omega
  · obtain ⟨a, c1, rfl⟩ := g i q e1
    obtain ⟨b, c2, rfl⟩ := g (i + 1) r e2
    have := d i a b c1 c2
    show ¬ (a * 1 < b * 1)
    omega
def stpL (s : Int) : Nat → List Int
  | 0 => [1]
  | n + 1 => s ^ (n + 1) :: stpL s n
theorem stp_len (s : Int) : ∀ n, (stpL s n).length = n + 1
  | 0 => rfl
  | n + 1 => by show (stpL s n).length + 1 = _; rw [stp_len s n]
theorem stp_head (s : Int) : ∀ n, (stpL s n)[0]? = some (s ^ n)
  | 0 => by simp [stpL]
  | n + 1 => rfl
theorem stp_pos {s : Int} (h : 1 ≤ s) : ∀ n, ∀ x ∈ stpL s n, 1 ≤ x
  | 0 => fun x hx => by
    have e : x = 1 := by simpa [stpL] using hx
    omega
  | n + 1 => fun x hx => by
    rcases List.mem_cons.mp hx with rfl | hx
    · have z : 0 < s ^ (n + 1) := Int.pow_pos (by omega)
      omega
    · exact stp_pos h n x hx
theorem stp_down {s : Int} (h : 1 ≤ s) : ∀ (n i : Nat) (a b : Int), (stpL s n)[i]? = some a → (stpL s n)[i + 1]? = some b → b ≤ a
  | 0, i, a, b, _, e2 => by simp [stpL] at e2
  | n + 1, 0, a, b, e1, e2 => by
    have e1' : some (s ^ (n + 1)) = some a := e1
    have e2' : (stpL s n)[0]? = some b := e2
    rw [stp_head] at e2'
    cases e1'
    cases e2'
    rw [Int.pow_succ]
    have hp : 0 < s ^ n := Int.pow_pos (by omega)
    have := Int.mul_le_mul_of_nonneg_left h (Int.le_of_lt hp)
    omega
  | n + 1, i + 1, a, b, e1, e2 => stp_down h n i a b e1 e2
theorem stp_bd {s : Int} {k : Nat} (hk : 0 < k) (h : Bd k s) : ∀ n, ∀ x ∈ stpL s n, Bd (1 + k * n) x
  | 0 => fun x hx => by
    have e : x = 1 := by simpa [stpL] using hx
    rw [e]
    exact bd_one (by omega)
  | n + 1 => fun x hx => by
    rcases List.mem_cons.mp hx with rfl | hx
    · have b := stp_bd hk h n (s ^ n) (List.mem_of_getElem? (stp_head s n))
      rw [Int.pow_succ]
      exact (b.mul h).mono (by rw [Nat.mul_succ]; omega)
    · exact (stp_bd hk h n x hx).mono (by rw [Nat.mul_succ]; omega)
theorem cut_from (xs : List V) {i : Nat} (h : i ≤ xs.length) : cutV xs (some (i : Int)) none = xs.drop i := by
  unfold cutV
  rw [HT.sIx_nat, HT.sIx_none, Nat.min_eq_left h, List.take_of_length_le]
  rw [List.length_drop]
  exact Nat.le_refl _
theorem cut_to (xs : List V) (k : Nat) : cutV xs none (some (k : Int)) = xs.take k := by
  unfold cutV
  rw [HT.sIx_nat, HT.sIx_none, List.drop_zero, Nat.sub_zero]
  rcases Nat.le_total k xs.length with c | c
  · rw [Nat.min_eq_left c]
  · rw [Nat.min_eq_right c, List.take_of_length_le (Nat.le_refl _), List.take_of_length_le c]
section
variable {P : Program} {w : World} {K : PySem.W.Frag} {mg : Str → Option Value} {base : Heap}
/-! ### of_steps -/
def spOS (C D : Addr) : Sp := fun vs H Q _ => ∃ (xs : List V) (ps : List Fr2), vs = .ref D :: xs ∧ Nms C H xs ps ∧ Bds 300 ps ∧ 1 ≤ ps.length ∧ ps.length ≤ 5 ∧ Nng ps ∧ (∃ s ∈ ps, s.1 ≠ 0) ∧ ∀ x H', TabAt C D H' x (pad (ptsR ps)) → Nw D H H' x → Same H H' → Q (.ref x) H'
def spOS0 (K : PySem.W.Frag) (C D : Addr) : Sp := fun vs H Q _ => ∃ (t : Addr) (xs : List V) (ps : List Fr2), vs = [.ref D, .ref t] ∧ SqT K H t xs ∧ Nms C H xs ps ∧ Bds 300 ps ∧ 1 ≤ ps.length ∧ ps.length ≤ 5 ∧ Nng ps ∧ (∃ s ∈ ps, s.1 ≠ 0) ∧ ∀ x H', TabAt C D H' x (pad (ptsR ps)) → Nw D H H' x → Same H H' → Q (.ref x) H'
abbrev n_Table_of_steps : List Str := ["cls", "steps", "points", "position", "behind"]
theorem sc_Table_of_steps : FnScope n_Table_of_steps ["cls", "steps"] (defScope d_Table_of_steps) := ⟨rfl, rfl, rfl, by decide +kernel, rfl, by decide +kernel, by decide +kernel⟩
theorem sums_of {ps : List Fr2} (l : Lws ps) {i : Nat} (hi : i < ps.length) : (ptsR ps)[i]? = some (sumL (ps.drop i)) := by
  have h : i < (ptsR ps).length := by rw [pts_len]; exact hi
  rw [List.getElem?_eq_getElem h, sumL_pts l (List.getElem?_eq_getElem h)]
theorem sum_bd {ps : List Fr2} (l : Lws ps) (b : Bds 300 ps) (h5 : ps.length ≤ 5) : Bd 2500 (sumL ps).1 ∧ Bd 2500 (sumL ps).2 := by
  have go : ∀ (qs : List Fr2) (a : Fr2) (i : Nat), Lws qs → Bds 300 qs → SB i a → SB (i + qs.length) (qs.foldl plus a) := fun qs => by
    induction qs with
    | nil => exact fun a i _ _ h => h
    | cons q qs ih =>
      intro a i lq bq h
      have := ih (plus a q) (i + 1) (fun x hx => lq x (List.mem_cons_of_mem _ hx)) (fun x hx => bq x (List.mem_cons_of_mem _ hx)) (sb_plus h (lq q List.mem_cons_self) (bq q List.mem_cons_self).1 (bq q List.mem_cons_self).2)
      rw [List.length_cons, show i + (qs.length + 1) = i + 1 + qs.length by omega]
      exact this
  have s := go ps (0, 1) 0 l b sb_zero
  exact ⟨s.b1.mono (by omega), s.b2.mono (by omega)⟩
theorem ok_of_steps {f C D : Addr} {fd : FuncData} (F : FnP K "of_steps" "Table.of_steps" d_Table_of_steps [] f fd) (B : Blt mg) (T : RT K mg C) (N : TMk P w K mg base C D) (dCS : Dfn P w K mg base 8 "check_steps" ["steps"] (spSteps K C)) (cTo : CMS P w K mg base 6 C "total" (spTot C)) :
    FnR P w K mg base CX0 11 f (spOS C D) := by
  obtain ⟨oc, od, dV, kV, doc, pm, an, cdv, ct, osl, rfl, lk, hcd, hD, _⟩ := F.ex
  have hdV : dV = .none := by
    rcases hD with ⟨_, e⟩ | ⟨e, _⟩
    · exact e
    · exact absurd rfl e
  subst hdV
  obtain ⟨ft, mk, Ft⟩ := N.ex
  have R := StX.fn_star (k := 10) (sp := spOS0 K C D) (CX := CX0) (P := P) (w := w) (mg := mg) (base := base) (ps := ["cls"]) (pv := "steps") lk hcd sc_Table_of_steps StX.cxUp_none
    (StX.bind_star1 (B := fun us => bindArgs _ ⟨us, []⟩) (fun a => rfl) (fun a r rs => rfl)) (fun A outer s H vs Q E hr h => ?_)
  · refine R.imp fun vs H Q E h => ?_
    obtain ⟨xs, ps, rfl, hn, hb, h1, h5, nn, hex, q⟩ := h
    refine ⟨[.ref D], xs, rfl, rfl, Nat.le_trans (show xs.length ≤ 5 by rw [hn.1]; exact h5) (by decide), fun p hp => ?_⟩
    exact ⟨p, xs, ps, rfl, SqT.of upd_same, hn.same (same_upd hp), hb, h1, h5, nn, hex, fun x H' t nw s => q x H' t (nw.back (same_upd hp)) ((same_upd hp).trans s)⟩
  · obtain ⟨t, xs, ps, rfl, ht, hn, hb, h1, h5, nn, hex, q⟩ := h
    have hr6 := hr.mono (by decide : 6 ≤ 10)
    have hr8 := hr.mono (by decide : 8 ≤ 10)
    refine ⟨_, PSs.nox (pss_cons (ps_expr (pe_use dCS hr8 rfl (pa_cons (pv 1) pa_nil)))
      (pss_cons (ps_set (i := 2) sc_Table_of_steps.nd rfl (Or.inl rfl) (pe_lst pa_nil))
      (pss_cons (ps_for PassesOwn.never rfl (pi_range1 rfl B.range (pa_cons (pe_callB (r := rLenS K) call_len_seq (by rfl) B.len PySem.boot_len (pa_cons (pv 1) pa_nil)) pa_nil)) (pg_name (i := 3) sc_Table_of_steps.nd rfl (.inl rfl))
      (pss_cons (ps_set (i := 4) sc_Table_of_steps.nd rfl (Or.inl rfl) (pe_slice sl_tupA (pv 1) (po_some (pv 3)) po_none))
      (pss_one (ps_expr (pe_bm PySem.F.plainAttrs_list PySem.F.slot_list_append PySem.F.type_list_append mt_append (pv 2) (pa_cons (pe_cmS cTo hr6 (pe_glob (v := .ref C) rfl T.mgC rfl) (pv 4)) pa_nil))))))
      (pss_one (ps_ret (pe_makeLS (i := 0) mk Ft hr rfl (.inl rfl) pass0 (pv 2))))))), ?_⟩
    have hl := hn.1
    have lw := hn.lws
    refine ⟨_, rfl, t, xs, ps, rfl, ht, hn, h1, h5, nn, hex, fun H1 s1 => ?_⟩
    refine ⟨by decide, fun g hg => ?_⟩
    refine ⟨_, rfl, t, xs, rfl, .inr (same_sqt (s1.trans (same_upd hg)) ht), _, rfl, by omega, by omega, ?_⟩
    refine for_it (walk_range (lo := 0) (n := (xs.length : Int).toNat)) (fun i σ H' => ∃ (v3 v4 : Option V) (rs : List Addr), σ = [some (.ref D), some (.ref t), some (.ref g), v3, v4] ∧ rs.length = i ∧ H' g = some (.lst (rs.map V.ref)) ∧ Rats C H' rs ((ptsR ps).take i) ∧ Same H1 H')
      ⟨_, _, [], rfl, rfl, upd_same, Par.nil, same_upd hg⟩ (fun _ _ _ _ _ => trivial) ?_ ?_
    · rintro i v σ H9 H2 hi ⟨v3, v4, rs, rfl, hri, hg2, hrs, s2⟩ ⟨rfl, rfl⟩
      have hi5 : i < ps.length := by omega
      have ht2 := same_sqt (s1.trans s2) ht
      have hn2 := hn.same (s1.trans s2)
      -- the numbers from i on
      have core : ∀ (b : Addr) (H4 : Hp), SqT K H4 b (xs.drop i) → Same H2 H4 → ∀ (R : VK), (∀ z H5, Nm C H5 (.ref z) (sumL (ps.drop i)).1 (sumL (ps.drop i)).2 → Same H4 H5 → R (.ref z) H5) → spTot C (.ref C :: xs.drop i) H4 R E0 := fun b H4 hb4 s4 R k => by
        refine ⟨xs.drop i, ps.drop i, rfl, by rw [List.length_drop]; omega, ⟨by rw [List.length_drop, List.length_drop, hl], fun j x p ex ep => ?_⟩, fun z H5 hz s5 => k z H5 ⟨.inl ⟨z, rfl, hz⟩, (q_sumL (lws_drop lw i)).1, ?_, ?_⟩ s5⟩
        · have n := (hn2.drop i).2 j x p ex ep
          have b := hb.get (i := i + j) (p := p) (by rw [List.getElem?_drop] at ep; exact ep)
          exact ⟨(n.same s4).at_, n.lw, b.1, b.2⟩
        · exact (sum_bd (lws_drop lw i) (fun p hp => hb p (List.mem_of_mem_drop hp)) (by rw [List.length_drop]; omega)).1
        · exact (sum_bd (lws_drop lw i) (fun p hp => hb p (List.mem_of_mem_drop hp)) (by rw [List.length_drop]; omega)).2
      have fin : ∀ (b z : Addr) (v3 : Option V) (H4 H5 : Hp), Same H2 H4 → Nm C H5 (.ref z) (sumL (ps.drop i)).1 (sumL (ps.drop i)).2 → Same H4 H5 →
          ∃ xs' : List V, H5 g = some (.lst xs') ∧ xs'.length < sizeLine ∧ ∃ (v3' v4' : Option V) (rs' : List Addr), [some (V.ref D), some (V.ref t), some (V.ref g), some (V.int ((0 : Int) + (i : Nat))), some (V.ref b)] = [some (V.ref D), some (V.ref t), some (V.ref g), v3', v4'] ∧ rs'.length = i + 1 ∧ upd H5 g (.lst (xs' ++ [V.ref z])) g = some (.lst (rs'.map V.ref)) ∧
            Rats C (upd H5 g (.lst (xs' ++ [V.ref z]))) rs' ((ptsR ps).take (i + 1)) ∧ Same H1 (upd H5 g (.lst (xs' ++ [V.ref z]))) := fun b z v3 H4 H5 s4 hz s5 => by
        have hg5 := s5 _ _ (s4 _ _ hg2)
        have s25 := s4.trans s5
        have ins : ∀ {v : V} {n d : Int}, Nm C H5 v n d → Nm C (upd H5 g (.lst (rs.map V.ref ++ [V.ref z]))) v n d := fun {v n d} h => by
          refine ⟨?_, h.lw, h.b1, h.b2⟩
          rcases h.at_ with ⟨p, e, dx, hp⟩ | c
          · refine .inl ⟨p, e, dx, ?_⟩
            rw [upd_ne (fun z => by rw [z, hg5] at hp; cases hp)]
            exact hp
          · exact .inr c
        refine ⟨_, hg5, ?_, _, _, rs ++ [z], rfl, by rw [List.length_append, hri]; rfl, by rw [upd_same, List.map_append]; rfl, ?_, fun q u eq => ?_⟩
        · rw [List.length_map]
          exact Nat.lt_of_le_of_lt (show rs.length ≤ 1000 by omega) (by decide)
        · rw [List.take_add_one, sums_of lw hi5]
          exact Par.app (Par.imp (hrs.same s25) fun _ _ k => ins k) (Par.one (ins hz))
        · rw [upd_ne (ne_of_none eq hg)]
          exact s25 _ _ (s2 _ _ eq)
      refine ⟨_, rfl, _, rfl, _, rfl, t, xs, rfl, ht2, ?_, ?_⟩
      · rintro ⟨e1, _⟩
        have i0 : i = 0 := by
          have e2 : HT.sIx xs.length 0 (some ((i : Nat) : Int)) = 0 := by
            rw [Int.zero_add] at e1
            exact e1
          rw [HT.sIx_nat] at e2
          omega
        refine ⟨_, rfl, .inl ⟨rfl, _, SqL.of hg2⟩, ?_⟩
        refine ⟨rfl, _, rfl, t, xs.drop i, rfl, .inl (by rw [i0, List.drop_zero]; exact ht2), ?_⟩
        refine core t H2 (by rw [i0, List.drop_zero]; exact ht2) (Same.refl _) _ fun z H5 hz s5 => ?_
        obtain ⟨xs', e1, e2, e3⟩ := fin t z none H2 H5 (Same.refl _) hz s5
        exact ⟨g, xs', _, rfl, rfl, e1, e2, e3⟩
      · rintro ne p hp
        rw [Int.zero_add, cut_from xs (by omega)]
        have sp := same_upd (o := .tup (xs.drop i)) hp
        refine ⟨_, rfl, .inl ⟨rfl, _, SqL.of (sp _ _ hg2)⟩, ?_⟩
        refine ⟨rfl, _, rfl, p, xs.drop i, rfl, .inl (SqT.of upd_same), ?_⟩
        refine core p _ (SqT.of upd_same) sp _ fun z H5 hz s5 => ?_
        obtain ⟨xs', e1, e2, e3⟩ := fin p z none _ H5 sp hz s5
        exact ⟨g, xs', _, rfl, rfl, e1, e2, e3⟩
    · rintro σ H2 ⟨v3, v4, rs, rfl, hri, hg2, hrs, s2⟩
      have e : (ptsR ps).take (xs.length : Int).toNat = ptsR ps := List.take_of_length_le (by rw [pts_len]; omega)
      rw [e] at hrs
      refine ⟨rfl, _, rfl, g, _, rfl, .inr (SqL.of hg2), ?_⟩
      exact tab_new hrs.nms (desc_pts lw nn h1 h5 hex) fun x H3 tb s3 nw => q x H3 tb (nw.back (s1.trans s2)) ((s1.trans s2).trans s3)
end
end Tb
/-! First-k and steep tables; what a table tells. -/
namespace Tb
open PySem PySem.Spec PyProof.Rows L2 Ow Pt Rm Ra
section
variable {P : Program} {w : World} {K : PySem.W.Frag} {mg : Str → Option Value} {base : Heap}
def onesF (k : Nat) : List Fr2 := List.replicate k (1, 1)
def stpF (s : Int) (n : Nat) : List Fr2 := (stpL s n).map fun x => (x, 1)
theorem ones_desc {k : Nat} (h1 : 1 ≤ k) (h5 : k ≤ 5) : Desc' (onesF k) := by
  have e : onesF k = (List.replicate k (1 : Int)).map fun n => (n, 1) := by
    unfold onesF
    rw [List.map_replicate]
  rw [e]
  refine desc_int (by rw [List.length_replicate]; exact h1) (by rw [List.length_replicate]; exact h5) (fun n hn => ?_) fun i a b e1 e2 => ?_
  · rw [List.eq_of_mem_replicate hn]
    decide
  · rw [List.getElem?_replicate] at e1 e2
    split at e1
    · split at e2
      · cases e1
        cases e2
        decide
      · cases e2
    · cases e1
theorem stp_desc {s : Int} (h : 1 ≤ s) {n : Nat} (h5 : n ≤ 4) : Desc' (stpF s n) :=
  desc_int (by rw [stp_len]; omega) (by rw [stp_len]; omega) (stp_pos h n) (stp_down h n)
end
end Tb
/-! What a table tells. -/
namespace Tb
open PySem PySem.Spec PyProof.Rows L2 Ow Pt Rm Ra
theorem Rats.upd {C : Addr} {H : Hp} {rs : List Addr} {ps : List Fr2} (h : Rats C H rs ps) {q : Addr} {o : HO} (n : ∀ (r : Addr) dx fs, H r = some (.ins C dx fs) → r ≠ q) : Rats C (L2.upd H q o) rs ps := Par.imp h fun r p k => by
  refine ⟨.inl ⟨r, rfl, ?_⟩, k.lw, k.b1, k.b2⟩
  obtain ⟨dx, e⟩ := k.rat
  exact ⟨dx, by rw [upd_ne (n r dx _ e)]; exact e⟩
section
variable {P : Program} {w : World} {K : PySem.W.Frag} {mg : Str → Option Value} {base : Heap}
/-! ### points() -/
def spPts (C D : Addr) : Sp := fun vs H Q _ => ∃ x ps, vs = [.ref x] ∧ TabAt C D H x ps ∧ ∀ l rs H', H' l = some (.lst (rs.map V.ref)) → Rats C H' rs ps → Same H H' → H l = none → Q (.ref l) H'
abbrev n_Table_points : List Str := ["self"]
theorem sc_Table_points : FnScope n_Table_points ["self"] (defScope d_Table_points) := ⟨rfl, rfl, rfl, by decide +kernel, rfl, by decide +kernel, by decide +kernel⟩
theorem ok_points {f C D : Addr} {fd : FuncData} (F : FnP K "points" "Table.points" d_Table_points [] f fd) (B : Blt mg) (U : TC K mg D) : FnOk P w K mg base CX0 1 f fd ["self"] (spPts C D) := by
  refine F.ok sc_Table_points (fun vs H Q E h => ?_) (fun cdv A outer s H vs Q E hr h => ?_)
  · obtain ⟨x, ps, rfl, _⟩ := h
    rfl
  · obtain ⟨x, ps, rfl, t, q⟩ := h
    obtain ⟨dx, L, rs, h1, h2, h3⟩ := t.at_
    refine ⟨_, PSs.nox (pss_one (ps_ret (pe_callTy (r := rListOf K) call_list_of (by rfl) B.list PyProof.Rows.boot_list (pa_cons (pe_fld (pv 0) rfl) pa_nil)))), ?_⟩
    refine ⟨_, rfl, x, D, dx, _, _, rfl, h1, U.cl, U.nP, pf_pts L, L, _, rfl, .inl (SqL.of h2), fun l hl => ?_⟩
    exact q l rs _ upd_same (h3.same (same_upd hl)) (same_upd hl) hl
/-! ### steps() -/
def spStp (C D : Addr) : Sp := fun vs H Q _ => ∃ x ps, vs = [.ref x] ∧ TabAt C D H x ps ∧ Bds 1000 ps ∧ ∀ l rs H', H' l = some (.lst (rs.map V.ref)) → Rats C H' rs (stepsOf ps) → Same H H' → H l = none → Q (.ref l) H'
abbrev n_Table_steps : List Str := ["self", "behind", "point", "after"]
theorem sc_Table_steps : FnScope n_Table_steps ["self"] (defScope d_Table_steps) := ⟨rfl, rfl, rfl, by decide +kernel, rfl, by decide +kernel, by decide +kernel⟩
theorem ok_steps {f C D : Addr} {fd : FuncData} (F : FnP K "steps" "Table.steps" d_Table_steps [] f fd) (B : Blt mg) (T : RT K mg C) (U : TC K mg D) (M : RMk P w K mg base C) (oS : OpX P w K mg base C .Sub 6 (spBin minus C)) : FnOk P w K mg base CX0 7 f fd ["self"] (spStp C D) := by
  refine F.ok sc_Table_steps (fun vs H Q E h => ?_) (fun cdv A outer s H vs Q E hr h => ?_)
  · obtain ⟨x, ps, rfl, _⟩ := h
    rfl
  · obtain ⟨x, ps, rfl, t, bd, q⟩ := h
    obtain ⟨dx, L, rs, h1, h2, h3⟩ := t.at_
    have hr3 := hr.mono (by decide : 3 ≤ 6)
    have l5 := t.len
    have lr : rs.length = 5 := by rw [h3.1, l5]
    refine ⟨_, PSs.nox (pss_cons (ps_set (i := 1) sc_Table_steps.nd rfl (Or.inl rfl) (pe_op op_cat (pe_slice sl_list (pe_fld (pv 0) rfl) (po_some pe_int) po_none) (pe_lst (pa_cons (pe_rat1 M hr3 rfl T.mgC pe_int) pa_nil))))
      (pss_one (ps_ret (pe_lc (g := (gTup K 2 (gCons (gName 2) (gCons (gName 3) gNil)))) rfl sc_Table_steps.nd (pi_zip rfl B.zip (pa_cons (pe_fld (pv 0) rfl) (pa_cons (pv 1) pa_nil))) (blkOk_by (own := [("point", 2), ("after", 3)]) (by show blkC n_Table_steps (defScope d_Table_steps) _ _ = true; decide +kernel)) (fun _ _ _ _ _ => pg_tup (by rfl) (pgs_cons (pg_name (i := 2) sc_Table_steps.nd rfl (.inl rfl)) (pgs_cons (pg_name (i := 3) sc_Table_steps.nd rfl (.inl rfl)) pgs_nil))) (fun _ _ _ _ _ => pts_nil) (fun _ _ _ _ _ => (pe_op (op_nm oS T.num hr) (pv 2) (pv 3))))))), ?_⟩
    refine ⟨_, rfl, x, D, dx, _, _, rfl, h1, U.cl, U.nP, pf_pts L, _, rfl, L, _, rfl, SqL.of h2, fun a ha => ?_⟩
    have ec : cutV (rs.map V.ref) (some 1) none = (rs.drop 1).map V.ref := by
      rw [List.map_drop]
      exact cut_from (rs.map V.ref) (i := 1) (by rw [List.length_map]; omega)
    rw [ec]
    have s1 := same_upd (o := .lst ((rs.drop 1).map V.ref)) ha
    refine rat_new (by decide) (bd_one (by decide)) fun z H2 hz s2 hzn => ?_
    rw [low_int] at hz
    refine ⟨(by show 1 ≤ sizeLine; decide), fun b hb => ?_⟩
    have s3 := same_upd (o := .lst [V.ref z]) hb
    have ha3 := s3 _ _ (s2 _ _ (upd_same (H := H) (a := a)))
    refine ⟨a, b, _, _, rfl, rfl, ha3, upd_same, ?_, fun g hg => ?_⟩
    · rw [List.length_map, List.length_drop, lr]
      show 5 ≤ sizeLine
      decide
    have s4 := same_upd (o := .lst ((rs.drop 1).map V.ref ++ [V.ref z])) hg
    have s14 := ((s1.trans s2).trans s3).trans s4
    refine ⟨_, rfl, x, D, dx, _, _, rfl, s14 _ _ h1, U.cl, U.nP, pf_pts L, _, rfl, L, g, _, _, rfl, SqL.of (s14 _ _ h2), SqL.of upd_same, fun D1 hD1 => ?_⟩
    have hz4 : Nm C (upd (upd H2 b (.lst [V.ref z])) g (.lst ((rs.drop 1).map V.ref ++ [V.ref z]))) (.ref z) 0 1 := nm_z (hz.same (s3.trans s4))
    have h34 := h3.same s14
    have hnx : Rats C (upd (upd H2 b (.lst [V.ref z])) g (.lst ((rs.drop 1).map V.ref ++ [V.ref z]))) (rs.drop 1 ++ [z]) (ps.drop 1 ++ [z01]) := Par.app (h34.drop 1) (Par.one hz4)
    have lw := t.lws
    refine lc_el (walk_zip (xs := rs.map V.ref) (ys := (rs.drop 1).map V.ref ++ [V.ref z]) (n := 5) (by rw [List.length_append, List.length_map, List.length_map, List.length_drop, lr]; rfl)) (rel_same hD1) (by decide)
      (fun j v H' => ∃ r p, v = V.ref r ∧ r ≠ D1 ∧ (stepsOf ps)[j]? = some p ∧ Nm C H' (.ref r) p.1 p.2) ?_ ?_ (fun H' s => ⟨SqL.of (s _ _ (s14 _ _ h2)), SqL.of (s _ _ upd_same)⟩) ?_ ?_
    · rintro j v H5 H6 s ⟨r, p, e, n, ep, k⟩
      exact ⟨r, p, e, n, ep, k.same s⟩
    · rintro j v H5 l l' hl5 ⟨r, p, e, n, ep, k⟩
      refine ⟨r, p, e, n, ep, ⟨.inl ⟨r, rfl, ?_⟩, k.lw, k.b1, k.b2⟩⟩
      obtain ⟨dy, h⟩ := k.rat
      exact ⟨dy, by rw [upd_ne n]; exact h⟩
    · rintro i v H5 H6 hi s5 ⟨acc, hacc, _⟩ ⟨Tp, u1, u2, rfl, hTp, rfl, hu1, hu2⟩ R k
      replace hu1 : (rs.map V.ref)[i]? = some u1 := hu1
      replace hu2 : ((rs.drop 1).map V.ref ++ [V.ref z])[i]? = some u2 := hu2
      have e2 : (rs.drop 1).map V.ref ++ [V.ref z] = (rs.drop 1 ++ [z]).map V.ref := by rw [List.map_append]; rfl
      rw [e2] at hu2
      obtain ⟨p, hp, n1⟩ := h34.nms.getL hu1
      obtain ⟨p', hp', n2⟩ := hnx.nms.getL hu2
      have hip := (List.getElem?_eq_some_iff.mp hp).1
      rw [next_get ps hip] at hp'
      cases hp'
      have s6 := s5.trans (same_upd (o := .tup [u1, u2]) hTp)
      obtain ⟨r1, hr1, rfl⟩ : ∃ r, rs[i]? = some r ∧ u1 = .ref r := by
        rw [List.getElem?_map] at hu1
        cases c : rs[i]? with
        | none => rw [c] at hu1; exact nomatch hu1
        | some r => rw [c] at hu1; exact ⟨r, rfl, (Option.some.inj hu1).symm⟩
      have m1 := n1.same s6
      have m2 := n2.same s6
      refine ⟨Tp, _, rfl, SqT.of upd_same, rfl, _, _, rfl, _, _, rfl, rfl, rfl, ?_⟩
      refine ⟨_, rfl, _, rfl, r1, p.1, p.2, _, _, rfl, m1.rat, m2.at_, r1, u2, p.1, p.2, _, _, rfl, m1, m2, fun q H7 hq s7 => ?_⟩
      have est := steps_get hp
      have lst := lw_minus m1.lw m2.lw
      have b1 := bd.get hp
      have b2 : Bd 1000 (ps[i + 1]?.getD z01).1 ∧ Bd 1000 (ps[i + 1]?.getD z01).2 := by
        cases c : ps[i + 1]? with
        | none => exact ⟨bd_zero, bd_one (by decide)⟩
        | some r => exact bd.get c
      have hd := mul_ne m1.lw.pos m2.lw.pos
      refine k _ H7 (fun b o e => s7 _ _ ((same_upd (o := .tup [V.ref r1, u2]) hTp) _ _ e)) ⟨q, _, rfl, fun zz => ?_, est, ⟨.inl ⟨q, rfl, hq⟩, lst, ?_, ?_⟩⟩
      · obtain ⟨dy, h⟩ := hq
        have hL7 := s7 _ _ ((same_upd (o := .tup [V.ref r1, u2]) hTp) _ _ hacc)
        rw [← zz, h] at hL7
        cases hL7
      · exact bd_low1 hd (((b1.1.mul b2.2).sub (b2.1.mul b1.2)).mono (by decide))
      · exact bd_low2 hd ((b1.2.mul b2.2).mono (by decide))
    · rintro H5 acc s5 hD5 hlen he
      obtain ⟨qs, rfl, hql, _⟩ := els V.ref (fun _ => True) acc fun j v hv => by
        obtain ⟨r, p, e, _⟩ := he j v hv
        exact ⟨r, e, trivial⟩
      refine q D1 qs H5 hD5 ⟨by rw [hql, hlen, steps_len, l5], fun i r p e1 e2 => ?_⟩ (s14.trans s5) ?_
      · obtain ⟨r', p', er, _, ep, k⟩ := he i (.ref r) (by rw [List.getElem?_map, e1]; rfl)
        cases er
        rw [ep] at e2
        cases e2
        exact k
      · exact same_none s14 hD1
end
end Tb
/-! What a table tells: single points, how many, ==, repr. -/
namespace Tb
open PySem PySem.Spec PyProof.Rows L2 Ow Pt Rm Ra
/-- a property, as others read it -/
structure Prp (P : Program) (w : World) (K : PySem.W.Frag) (mg : Str → Option Value) (base : Heap) (k : Nat) (C : Addr) (x : Str) (sp : Sp) : Prop where
  ex : ∃ p g fd, PropOf K C x p g ∧ FnOk P w K mg base CX0 k g fd ["self"] sp ∧ Binds K fd ["self"] []
theorem pe_pr {X : Cx} {k : Nat} {C : Addr} {x : Str} {sp : Sp} {pos : Pos} {e : Expr} {ta : TE} (D : Prp X.prog X.w X.K X.mg X.base k C x sp) (he : PE X e ta) (c : Cls X.K C) (hr : Room (k + 1) X.A) (hab : attributeBase e x X.env (eval e X.env) = eval e X.env) : PE X (.Attribute e x pos) (tProp C sp [] E0 ta) := by
  obtain ⟨p, g, fd, hp, F, hb⟩ := D.ex
  exact pe_prop he c hp F hr hb .nil pass0 hab
section
variable {P : Program} {w : World} {K : PySem.W.Frag} {mg : Str → Option Value} {base : Heap}
/-! ### t[i] -/
def spIx (C D : Addr) : Sp := fun vs H Q _ => ∃ x ps n, vs = [.ref x, .int ((n : Nat) + 1 : Int)] ∧ TabAt C D H x ps ∧ n < 5 ∧ ∀ r p, ps[n]? = some p → Nm C H (.ref r) p.1 p.2 → Q (.ref r) H
abbrev n_Table___getitem__ : List Str := ["self", "at"]
theorem sc_Table___getitem__ : FnScope n_Table___getitem__ ["self", "at"] (defScope d_Table___getitem__) := ⟨rfl, rfl, rfl, by decide +kernel, rfl, by decide +kernel, by decide +kernel⟩
theorem ok_item {f C D : Addr} {fd : FuncData} (F : FnP K "__getitem__" "Table.__getitem__" d_Table___getitem__ [] f fd) (U : TC K mg D) (dPl : Dfn P w K mg base 2 "is_place" ["value"] (spPlace K)) : FnOk P w K mg base CX0 3 f fd ["self", "at"] (spIx C D) := by
  refine F.ok sc_Table___getitem__ (fun vs H Q E h => ?_) (fun cdv A outer s H vs Q E hr h => ?_)
  · obtain ⟨x, ps, n, rfl, _⟩ := h
    rfl
  · obtain ⟨x, ps, n, rfl, t, hn, q⟩ := h
    obtain ⟨dx, L, rs, h1, h2, h3⟩ := t.at_
    have l5 := t.len
    have hr5 : n < rs.length := by rw [h3.1, l5]; exact hn
    refine ⟨_, PSs.nox (pss_cons (ps_if (pt_not (pt_val (pe_use dPl hr rfl (pa_cons (pv 1) pa_nil)))) pss_never pss_nil)
      (pss_one (ps_ret (pe_ix ix_list (pe_fld (pv 0) rfl) (pe_op op_sub (pv 1) pe_int) (fun _ _ => rfl))))), ?_⟩
    refine ⟨_, rfl, _, rfl, by omega, by omega, _, rfl, ?_⟩
    refine iteF ?_
    have e := List.getElem?_eq_getElem hr5
    have hat : atI (rs.map V.ref) (((n : Nat) + 1 : Int) - 1) = some (V.ref rs[n]) := by
      rw [show ((n : Nat) + 1 : Int) - 1 = ((n : Nat) : Int) by omega]
      exact atI_nat (by rw [List.getElem?_map, e]; rfl)
    obtain ⟨p, hp, k⟩ := h3.getL e
    refine ⟨_, rfl, x, D, dx, _, _, rfl, h1, U.cl, U.nP, pf_pts L, _, rfl, _, _, rfl, rfl, L, _, _, _, rfl, rfl, SqL.of h2, hat, ?_⟩
    exact q _ p hp k
/-! ### paid -/
def spPaid (C D : Addr) : Sp := fun vs H Q _ => ∃ x ps, vs = [.ref x] ∧ TabAt C D H x ps ∧ ∀ H', Same H H' → Q (.int (paidN ps : Nat)) H'
abbrev n_Table_paid : List Str := ["self", "point"]
theorem sc_Table_paid : FnScope n_Table_paid ["self"] (defScope d_Table_paid) := ⟨rfl, rfl, rfl, by decide +kernel, rfl, by decide +kernel, by decide +kernel⟩
/-- those above 0 of the points, gathered -/
theorem gather {C L : Addr} {te : TE} {vs : List Nat} {σ : L2.St} {g : TG} {H1 : Hp} {D1 : Addr} {rs : List Addr} {ps : List Fr2} {Qd : Hp → Prop} {tt : TT} (h3 : Rats C H1 rs ps) (hL : H1 L = some (.lst (rs.map V.ref))) (hD : H1 D1 = none) (hz : ps.length ≤ 1000) (h : Fr2 → V) (El : V → Fr2 → Prop)
    (hs : ∀ r p, p ∈ ps → ∀ H, Same H1 H → Nm C H (.ref r) p.1 p.2 → ∀ (RR : VK) (SS : Hp → Prop), (0 < p.1 → ∀ v H4, Same H H4 → El v p → RR v H4) → (¬ 0 < p.1 → ∀ H4, Same H H4 → SS H4) →
      g (.ref r) (wipe σ vs) H fun σ2 H2 => wipe σ2 vs = wipe σ vs ∧ tt σ2 H2 fun b H3 => if b = true then te σ2 H3 RR else SS H3)
    (hd : ∀ H acc, Same H1 H → H D1 = some (.lst acc) → Par El acc (ps.filter fun p => decide (0 < p.1)) → Qd H) :
    ∃ W : Nat → Nat → Hp → Prop, (∃ m, W 0 m (L2.upd H1 D1 (.lst []))) ∧ ∀ i m H, W i m H →
      ((Itl K L).stop i H ∧ Qd H) ∨ ((Itl K L).go i H ∧ ∃ Nx : Hp → Prop, (∀ H', Nx H' → ∃ m', m' < m ∧ W (i + 1) m' H') ∧ ∀ x H', (Itl K L).yld i H x H' → g x (wipe σ vs) H' fun σ2 H2 => wipe σ2 vs = wipe σ vs ∧ tt σ2 H2 fun b H3 =>
        if b = true then te σ2 H3 fun y H4 => ∃ acc, H4 D1 = some (.lst acc) ∧ acc.length < sizeLine ∧ Nx (L2.upd H4 D1 (.lst (acc ++ [y]))) else Nx H3) := by
  have lr := h3.1
  refine lc_it (walk_list (xs := rs.map V.ref)) (fun i H' => Same H1 H' ∧ ∃ acc, H' D1 = some (.lst acc) ∧ Par El acc ((ps.take i).filter fun p => decide (0 < p.1))) ⟨same_upd hD, [], upd_same, Par.nil⟩ (fun i H' _ h => SqL.of (h.1 _ _ hL)) ?_ ?_
  · rintro i x H5 H6 hi ⟨s5, acc, hacc, pa⟩ ⟨rfl, hx⟩
    rw [List.getElem?_map] at hx
    cases c : rs[i]? with
    | none => rw [c] at hx; exact nomatch hx
    | some r =>
      rw [c] at hx
      cases hx
      obtain ⟨p, hp, k⟩ := h3.getL c
      have hl : acc.length ≤ 1000 := by
        rw [pa.1]
        exact Nat.le_trans (List.length_filter_le _ _) (by rw [List.length_take]; omega)
      have et : ps.take (i + 1) = ps.take i ++ [p] := by rw [List.take_add_one, hp]; rfl
      refine hs r p (List.mem_of_getElem? hp) H6 s5 (k.same s5) _ _ (fun c0 v H7 s7 el => ?_) fun c0 H7 s7 => ?_
      · refine ⟨acc, s7 _ _ hacc, Nat.lt_of_le_of_lt hl (by decide), fun b o e => ?_, _, upd_same, ?_⟩
        · rw [upd_ne (ne_of_none e hD)]
          exact s7 _ _ (s5 _ _ e)
        · rw [et, List.filter_append, List.filter_cons_of_pos (by simpa using c0)]
          exact pa.app (Par.one el)
      · refine ⟨s5.trans s7, acc, s7 _ _ hacc, ?_⟩
        rw [et, List.filter_append, List.filter_cons_of_neg (by simpa using c0)]
        simpa using pa
  · rintro H5 ⟨s5, acc, hacc, pa⟩
    rw [List.length_map, lr, List.take_length] at pa
    exact hd H5 acc s5 hacc pa
theorem ok_paid {f C D : Addr} {fd : FuncData} (F : FnP K "paid" "Table.paid" d_Table_paid [] f fd) (B : Blt mg) (T : RT K mg C) (U : TC K mg D) (pS : PS_ P w K mg base C) : FnOk P w K mg base CX0 3 f fd ["self"] (spPaid C D) := by
  refine F.ok sc_Table_paid (fun vs H Q E h => ?_) (fun cdv A outer s H vs Q E hr h => ?_)
  · obtain ⟨x, ps, rfl, _⟩ := h
    rfl
  · obtain ⟨x, ps, rfl, t, q⟩ := h
    obtain ⟨dx, L, rs, h1, h2, h3⟩ := t.at_
    have hr2 := hr
    refine ⟨_, PSs.nox (pss_one (ps_ret (pe_callB (r := rLenS K) call_len_seq (by rfl) B.len PySem.boot_len (pa_cons (pe_lc rfl sc_Table_paid.nd (pi_list (pe_fld (pv 0) rfl)) (blkOk_by (own := [("point", 1)]) (by show blkC n_Table_paid (defScope d_Table_paid) _ _ = true; decide +kernel)) (fun _ _ _ _ _ => pg_name (i := 1) sc_Table_paid.nd rfl (.inl rfl)) (fun _ _ _ _ _ => (pts_one (pt_cmpR op_gt (pe_prp pS (pv 1) T.cl hr2 rfl) pe_int (nomark _)))) (fun _ _ _ _ _ => (pv 1))) pa_nil)))), ?_⟩
    refine ⟨_, rfl, x, D, dx, _, _, rfl, h1, U.cl, U.nP, pf_pts L, L, rfl, ⟨_, SqL.of h2⟩, fun D1 hD1 => ?_⟩
    refine gather (ps := ps) h3 h2 hD1 (by rw [t.len]; decide) (fun p => V.non) (fun _ _ => True) ?_ ?_
    · intro r p hp H5 s5 k RR SS k1 k2
      obtain ⟨dy, h5⟩ := k.rat
      refine ⟨rfl, ?_⟩
      refine ⟨_, rfl, r, dy, _, rfl, h5, r, p.1, p.2, rfl, ⟨dy, h5⟩, _, _, rfl, rfl, _, rfl, ?_⟩
      by_cases c : 0 < p.1
      · rw [decide_eq_true (show (0 : Int) < p.1.sign by rw [Int.sign_eq_one_of_pos c]; decide)]
        refine iteT ?_
        exact ⟨_, rfl, k1 c _ _ (Same.refl _) trivial⟩
      · rw [decide_eq_false (fun z => c (by
          have := Int.sign_pos_iff.mp z
          exact this))]
        refine iteF ?_
        exact k2 c _ (Same.refl _)
    · intro H5 acc s5 hD5 pa
      refine ⟨D1, acc, rfl, .inl (SqL.of hD5), ?_⟩
      rw [pa.1]
      exact q _ s5
/-! ### t == v -/
def spTEq (K : PySem.W.Frag) (C D : Addr) : Sp := fun vs H Q _ => ∃ x ps v, vs = [.ref x, v] ∧ TabAt C D H x ps ∧ ((∃ y qs, v = .ref y ∧ TabAt C D H y qs ∧ ∀ H', Same H H' → Q (.bl (decide (ps = qs))) H') ∨ ∃ t, TyX K H v t ∧ PySem.W.kitOne K t (.ref D) = some false ∧ Q (.bl false) H)
abbrev n_Table___eq__ : List Str := ["self", "other"]
theorem sc_Table___eq__ : FnScope n_Table___eq__ ["self", "other"] (defScope d_Table___eq__) := ⟨rfl, rfl, rfl, by decide +kernel, rfl, by decide +kernel, by decide +kernel⟩
/-- what is asked of the class besides -/
structure TK (K : PySem.W.Frag) (D : Addr) : Prop where
  ca : PySem.W.findIn K (.ref D) "__class__" = some (some (.builtin "object.__class__"))
  cm : PySem.W.mroIn K D (.type "object") = some true
  kDD : PySem.W.kitOne K (.ref D) (.ref D) = some true
theorem ty_tab {C D : Addr} (T : RT K mg C) (U : TC K mg D) (Z : TK K D) {H : Hp} {x : Addr} {ps : List Fr2} (h : TabAt C D H x ps) : TyX K H (.ref x) (.ref D) := by
  obtain ⟨dx, L, rs, h1, _⟩ := h.at_
  exact .base (.ins h1 U.cl Z.ca T.cg T.ct Z.cm)
/-- the truths of the places -/
def eqs (ps qs : List Fr2) (i : Nat) : Bool := decide (ps[i]?.getD z01 = qs[i]?.getD z01)
theorem eqs_all {ps qs : List Fr2} {n : Nat} (h1 : ps.length = n) (h2 : qs.length = n) : (List.range n).all (eqs ps qs) = decide (ps = qs) := by
  rw [Bool.eq_iff_iff, List.all_eq_true, decide_eq_true_iff]
  constructor
  · intro h
    refine List.ext_getElem? fun i => ?_
    rcases Nat.lt_or_ge i n with c | c
    · have := of_decide_eq_true (h i (List.mem_range.mpr c))
      rw [List.getElem?_eq_getElem (by omega), List.getElem?_eq_getElem (by omega)] at this ⊢
      exact congrArg some this
    · rw [List.getElem?_eq_none (by omega), List.getElem?_eq_none (by omega)]
  · rintro rfl i _
    exact decide_eq_true rfl
theorem dr_lists {C : Addr} {H : Hp} {a c : Addr} {rs ss : List Addr} {ps qs : List Fr2} (ha : H a = some (.lst (rs.map V.ref))) (hc : H c = some (.lst (ss.map V.ref))) (h1 : Rats C H rs ps) (h2 : Rats C H ss qs) (hl : ps.length = qs.length) : DListB (DR C) (.ref a) (.ref c) (decide (ps = qs)) H := by
  refine ⟨a, c, rs.map V.ref, ss.map V.ref, eqs ps qs, rfl, rfl, ha, hc, by rw [List.length_map, List.length_map, h1.1, h2.1, hl], fun i z w e1 e2 => ?_, ?_⟩
  · rw [List.getElem?_map] at e1 e2
    cases c1 : rs[i]? with
    | none => rw [c1] at e1; exact nomatch e1
    | some r => cases c2 : ss[i]? with
      | none => rw [c2] at e2; exact nomatch e2
      | some s =>
        rw [c1] at e1
        rw [c2] at e2
        cases e1
        cases e2
        obtain ⟨p, hp, k1⟩ := h1.getL c1
        obtain ⟨q, hq, k2⟩ := h2.getL c2
        refine ⟨r, s, p.1, p.2, q.1, q.2, rfl, rfl, k1.rat, k2.rat, ?_⟩
        unfold eqs
        rw [hp, hq]
        rfl
  · rw [List.length_map, h1.1, eqs_all rfl hl.symm]
theorem ok_teq {f C D : Addr} {fd : FuncData} (F : FnP K "__eq__" "Table.__eq__" d_Table___eq__ [] f fd) (B : Blt mg) (T : RT K mg C) (U : TC K mg D) (Z : TK K D) (Q_ : EqX P w K mg base C) : FnOk P w K mg base CX0 3 f fd ["self", "other"] (spTEq K C D) := by
  refine F.ok sc_Table___eq__ (fun vs H Q E h => ?_) (fun cdv A outer s H vs Q E hr h => ?_)
  · obtain ⟨x, ps, v, rfl, _⟩ := h
    rfl
  · obtain ⟨x, ps, v, rfl, t, h⟩ := h
    obtain ⟨fq, fqd, oq, Fq, bq⟩ := id Q_.ex
    have hr2 := hr
    have monR := monR C
    have eqR : EqB (cxOf CX0 P w K mg base n_Table___eq__ "Table.__eq__" (defScope d_Table___eq__) f cdv A outer s H E).nox 1 (DR C) := eqB_own (ownR T Q_.nf) oq Fq bq pass0
    refine ⟨_, PSs.nox (pss_one (ps_ret (pe_and (pe_callB call_isi (by rfl) B.isi boot_isinstance (pa_cons (pv 1) (pa_cons (pe_glob (v := .ref D) rfl U.mgT rfl) pa_nil))) (pe_one (pe_cmpR (op_eqLB monR eqR hr2) (pe_fld (pv 0) rfl) (pe_fld (pv 1) rfl) (nomark _)))))), ?_⟩
    obtain ⟨dx, L, rs, h1, h2, h3⟩ := t.at_
    rcases h with ⟨y, qs, rfl, t2, q⟩ | ⟨ty, hty, hk, q⟩
    · obtain ⟨dy, L2, ss, g1, g2, g3⟩ := t2.at_
      refine ⟨_, rfl, _, .ref D, .ref D, _, true, rfl, .own D, ty_tab T U Z t2, Z.kDD, true, rfl, ?_⟩
      refine iteT ?_
      refine ⟨_, rfl, x, D, dx, _, _, rfl, h1, U.cl, U.nP, pf_pts L, _, rfl, y, D, dy, _, _, rfl, g1, U.cl, U.nP, pf_pts L2, ?_⟩
      exact ⟨_, dr_lists h2 g2 h3 g3 (by rw [t.len, t2.len]), fun H' s => q H' s⟩
    · refine ⟨_, rfl, v, .ref D, ty, .ref D, false, rfl, .own D, hty, hk, false, rfl, ?_⟩
      exact iteF q
end
end Tb
/-! A table shown. -/
namespace Tb
open PySem PySem.Spec PyProof.Rows L2 Ow Pt Rm Ra
def shwP (p : Fr2) : Str := shw p.1 p.2
theorem shw_len {n d : Int} (hn : Bd 1900 n) (hd : Bd 1900 d) : (shw n d).length ≤ 4000 := by
  have h1 := it_len hn
  have h2 := it_len hd
  unfold shw
  rw [strLen_append, strLen_append, strLen_append, strLen_append, len6, len2, len3]
  omega
def tabText (ps : List Fr2) : Str := ("Table(" ++ Str.join ", " ((ps.filter fun p => decide (0 < p.1)).map shwP)) ++ ")"
theorem join_len (sep : Str) (m : Nat) : ∀ ts : List Str, (∀ t ∈ ts, t.length ≤ m) → (Str.join sep ts).length ≤ ts.length * (m + sep.length)
  | [], _ => by
    show Str.empty.length ≤ _
    exact Nat.zero_le _
  | [t], h => by
    have := h t List.mem_cons_self
    show t.length ≤ 1 * (m + sep.length)
    omega
  | t :: u :: r, h => by
    have a := h t List.mem_cons_self
    have b := join_len sep m (u :: r) fun x hx => h x (List.mem_cons_of_mem _ hx)
    show (t ++ sep ++ Str.join sep (u :: r)).length ≤ ((u :: r).length + 1) * (m + sep.length)
    rw [strLen_append, strLen_append, Nat.succ_mul]
    omega
theorem strs_of {acc : List V} {ps : List Fr2} (h : Par (fun v p => v = V.str (shwP p)) acc ps) : acc = (ps.map shwP).map V.str := by
  refine List.ext_getElem? fun i => ?_
  rw [List.map_map, List.getElem?_map]
  cases c : acc[i]? with
  | none =>
    rw [List.getElem?_eq_none (by rw [← h.1]; exact List.getElem?_eq_none_iff.mp c)]
    rfl
  | some v =>
    obtain ⟨p, hp, e⟩ := h.getL c
    rw [hp, e]
    rfl
theorem sum_le (m : Nat) : ∀ ts : List Str, (∀ t ∈ ts, t.length ≤ m) → (ts.map (·.length)).sum ≤ ts.length * m
  | [], _ => by simp
  | t :: r, h => by
    have a := h t List.mem_cons_self
    have b := sum_le m r fun x hx => h x (List.mem_cons_of_mem _ hx)
    rw [List.map_cons, List.sum_cons, List.length_cons, Nat.succ_mul]
    omega
section
variable {P : Program} {w : World} {K : PySem.W.Frag} {mg : Str → Option Value} {base : Heap}
def spTRepr (C D : Addr) : Sp := fun vs H Q _ => ∃ x ps, vs = [.ref x] ∧ TabAt C D H x ps ∧ Bds 1900 ps ∧ ∀ H', Same H H' → Q (.str (tabText ps)) H'
abbrev n_Table___repr__ : List Str := ["self", "told", "point"]
theorem sc_Table___repr__ : FnScope n_Table___repr__ ["self"] (defScope d_Table___repr__) := ⟨rfl, rfl, rfl, by decide +kernel, rfl, by decide +kernel, by decide +kernel⟩
theorem pos_len {ps : List Fr2} (h5 : ps.length = 5) (b : Bds 1900 ps) : ((ps.filter fun p => decide (0 < p.1)).map shwP).length ≤ 5 ∧ ∀ t ∈ (ps.filter fun p => decide (0 < p.1)).map shwP, t.length ≤ 4000 := by
  refine ⟨?_, fun t ht => ?_⟩
  · rw [List.length_map]
    exact Nat.le_trans (List.length_filter_le _ _) (by omega)
  · obtain ⟨p, hp, rfl⟩ := List.mem_map.mp ht
    have := b p (List.mem_filter.mp hp).1
    exact shw_len this.1 this.2
theorem ok_trepr {f C D : Addr} {fd : FuncData} (F : FnP K "__repr__" "Table.__repr__" d_Table___repr__ [] f fd) (B : Blt mg) (T : RT K mg C) (U : TC K mg D) (pS : PS_ P w K mg base C) (sR : ShX P w K mg base C "__repr__" shw) : FnOk P w K mg base CX0 3 f fd ["self"] (spTRepr C D) := by
  refine F.ok sc_Table___repr__ (fun vs H Q E h => ?_) (fun cdv A outer s H vs Q E hr h => ?_)
  · obtain ⟨x, ps, rfl, _⟩ := h
    rfl
  · obtain ⟨x, ps, rfl, t, bd, q⟩ := h
    obtain ⟨dx, L, rs, h1, h2, h3⟩ := t.at_
    have hr2 := hr
    refine ⟨_, PSs.nox (pss_cons (ps_setLc (i := 1) rfl sc_Table___repr__.nd rfl rfl (by rfl) (pi_list (pe_fld (pv 0) rfl)) (blkOk_by (own := [("point", 2)]) (by show blkC n_Table___repr__ (defScope d_Table___repr__) _ _ = true; decide +kernel)) (fun _ _ _ _ _ => pg_name (i := 2) sc_Table___repr__.nd rfl (.inl rfl)) (fun _ _ _ _ _ => (pts_one (pt_cmpR op_gt (pe_prp pS (pv 2) T.cl hr2 rfl) pe_int (nomark _)))) (fun _ _ _ _ _ => (pe_callB (shown_repr sR hr2) (by rfl) B.repr PyProof.Rows.boot_repr (pa_cons (pv 2) pa_nil))))
      (pss_one (ps_ret (pe_joined (.cons pe_str (.cons (pe_fmt (pe_join pe_str (pv 1))) (.cons pe_str .nil))))))), ?_⟩
    refine ⟨_, rfl, x, D, dx, _, _, rfl, h1, U.cl, U.nP, pf_pts L, L, rfl, ⟨_, SqL.of h2⟩, fun D1 hD1 => ?_⟩
    refine gather (ps := ps) h3 h2 hD1 (by rw [t.len]; decide) (fun p => V.non) (fun v p => v = V.str (shwP p)) ?_ ?_
    · intro r p hp H5 s5 k RR SS k1 k2
      obtain ⟨dy, h5⟩ := k.rat
      refine ⟨rfl, ?_⟩
      refine ⟨_, rfl, r, dy, _, rfl, h5, r, p.1, p.2, rfl, ⟨dy, h5⟩, _, _, rfl, rfl, _, rfl, ?_⟩
      by_cases c : 0 < p.1
      · rw [decide_eq_true (show (0 : Int) < p.1.sign by rw [Int.sign_eq_one_of_pos c]; decide)]
        refine iteT ?_
        exact ⟨_, rfl, r, dy, _, rfl, h5, r, p.1, p.2, rfl, ⟨dy, h5⟩, (bd p hp).1, (bd p hp).2, _, rfl, k1 c _ _ (Same.refl _) rfl⟩
      · rw [decide_eq_false (fun z => c (Int.sign_pos_iff.mp z))]
        refine iteF ?_
        exact k2 c _ (Same.refl _)
    · intro H5 acc s5 hD5 pa
      rw [strs_of pa] at hD5
      obtain ⟨n5, l4⟩ := pos_len t.len bd
      have jl := join_len ", " 4000 _ l4
      have sl := sum_le 4000 _ l4
      rw [len2] at jl
      have jl2 : (Str.join ", " ((ps.filter fun p => decide (0 < p.1)).map shwP)).length ≤ 20010 := Nat.le_trans jl (by omega)
      have l6 : (Str.ofString "Table(").length = 6 := by decide +kernel
      refine ⟨_, rfl, ?_, ?_⟩
      · rw [PySem.Str.empty_append, l6]
        exact line _ (by decide)
      refine ⟨⟨_, rfl⟩, _, rfl, ", ", D1, (ps.filter fun p => decide (0 < p.1)).map shwP, rfl, rfl, .inl (SqL.of hD5), by rw [len2]; omega, ?_⟩
      rw [TL.join_eq]
      refine .inl ⟨_, rfl, line _ (Nat.le_trans jl2 (by decide)), _, rfl, ?_, ?_⟩
      · rw [PySem.Str.empty_append, strLen_append, l6]
        exact line _ (Nat.le_trans (Nat.add_le_add_left jl2 6) (by decide))
      refine ⟨_, rfl, ?_, ?_⟩
      · rw [PySem.Str.empty_append, strLen_append, strLen_append, l6, len3]
        exact line _ (Nat.le_trans (Nat.add_le_add_right (Nat.add_le_add_left jl2 6) 1) (by decide))
      · rw [PySem.Str.empty_append]
        exact q _ s5
end
end Tb
namespace La
open PySem PySem.Spec PyProof.Rows L2 Ow Pt Rm Ra


structure LT (mg : Str → Option Value) : Prop where
  len : mg "len" = none
  abs : mg "abs" = none
  max : mg "max" = none
  min : mg "min" = none
  int : mg "int" = none
  dm : mg "divmod" = none
  range : mg "range" = none
  all : mg "all" = none
  zip : mg "zip" = none
  repr : mg "repr" = none
  str : mg "str" = none
  isi : mg "isinstance" = none

section
variable {P : Program} {w : World} {K : PySem.W.Frag} {mg : Str → Option Value} {base : Heap}

/-! ### _law_pot -/
def spPot (K : PySem.W.Frag) : Sp := fun vs H Q _ => ∃ (a : Addr) (ns : List Int) (k : Int), vs = [.ref a, .int k] ∧ SqL K H a (ns.map V.int) ∧ 0 ≤ k ∧ ∀ p x y, 0 ≤ x → H p = none → Q (.ref p) (upd H p (.lst [.int x, .int y]))
theorem scPot : FnScope ["_law_script", "_law_k", "_law_cell"] ["_law_script", "_law_k"] (defScope sPot) := ⟨rfl, rfl, rfl, by decide +kernel, rfl, by decide +kernel, by decide +kernel⟩
theorem ok_pot {f : Addr} {fd : FuncData} (F : FnP K "_law_pot" "_law_pot" sPot [] f fd) (T : LT mg) : FnOk P w K mg base CX0 1 f fd ["_law_script", "_law_k"] (spPot K) := by
  refine F.ok scPot (fun vs H Q E h => ?_) (fun cdv A outer s H vs Q E hr h => ?_)
  · obtain ⟨a, ns, k, rfl, _⟩ := h
    rfl
  · obtain ⟨a, ns, k, rfl, hs, hk, q⟩ := h
    refine ⟨_, PSs.nox (pss_cons (ps_set (i := 2) scPot.nd rfl (Or.inl rfl) (pe_ifExp (pt_cmpR op_lt (pv 1) (pe_callB call_len_seq (by rfl) T.len PySem.boot_len (pa_cons (pv 0) pa_nil)) (nomark _))
        (pe_callB call_abs (by rfl) T.abs PyProof.Rows.boot_abs (pa_cons (pe_ix ix_list (pv 0) (pv 1) (fun _ _ => rfl)) pa_nil))
        (pe_op op_add (pe_op op_mul pe_int (pv 1)) pe_int)))
      (pss_one (ps_ret (pe_lst (pa_cons (pe_callB (call_max2 rfl) (by rfl) T.max PyProof.Rows.boot_max (pa_cons pe_int (pa_cons (pe_op op_sub (pv 2) (pe_op op_pow pe_int pe_int)) pa_nil)))
        (pa_cons (pe_op op_add (pe_op op_mod (pe_callTy call_int1 rfl T.int PyProof.Rows.boot_int (pa_cons
          (pe_op op_add (pe_op op_add (pe_op op_mul (pe_op op_mod (pe_callTy call_int1 rfl T.int PyProof.Rows.boot_int (pa_cons (pv 2) pa_nil)) pe_int) pe_int) (pe_op op_mul pe_int (pv 1))) pe_int) pa_nil)) pe_int) pe_int) pa_nil)))))), ?_⟩
    have fin : ∀ c : Int, (tRet (tLst (tCons (tCB (fun xs H Q => ∃ i j, xs = [V.int i, V.int j] ∧ Q (.int (if j > i then j else i)) H) (tCons (tC (.int 0)) (tCons (tOp (rI0 fun i j => .int (i - j)) (tVar 2) (tOp (rI CPow fun i j => .int (i ^ j.toNat)) (tC (.int 10)) (tC (.int 18)))) tNil)))
        (tCons (tOp (rI0 fun i j => .int (i + j)) (tOp (rI (fun _ j => 0 < j) fun i j => .int (i % j)) (tCB (fun xs H Q => (∃ i, xs = [V.int i] ∧ Q (.int i) H) ∨ ∃ k, xs = [V.bl k] ∧ Q (.int (if k then 1 else 0)) H) (tCons
          (tOp (rI0 fun i j => .int (i + j)) (tOp (rI0 fun i j => .int (i + j)) (tOp (rI CMul fun i j => .int (i * j)) (tOp (rI (fun _ j => 0 < j) fun i j => .int (i % j)) (tCB (fun xs H Q => (∃ i, xs = [V.int i] ∧ Q (.int i) H) ∨ ∃ k, xs = [V.bl k] ∧ Q (.int (if k then 1 else 0)) H) (tCons (tVar 2) tNil)) (tC (.int 2147483563))) (tC (.int 40361))) (tOp (rI CMul fun i j => .int (i * j)) (tC (.int 9103)) (tVar 1))) (tC (.int 71))) tNil)) (tC (.int 2147483497))) (tC (.int 1))) tNil))))
        { nx := fun _ H' => Q .non H', rt := Q } [some (.ref a), some (.int k), some (.int c)] H := by
      intro c
      refine ⟨_, rfl, _, _, rfl, rfl, ⟨by decide, by decide, by decide⟩, _, _, rfl, rfl, _, _, rfl, ?_⟩
      refine ⟨_, rfl, .inl ⟨_, rfl, _, _, rfl, rfl, (by show (0 : Int) < 2147483563; decide), _, _, rfl, rfl, .inr ⟨by decide, by decide⟩, ?_⟩⟩
      refine ⟨_, rfl, _, _, rfl, rfl, .inl ⟨by decide, by decide⟩, _, _, rfl, rfl, _, _, rfl, rfl, .inl ⟨_, rfl, _, _, rfl, rfl, (by show (0 : Int) < 2147483497; decide), _, _, rfl, rfl, (by show 2 ≤ sizeLine; decide), fun p hp => ?_⟩⟩
      refine q p _ _ ?_ hp
      by_cases h : c - 10 ^ (18 : Int).toNat > 0
      · rw [if_pos h]; omega
      · rw [if_neg h]; omega
    refine ⟨_, rfl, _, rfl, a, _, rfl, .inl hs, _, _, rfl, rfl, _, rfl, ?_⟩
    refine ite2 (fun c => ?_) (fun c => ?_)
    · have c' : k < ((ns.map V.int).length : Int) := of_decide_eq_true c
      rw [List.length_map] at c'
      obtain ⟨j, rfl⟩ : ∃ j : Nat, k = (j : Int) := ⟨k.toNat, by omega⟩
      have hj : j < ns.length := by omega
      refine ⟨_, rfl, _, rfl, a, _, _, _, rfl, rfl, hs, atI_nat (v := V.int ns[j]) (by rw [List.getElem?_map, List.getElem?_eq_getElem hj]; rfl), _, rfl, ?_⟩
      exact fin _
    · refine ⟨_, rfl, _, _, rfl, rfl, .inl ⟨by decide, by decide⟩, _, _, rfl, rfl, ?_⟩
      exact fin _

/-! ### _law_draw -/
def spDraw : Sp := fun vs H Q _ => ∃ (p : Addr) (m : Int), vs = [.ref p, .int m] ∧ Pot H p ∧ 0 < m ∧ Bd 8000 m ∧ ∀ r H', 0 ≤ r → r < m → Stp p H H' → Q (.int r) H'
theorem scDraw : FnScope ["_law_pot_here", "_law_many", "_law_digit"] ["_law_pot_here", "_law_many"] (defScope sDraw) := ⟨rfl, rfl, rfl, by decide +kernel, rfl, by decide +kernel, by decide +kernel⟩
theorem stp_set {p : Addr} {H : Hp} {a b : Int} (h : 0 ≤ a) {o : HO} {H1 : Hp} (k : ∀ q u, q ≠ p → H q = some u → H1 q = some u) : Stp p H (upd H1 p (.lst [.int a, .int b])) :=
  ⟨fun q u n e => by rw [upd_ne n]; exact k q u n e, ⟨a, b, upd_same, h⟩⟩
theorem ok_draw {f : Addr} {fd : FuncData} (F : FnP K "_law_draw" "_law_draw" sDraw [] f fd) (T : LT mg) : FnOk P w K mg base CX0 1 f fd ["_law_pot_here", "_law_many"] spDraw := by
  refine F.ok scDraw (fun vs H Q E h => ?_) (fun cdv A outer s H vs Q E hr h => ?_)
  · obtain ⟨p, m, rfl, _⟩ := h
    rfl
  · obtain ⟨p, m, rfl, ⟨a, b, hp, h0⟩, hm, bm, q⟩ := h
    have ix0 : ∀ x y : Int, atI [V.int x, V.int y] 0 = some (.int x) := fun x y => rfl
    have ix1 : ∀ x y : Int, atI [V.int x, V.int y] 1 = some (.int y) := fun x y => rfl
    refine ⟨_, PSs.nox (pss_cons (ps_if (pt_cmpR op_gt (pe_ix ix_list (pv 0) pe_int (fun _ _ => rfl)) pe_int (nomark _))
        (pss_cons (ps_asg (pe_callB call_divmodW (by rfl) T.dm PyProof.Rows.boot_divmod (pa_cons (pe_ix ix_list (pv 0) pe_int (fun _ _ => rfl)) (pa_cons (pv 1) pa_nil)))
          (pg_tup (by rfl) (pgs_cons (pg_sub (pv 0) pe_int set_list) (pgs_cons (pg_name (i := 2) scDraw.nd rfl (.inl rfl)) pgs_nil))))
        (pss_one (ps_ret (pv 2)))) pss_nil)
      (pss_cons (ps_asg (pe_op op_mod (pe_callTy call_int1 rfl T.int PyProof.Rows.boot_int (pa_cons (pe_op op_add (pe_op op_mul (pe_ix ix_list (pv 0) pe_int (fun _ _ => rfl)) pe_int) pe_int) pa_nil)) pe_int) (pg_sub (pv 0) pe_int set_list))
      (pss_one (ps_ret (pe_op op_mod (pe_callTy call_int1 rfl T.int PyProof.Rows.boot_int (pa_cons (pe_op op_fdiv (pe_op op_mod (pe_callTy call_int1 rfl T.int PyProof.Rows.boot_int (pa_cons (pe_op op_mul (pe_ix ix_list (pv 0) pe_int (fun _ _ => rfl)) (pe_ix ix_list (pv 0) pe_int (fun _ _ => rfl))) pa_nil)) pe_int) pe_int) pa_nil)) (pv 1)))))), ?_⟩
    refine ⟨_, rfl, p, _, _, _, rfl, rfl, SqL.of hp, ix0 _ _, _, _, rfl, rfl, _, rfl, ?_⟩
    refine ite2 (fun c => ?_) (fun c => ?_)
    · refine ⟨_, rfl, p, _, _, _, rfl, rfl, SqL.of hp, ix0 _ _, _, rfl, _, _, rfl, ⟨hm, PyProof.noPylong_of_log2 (Nat.lt_trans (bm.log2 (by decide)) (by decide))⟩, fun t ht => ?_⟩
      have ntp : p ≠ t := ne_of_none hp ht
      refine ⟨t, _, rfl, SqT.of upd_same, rfl, _, _, rfl, _, rfl, p, _, _, _, rfl, rfl, (by rw [upd_ne ntp]; exact hp), rfl, _, _, rfl, rfl, ?_⟩
      refine ⟨_, rfl, q _ _ (Int.emod_nonneg _ (by omega)) (Int.emod_lt_of_pos _ hm) ?_⟩
      exact stp_set (o := .lst []) (Int.ediv_nonneg h0 (by omega)) fun z u n e => by rw [upd_ne (ne_of_none e ht)]; exact e
    · refine ⟨_, rfl, p, _, _, _, rfl, rfl, SqL.of hp, ix1 _ _, _, _, rfl, rfl, .inr ⟨by decide, by decide⟩, _, _, rfl, rfl, .inl ⟨_, rfl, _, _, rfl, rfl, (by show (0 : Int) < 2147483549; decide), ?_⟩⟩
      refine ⟨_, rfl, p, _, _, _, rfl, rfl, hp, rfl, ?_⟩
      have e2 : 0 ≤ (b * 46021 + 15013) % 2147483549 := Int.emod_nonneg _ (by decide)
      have e3 : (b * 46021 + 15013) % 2147483549 < 2147483549 := Int.emod_lt_of_pos _ (by decide)
      refine ⟨_, rfl, p, _, _, _, rfl, rfl, SqL.of upd_same, ix1 _ _, _, rfl, p, _, _, _, rfl, rfl, SqL.of upd_same, ix1 _ _, _, _, rfl, rfl, .inl ⟨by omega, by omega⟩, .inl ⟨_, rfl, _, _, rfl, rfl, (by show (0 : Int) < 2147483477; decide), _, _, rfl, rfl, ⟨by decide, by decide⟩, .inl ⟨_, rfl, _, rfl, _, _, rfl, rfl, hm, ?_⟩⟩⟩
      refine q _ _ (Int.emod_nonneg _ (by omega)) (Int.emod_lt_of_pos _ hm) ?_
      exact stp_set (o := .lst []) h0 fun z u n e => e
end
end La
namespace La
open PySem PySem.Spec PyProof.Rows L2 Ow Pt Rm Ra
section
variable {P : Program} {w : World} {K : PySem.W.Frag} {mg : Str → Option Value} {base : Heap}
abbrev DDraw (P : Program) (w : World) (K : PySem.W.Frag) (mg : Str → Option Value) (base : Heap) : Prop := Dfn P w K mg base 1 "_law_draw" ["_law_pot_here", "_law_many"] spDraw

/-! ### _law_pick -/
def spPick : Sp := fun vs H Q _ => ∃ (p l : Addr) (xs : List V), vs = [.ref p, .ref l] ∧ Pot H p ∧ l ≠ p ∧ H l = some (.lst xs) ∧ 0 < xs.length ∧ xs.length ≤ 1000 ∧ ∀ (j : Nat) (x : V) (H' : Hp), xs[j]? = some x → Stp p H H' → Q x H'
theorem scPick : FnScope ["_law_pot_here", "_law_some"] ["_law_pot_here", "_law_some"] (defScope sPick) := ⟨rfl, rfl, rfl, by decide +kernel, rfl, by decide +kernel, by decide +kernel⟩
theorem bd_nat {n k : Nat} (h : n < 2 ^ k) : Bd k (n : Int) := by unfold Bd; rw [Int.natAbs_natCast]; exact h
theorem bd_small {x : Int} {k : Nat} (h0 : 0 ≤ x) (h : x < 2 ^ 60) (hk : 60 ≤ k) : Bd k x := by
  refine Bd.mono (j := 60) ?_ hk
  unfold Bd
  have : (2 : Int) ^ 60 = 1152921504606846976 := by decide
  have : (2 : Nat) ^ 60 = 1152921504606846976 := by decide
  omega
theorem lt60 {n : Nat} (h : n ≤ 1000) : (n : Int) < 2 ^ 60 := by
  have : (2 : Int) ^ 60 = 1152921504606846976 := by decide
  omega
theorem ok_pick {f : Addr} {fd : FuncData} (F : FnP K "_law_pick" "_law_pick" sPick [] f fd) (T : LT mg) (D : DDraw P w K mg base) : FnOk P w K mg base CX0 2 f fd ["_law_pot_here", "_law_some"] spPick := by
  refine F.ok scPick (fun vs H Q E h => ?_) (fun cdv A outer s H vs Q E hr h => ?_)
  · obtain ⟨p, l, xs, rfl, _⟩ := h
    rfl
  · obtain ⟨p, l, xs, rfl, hp, n, hl, h0, h1, q⟩ := h
    refine ⟨_, PSs.nox (pss_one (ps_ret (pe_ix ix_list (pv 1) (pe_use D hr rfl (pa_cons (pv 0) (pa_cons (pe_callB call_len_seq (by rfl) T.len PySem.boot_len (pa_cons (pv 1) pa_nil)) pa_nil))) (fun _ _ => rfl)))), ?_⟩
    refine ⟨_, rfl, _, rfl, _, rfl, l, _, rfl, .inl (SqL.of hl), p, _, rfl, hp, by omega, bd_small (by omega) (lt60 (by omega)) (by decide), fun r H' r0 r1 st => ?_⟩
    obtain ⟨j, rfl⟩ : ∃ j : Nat, r = (j : Int) := ⟨r.toNat, by omega⟩
    have hj : j < xs.length := by omega
    exact ⟨l, xs, _, _, rfl, rfl, SqL.of (st.keep l _ n hl), atI_nat (List.getElem?_eq_getElem hj), q j _ H' (List.getElem?_eq_getElem hj) st⟩

/-! ### _law_common -/
def spCommon : Sp := fun vs H Q _ => ∃ a b : Int, vs = [.int a, .int b] ∧ Q (.int (Int.gcd a b : Nat)) H
theorem scCommon : FnScope ["_law_one", "_law_two"] ["_law_one", "_law_two"] (defScope sCommon) := ⟨rfl, rfl, rfl, by decide +kernel, rfl, by decide +kernel, by decide +kernel⟩
theorem abs_eq (a : Int) : (if a < 0 then -a else a) = (a.natAbs : Int) := by
  by_cases h : a < 0
  · rw [if_pos h]; omega
  · rw [if_neg h]; omega
theorem ok_common {f : Addr} {fd : FuncData} (F : FnP K "_law_common" "_law_common" sCommon [] f fd) (T : LT mg) : FnOk P w K mg base CX0 1 f fd ["_law_one", "_law_two"] spCommon := by
  refine F.ok scCommon (fun vs H Q E h => ?_) (fun cdv A outer s H vs Q E hr h => ?_)
  · obtain ⟨a, b, rfl, _⟩ := h
    rfl
  · obtain ⟨a, b, rfl, q⟩ := h
    refine ⟨_, PSs.nox (pss_cons (ps_par (i := 0) (j := 1) rfl scCommon.nd rfl rfl (by decide) rfl rfl (pa_cons (pe_callB call_abs (by rfl) T.abs PyProof.Rows.boot_abs (pa_cons (pv 0) pa_nil)) (pa_cons (pe_callB call_abs (by rfl) T.abs PyProof.Rows.boot_abs (pa_cons (pv 1) pa_nil)) pa_nil)) rfl)
      (pss_cons (ps_while PassesOwn.never (pt_cmpR op_gt (pv 1) pe_int (nomark _)) (pss_one (ps_par (i := 0) (j := 1) rfl scCommon.nd rfl rfl (by decide) rfl rfl (pa_cons (pv 1) (pa_cons (pe_op op_mod (pe_callTy call_int1 rfl T.int PyProof.Rows.boot_int (pa_cons (pv 0) pa_nil)) (pv 1)) pa_nil)) rfl)))
      (pss_one (ps_ret (pv 0))))), ?_⟩
    refine ⟨_, rfl, a, rfl, _, rfl, b, rfl, _, _, rfl, ?_⟩
    refine while_by (fun σ H' => ∃ m n : Nat, σ = [some (.int m), some (.int n)] ∧ H' = H ∧ Nat.gcd m n = Int.gcd a b) (fun σ _ => match σ with | [_, some (.int n)] => n.toNat | _ => 0) ⟨a.natAbs, b.natAbs, ?_, rfl, rfl⟩ ?_ ?_
    · rw [abs_eq, abs_eq]; rfl
    · rintro σ H' ⟨m, n, rfl, rfl, hg⟩
      refine ⟨_, rfl, _, _, rfl, rfl, _, rfl, ?_⟩
      refine ite2 (fun c => ?_) (fun c => ?_)
      · have c' : 0 < (n : Int) := of_decide_eq_true c
        refine ⟨_, rfl, _, rfl, .inl ⟨_, rfl, _, rfl, _, _, rfl, rfl, c', _, _, rfl, ?_⟩⟩
        have hn : 0 < n := by omega
        refine ⟨⟨n, m % n, ?_, rfl, ?_⟩, ?_⟩
        · show [some (V.int (n : Int)), some (V.int ((m : Int) % (n : Int)))] = _
          rw [Int.natCast_emod]
        · rw [← hg, Nat.gcd_comm n (m % n), ← Nat.gcd_rec, Nat.gcd_comm]
        · show (((m : Int) % (n : Int)).toNat) < ((n : Int).toNat)
          have h1 := Int.emod_lt_of_pos (m : Int) c'
          have h2 := Int.emod_nonneg (m : Int) (show (n : Int) ≠ 0 by omega)
          omega
      · have c' : ¬ 0 < (n : Int) := fun z => c (decide_eq_true z)
        have hn : n = 0 := by omega
        subst hn
        rw [Nat.gcd_zero_right] at hg
        refine ⟨_, rfl, ?_⟩
        rw [hg]
        exact q
    · intro σ H' Q1 Q2 hq h
      obtain ⟨v, hv, i, j, hi, hj, k, hk, q1⟩ := h
      exact ⟨v, hv, i, j, hi, hj, k, hk, hq _ _ q1⟩

/-! ### pairs -/
def PairAt (H : Hp) (p : Addr) (a : Int × Int) : Prop := H p = some (.tup [.int a.1, .int a.2])
theorem PairAt.same {H H' : Hp} {p : Addr} {a : Int × Int} (h : PairAt H p a) (s : Same H H') : PairAt H' p a := s _ _ h
def spLow : Sp := fun vs H Q _ => ∃ u l : Int, vs = [.int u, .int l] ∧ l ≠ 0 ∧ Bd 8000 l ∧ ∀ p H', PairAt H' p (low u l) → Same H H' → H p = none → Q (.ref p) H'
theorem scLow : FnScope ["_law_up", "_law_low_here", "_law_by"] ["_law_up", "_law_low_here"] (defScope sLow) := ⟨rfl, rfl, rfl, by decide +kernel, rfl, by decide +kernel, by decide +kernel⟩
theorem ok_low {f : Addr} {fd : FuncData} (F : FnP K "_law_low" "_law_low" sLow [] f fd) (D : Dfn P w K mg base 1 "_law_common" ["_law_one", "_law_two"] spCommon) : FnOk P w K mg base CX0 2 f fd ["_law_up", "_law_low_here"] spLow := by
  refine F.ok scLow (fun vs H Q E h => ?_) (fun cdv A outer s H vs Q E hr h => ?_)
  · obtain ⟨u, l, rfl, _⟩ := h
    rfl
  · obtain ⟨u, l, rfl, hl, hb, q⟩ := h
    refine ⟨_, PSs.nox (pss_cons (ps_set (i := 2) scLow.nd rfl (Or.inl rfl) (pe_op op_mul (pe_use D hr rfl (pa_cons (pv 0) (pa_cons (pv 1) pa_nil))) (pe_ifExp (pt_cmpR op_gt (pv 1) pe_int (nomark _)) pe_int (pe_un un_neg pe_int))))
      (pss_one (ps_ret (pe_tup (pa_cons (pe_op op_fdivZ (pv 0) (pv 2)) (pa_cons (pe_op op_fdivZ (pv 1) (pv 2)) pa_nil)))))), ?_⟩
    have fin : ∀ g : Int, g = byv u l → tRet (tTup (tCons (tOp (rI CDivZ fun i j => .int (i.fdiv j)) (tVar 0) (tVar 2)) (tCons (tOp (rI CDivZ fun i j => .int (i.fdiv j)) (tVar 1) (tVar 2)) tNil)))
        { nx := fun _ H' => Q .non H', rt := Q } [some (.int u), some (.int l), some (.int g)] H := by
      rintro g rfl
      refine ⟨_, rfl, _, rfl, _, _, rfl, rfl, cdivZ' hl hb (by decide) (by decide), _, rfl, _, rfl, _, _, rfl, rfl, cdivZ' hl hb (by decide) (by decide), (by show 2 ≤ sizeLine; decide), fun p hp => ?_⟩
      exact q p _ upd_same (same_upd hp) hp
    refine ⟨_, rfl, _, rfl, u, l, rfl, ?_⟩
    refine ⟨_, rfl, _, _, rfl, rfl, _, rfl, ?_⟩
    refine ite2 (fun c => ?_) (fun c => ?_)
    · have c' : 0 < l := of_decide_eq_true c
      refine ⟨_, _, rfl, rfl, .inr ⟨by decide, by decide⟩, fin _ ?_⟩
      unfold byv sg
      rw [if_pos c']
    · have c' : ¬ 0 < l := fun z => c (decide_eq_true z)
      refine ⟨_, rfl, _, _, rfl, rfl, .inr ⟨by decide, by decide⟩, fin _ ?_⟩
      unfold byv sg
      rw [if_neg c']
end
end La
namespace La
open PySem PySem.Spec PyProof.Rows L2 Ow Pt Rm Ra
/-- a pair of the law: in lowest terms, not too great -/
structure Pr (H : Hp) (p : Addr) (a : Int × Int) : Prop where
  at_ : PairAt H p a
  lw : Lw a.1 a.2
  b1 : Bd 2500 a.1
  b2 : Bd 2500 a.2
theorem Pr.same {H H' : Hp} {p : Addr} {a : Int × Int} (h : Pr H p a) (s : Same H H') : Pr H' p a := ⟨h.at_.same s, h.lw, h.b1, h.b2⟩
theorem PairAt.st {H H' : Hp} {p q : Addr} {a : Int × Int} (h : PairAt H p a) (hp : Pot H q) (s : Stp q H H') : PairAt H' p a := by
  obtain ⟨x, y, e, _⟩ := hp
  exact s.keep p _ (fun z => by rw [z] at h; exact nomatch (Option.some.inj (h.symm.trans e))) h
theorem Pr.st {H H' : Hp} {p q : Addr} {a : Int × Int} (h : Pr H p a) (hp : Pot H q) (s : Stp q H H') : Pr H' p a := ⟨h.at_.st hp s, h.lw, h.b1, h.b2⟩
theorem RatAt.st {C : Addr} {H H' : Hp} {p q : Addr} {n d : Int} (h : RatAt C H p n d) (hp : Pot H q) (s : Stp q H H') : RatAt C H' p n d := by
  obtain ⟨x, y, e, _⟩ := hp
  obtain ⟨dx, h⟩ := h
  exact ⟨dx, s.keep p _ (fun z => by rw [z] at h; exact nomatch (Option.some.inj (h.symm.trans e))) h⟩
theorem NumAt.st {C : Addr} {H H' : Hp} {v : V} {q : Addr} {n d : Int} (h : NumAt C H v n d) (hp : Pot H q) (s : Stp q H H') : NumAt C H' v n d := by
  rcases h with ⟨p, e, r⟩ | ⟨e, r⟩
  · exact .inl ⟨p, e, RatAt.st r hp s⟩
  · exact .inr ⟨e, r⟩

section
variable {P : Program} {w : World} {K : PySem.W.Frag} {mg : Str → Option Value} {base : Heap}
abbrev DLow (P : Program) (w : World) (K : PySem.W.Frag) (mg : Str → Option Value) (base : Heap) : Prop := Dfn P w K mg base 2 "_law_low" ["_law_up", "_law_low_here"] spLow
abbrev DPick (P : Program) (w : World) (K : PySem.W.Frag) (mg : Str → Option Value) (base : Heap) : Prop := Dfn P w K mg base 2 "_law_pick" ["_law_pot_here", "_law_some"] spPick

def spP2 (op : Int × Int → Int × Int → Int × Int) : Sp := fun vs H Q _ => ∃ (p q : Addr) (a b : Int × Int), vs = [.ref p, .ref q] ∧ Pr H p a ∧ Pr H q b ∧ ∀ r H', PairAt H' r (op a b) → Same H H' → H r = none → Q (.ref r) H'
theorem ix2_0 (a : Int × Int) : atI [V.int a.1, V.int a.2] 0 = some (.int a.1) := rfl
theorem ix2_1 (a : Int × Int) : atI [V.int a.1, V.int a.2] 1 = some (.int a.2) := rfl
theorem scPlus : FnScope ["_law_a", "_law_b"] ["_law_a", "_law_b"] (defScope sPlus) := ⟨rfl, rfl, rfl, by decide +kernel, rfl, by decide +kernel, by decide +kernel⟩
theorem ok_plus {f : Addr} {fd : FuncData} (F : FnP K "_law_plus" "_law_plus" sPlus [] f fd) (D : DLow P w K mg base) : FnOk P w K mg base CX0 3 f fd ["_law_a", "_law_b"] (spP2 plus) := by
  refine F.ok scPlus (fun vs H Q E h => ?_) (fun cdv A outer s H vs Q E hr h => ?_)
  · obtain ⟨p, q, a, b, rfl, _⟩ := h
    rfl
  · obtain ⟨p, q, a, b, rfl, ha, hb, k⟩ := h
    refine ⟨_, PSs.nox (pss_one (ps_ret (pe_use D hr rfl (pa_cons (pe_op op_add (pe_op op_mulW (pe_ix ix_tup (pv 0) pe_int (fun _ _ => rfl)) (pe_ix ix_tup (pv 1) pe_int (fun _ _ => rfl))) (pe_op op_mulW (pe_ix ix_tup (pv 1) pe_int (fun _ _ => rfl)) (pe_ix ix_tup (pv 0) pe_int (fun _ _ => rfl))))
      (pa_cons (pe_op op_mulW (pe_ix ix_tup (pv 0) pe_int (fun _ _ => rfl)) (pe_ix ix_tup (pv 1) pe_int (fun _ _ => rfl))) pa_nil))))), ?_⟩
    have sa : SqT K H p [.int a.1, .int a.2] := SqT.of ha.at_
    have sb : SqT K H q [.int b.1, .int b.2] := SqT.of hb.at_
    refine ⟨_, rfl, p, _, _, _, rfl, rfl, sa, ix2_0 a, _, rfl, q, _, _, _, rfl, rfl, sb, ix2_1 b, _, _, rfl, rfl, cmul ha.b1 hb.b2, _, rfl, q, _, _, _, rfl, rfl, sb, ix2_0 b, _, rfl, p, _, _, _, rfl, rfl, sa, ix2_1 a, _, _, rfl, rfl, cmul hb.b1 ha.b2, _, _, rfl, rfl,
      _, rfl, p, _, _, _, rfl, rfl, sa, ix2_1 a, _, rfl, q, _, _, _, rfl, rfl, sb, ix2_1 b, _, _, rfl, rfl, cmul ha.b2 hb.b2, _, _, rfl, mul_ne ha.lw.pos hb.lw.pos, (ha.b2.mul hb.b2).mono (by decide), k⟩
theorem scMinus : FnScope ["_law_a", "_law_b"] ["_law_a", "_law_b"] (defScope sMinus) := ⟨rfl, rfl, rfl, by decide +kernel, rfl, by decide +kernel, by decide +kernel⟩
theorem ok_minus {f : Addr} {fd : FuncData} (F : FnP K "_law_minus" "_law_minus" sMinus [] f fd) (D : DLow P w K mg base) : FnOk P w K mg base CX0 3 f fd ["_law_a", "_law_b"] (spP2 minus) := by
  refine F.ok scMinus (fun vs H Q E h => ?_) (fun cdv A outer s H vs Q E hr h => ?_)
  · obtain ⟨p, q, a, b, rfl, _⟩ := h
    rfl
  · obtain ⟨p, q, a, b, rfl, ha, hb, k⟩ := h
    refine ⟨_, PSs.nox (pss_one (ps_ret (pe_use D hr rfl (pa_cons (pe_op op_sub (pe_op op_mulW (pe_ix ix_tup (pv 0) pe_int (fun _ _ => rfl)) (pe_ix ix_tup (pv 1) pe_int (fun _ _ => rfl))) (pe_op op_mulW (pe_ix ix_tup (pv 1) pe_int (fun _ _ => rfl)) (pe_ix ix_tup (pv 0) pe_int (fun _ _ => rfl))))
      (pa_cons (pe_op op_mulW (pe_ix ix_tup (pv 0) pe_int (fun _ _ => rfl)) (pe_ix ix_tup (pv 1) pe_int (fun _ _ => rfl))) pa_nil))))), ?_⟩
    have sa : SqT K H p [.int a.1, .int a.2] := SqT.of ha.at_
    have sb : SqT K H q [.int b.1, .int b.2] := SqT.of hb.at_
    refine ⟨_, rfl, p, _, _, _, rfl, rfl, sa, ix2_0 a, _, rfl, q, _, _, _, rfl, rfl, sb, ix2_1 b, _, _, rfl, rfl, cmul ha.b1 hb.b2, _, rfl, q, _, _, _, rfl, rfl, sb, ix2_0 b, _, rfl, p, _, _, _, rfl, rfl, sa, ix2_1 a, _, _, rfl, rfl, cmul hb.b1 ha.b2, _, _, rfl, rfl,
      _, rfl, p, _, _, _, rfl, rfl, sa, ix2_1 a, _, rfl, q, _, _, _, rfl, rfl, sb, ix2_1 b, _, _, rfl, rfl, cmul ha.b2 hb.b2, _, _, rfl, mul_ne ha.lw.pos hb.lw.pos, (ha.b2.mul hb.b2).mono (by decide), k⟩
theorem scTimes : FnScope ["_law_a", "_law_b"] ["_law_a", "_law_b"] (defScope sTimes) := ⟨rfl, rfl, rfl, by decide +kernel, rfl, by decide +kernel, by decide +kernel⟩
theorem ok_times {f : Addr} {fd : FuncData} (F : FnP K "_law_times" "_law_times" sTimes [] f fd) (D : DLow P w K mg base) : FnOk P w K mg base CX0 3 f fd ["_law_a", "_law_b"] (spP2 times) := by
  refine F.ok scTimes (fun vs H Q E h => ?_) (fun cdv A outer s H vs Q E hr h => ?_)
  · obtain ⟨p, q, a, b, rfl, _⟩ := h
    rfl
  · obtain ⟨p, q, a, b, rfl, ha, hb, k⟩ := h
    refine ⟨_, PSs.nox (pss_one (ps_ret (pe_use D hr rfl (pa_cons (pe_op op_mulW (pe_ix ix_tup (pv 0) pe_int (fun _ _ => rfl)) (pe_ix ix_tup (pv 1) pe_int (fun _ _ => rfl)))
      (pa_cons (pe_op op_mulW (pe_ix ix_tup (pv 0) pe_int (fun _ _ => rfl)) (pe_ix ix_tup (pv 1) pe_int (fun _ _ => rfl))) pa_nil))))), ?_⟩
    have sa : SqT K H p [.int a.1, .int a.2] := SqT.of ha.at_
    have sb : SqT K H q [.int b.1, .int b.2] := SqT.of hb.at_
    refine ⟨_, rfl, p, _, _, _, rfl, rfl, sa, ix2_0 a, _, rfl, q, _, _, _, rfl, rfl, sb, ix2_0 b, _, _, rfl, rfl, cmul ha.b1 hb.b1,
      _, rfl, p, _, _, _, rfl, rfl, sa, ix2_1 a, _, rfl, q, _, _, _, rfl, rfl, sb, ix2_1 b, _, _, rfl, rfl, cmul ha.b2 hb.b2, _, _, rfl, mul_ne ha.lw.pos hb.lw.pos, (ha.b2.mul hb.b2).mono (by decide), k⟩

theorem stp_new {p q : Addr} {H : Hp} {o : HO} (h : Pot H p) (hq : H q = none) : Stp p H (upd H q o) := Stp.of (same_upd hq) h
theorem pot_ne {p q : Addr} {H : Hp} (h : Pot H p) (hq : H q = none) : q ≠ p := by
  obtain ⟨a, b, e, _⟩ := h
  exact (ne_of_none e hq).symm
theorem e60 : (2 : Int) ^ 60 = 1152921504606846976 := by decide
end
end La
/-! The law's own defs: steps, points. -/
namespace Lb
open PySem PySem.Spec PyProof.Rows L2 Ow Pt Rm Ra La Tb
/-- a list of pairs -/
structure Prs (H : Hp) (l : Addr) (ps : List Fr2) : Prop where
  ex : ∃ qs : List Addr, H l = some (.lst (qs.map V.ref)) ∧ Par (fun q p => PairAt H q p) qs ps
section
variable {H H' : Hp} {l p q : Addr} {ps : List Fr2} {a : Fr2}
theorem Prs.same (h : Prs H l ps) (s : Same H H') : Prs H' l ps := by
  obtain ⟨qs, e, k⟩ := h.ex
  exact ⟨qs, s _ _ e, Par.imp k fun _ _ z => z.same s⟩
theorem Prs.st (h : Prs H l ps) (hp : Pot H p) (s : Stp p H H') : Prs H' l ps := by
  obtain ⟨qs, e, k⟩ := h.ex
  exact ⟨qs, lst_st e (nt_ref qs) hp s, Par.imp k fun _ _ z => z.st hp s⟩
theorem Prs.len (h : Prs H l ps) : ∃ qs : List Addr, H l = some (.lst (qs.map V.ref)) ∧ qs.length = ps.length ∧ Par (fun q p => PairAt H q p) qs ps := by
  obtain ⟨qs, e, k⟩ := h.ex
  exact ⟨qs, e, k.1, k⟩
end
/-- one of the choices is an integer from 0 on -/
theorem pick_nn {xs : List Int} {m : Int} (h : ∀ x ∈ xs, 0 ≤ x ∧ x < m) {j : Nat} {v : V} (e : (xs.map V.int)[j]? = some v) : ∃ n, v = .int n ∧ 0 ≤ n ∧ n < m := by
  rw [List.getElem?_map] at e
  cases c : xs[j]? with
  | none => rw [c] at e; exact nomatch e
  | some x =>
    rw [c] at e
    cases e
    exact ⟨x, rfl, h x (List.mem_of_getElem? c)⟩
theorem ix_at {n j : Nat} (h : j < n) : ixN n (j : Int) = some j := by
  unfold ixN
  rw [if_pos (by omega), if_pos (by omega), Int.toNat_natCast]
section
variable {P : Program} {w : World} {K : PySem.W.Frag} {mg : Str → Option Value} {base : Heap}
/-! ### _law_steps -/
/-- steps of a table -/
structure Stps (ss : List Fr2) : Prop where
  lw : Lws ss
  nn : Nng ss
  bd : Bds 21 ss
  len : ss.length = 5
def spSteps (_ : PySem.W.Frag) : Sp := fun vs H Q _ => ∃ p, vs = [.ref p] ∧ Pot H p ∧ ∀ l ss H', Prs H' l ss → Stps ss → (∃ s ∈ ss, s.1 ≠ 0) → Stp p H H' → H l = none → Q (.ref l) H'
abbrev n__law_steps : List Str := ["_law_pot_here", "_law_found", "_law_place", "_law_up", "_law_step"]
theorem sc__law_steps : FnScope n__law_steps ["_law_pot_here"] (defScope d__law_steps) := ⟨rfl, rfl, rfl, by decide +kernel, rfl, by decide +kernel, by decide +kernel⟩
theorem b60 {n : Int} (h0 : 0 ≤ n) (h : n < 2000000) : Bd 21 n := by
  unfold Bd
  have : (2 : Nat) ^ 21 = 2097152 := by decide
  omega
theorem pr_upd {H : Hp} {qs : List Addr} {ps : List Fr2} {l : Addr} {o o' : HO} (k : Par (fun q p => PairAt H q p) qs ps) (hl : H l = some o) (n : ∀ xs, o ≠ .tup xs) : Par (fun q p => PairAt (upd H l o') q p) qs ps := Par.imp k fun q p z => by
  have e : H q = some _ := z
  show upd H l o' q = some _
  rw [upd_ne (fun y => by rw [y, hl] at e; exact n _ (Option.some.inj e))]
  exact e
theorem ok_steps {f : Addr} {fd : FuncData} (F : FnP K "_law_steps" "_law_steps" d__law_steps [] f fd) (B : Blt mg) (dD : DDraw P w K mg base) (dP : DPick P w K mg base) (dL : DLow P w K mg base) : FnOk P w K mg base CX0 4 f fd ["_law_pot_here"] (spSteps K) := by
  refine F.ok sc__law_steps (fun vs H Q E h => ?_) (fun cdv A outer s H vs Q E hr h => ?_)
  · obtain ⟨p, rfl, _⟩ := h
    rfl
  · obtain ⟨p, rfl, hp, q⟩ := h
    have hr1 := hr.mono (by decide : 1 ≤ 3)
    have hr2 := hr.mono (by decide : 2 ≤ 3)
    refine ⟨_, PSs.nox (pss_cons (ps_set (i := 1) sc__law_steps.nd rfl (Or.inl rfl) (pe_lst pa_nil))
      (pss_cons (ps_for PassesOwn.never rfl (pi_range1 rfl B.range (pa_cons pe_int pa_nil)) (pg_name (i := 2) sc__law_steps.nd rfl (.inl rfl))
      (pss_cons (ps_set (i := 3) sc__law_steps.nd rfl (Or.inl rfl) (pe_use dP hr2 rfl (pa_cons (pv 0) (pa_cons (pe_lst (pa_cons pe_int (pa_cons pe_int (pa_cons pe_int (pa_cons pe_int (pa_cons pe_int (pa_cons pe_int (pa_cons (pe_op op_add pe_int (pe_use dD hr1 rfl (pa_cons (pv 0) (pa_cons pe_int pa_nil)))) (pa_cons (pe_use dD hr1 rfl (pa_cons (pv 0) (pa_cons (pe_op op_pow pe_int pe_int) pa_nil))) pa_nil))))))))) pa_nil))))
      (pss_one (ps_expr (pe_bm PySem.F.plainAttrs_list PySem.F.slot_list_append PySem.F.type_list_append mt_append (pv 1) (pa_cons (pe_use dL hr2 rfl (pa_cons (pv 3) (pa_cons (pe_use dP hr2 rfl (pa_cons (pv 0) (pa_cons (pe_lst (pa_cons pe_int (pa_cons pe_int (pa_cons pe_int (pa_cons pe_int (pa_cons pe_int (pa_cons (pe_op op_add pe_int (pe_use dD hr1 rfl (pa_cons (pv 0) (pa_cons pe_int pa_nil)))) pa_nil))))))) pa_nil))) pa_nil))) pa_nil))))))
      (pss_cons (ps_if (pt_cmpR op_eq (pe_callB (cr_max rfl) (by rfl) B.max PyProof.Rows.boot_max (pa_cons (pe_lc rfl sc__law_steps.nd (pi_list (pv 1)) (blkOk_by (own := [("_law_step", 4)]) (by show blkC n__law_steps (defScope d__law_steps) _ _ = true; decide +kernel)) (fun _ _ _ _ _ => pg_name (i := 4) sc__law_steps.nd rfl (.inl rfl)) (fun _ _ _ _ _ => pts_nil) (fun _ _ _ _ _ => (pe_ix (r := rIxT K) ix_tup (pv 4) pe_int (fun _ _ => rfl)))) pa_nil)) pe_int (nomark _)) (pss_one (ps_asg (pe_tup (pa_cons pe_int (pa_cons pe_int pa_nil))) (pg_sub (pv 1) (pe_use dD hr1 rfl (pa_cons (pv 0) (pa_cons pe_int pa_nil))) set_list))) pss_nil)
      (pss_one (ps_ret (pv 1)))))), ?_⟩
    refine ⟨by decide, fun f0 hf => ?_⟩
    have nfp : f0 ≠ p := Pt.pot_ne hp hf
    have s0 := Stp.of (same_upd (o := .lst []) hf) hp
    refine ⟨5, rfl, by decide, by decide, ?_⟩
    refine for_it (walk_range (lo := 0) (n := 5)) (fun i σ H' => ∃ (v2 v3 : Option V) (qs : List Addr) (ss : List Fr2), σ = [some (.ref p), some (.ref f0), v2, v3, none] ∧ ss.length = i ∧ H' f0 = some (.lst (qs.map V.ref)) ∧ Par (fun q p => PairAt H' q p) qs ss ∧ Lws ss ∧ Nng ss ∧ Bds 21 ss ∧ Stp p H H')
      ⟨_, _, [], [], rfl, rfl, upd_same, Par.nil, fun _ h => absurd h List.not_mem_nil, fun _ h => absurd h List.not_mem_nil, fun _ h => absurd h List.not_mem_nil, s0⟩ (fun _ _ _ _ _ => trivial) ?_ ?_
    · rintro i v σ H9 H1 hi ⟨v2, v3, qs, ss, rfl, hss, hf1, hqs, lw, nn, bd, s1⟩ ⟨rfl, rfl⟩
      have e6 : (10 : Int) ^ (6 : Int).toNat = 1000000 := by decide
      refine ⟨_, rfl, _, rfl, p, 30, rfl, s1.pot, by decide, bd_small (by decide) (by decide) (by decide), fun u1 H2 u10 u11 s2 => ⟨_, _, rfl, rfl, _, rfl, _, _, rfl, rfl, ⟨by decide, by decide, by decide⟩, p, _, rfl, s2.pot, by rw [e6]; decide, bd_small (by rw [e6]; decide) (by rw [e6]; decide) (by decide), fun u2 H3 u20 u21 s3 => ?_⟩⟩
      rw [e6] at u21
      refine ⟨(by show 8 ≤ sizeLine; decide), fun l hl => ?_⟩
      have s13 := (s1.trans s2).trans s3
      have s4 := s13.new (o := .lst [.int 0, .int 0, .int 1, .int 1, .int 2, .int 3, .int (1 + u1), .int u2]) hl
      refine ⟨p, l, _, rfl, s4.pot, Pt.pot_ne s13.pot hl, upd_same, (by show 0 < 8; decide), (by show 8 ≤ 1000; decide), fun j x H4 hx s5 => ?_⟩
      obtain ⟨up, rfl, up0, up1⟩ := pick_nn (m := 1000000) (xs := [0, 0, 1, 1, 2, 3, 1 + u1, u2]) (by
        intro x hx
        simp only [List.mem_cons, List.not_mem_nil, or_false] at hx
        omega) hx
      have s15 := s4.trans s5
      have t15 : Stp p H1 H4 := ((s2.trans s3).new (o := .lst [.int 0, .int 0, .int 1, .int 1, .int 2, .int 3, .int (1 + u1), .int u2]) hl).trans s5
      refine ⟨_, rfl, .inl ⟨rfl, qs.map V.ref, SqL.of (t15.keep _ _ nfp hf1)⟩, ?_⟩
      refine ⟨_, rfl, _, rfl, _, rfl, p, 30, rfl, s15.pot, by decide, bd_small (by decide) (by decide) (by decide), fun u3 H6 u30 u31 s6 => ⟨_, _, rfl, rfl, (by show 6 ≤ sizeLine; decide), fun l2 hl2 => ?_⟩⟩
      have s16 := s15.trans s6
      have s7 := s16.new (o := .lst [.int 1, .int 1, .int 1, .int 2, .int 3, .int (1 + u3)]) hl2
      have t17 : Stp p H1 _ := (t15.trans s6).new (o := .lst [.int 1, .int 1, .int 1, .int 2, .int 3, .int (1 + u3)]) hl2
      refine ⟨p, l2, _, rfl, s7.pot, Pt.pot_ne s16.pot hl2, upd_same, (by show 0 < 6; decide), (by show 6 ≤ 1000; decide), fun j2 x2 H7 hx2 s8 => ?_⟩
      obtain ⟨lo, rfl, lo0, lo1⟩ : ∃ n, x2 = .int n ∧ 1 ≤ n ∧ n < 32 := by
        have h : (([1, 1, 1, 2, 3, 1 + u3] : List Int).map V.int)[j2]? = some x2 := hx2
        rw [List.getElem?_map] at h
        cases c : ([1, 1, 1, 2, 3, 1 + u3] : List Int)[j2]? with
        | none => rw [c] at h; exact nomatch h
        | some x =>
          rw [c] at h
          cases h
          have m := List.mem_of_getElem? c
          simp only [List.mem_cons, List.not_mem_nil, or_false] at m
          exact ⟨x, rfl, by omega, by omega⟩
      have t18 := t17.trans s8
      have hlo : lo ≠ 0 := by omega
      refine ⟨up, lo, rfl, hlo, (b60 (by omega) (by omega)).mono (by decide), fun r H8 hr8 s9 hrn => ?_⟩
      have t19 : Stp p H1 H8 := t18.trans (Stp.of s9 t18.pot)
      have hf8 := t19.keep _ _ nfp hf1
      have lw8 := low_lw up hlo
      have n8 : 0 ≤ (low up lo).1 := by
        have e1 := low_t (t := up) (b := lo)
        have e2 : 0 < byv up lo := by
          have := gcd_pos (t := up) (b := lo) hlo
          unfold byv sg
          rw [if_pos (by omega)]
          omega
        refine Int.not_lt.mp fun c => ?_
        have := Int.mul_neg_of_neg_of_pos c e2
        omega
      refine ⟨f0, _, _, rfl, rfl, hf8, ?_, _, _, qs ++ [r], ss ++ [low up lo], rfl, by rw [List.length_append, hss]; rfl, by rw [upd_same, List.map_append]; rfl, ?_, ?_, ?_, ?_, ?_⟩
      · rw [List.length_map, hqs.1, hss]
        exact Nat.lt_of_le_of_lt (show i ≤ 1000 by omega) (by decide)
      · exact pr_upd (Par.app (Par.imp hqs fun q a z => z.st s1.pot t19) (Par.one hr8)) hf8 (fun xs z => nomatch z)
      · exact fun s hs => (List.mem_append.mp hs).elim (lw s) fun z => by rw [List.mem_singleton.mp z]; exact lw8
      · exact fun s hs => (List.mem_append.mp hs).elim (nn s) fun z => by rw [List.mem_singleton.mp z]; exact n8
      · exact fun s hs => (List.mem_append.mp hs).elim (bd s) fun z => by rw [List.mem_singleton.mp z]; exact ⟨bd_low1 hlo (b60 up0 (by omega)), bd_low2 hlo (b60 (by omega) (by omega))⟩
      · exact (s1.trans t19).upd hf nfp
    · rintro σ H1 ⟨v2, v3, qs, ss, rfl, hss, hf1, hqs, lw, nn, bd, s1⟩
      have l5 : ss.length = 5 := hss
      refine ⟨_, rfl, f0, rfl, ⟨_, SqL.of hf1⟩, fun g hg => ?_⟩
      refine lc_vals (walk_list (xs := qs.map V.ref)) (rel_same hg) ((ss.map fun s => s.1).map V.int) (by rw [List.length_map, List.length_map, List.length_map, hqs.1]) (by rw [List.length_map, hqs.1]; omega) (fun H' s => SqL.of (s _ _ hf1)) ?_ ?_
      · rintro i v H5 H6 u hi hu s5 _ ⟨rfl, hv⟩ R kk
        rw [List.getElem?_map] at hv
        cases c : qs[i]? with
        | none => rw [c] at hv; exact nomatch hv
        | some a =>
          rw [c] at hv
          cases hv
          obtain ⟨s, hs, pa⟩ := hqs.getL c
          rw [List.getElem?_map, List.getElem?_map, hs] at hu
          cases hu
          refine ⟨rfl, ?_⟩
          exact ⟨_, rfl, a, _, _, _, rfl, rfl, SqT.of (pa.same s5), ix2_0 s, kk _ (Same.refl _)⟩
      · intro H5 s5 hg5
        refine ⟨g, ss.map fun s => s.1, rfl, SqL.of hg5, by rw [List.length_map]; omega, fun m hm mx => ?_⟩
        have t5 : Stp p H1 H5 := Stp.of s5 s1.pot
        refine ⟨rfl, _, rfl, ?_⟩
        have fin : ∀ (H6 : Hp) (ss' : List Fr2), Prs H6 f0 ss' → Stps ss' → (∃ s ∈ ss', s.1 ≠ 0) → Stp p H H6 → Q (.ref f0) H6 := fun H6 ss' k1 k2 k3 k4 => q f0 ss' H6 k1 k2 k3 k4 hf
        refine ite2 (fun c => ?_) (fun c => ?_)
        · have m0 : m = 0 := V.int.inj (of_decide_eq_true c)
          refine ⟨(by show 2 ≤ sizeLine; decide), fun t ht => ?_⟩
          have t6 := t5.new (o := .tup [.int 1, .int 1]) ht
          refine ⟨_, rfl, _, rfl, p, 5, rfl, t6.pot, by decide, bd_small (by decide) (by decide) (by decide), fun r H7 r0 r1 s7 => ?_⟩
          have t7 := t6.trans s7
          have hf7 := t7.keep _ _ nfp hf1
          obtain ⟨j, rfl⟩ : ∃ j : Nat, r = (j : Int) := ⟨r.toNat, by omega⟩
          have hj : j < qs.length := by rw [hqs.1]; omega
          have ht7 : H7 t = some (.tup [.int 1, .int 1]) := s7.keep _ _ (Pt.pot_ne t5.pot ht) upd_same
          refine ⟨f0, _, _, j, rfl, rfl, hf7, ix_at (by rw [List.length_map]; exact hj), ?_⟩
          refine ⟨_, rfl, fin _ (ss.set j (1, 1)) ⟨qs.set j t, by rw [upd_same, List.map_set], ?_⟩ ⟨fun s hs => ?_, fun s hs => ?_, fun s hs => ?_, by rw [List.length_set]; exact l5⟩ ⟨(1, 1), List.mem_set (by omega) _, by decide⟩ ((s1.trans t7).upd hf nfp)⟩
          · exact pr_upd (Par.set (Par.imp hqs fun q a z => z.st s1.pot t7) j ht7) hf7 (fun xs z => nomatch z)
          · exact (List.mem_or_eq_of_mem_set hs).elim (lw s) fun z => by rw [z]; exact lw_int 1
          · exact (List.mem_or_eq_of_mem_set hs).elim (nn s) fun z => by rw [z]; decide
          · exact (List.mem_or_eq_of_mem_set hs).elim (bd s) fun z => by rw [z]; exact ⟨bd_one (by decide), bd_one (by decide)⟩
        · obtain ⟨s, hs, rfl⟩ := List.mem_map.mp hm
          exact ⟨_, rfl, fin H5 ss ⟨qs, s5 _ _ hf1, Par.imp hqs fun q a z => z.same s5⟩ ⟨lw, nn, bd, l5⟩ ⟨s, hs, fun z => c (decide_eq_true (by rw [z]))⟩ (s1.trans t5)⟩
end
end Lb
/-! The law's own defs: points, numbers, texts. -/
namespace Lb
open PySem PySem.Spec PyProof.Rows L2 Ow Pt Rm Ra La Tb
section
variable {P : Program} {w : World} {K : PySem.W.Frag} {mg : Str → Option Value} {base : Heap}
/-! ### _law_points -/
theorem pts_bd : ∀ {ss : List Fr2}, Lws ss → Bds 21 ss → ∀ p ∈ ptsR ss, Bd (1 + 23 * ss.length) p.1 ∧ Bd (1 + 23 * ss.length) p.2
  | [], _, _ => fun p hp => absurd hp List.not_mem_nil
  | s :: ss, l, b => fun p hp => by
    have ls : Lws ss := fun x hx => l x (List.mem_cons_of_mem _ hx)
    have ih := pts_bd ls fun x hx => b x (List.mem_cons_of_mem _ hx)
    rw [List.length_cons]
    rcases List.mem_cons.mp hp with rfl | hp
    · have hh : Bd (1 + 23 * ss.length) ((ptsR ss).headD z01).1 ∧ Bd (1 + 23 * ss.length) ((ptsR ss).headD z01).2 := by
        cases c : ptsR ss with
        | nil => exact ⟨bd_zero, bd_one (by omega)⟩
        | cons x xs => exact ih x (by rw [c]; exact List.mem_cons_self)
      have bs := b s List.mem_cons_self
      have hd := mul_ne (lws_head (pts_lws ls)).pos (l s List.mem_cons_self).pos
      refine ⟨bd_low1 hd ?_, bd_low2 hd ((hh.2.mul bs.2).mono (by omega))⟩
      exact ((hh.1.mul bs.2).add ((bs.1.mul hh.2).mono (show 21 + (1 + 23 * ss.length) ≤ 1 + 23 * ss.length + 21 by omega))).mono (by omega)
    · have := ih p hp
      exact ⟨this.1.mono (by omega), this.2.mono (by omega)⟩
theorem pts_bd5 {ss : List Fr2} (h : Stps ss) : Bds 120 (ptsR ss) := fun p hp => by
  have := pts_bd h.lw h.bd p hp
  rw [h.len] at this
  exact ⟨this.1.mono (by decide), this.2.mono (by decide)⟩
def spPoints : Sp := fun vs H Q _ => ∃ l ss, vs = [.ref l] ∧ Prs H l ss ∧ Stps ss ∧ ∀ g H', Prs H' g (ptsR ss) → Same H H' → H g = none → Q (.ref g) H'
abbrev n__law_points : List Str := ["_law_steps_here", "_law_found", "_law_step"]
theorem sc__law_points : FnScope n__law_points ["_law_steps_here"] (defScope d__law_points) := ⟨rfl, rfl, rfl, by decide +kernel, rfl, by decide +kernel, by decide +kernel⟩
theorem at_last (x : V) (ys : List V) : atI (x :: ys.reverse) (-1) = some (ys.headD x) := by
  unfold atI ixN
  rw [List.length_cons, List.length_reverse, if_neg (by omega), if_pos (by omega)]
  show (x :: ys.reverse)[((-1 : Int) + ((ys.length + 1 : Nat) : Int)).toNat]? = _
  rw [show ((-1 : Int) + ((ys.length + 1 : Nat) : Int)).toNat = ys.length by omega]
  cases ys with
  | nil => rfl
  | cons y ys =>
    rw [List.length_cons, List.getElem?_cons_succ, List.getElem?_reverse (by rw [List.length_cons]; omega), List.length_cons, show ys.length + 1 - 1 - ys.length = 0 by omega]
    rfl
theorem rev_take {ss : List Fr2} (i : Nat) (hi : i < ss.length) : ss.drop (ss.length - (i + 1)) = ss[ss.length - 1 - i] :: ss.drop (ss.length - i) := by
  rw [List.drop_eq_getElem_cons (show ss.length - (i + 1) < ss.length by omega)]
  congr 1
  · congr 1
    omega
  · congr 1
    omega
theorem ok_points {f : Addr} {fd : FuncData} (F : FnP K "_law_points" "_law_points" d__law_points [] f fd) (dPl : Dfn P w K mg base 3 "_law_plus" ["_law_a", "_law_b"] (spP2 plus)) : FnOk P w K mg base CX0 4 f fd ["_law_steps_here"] spPoints := by
  refine F.ok sc__law_points (fun vs H Q E h => ?_) (fun cdv A outer s H vs Q E hr h => ?_)
  · obtain ⟨l, ss, rfl, _⟩ := h
    rfl
  · obtain ⟨l, ss, rfl, hl, st, q⟩ := h
    obtain ⟨qs, e, hq1, hqs⟩ := hl.len
    have l5 := st.len
    refine ⟨_, PSs.nox (pss_cons (ps_set (i := 1) sc__law_points.nd rfl (Or.inl rfl) (pe_lst (pa_cons (pe_tup (pa_cons pe_int (pa_cons pe_int pa_nil))) pa_nil)))
      (pss_cons (ps_for PassesOwn.never rfl (pi_list (pe_revL (pv 0))) (pg_name (i := 2) sc__law_points.nd rfl (.inl rfl))
      (pss_one (ps_expr (pe_bm PySem.F.plainAttrs_list PySem.F.slot_list_append PySem.F.type_list_append mt_append (pv 1) (pa_cons (pe_use dPl hr rfl (pa_cons (pe_ix ix_list (pv 1) (pe_un un_neg pe_int) (fun _ _ => rfl)) (pa_cons (pv 2) pa_nil))) pa_nil)))))
      (pss_one (ps_ret (pe_back (pv 1)))))), ?_⟩
    refine ⟨(by show 2 ≤ sizeLine; decide), fun t ht => ⟨(by show 1 ≤ sizeLine; decide), fun g hg => ?_⟩⟩
    have s0 : Same H (upd (upd H t (.tup [.int 0, .int 1])) g (.lst [.ref t])) := (same_upd ht).trans (same_upd hg)
    have nlg : ∀ {x : Addr} {o : HO}, H x = some o → x ≠ g := fun ex z => by
      have := (same_upd (o := .tup [.int 0, .int 1]) ht) _ _ ex
      rw [z, hg] at this
      exact nomatch this
    have pt0 : PairAt (upd (upd H t (.tup [.int 0, .int 1])) g (.lst [.ref t])) t z01 := (same_upd hg) _ _ upd_same
    refine ⟨_, rfl, l, _, rfl, SqL.of (s0 _ _ e), fun r hr' => ?_⟩
    have s1 := s0.trans (same_upd (o := .lst ((qs.map V.ref).reverse)) hr')
    refine ⟨r, rfl, ⟨_, SqL.of upd_same⟩, ?_⟩
    refine for_it (walk_list (xs := (qs.map V.ref).reverse)) (fun i σ H' => ∃ (v2 : Option V) (zs : List Addr), σ = [some (.ref l), some (.ref g), v2] ∧ zs.length = i ∧ H' g = some (.lst (V.ref t :: (zs.map V.ref).reverse)) ∧ Par (fun q p => PairAt H' q p) zs (ptsR (ss.drop (ss.length - i))) ∧ Same H H' ∧ H' r = some (.lst (qs.map V.ref).reverse) ∧ PairAt H' t z01)
      ⟨_, [], rfl, rfl, ?_, ?_, s1, upd_same, ?_⟩ (fun i σ H' _ h => by obtain ⟨_, _, _, _, _, _, _, h, _⟩ := h; exact SqL.of h) ?_ ?_
    · exact (same_upd hr') _ _ upd_same
    · rw [Nat.sub_zero, List.drop_length]
      exact Par.nil
    · exact pt0.same (same_upd hr')
    · rintro i x σ H9 H1 hi ⟨v2, zs, rfl, hzl, hg1, hzs, s2, hr1, pt1⟩ ⟨rfl, hx⟩
      have hiq : i < ss.length := by
        rw [List.length_reverse, List.length_map, hq1] at hi
        exact hi
      have hx2 : (qs.map V.ref)[ss.length - 1 - i]? = some x := by
        rw [List.getElem?_reverse (by rw [List.length_map, hq1]; exact hiq), List.length_map, hq1] at hx
        exact hx
      rw [List.getElem?_map] at hx2
      cases c : qs[ss.length - 1 - i]? with
      | none => rw [c] at hx2; exact nomatch hx2
      | some a =>
        rw [c] at hx2
        cases hx2
        obtain ⟨s', hs, pa⟩ := hqs.getL c
        have hse : s' = ss[ss.length - 1 - i] := by
          rw [List.getElem?_eq_getElem (by omega)] at hs
          exact (Option.some.inj hs).symm
        have hs' := st.bd.get hs
        have ls := st.lw.get hs
        have lR := pts_lws (lws_drop st.lw (ss.length - i))
        have hbd : Bds 400 (ptsR ss) := fun x hx => ⟨(pts_bd5 st x hx).1.mono (by decide), (pts_bd5 st x hx).2.mono (by decide)⟩
        -- the last one found
        have last : ∃ z, (zs.map V.ref).headD (V.ref t) = .ref z ∧ PairAt H1 z ((ptsR (ss.drop (ss.length - i))).headD z01) := by
          cases zs with
          | nil =>
            have e0 : ptsR (ss.drop (ss.length - i)) = [] := List.length_eq_zero_iff.mp hzs.1.symm
            exact ⟨t, rfl, by rw [e0]; exact pt1⟩
          | cons z zs =>
            cases c2 : ptsR (ss.drop (ss.length - i)) with
            | nil => rw [c2] at hzs; exact nomatch hzs.1
            | cons p ps =>
              rw [c2] at hzs
              exact ⟨z, rfl, hzs.head⟩
        obtain ⟨z, ez, pz⟩ := last
        have bz : Bd 400 ((ptsR (ss.drop (ss.length - i))).headD z01).1 ∧ Bd 400 ((ptsR (ss.drop (ss.length - i))).headD z01).2 := by
          cases c2 : ptsR (ss.drop (ss.length - i)) with
          | nil => exact ⟨bd_zero, bd_one (by decide)⟩
          | cons p ps =>
            refine hbd p ?_
            have : p ∈ (ptsR ss).drop (ss.length - i) := by rw [pts_drop, c2]; exact List.mem_cons_self
            exact List.mem_of_mem_drop this
        have lz := lws_head lR
        have hat : atI (V.ref t :: (zs.map V.ref).reverse) (-1) = some (.ref z) := by rw [at_last, ez]
        refine ⟨_, rfl, .inl ⟨rfl, _, SqL.of hg1⟩, ?_⟩
        refine ⟨_, rfl, _, rfl, g, _, _, _, rfl, rfl, SqL.of hg1, hat, _, rfl, z, a, _, s', rfl, ⟨pz, lz, bz.1.mono (by decide), bz.2.mono (by decide)⟩, ⟨pa.same s2, ls, hs'.1.mono (by decide), hs'.2.mono (by decide)⟩, fun y H2 hy s3 hyn => ?_⟩
        have hg2 := s3 _ _ hg1
        have nyg : y ≠ g := (ne_of_none hg1 hyn).symm
        have ed : ptsR (ss.drop (ss.length - (i + 1))) = plus ((ptsR (ss.drop (ss.length - i))).headD z01) s' :: ptsR (ss.drop (ss.length - i)) := by
          rw [rev_take i hiq, hse]
          rfl
        refine ⟨g, _, _, rfl, rfl, hg2, ?_, _, y :: zs, rfl, by rw [List.length_cons, hzl], ?_, ?_, ?_, ?_, ?_⟩
        · rw [List.length_cons, List.length_reverse, List.length_map, hzl]
          exact Nat.lt_of_le_of_lt (show i + 1 ≤ 1000 by omega) (by decide)
        · rw [upd_same, List.map_cons, List.reverse_cons]
          rfl
        · rw [ed]
          exact pr_upd (Par.cons hy (Par.imp hzs fun _ _ k => k.same s3)) hg2 (fun xs z => nomatch z)
        · intro b o eb
          rw [upd_ne (nlg eb)]
          exact s3 _ _ (s2 _ _ eb)
        · rw [upd_ne (ne_of_none upd_same hr').symm |> fun h => h]
          exact s3 _ _ hr1
        · show upd H2 g _ t = _
          rw [upd_ne (ne_of_none upd_same hg)]
          exact pt1.same s3
    · rintro σ H1 ⟨v2, zs, rfl, hzl, hg1, hzs, s2, hr1, pt1⟩
      refine ⟨_, rfl, g, _, rfl, SqL.of hg1, fun b hb => ?_⟩
      have e1 : ss.length - (qs.map V.ref).reverse.length = 0 := by rw [List.length_reverse, List.length_map, hq1]; omega
      rw [e1, List.drop_zero] at hzs
      refine q b _ ⟨zs, ?_, Par.imp hzs fun _ _ k => k.same (same_upd hb)⟩ (s2.trans (same_upd hb)) (same_none s2 hb)
      rw [upd_same, List.drop_one, List.tail_cons, List.reverse_reverse]
end
end Lb
/-! The law's own defs: numbers as they are passed, texts, tables by hand. -/
namespace Lb
open PySem PySem.Spec PyProof.Rows L2 Ow Pt Rm Ra La Tb
section
variable {P : Program} {w : World} {K : PySem.W.Frag} {mg : Str → Option Value} {base : Heap}
/-! ### _law_number -/
def spNum (C : Addr) : Sp := fun vs H Q _ => ∃ (p q : Addr) (a : Fr2), vs = [.ref p, .ref q] ∧ Pot H p ∧ PairAt H q a ∧ Lw a.1 a.2 ∧ Bd 400 a.1 ∧ Bd 400 a.2 ∧ ∀ v H', Nm C H' v a.1 a.2 → Stp p H H' → Q v H'
abbrev n__law_number : List Str := ["_law_pot_here", "_law_a", "_law_by"]
theorem sc__law_number : FnScope n__law_number ["_law_pot_here", "_law_a"] (defScope d__law_number) := ⟨rfl, rfl, rfl, by decide +kernel, rfl, by decide +kernel, by decide +kernel⟩
theorem four (j : Nat) (x : V) (h : ([.int 1, .int 1, .int 2, .int (-3)] : List V)[j]? = some x) : ∃ m : Int, x = .int m ∧ m ≠ 0 ∧ Bd 21 m := by
  rcases j with _ | _ | _ | _ | j
  · cases h; exact ⟨1, rfl, by decide, bd_one (by decide)⟩
  · cases h; exact ⟨1, rfl, by decide, bd_one (by decide)⟩
  · cases h; exact ⟨2, rfl, by decide, b60 (by decide) (by decide)⟩
  · cases h; exact ⟨-3, rfl, by decide, (b60 (n := 3) (by decide) (by decide)).neg⟩
  · exact nomatch h
theorem ok_number {f C : Addr} {fd : FuncData} (F : FnP K "_law_number" "_law_number" d__law_number [] f fd) (T : RT K mg C) (M : RMk P w K mg base C) (dD : DDraw P w K mg base) (dP : DPick P w K mg base) : FnOk P w K mg base CX0 4 f fd ["_law_pot_here", "_law_a"] (spNum C) := by
  refine F.ok sc__law_number (fun vs H Q E h => ?_) (fun cdv A outer s H vs Q E hr h => ?_)
  · obtain ⟨p, q, a, rfl, _⟩ := h
    rfl
  · obtain ⟨p, qa, a, rfl, hp, hq, lw, b1, b2, q⟩ := h
    have hr1 := hr.mono (by decide : 1 ≤ 3)
    have hr2 := hr.mono (by decide : 2 ≤ 3)
    refine ⟨_, PSs.nox (pss_cons (ps_set (i := 2) sc__law_number.nd rfl (Or.inl rfl) (pe_use dP hr2 rfl (pa_cons (pv 0) (pa_cons (pe_lst (pa_cons pe_int (pa_cons pe_int (pa_cons pe_int (pa_cons (pe_un un_neg pe_int) pa_nil))))) pa_nil))))
      (pss_one (ps_ret (pe_ifExp (PW.pt (pw_and (pt_cmpR op_eq (pe_ix ix_tup (pv 1) pe_int (fun _ _ => rfl)) pe_int (nomark _)) (pw_and1 (pt_cmpR op_eq (pe_use dD hr1 rfl (pa_cons (pv 0) (pa_cons pe_int pa_nil))) pe_int (nomark _))))) (pe_ix ix_tup (pv 1) pe_int (fun _ _ => rfl)) (pe_rat2 M hr rfl T.mgC (pe_op op_mulW (pe_ix ix_tup (pv 1) pe_int (fun _ _ => rfl)) (pv 2)) (pe_op op_mulW (pe_ix ix_tup (pv 1) pe_int (fun _ _ => rfl)) (pv 2))))))), ?_⟩
    refine ⟨_, rfl, _, rfl, (by show 4 ≤ sizeLine; decide), fun l hl => ?_⟩
    have s0 := Stp.of (same_upd (o := .lst [.int 1, .int 1, .int 2, .int (-3)]) hl) hp
    refine ⟨p, l, _, rfl, s0.pot, Pt.pot_ne hp hl, upd_same, (by show 0 < 4; decide), (by show 4 ≤ 1000; decide), fun j x H1 hx s1 => ?_⟩
    obtain ⟨m, rfl, m0, bm⟩ := four j x hx
    have s01 := s0.trans s1
    have sq := SqT.of (K := K) (hq.st hp s01)
    have rat : ∀ H2, Stp p H H2 → tMake C (spInit C) [] E0 (tCons (tOp (rI CMulW fun i j => .int (i * j)) (tOp (rIxT K) (tVar 1) (tC (.int 0))) (tVar 2)) (tCons (tOp (rI CMulW fun i j => .int (i * j)) (tOp (rIxT K) (tVar 1) (tC (.int 1))) (tVar 2)) tNil)) [some (.ref p), some (.ref qa), some (.int m)] H2 Q := fun H2 s2 => by
      have sq2 := SqT.of (K := K) (hq.st hp s2)
      refine ⟨_, rfl, qa, _, _, _, rfl, rfl, sq2, ix2_0 a, _, rfl, _, _, rfl, rfl, cmul b1 bm, _, rfl, qa, _, _, _, rfl, rfl, sq2, ix2_1 a, _, rfl, _, _, rfl, rfl, cmul b2 bm, ?_⟩
      refine rat_new (by have := lw.pos; exact Int.mul_ne_zero (by omega) m0) ((b2.mul bm).mono (by decide)) fun z H3 hz s3 _ => ?_
      rw [low_mul lw m0] at hz
      exact q _ H3 ⟨.inl ⟨z, rfl, hz⟩, lw, b1.mono (by decide), b2.mono (by decide)⟩ (s2.sm s3)
    refine ⟨_, rfl, qa, _, _, _, rfl, rfl, sq, ix2_1 a, rfl, _, rfl, ?_⟩
    refine ite2 (fun c => ?_) (fun c => ?_)
    · have a2 : a.2 = 1 := V.int.inj (of_decide_eq_true c)
      refine ⟨_, rfl, p, 2, rfl, s1.pot, by decide, bd_small (by decide) (by decide) (by decide), fun r H2 r0 r1 s2 => ⟨rfl, _, rfl, ?_⟩⟩
      have s02 := s01.trans s2
      refine ite2 (fun c2 => ?_) (fun c2 => ?_)
      · refine ⟨_, rfl, qa, _, _, _, rfl, rfl, SqT.of (hq.st hp s02), ix2_0 a, ?_⟩
        exact q _ H2 ⟨.inr ⟨rfl, a2⟩, lw, b1.mono (by decide), b2.mono (by decide)⟩ s02
      · exact rat H2 s02
    · exact rat H1 s01
/-! ### _law_shown -/
def spShown : Sp := fun vs H Q _ => ∃ (q : Addr) (a : Fr2), vs = [.ref q] ∧ PairAt H q a ∧ Bd 1900 a.1 ∧ Bd 1900 a.2 ∧ Q (.str (shwP a)) H
abbrev n__law_shown : List Str := ["_law_a"]
theorem sc__law_shown : FnScope n__law_shown ["_law_a"] (defScope d__law_shown) := ⟨rfl, rfl, rfl, by decide +kernel, rfl, by decide +kernel, by decide +kernel⟩
theorem ok_shown {f : Addr} {fd : FuncData} (F : FnP K "_law_shown" "_law_shown" d__law_shown [] f fd) (B : Blt mg) : FnOk P w K mg base CX0 1 f fd ["_law_a"] spShown := by
  refine F.ok sc__law_shown (fun vs H Q E h => ?_) (fun cdv A outer s H vs Q E hr h => ?_)
  · obtain ⟨q, a, rfl, _⟩ := h
    rfl
  · obtain ⟨qa, a, rfl, hq, hn, hd, q⟩ := h
    have sq := SqT.of (K := K) hq
    have h1 := it_len hn
    have h2 := it_len hd
    refine ⟨_, PSs.nox (pss_one (ps_ret (pe_op op_add_str (pe_op op_add_str (pe_op op_add_str (pe_op op_add_str pe_str (pe_callTy call_str_int (by rfl) B.str (by decide +kernel) (pa_cons (pe_ix ix_tup (pv 0) pe_int (fun _ _ => rfl)) pa_nil))) pe_str) (pe_callTy call_str_int (by rfl) B.str (by decide +kernel) (pa_cons (pe_ix ix_tup (pv 0) pe_int (fun _ _ => rfl)) pa_nil))) pe_str))), ?_⟩
    refine ⟨_, rfl, qa, _, _, _, rfl, rfl, sq, ix2_0 a, a.1, rfl, lt1920 hn, _, _, rfl, rfl, ?_, ?_⟩
    · rw [len6]
      exact line _ (Nat.le_trans (Nat.add_le_add_left h1 6) (by decide))
    refine ⟨_, _, rfl, rfl, ?_, ?_⟩
    · rw [strLen_append, len6, len2]
      exact line _ (Nat.le_trans (Nat.add_le_add_right (Nat.add_le_add_left h1 6) 2) (by decide))
    refine ⟨_, rfl, qa, _, _, _, rfl, rfl, sq, ix2_1 a, a.2, rfl, lt1920 hd, _, _, rfl, rfl, ?_, ?_⟩
    · rw [strLen_append, strLen_append, len6, len2]
      exact line _ (Nat.le_trans (Nat.add_le_add (Nat.add_le_add_right (Nat.add_le_add_left h1 6) 2) h2) (by decide))
    refine ⟨_, _, rfl, rfl, ?_, ?_⟩
    · rw [strLen_append, strLen_append, strLen_append, len6, len2, len3]
      exact line _ (Nat.le_trans (Nat.add_le_add_right (Nat.add_le_add (Nat.add_le_add_right (Nat.add_le_add_left h1 6) 2) h2) 1) (by decide))
    · exact q
/-! ### _law_paid -/
def spLPaid : Sp := fun vs H Q _ => ∃ l ps, vs = [.ref l] ∧ Prs H l ps ∧ ps.length ≤ 5 ∧ ∀ H', Same H H' → Q (.int (paidN ps : Nat)) H'
abbrev n__law_paid : List Str := ["_law_points_here", "_law_a"]
theorem sc__law_paid : FnScope n__law_paid ["_law_points_here"] (defScope d__law_paid) := ⟨rfl, rfl, rfl, by decide +kernel, rfl, by decide +kernel, by decide +kernel⟩
theorem ok_lpaid {f : Addr} {fd : FuncData} (F : FnP K "_law_paid" "_law_paid" d__law_paid [] f fd) (B : Blt mg) : FnOk P w K mg base CX0 1 f fd ["_law_points_here"] spLPaid := by
  refine F.ok sc__law_paid (fun vs H Q E h => ?_) (fun cdv A outer s H vs Q E hr h => ?_)
  · obtain ⟨l, ps, rfl, _⟩ := h
    rfl
  · obtain ⟨l, ps, rfl, hl, l5, q⟩ := h
    obtain ⟨qs, e, hq1, hqs⟩ := hl.len
    refine ⟨_, PSs.nox (pss_one (ps_ret (pe_callB (r := rLenS K) call_len_seq (by rfl) B.len PySem.boot_len (pa_cons (pe_lc rfl sc__law_paid.nd (pi_list (pv 0)) (blkOk_by (own := [("_law_a", 1)]) (by show blkC n__law_paid (defScope d__law_paid) _ _ = true; decide +kernel)) (fun _ _ _ _ _ => pg_name (i := 1) sc__law_paid.nd rfl (.inl rfl)) (fun _ _ _ _ _ => (pts_one (pt_cmpR op_gt (pe_ix (r := rIxT K) ix_tup (pv 1) pe_int (fun _ _ => rfl)) pe_int (nomark _)))) (fun _ _ _ _ _ => (pv 1))) pa_nil)))), ?_⟩
    refine ⟨_, rfl, l, rfl, ⟨_, SqL.of e⟩, fun D1 hD1 => ?_⟩
    refine lc_filter (walk_list (xs := qs.map V.ref)) (rel_same hD1) (qs.map V.ref) (keepAt (fun p : Fr2 => decide (0 < p.1)) ps) rfl (by rw [List.length_map]; omega) (fun H' s => SqL.of (s _ _ e)) ?_ ?_
    · rintro i x H5 H6 v hi hv s5 _ ⟨rfl, hx⟩ RR SS k1 k2
      rw [List.getElem?_map] at hv hx
      cases c : qs[i]? with
      | none => rw [c] at hx; exact nomatch hx
      | some a =>
        rw [c] at hv hx
        cases hv
        cases hx
        obtain ⟨p, hp, pa⟩ := hqs.getL c
        have ek : keepAt (fun p : Fr2 => decide (0 < p.1)) ps i = decide (0 < p.1) := by unfold keepAt; rw [hp]; rfl
        rw [ek] at k1 k2
        refine ⟨rfl, ?_⟩
        refine ⟨_, rfl, a, _, _, _, rfl, rfl, SqT.of (pa.same s5), ix2_0 p, _, _, rfl, rfl, _, rfl, ?_⟩
        by_cases cc : 0 < p.1
        · rw [decide_eq_true cc]
          refine iteT ?_
          exact ⟨_, rfl, k1 (decide_eq_true cc) _ (Same.refl _)⟩
        · rw [decide_eq_false cc]
          refine iteF ?_
          exact k2 (decide_eq_false cc) _ (Same.refl _)
    · intro H5 s5 hD5
      refine ⟨D1, _, rfl, .inl (SqL.of hD5), ?_⟩
      have ek := kept_filter (fun p : Fr2 => decide (0 < p.1)) (fun _ => V.non) ps ps.length (Nat.le_refl _)
      have el : (kept (keepAt (fun p : Fr2 => decide (0 < p.1)) ps) (qs.map V.ref) (qs.map V.ref).length).length = paidN ps := by
        have a := kept_len (keepAt (fun p : Fr2 => decide (0 < p.1)) ps) (qs.map V.ref) (qs.map V.ref).length (Nat.le_refl _)
        have b := kept_len (keepAt (fun p : Fr2 => decide (0 < p.1)) ps) (ps.map fun _ => V.non) ps.length (by rw [List.length_map]; exact Nat.le_refl _)
        rw [ek, List.take_length, List.length_map] at b
        rw [a, List.length_map, hq1, ← b]
        rfl
      rw [el]
      exact q _ s5
end
end Lb
/-! The law's own defs: tables by hand. -/
namespace Lb
open PySem PySem.Spec PyProof.Rows L2 Ow Pt Rm Ra La Tb
theorem tF {n : Nat} {k : Int} (h : (n : Int) ≠ k) : decide (V.int (n : Int) = V.int k) = false := decide_eq_false fun z => h (V.int.inj z)
theorem tT {n : Nat} {k : Int} (h : (n : Int) = k) : decide (V.int (n : Int) = V.int k) = true := decide_eq_true (by rw [h])
section
variable {P : Program} {w : World} {K : PySem.W.Frag} {mg : Str → Option Value} {base : Heap}
/-! ### by points -/
def spBP (C D : Addr) : Sp := fun vs H Q _ => ∃ (l : Addr) (xs : List V) (ps : List Fr2), vs = [.ref l] ∧ H l = some (.lst xs) ∧ Nms C H xs ps ∧ Desc' ps ∧ ∀ x H', TabAt C D H' x (pad ps) → Nw D H H' x → Same H H' → Q (.ref x) H'
abbrev n__law_by_points : List Str := ["_law_row"]
theorem sc__law_by_points : FnScope n__law_by_points ["_law_row"] (defScope d__law_by_points) := ⟨rfl, rfl, rfl, by decide +kernel, rfl, by decide +kernel, by decide +kernel⟩
theorem ok_by_points {f C D : Addr} {fd : FuncData} (F : FnP K "_law_by_points" "_law_by_points" d__law_by_points [] f fd) (B : Blt mg) (U : TC K mg D) (N : TMk P w K mg base C D) : FnOk P w K mg base CX0 11 f fd ["_law_row"] (spBP C D) := by
  obtain ⟨ft, mk, Ft⟩ := N.ex
  refine F.ok sc__law_by_points (fun vs H Q E h => ?_) (fun cdv A outer s H vs Q E hr h => ?_)
  · obtain ⟨l, xs, ps, rfl, _⟩ := h
    rfl
  · obtain ⟨l, xs, ps, rfl, hl, hn, hd, q⟩ := h
    refine ⟨_, PSs.nox (pss_cons (ps_if (pt_cmpR op_eq (pe_callB (r := rLenS K) call_len_seq (by rfl) B.len PySem.boot_len (pa_cons (pv 0) pa_nil)) pe_int (nomark _)) (pss_one (ps_ret (StX.pe_makeR mk Ft hr rfl U.mgT pass0 (pa_cons (pe_ix ix_list (pv 0) pe_int (fun _ _ => rfl)) pa_nil)))) pss_nil)
      (pss_cons (ps_if (pt_cmpR op_eq (pe_callB (r := rLenS K) call_len_seq (by rfl) B.len PySem.boot_len (pa_cons (pv 0) pa_nil)) pe_int (nomark _)) (pss_one (ps_ret (StX.pe_makeR mk Ft hr rfl U.mgT pass0 (pa_cons (pe_ix ix_list (pv 0) pe_int (fun _ _ => rfl)) (pa_cons (pe_ix ix_list (pv 0) pe_int (fun _ _ => rfl)) pa_nil))))) pss_nil)
      (pss_cons (ps_if (pt_cmpR op_eq (pe_callB (r := rLenS K) call_len_seq (by rfl) B.len PySem.boot_len (pa_cons (pv 0) pa_nil)) pe_int (nomark _)) (pss_one (ps_ret (StX.pe_makeR mk Ft hr rfl U.mgT pass0 (pa_cons (pe_ix ix_list (pv 0) pe_int (fun _ _ => rfl)) (pa_cons (pe_ix ix_list (pv 0) pe_int (fun _ _ => rfl)) (pa_cons (pe_ix ix_list (pv 0) pe_int (fun _ _ => rfl)) pa_nil)))))) pss_nil)
      (pss_cons (ps_if (pt_cmpR op_eq (pe_callB (r := rLenS K) call_len_seq (by rfl) B.len PySem.boot_len (pa_cons (pv 0) pa_nil)) pe_int (nomark _)) (pss_one (ps_ret (StX.pe_makeR mk Ft hr rfl U.mgT pass0 (pa_cons (pe_ix ix_list (pv 0) pe_int (fun _ _ => rfl)) (pa_cons (pe_ix ix_list (pv 0) pe_int (fun _ _ => rfl)) (pa_cons (pe_ix ix_list (pv 0) pe_int (fun _ _ => rfl)) (pa_cons (pe_ix ix_list (pv 0) pe_int (fun _ _ => rfl)) pa_nil))))))) pss_nil)
      (pss_one (ps_ret (StX.pe_makeR mk Ft hr rfl U.mgT pass0 (pa_cons (pe_ix ix_list (pv 0) pe_int (fun _ _ => rfl)) (pa_cons (pe_ix ix_list (pv 0) pe_int (fun _ _ => rfl)) (pa_cons (pe_ix ix_list (pv 0) pe_int (fun _ _ => rfl)) (pa_cons (pe_ix ix_list (pv 0) pe_int (fun _ _ => rfl)) (pa_cons (pe_ix ix_list (pv 0) pe_int (fun _ _ => rfl)) pa_nil)))))))))))), ?_⟩
    have hs := SqL.of (K := K) hl
    have hl1 : 1 ≤ xs.length := by rw [hn.1]; exact hd.one
    have hl5 : xs.length ≤ 5 := by rw [hn.1]; exact hd.five
    rcases xs with _ | ⟨a, _ | ⟨b, _ | ⟨c, _ | ⟨d, _ | ⟨e, _ | ⟨g, xs⟩⟩⟩⟩⟩⟩
    · exact absurd hl1 (by rw [List.length_nil]; omega)
    · refine ⟨_, rfl, l, _, rfl, .inl hs, rfl, _, rfl, ?_⟩
      refine ite2 (fun _ => ?_) (fun c => absurd (decide_eq_true rfl) c)
      refine ⟨_, rfl, l, _, _, _, rfl, rfl, hs, (rfl : atI [a] 0 = some a), ?_⟩
      exact tab_new hn hd fun x H' tb s nw => q x H' tb nw s
    · refine ⟨_, rfl, l, _, rfl, .inl hs, rfl, _, rfl, ?_⟩
      refine ite2 (fun c => absurd (V.int.inj (of_decide_eq_true c)) (by simp only [List.length_cons, List.length_nil]; omega)) (fun _ => ?_)
      refine ⟨_, rfl, l, _, rfl, .inl hs, rfl, _, rfl, ?_⟩
      refine ite2 (fun _ => ?_) (fun c => absurd (decide_eq_true rfl) c)
      refine ⟨_, rfl, l, _, _, _, rfl, rfl, hs, (rfl : atI [a, b] 0 = some a), _, rfl, l, _, _, _, rfl, rfl, hs, (rfl : atI [a, b] 1 = some b), ?_⟩
      exact tab_new hn hd fun x H' tb s nw => q x H' tb nw s
    · refine ⟨_, rfl, l, _, rfl, .inl hs, rfl, _, rfl, ?_⟩
      refine ite2 (fun c => absurd (V.int.inj (of_decide_eq_true c)) (by simp only [List.length_cons, List.length_nil]; omega)) (fun _ => ?_)
      refine ⟨_, rfl, l, _, rfl, .inl hs, rfl, _, rfl, ?_⟩
      refine ite2 (fun c => absurd (V.int.inj (of_decide_eq_true c)) (by simp only [List.length_cons, List.length_nil]; omega)) (fun _ => ?_)
      refine ⟨_, rfl, l, _, rfl, .inl hs, rfl, _, rfl, ?_⟩
      refine ite2 (fun _ => ?_) (fun c => absurd (decide_eq_true rfl) c)
      refine ⟨_, rfl, l, _, _, _, rfl, rfl, hs, (rfl : atI [a, b, c] 0 = some a), _, rfl, l, _, _, _, rfl, rfl, hs, (rfl : atI [a, b, c] 1 = some b), _, rfl, l, _, _, _, rfl, rfl, hs, (rfl : atI [a, b, c] 2 = some c), ?_⟩
      exact tab_new hn hd fun x H' tb s nw => q x H' tb nw s
    · refine ⟨_, rfl, l, _, rfl, .inl hs, rfl, _, rfl, ?_⟩
      refine ite2 (fun c => absurd (V.int.inj (of_decide_eq_true c)) (by simp only [List.length_cons, List.length_nil]; omega)) (fun _ => ?_)
      refine ⟨_, rfl, l, _, rfl, .inl hs, rfl, _, rfl, ?_⟩
      refine ite2 (fun c => absurd (V.int.inj (of_decide_eq_true c)) (by simp only [List.length_cons, List.length_nil]; omega)) (fun _ => ?_)
      refine ⟨_, rfl, l, _, rfl, .inl hs, rfl, _, rfl, ?_⟩
      refine ite2 (fun c => absurd (V.int.inj (of_decide_eq_true c)) (by simp only [List.length_cons, List.length_nil]; omega)) (fun _ => ?_)
      refine ⟨_, rfl, l, _, rfl, .inl hs, rfl, _, rfl, ?_⟩
      refine ite2 (fun _ => ?_) (fun c => absurd (decide_eq_true rfl) c)
      refine ⟨_, rfl, l, _, _, _, rfl, rfl, hs, (rfl : atI [a, b, c, d] 0 = some a), _, rfl, l, _, _, _, rfl, rfl, hs, (rfl : atI [a, b, c, d] 1 = some b), _, rfl, l, _, _, _, rfl, rfl, hs, (rfl : atI [a, b, c, d] 2 = some c), _, rfl, l, _, _, _, rfl, rfl, hs, (rfl : atI [a, b, c, d] 3 = some d), ?_⟩
      exact tab_new hn hd fun x H' tb s nw => q x H' tb nw s
    · refine ⟨_, rfl, l, _, rfl, .inl hs, rfl, _, rfl, ?_⟩
      refine ite2 (fun c => absurd (V.int.inj (of_decide_eq_true c)) (by simp only [List.length_cons, List.length_nil]; omega)) (fun _ => ?_)
      refine ⟨_, rfl, l, _, rfl, .inl hs, rfl, _, rfl, ?_⟩
      refine ite2 (fun c => absurd (V.int.inj (of_decide_eq_true c)) (by simp only [List.length_cons, List.length_nil]; omega)) (fun _ => ?_)
      refine ⟨_, rfl, l, _, rfl, .inl hs, rfl, _, rfl, ?_⟩
      refine ite2 (fun c => absurd (V.int.inj (of_decide_eq_true c)) (by simp only [List.length_cons, List.length_nil]; omega)) (fun _ => ?_)
      refine ⟨_, rfl, l, _, rfl, .inl hs, rfl, _, rfl, ?_⟩
      refine ite2 (fun c => absurd (V.int.inj (of_decide_eq_true c)) (by simp only [List.length_cons, List.length_nil]; omega)) (fun _ => ?_)
      refine ⟨_, rfl, l, _, _, _, rfl, rfl, hs, (rfl : atI [a, b, c, d, e] 0 = some a), _, rfl, l, _, _, _, rfl, rfl, hs, (rfl : atI [a, b, c, d, e] 1 = some b), _, rfl, l, _, _, _, rfl, rfl, hs, (rfl : atI [a, b, c, d, e] 2 = some c), _, rfl, l, _, _, _, rfl, rfl, hs, (rfl : atI [a, b, c, d, e] 3 = some d), _, rfl, l, _, _, _, rfl, rfl, hs, (rfl : atI [a, b, c, d, e] 4 = some e), ?_⟩
      exact tab_new hn hd fun x H' tb s nw => q x H' tb nw s
    · exact absurd hl5 (by rw [List.length_cons, List.length_cons, List.length_cons, List.length_cons, List.length_cons, List.length_cons]; omega)
/-! ### by steps -/
def spBS (C D : Addr) : Sp := fun vs H Q _ => ∃ (l : Addr) (xs : List V) (ps : List Fr2), vs = [.ref l] ∧ H l = some (.lst xs) ∧ Nms C H xs ps ∧ Bds 300 ps ∧ 1 ≤ ps.length ∧ ps.length ≤ 5 ∧ Nng ps ∧ (∃ s ∈ ps, s.1 ≠ 0) ∧ ∀ x H', TabAt C D H' x (pad (ptsR ps)) → Nw D H H' x → Same H H' → Q (.ref x) H'
abbrev n__law_by_steps : List Str := ["_law_row"]
theorem sc__law_by_steps : FnScope n__law_by_steps ["_law_row"] (defScope d__law_by_steps) := ⟨rfl, rfl, rfl, by decide +kernel, rfl, by decide +kernel, by decide +kernel⟩
theorem ok_by_steps {f C D : Addr} {fd : FuncData} (F : FnP K "_law_by_steps" "_law_by_steps" d__law_by_steps [] f fd) (B : Blt mg) (U : TC K mg D) (cO : CMS P w K mg base 11 D "of_steps" (spOS C D)) : FnOk P w K mg base CX0 12 f fd ["_law_row"] (spBS C D) := by
  refine F.ok sc__law_by_steps (fun vs H Q E h => ?_) (fun cdv A outer s H vs Q E hr h => ?_)
  · obtain ⟨l, xs, ps, rfl, _⟩ := h
    rfl
  · obtain ⟨l, xs, ps, rfl, hl, hn, hb, h1, h5, nn, hex, q⟩ := h
    refine ⟨_, PSs.nox (pss_cons (ps_if (pt_cmpR op_eq (pe_callB (r := rLenS K) call_len_seq (by rfl) B.len PySem.boot_len (pa_cons (pv 0) pa_nil)) pe_int (nomark _)) (pss_one (ps_ret (pe_cmR cO hr (pe_glob (v := .ref D) rfl U.mgT rfl) (pa_cons (pe_ix ix_list (pv 0) pe_int (fun _ _ => rfl)) pa_nil)))) pss_nil)
      (pss_cons (ps_if (pt_cmpR op_eq (pe_callB (r := rLenS K) call_len_seq (by rfl) B.len PySem.boot_len (pa_cons (pv 0) pa_nil)) pe_int (nomark _)) (pss_one (ps_ret (pe_cmR cO hr (pe_glob (v := .ref D) rfl U.mgT rfl) (pa_cons (pe_ix ix_list (pv 0) pe_int (fun _ _ => rfl)) (pa_cons (pe_ix ix_list (pv 0) pe_int (fun _ _ => rfl)) pa_nil))))) pss_nil)
      (pss_cons (ps_if (pt_cmpR op_eq (pe_callB (r := rLenS K) call_len_seq (by rfl) B.len PySem.boot_len (pa_cons (pv 0) pa_nil)) pe_int (nomark _)) (pss_one (ps_ret (pe_cmR cO hr (pe_glob (v := .ref D) rfl U.mgT rfl) (pa_cons (pe_ix ix_list (pv 0) pe_int (fun _ _ => rfl)) (pa_cons (pe_ix ix_list (pv 0) pe_int (fun _ _ => rfl)) (pa_cons (pe_ix ix_list (pv 0) pe_int (fun _ _ => rfl)) pa_nil)))))) pss_nil)
      (pss_cons (ps_if (pt_cmpR op_eq (pe_callB (r := rLenS K) call_len_seq (by rfl) B.len PySem.boot_len (pa_cons (pv 0) pa_nil)) pe_int (nomark _)) (pss_one (ps_ret (pe_cmR cO hr (pe_glob (v := .ref D) rfl U.mgT rfl) (pa_cons (pe_ix ix_list (pv 0) pe_int (fun _ _ => rfl)) (pa_cons (pe_ix ix_list (pv 0) pe_int (fun _ _ => rfl)) (pa_cons (pe_ix ix_list (pv 0) pe_int (fun _ _ => rfl)) (pa_cons (pe_ix ix_list (pv 0) pe_int (fun _ _ => rfl)) pa_nil))))))) pss_nil)
      (pss_one (ps_ret (pe_cmR cO hr (pe_glob (v := .ref D) rfl U.mgT rfl) (pa_cons (pe_ix ix_list (pv 0) pe_int (fun _ _ => rfl)) (pa_cons (pe_ix ix_list (pv 0) pe_int (fun _ _ => rfl)) (pa_cons (pe_ix ix_list (pv 0) pe_int (fun _ _ => rfl)) (pa_cons (pe_ix ix_list (pv 0) pe_int (fun _ _ => rfl)) (pa_cons (pe_ix ix_list (pv 0) pe_int (fun _ _ => rfl)) pa_nil)))))))))))), ?_⟩
    have hs := SqL.of (K := K) hl
    have hl1 : 1 ≤ xs.length := by rw [hn.1]; exact h1
    have hl5 : xs.length ≤ 5 := by rw [hn.1]; exact h5
    rcases xs with _ | ⟨a, _ | ⟨b, _ | ⟨c, _ | ⟨d, _ | ⟨e, _ | ⟨g, xs⟩⟩⟩⟩⟩⟩
    · exact absurd hl1 (by rw [List.length_nil]; omega)
    · refine ⟨_, rfl, l, _, rfl, .inl hs, rfl, _, rfl, ?_⟩
      refine ite2 (fun _ => ?_) (fun c => absurd (decide_eq_true rfl) c)
      exact ⟨rfl, _, rfl, l, _, _, _, rfl, rfl, hs, (rfl : atI [a] 0 = some a), [a], ps, rfl, hn, hb, h1, h5, nn, hex, q⟩
    · refine ⟨_, rfl, l, _, rfl, .inl hs, rfl, _, rfl, ?_⟩
      refine ite2 (fun c => absurd (V.int.inj (of_decide_eq_true c)) (by simp only [List.length_cons, List.length_nil]; omega)) (fun _ => ?_)
      refine ⟨_, rfl, l, _, rfl, .inl hs, rfl, _, rfl, ?_⟩
      refine ite2 (fun _ => ?_) (fun c => absurd (decide_eq_true rfl) c)
      exact ⟨rfl, _, rfl, l, _, _, _, rfl, rfl, hs, (rfl : atI [a, b] 0 = some a), _, rfl, l, _, _, _, rfl, rfl, hs, (rfl : atI [a, b] 1 = some b), [a, b], ps, rfl, hn, hb, h1, h5, nn, hex, q⟩
    · refine ⟨_, rfl, l, _, rfl, .inl hs, rfl, _, rfl, ?_⟩
      refine ite2 (fun c => absurd (V.int.inj (of_decide_eq_true c)) (by simp only [List.length_cons, List.length_nil]; omega)) (fun _ => ?_)
      refine ⟨_, rfl, l, _, rfl, .inl hs, rfl, _, rfl, ?_⟩
      refine ite2 (fun c => absurd (V.int.inj (of_decide_eq_true c)) (by simp only [List.length_cons, List.length_nil]; omega)) (fun _ => ?_)
      refine ⟨_, rfl, l, _, rfl, .inl hs, rfl, _, rfl, ?_⟩
      refine ite2 (fun _ => ?_) (fun c => absurd (decide_eq_true rfl) c)
      exact ⟨rfl, _, rfl, l, _, _, _, rfl, rfl, hs, (rfl : atI [a, b, c] 0 = some a), _, rfl, l, _, _, _, rfl, rfl, hs, (rfl : atI [a, b, c] 1 = some b), _, rfl, l, _, _, _, rfl, rfl, hs, (rfl : atI [a, b, c] 2 = some c), [a, b, c], ps, rfl, hn, hb, h1, h5, nn, hex, q⟩
    · refine ⟨_, rfl, l, _, rfl, .inl hs, rfl, _, rfl, ?_⟩
      refine ite2 (fun c => absurd (V.int.inj (of_decide_eq_true c)) (by simp only [List.length_cons, List.length_nil]; omega)) (fun _ => ?_)
      refine ⟨_, rfl, l, _, rfl, .inl hs, rfl, _, rfl, ?_⟩
      refine ite2 (fun c => absurd (V.int.inj (of_decide_eq_true c)) (by simp only [List.length_cons, List.length_nil]; omega)) (fun _ => ?_)
      refine ⟨_, rfl, l, _, rfl, .inl hs, rfl, _, rfl, ?_⟩
      refine ite2 (fun c => absurd (V.int.inj (of_decide_eq_true c)) (by simp only [List.length_cons, List.length_nil]; omega)) (fun _ => ?_)
      refine ⟨_, rfl, l, _, rfl, .inl hs, rfl, _, rfl, ?_⟩
      refine ite2 (fun _ => ?_) (fun c => absurd (decide_eq_true rfl) c)
      exact ⟨rfl, _, rfl, l, _, _, _, rfl, rfl, hs, (rfl : atI [a, b, c, d] 0 = some a), _, rfl, l, _, _, _, rfl, rfl, hs, (rfl : atI [a, b, c, d] 1 = some b), _, rfl, l, _, _, _, rfl, rfl, hs, (rfl : atI [a, b, c, d] 2 = some c), _, rfl, l, _, _, _, rfl, rfl, hs, (rfl : atI [a, b, c, d] 3 = some d), [a, b, c, d], ps, rfl, hn, hb, h1, h5, nn, hex, q⟩
    · refine ⟨_, rfl, l, _, rfl, .inl hs, rfl, _, rfl, ?_⟩
      refine ite2 (fun c => absurd (V.int.inj (of_decide_eq_true c)) (by simp only [List.length_cons, List.length_nil]; omega)) (fun _ => ?_)
      refine ⟨_, rfl, l, _, rfl, .inl hs, rfl, _, rfl, ?_⟩
      refine ite2 (fun c => absurd (V.int.inj (of_decide_eq_true c)) (by simp only [List.length_cons, List.length_nil]; omega)) (fun _ => ?_)
      refine ⟨_, rfl, l, _, rfl, .inl hs, rfl, _, rfl, ?_⟩
      refine ite2 (fun c => absurd (V.int.inj (of_decide_eq_true c)) (by simp only [List.length_cons, List.length_nil]; omega)) (fun _ => ?_)
      refine ⟨_, rfl, l, _, rfl, .inl hs, rfl, _, rfl, ?_⟩
      refine ite2 (fun c => absurd (V.int.inj (of_decide_eq_true c)) (by simp only [List.length_cons, List.length_nil]; omega)) (fun _ => ?_)
      exact ⟨rfl, _, rfl, l, _, _, _, rfl, rfl, hs, (rfl : atI [a, b, c, d, e] 0 = some a), _, rfl, l, _, _, _, rfl, rfl, hs, (rfl : atI [a, b, c, d, e] 1 = some b), _, rfl, l, _, _, _, rfl, rfl, hs, (rfl : atI [a, b, c, d, e] 2 = some c), _, rfl, l, _, _, _, rfl, rfl, hs, (rfl : atI [a, b, c, d, e] 3 = some d), _, rfl, l, _, _, _, rfl, rfl, hs, (rfl : atI [a, b, c, d, e] 4 = some e), [a, b, c, d, e], ps, rfl, hn, hb, h1, h5, nn, hex, q⟩
    · exact absurd hl5 (by rw [List.length_cons, List.length_cons, List.length_cons, List.length_cons, List.length_cons, List.length_cons]; omega)
end
end Lb
/-! The mathematics of tables: sums, products, the reduced one. -/
namespace Rm
def addF (ps qs : List Fr2) : List Fr2 := List.zipWith plus ps qs
def mulF (ps : List Fr2) (k : Fr2) : List Fr2 := ps.map fun p => times p k
/-- tops to 2 ^ j, bottoms to 2 ^ i -/
def BT (j i : Nat) (ps : List Fr2) : Prop := ∀ p ∈ ps, Bd j p.1 ∧ Bd i p.2
theorem BT.bds {j i k : Nat} {ps : List Fr2} (h : BT j i ps) (hj : j ≤ k) (hi : i ≤ k) : Bds k ps := fun p hp => ⟨(h p hp).1.mono hj, (h p hp).2.mono hi⟩
theorem BT.mono {j i j' i' : Nat} {ps : List Fr2} (h : BT j i ps) (hj : j ≤ j') (hi : i ≤ i') : BT j' i' ps := fun p hp => ⟨(h p hp).1.mono hj, (h p hp).2.mono hi⟩
theorem BT.get {j i : Nat} {ps : List Fr2} (h : BT j i ps) {n : Nat} {p : Fr2} (e : ps[n]? = some p) : Bd j p.1 ∧ Bd i p.2 := h p (List.mem_of_getElem? e)
theorem desc_q {ps : List Fr2} (l : Lws ps) (h1 : 1 ≤ ps.length) (h5 : ps.length ≤ 5) (pos : ∀ (i : Nat) p, ps[i]? = some p → 0 ≤ qv p) (first : ∀ p, ps[0]? = some p → 0 < qv p) (down : ∀ (i : Nat) p r, ps[i]? = some p → ps[i + 1]? = some r → qv r ≤ qv p) : Desc' ps := by
  refine ⟨h1, h5, fun i p e => (q_nn (l.get e)).mpr (pos i p e), fun p e => ?_, fun i p r e1 e2 c => ?_⟩
  · have := (q_pos (l.get e)).mpr (first p e)
    omega
  · have a := (q_lt (l.get e1) (l.get e2)).mp c
    have b := down i p r e1 e2
    grind
theorem Desc'.q0 {ps : List Fr2} (d : Desc' ps) (l : Lws ps) {i : Nat} {p : Fr2} (e : ps[i]? = some p) : 0 ≤ qv p := (q_nn (l.get e)).mp (d.pos i p e)
theorem Desc'.q1 {ps : List Fr2} (d : Desc' ps) (l : Lws ps) {p : Fr2} (e : ps[0]? = some p) : 0 < qv p := (q_pos (l.get e)).mp (by
  have a := d.pos 0 p e
  have b := d.first p e
  omega)
theorem Desc'.q2 {ps : List Fr2} (d : Desc' ps) (l : Lws ps) {i : Nat} {p r : Fr2} (e1 : ps[i]? = some p) (e2 : ps[i + 1]? = some r) : qv r ≤ qv p := by
  have a := d.down i p r e1 e2
  rw [q_lt (l.get e1) (l.get e2)] at a
  grind
theorem add_get {ps qs : List Fr2} {i : Nat} {p : Fr2} (e : (addF ps qs)[i]? = some p) : ∃ a b, ps[i]? = some a ∧ qs[i]? = some b ∧ p = plus a b := by
  unfold addF at e
  rw [List.getElem?_zipWith] at e
  cases c1 : ps[i]? with
  | none => rw [c1] at e; exact nomatch e
  | some a => cases c2 : qs[i]? with
    | none => rw [c1, c2] at e; exact nomatch e
    | some b => rw [c1, c2] at e; cases e; exact ⟨a, b, rfl, rfl, rfl⟩
theorem add_at {ps qs : List Fr2} {i : Nat} {a b : Fr2} (e1 : ps[i]? = some a) (e2 : qs[i]? = some b) : (addF ps qs)[i]? = some (plus a b) := by
  unfold addF
  rw [List.getElem?_zipWith, e1, e2]
theorem add_len {ps qs : List Fr2} (h : ps.length = qs.length) : (addF ps qs).length = ps.length := by
  unfold addF
  rw [List.length_zipWith, h]
  omega
theorem add_lws {ps qs : List Fr2} (l : Lws ps) (m : Lws qs) : Lws (addF ps qs) := fun p hp => by
  obtain ⟨i, e⟩ := List.mem_iff_getElem?.mp hp
  obtain ⟨a, b, e1, e2, rfl⟩ := add_get e
  exact lw_plus (l.get e1) (m.get e2)
theorem add_desc {ps qs : List Fr2} (l : Lws ps) (m : Lws qs) (d : Desc' ps) (e : Desc' qs) (h : ps.length = qs.length) : Desc' (addF ps qs) := by
  refine desc_q (add_lws l m) (by rw [add_len h]; exact d.one) (by rw [add_len h]; exact d.five) (fun i p g => ?_) (fun p g => ?_) fun i p r g1 g2 => ?_
  · obtain ⟨a, b, e1, e2, rfl⟩ := add_get g
    rw [q_plus (l.get e1) (m.get e2)]
    have h1 := d.q0 l e1
    have h2 := e.q0 m e2
    grind
  · obtain ⟨a, b, e1, e2, rfl⟩ := add_get g
    rw [q_plus (l.get e1) (m.get e2)]
    have h1 := d.q1 l e1
    have h2 := e.q1 m e2
    grind
  · obtain ⟨a, b, e1, e2, rfl⟩ := add_get g1
    obtain ⟨a', b', e1', e2', rfl⟩ := add_get g2
    rw [q_plus (l.get e1) (m.get e2), q_plus (l.get e1') (m.get e2')]
    have h1 := d.q2 l e1 e1'
    have h2 := e.q2 m e2 e2'
    grind
theorem mul_get {ps : List Fr2} {k : Fr2} {i : Nat} {p : Fr2} (e : (mulF ps k)[i]? = some p) : ∃ a, ps[i]? = some a ∧ p = times a k := by
  unfold mulF at e
  rw [List.getElem?_map] at e
  cases c1 : ps[i]? with
  | none => rw [c1] at e; exact nomatch e
  | some a => rw [c1] at e; cases e; exact ⟨a, rfl, rfl⟩
theorem mul_at {ps : List Fr2} {k : Fr2} {i : Nat} {a : Fr2} (e1 : ps[i]? = some a) : (mulF ps k)[i]? = some (times a k) := by
  unfold mulF
  rw [List.getElem?_map, e1]
  rfl
theorem mul_len (ps : List Fr2) (k : Fr2) : (mulF ps k).length = ps.length := List.length_map ..
theorem mul_lws {ps : List Fr2} {k : Fr2} (l : Lws ps) (m : Lw k.1 k.2) : Lws (mulF ps k) := fun p hp => by
  obtain ⟨i, e⟩ := List.mem_iff_getElem?.mp hp
  obtain ⟨a, e1, rfl⟩ := mul_get e
  exact lw_times (l.get e1) m
theorem mul_desc {ps : List Fr2} {k : Fr2} (l : Lws ps) (m : Lw k.1 k.2) (d : Desc' ps) (hk : 0 < k.1) : Desc' (mulF ps k) := by
  have k0 := (q_pos m).mp hk
  refine desc_q (mul_lws l m) (by rw [mul_len]; exact d.one) (by rw [mul_len]; exact d.five) (fun i p g => ?_) (fun p g => ?_) fun i p r g1 g2 => ?_
  · obtain ⟨a, e1, rfl⟩ := mul_get g
    rw [q_times (l.get e1) m]
    exact Rat.mul_nonneg (d.q0 l e1) (Rat.le_of_lt k0)
  · obtain ⟨a, e1, rfl⟩ := mul_get g
    rw [q_times (l.get e1) m]
    exact Rat.mul_pos (d.q1 l e1) k0
  · obtain ⟨a, e1, rfl⟩ := mul_get g1
    obtain ⟨a', e1', rfl⟩ := mul_get g2
    rw [q_times (l.get e1) m, q_times (l.get e1') m]
    exact Rat.mul_le_mul_of_nonneg_right (d.q2 l e1 e1') (Rat.le_of_lt k0)
theorem mul_one {ps : List Fr2} (l : Lws ps) : mulF ps (1, 1) = ps := by
  unfold mulF
  refine List.ext_getElem? fun i => ?_
  rw [List.getElem?_map]
  cases c : ps[i]? with
  | none => rfl
  | some a =>
    have la := l.get c
    have e : times a (1, 1) = a := by
      refine q_inj (lw_times la (lw_int 1)) la ?_
      rw [q_times la (lw_int 1)]
      have : qv (1, 1) = 1 := by unfold qv; decide +kernel
      rw [this]
      grind
    show some (times a (1, 1)) = some a
    rw [e]
/-! ### the reduced one -/
theorem fdiv_le {n d : Int} (h : 0 < d) : (n.fdiv d).natAbs ≤ n.natAbs := by
  rw [Int.fdiv_eq_ediv_of_nonneg _ (by omega)]
  exact Int.natAbs_ediv_le_natAbs n d
def lcmI (a b : Int) : Int := ((Nat.lcm a.natAbs b.natAbs : Nat) : Int)
def gcdI (a b : Int) : Int := ((Nat.gcd a.natAbs b.natAbs : Nat) : Int)
def botF (ps : List Fr2) : Int := ps.foldl (fun b p => lcmI b p.2) 1
def wholeF (ps : List Fr2) : List Int := ps.map fun p => p.1 * (botF ps).fdiv p.2
def gcdF (ns : List Int) : Int := ns.foldl gcdI 0
def divF (ns : List Int) : List Int := ns.map fun n => n.fdiv (gcdF ns)
def redI (ps : List Fr2) : List Int := divF (wholeF ps)
def redF (ps : List Fr2) : List Fr2 := (redI ps).map fun n => (n, 1)
theorem lcm_pos {a b : Int} (ha : 0 < a) (hb : 0 < b) : 0 < lcmI a b := by
  have := Nat.lcm_pos (m := a.natAbs) (n := b.natAbs) (by omega) (by omega)
  unfold lcmI
  omega
theorem lcm_bd {j k : Nat} {a b : Int} (ha : Bd j a) (hb : Bd k b) : Bd (j + k) (lcmI a b) := by
  unfold Bd lcmI at *
  rw [Int.natAbs_natCast, Nat.pow_add]
  refine Nat.lt_of_le_of_lt (m := a.natAbs * b.natAbs) ?_ (Nat.mul_lt_mul'' ha hb)
  unfold Nat.lcm
  exact Nat.div_le_self _ _
theorem bot_fold {i : Nat} : ∀ (ps : List Fr2) (b : Int) (k : Nat), Lws ps → (∀ p ∈ ps, Bd i p.2) → 0 < b → Bd k b → 0 < ps.foldl (fun b p => lcmI b p.2) b ∧ b ∣ ps.foldl (fun b p => lcmI b p.2) b ∧ (∀ p ∈ ps, p.2 ∣ ps.foldl (fun b p => lcmI b p.2) b) ∧ Bd (k + i * ps.length) (ps.foldl (fun b p => lcmI b p.2) b)
  | [], b, k, _, _, hb, hk => ⟨hb, Int.dvd_refl b, fun p hp => absurd hp List.not_mem_nil, hk.mono (by simp)⟩
  | p :: ps, b, k, l, h, hb, hk => by
    have lp := l p List.mem_cons_self
    obtain ⟨h1, h2, h3, h4⟩ := bot_fold (i := i) ps (lcmI b p.2) (k + i) (fun x hx => l x (List.mem_cons_of_mem _ hx)) (fun x hx => h x (List.mem_cons_of_mem _ hx)) (lcm_pos hb lp.pos) (lcm_bd hk (h p List.mem_cons_self))
    have d1 : b ∣ lcmI b p.2 := Int.natAbs_dvd_natAbs.mp (by unfold lcmI; rw [Int.natAbs_natCast]; exact Nat.dvd_lcm_left _ _)
    have d2 : p.2 ∣ lcmI b p.2 := Int.natAbs_dvd_natAbs.mp (by unfold lcmI; rw [Int.natAbs_natCast]; exact Nat.dvd_lcm_right _ _)
    refine ⟨h1, Int.dvd_trans d1 h2, fun x hx => ?_, h4.mono ?_⟩
    · rcases List.mem_cons.mp hx with rfl | hx
      · exact Int.dvd_trans d2 h2
      · exact h3 x hx
    · rw [List.length_cons, Nat.mul_succ]
      omega
theorem bot_of {i : Nat} {ps : List Fr2} (l : Lws ps) (h : ∀ p ∈ ps, Bd i p.2) : 0 < botF ps ∧ (∀ p ∈ ps, p.2 ∣ botF ps) ∧ Bd (1 + i * ps.length) (botF ps) := by
  obtain ⟨h1, _, h3, h4⟩ := bot_fold ps 1 1 l h (by decide) (bd_one (by decide))
  exact ⟨h1, h3, h4⟩
theorem gcd_fold : ∀ (ns : List Int) (g : Int), 0 ≤ g → 0 ≤ ns.foldl gcdI g ∧ ns.foldl gcdI g ∣ g ∧ ∀ n ∈ ns, ns.foldl gcdI g ∣ n
  | [], g, h => ⟨h, Int.dvd_refl g, fun p hp => absurd hp List.not_mem_nil⟩
  | n :: ns, g, h => by
    obtain ⟨h1, h2, h3⟩ := gcd_fold ns (gcdI g n) (by unfold gcdI; omega)
    have d1 : gcdI g n ∣ g := Int.natAbs_dvd_natAbs.mp (by unfold gcdI; rw [Int.natAbs_natCast]; exact Nat.gcd_dvd_left _ _)
    have d2 : gcdI g n ∣ n := Int.natAbs_dvd_natAbs.mp (by unfold gcdI; rw [Int.natAbs_natCast]; exact Nat.gcd_dvd_right _ _)
    refine ⟨h1, Int.dvd_trans h2 d1, fun x hx => ?_⟩
    rcases List.mem_cons.mp hx with rfl | hx
    · exact Int.dvd_trans h2 d2
    · exact h3 x hx
theorem gcd_of {ns : List Int} {n : Int} (hn : n ∈ ns) (h0 : n ≠ 0) : 0 < gcdF ns ∧ ∀ m ∈ ns, gcdF ns ∣ m := by
  obtain ⟨h1, _, h3⟩ := gcd_fold ns 0 (by decide)
  refine ⟨?_, h3⟩
  have := h3 n hn
  have z : ns.foldl gcdI 0 ≠ 0 := fun z => by
    rw [z] at this
    exact h0 (Int.zero_dvd.mp this)
  show 0 < ns.foldl gcdI 0
  omega
theorem whole_q {ps : List Fr2} {p : Fr2} (lp : Lw p.1 p.2) (hd : p.2 ∣ botF ps) : ((p.1 * (botF ps).fdiv p.2 : Int) : Rat) = qv p * (botF ps : Rat) := by
  obtain ⟨c, hc⟩ := hd
  have h2 := cast_ne (n := p.2) (by have := lp.pos; omega)
  rw [hc, Int.mul_comm p.2 c, Int.mul_fdiv_cancel _ (by have := lp.pos; omega)]
  unfold qv
  rw [Rat.intCast_mul, Rat.intCast_mul]
  grind
theorem whole_len (ps : List Fr2) : (wholeF ps).length = ps.length := List.length_map ..
theorem whole_get {ps : List Fr2} {i : Nat} {n : Int} (e : (wholeF ps)[i]? = some n) : ∃ p, ps[i]? = some p ∧ n = p.1 * (botF ps).fdiv p.2 := by
  unfold wholeF at e
  rw [List.getElem?_map] at e
  cases c1 : ps[i]? with
  | none => rw [c1] at e; exact nomatch e
  | some a => rw [c1] at e; cases e; exact ⟨a, rfl, rfl⟩
/-- whole numbers that a table may have -/
structure DescI (ns : List Int) : Prop where
  one : 1 ≤ ns.length
  five : ns.length ≤ 5
  pos : ∀ (i : Nat) n, ns[i]? = some n → 0 ≤ n
  first : ∀ n, ns[0]? = some n → 0 < n
  down : ∀ (i : Nat) a b, ns[i]? = some a → ns[i + 1]? = some b → b ≤ a
theorem DescI.desc {ns : List Int} (d : DescI ns) : Desc' (ns.map fun n => (n, 1)) := by
  have g : ∀ (i : Nat) p, (ns.map fun n => ((n, 1) : Fr2))[i]? = some p → ∃ n, ns[i]? = some n ∧ p = (n, 1) := fun i p e => by
    rw [List.getElem?_map] at e
    cases c : ns[i]? with
    | none => rw [c] at e; exact nomatch e
    | some n => rw [c] at e; cases e; exact ⟨n, rfl, rfl⟩
  refine ⟨by rw [List.length_map]; exact d.one, by rw [List.length_map]; exact d.five, fun i p e => ?_, fun p e => ?_, fun i p r e1 e2 => ?_⟩
  · obtain ⟨n, f, rfl⟩ := g i p e
    exact d.pos i n f
  · obtain ⟨n, f, rfl⟩ := g 0 p e
    have := d.first n f
    show n ≠ 0
    omega
  · obtain ⟨a, f1, rfl⟩ := g i p e1
    obtain ⟨b, f2, rfl⟩ := g (i + 1) r e2
    have := d.down i a b f1 f2
    show ¬ a * 1 < b * 1
    omega
theorem whole_desc {ps : List Fr2} (l : Lws ps) (d : Desc' ps) {k : Nat} (hk : ∀ p ∈ ps, Bd k p.2) : DescI (wholeF ps) := by
  obtain ⟨b0, bd, _⟩ := bot_of l hk
  have b0' := pos_q b0
  have q : ∀ {i : Nat} {n : Int} {p : Fr2}, ps[i]? = some p → n = p.1 * (botF ps).fdiv p.2 → (n : Rat) = qv p * (botF ps : Rat) := fun e1 e2 => by
    rw [e2]
    exact whole_q (l.get e1) (bd _ (List.mem_of_getElem? e1))
  refine ⟨by rw [whole_len]; exact d.one, by rw [whole_len]; exact d.five, fun i n e => ?_, fun n e => ?_, fun i a b e1 e2 => ?_⟩
  · obtain ⟨p, e1, e2⟩ := whole_get e
    have h := Rat.mul_nonneg (d.q0 l e1) (Rat.le_of_lt b0')
    rw [← q e1 e2] at h
    exact_mod_cast h
  · obtain ⟨p, e1, e2⟩ := whole_get e
    have h := Rat.mul_pos (d.q1 l e1) b0'
    rw [← q e1 e2] at h
    exact_mod_cast h
  · obtain ⟨p, f1, f2⟩ := whole_get e1
    obtain ⟨r, g1, g2⟩ := whole_get e2
    have h := Rat.mul_le_mul_of_nonneg_right (d.q2 l f1 g1) (Rat.le_of_lt b0')
    rw [← q f1 f2, ← q g1 g2] at h
    exact_mod_cast h
theorem div_desc {ns : List Int} (d : DescI ns) : 0 < gcdF ns ∧ DescI (divF ns) := by
  have h0 : ∃ n, ns[0]? = some n := by
    cases c : ns[0]? with
    | none => have := List.getElem?_eq_none_iff.mp c; have := d.one; omega
    | some n => exact ⟨n, rfl⟩
  obtain ⟨n0, e0⟩ := h0
  have p0 := d.first n0 e0
  obtain ⟨g0, gd⟩ := gcd_of (List.mem_of_getElem? e0) (by omega)
  have get : ∀ {i : Nat} {m : Int}, (divF ns)[i]? = some m → ∃ n, ns[i]? = some n ∧ m = n / gcdF ns := fun {i m} e => by
    unfold divF at e
    rw [List.getElem?_map] at e
    cases c1 : ns[i]? with
    | none => rw [c1] at e; exact nomatch e
    | some a =>
      rw [c1] at e
      cases e
      exact ⟨a, rfl, Int.fdiv_eq_ediv_of_nonneg _ (by omega)⟩
  have len : (divF ns).length = ns.length := List.length_map ..
  refine ⟨g0, by rw [len]; exact d.one, by rw [len]; exact d.five, fun i m e => ?_, fun m e => ?_, fun i a b e1 e2 => ?_⟩
  · obtain ⟨n, e1, rfl⟩ := get e
    exact Int.ediv_nonneg (d.pos i n e1) (by omega)
  · obtain ⟨n, e1, rfl⟩ := get e
    rw [e0] at e1
    cases e1
    have := Int.le_of_dvd p0 (gd n0 (List.mem_of_getElem? e0))
    exact Int.ediv_pos_of_pos_of_dvd p0 (by omega) (gd n0 (List.mem_of_getElem? e0))
  · obtain ⟨n, f1, rfl⟩ := get e1
    obtain ⟨m, f2, rfl⟩ := get e2
    exact Int.ediv_le_ediv g0 (d.down i n m f1 f2)
theorem whole_bd {j i : Nat} {ps : List Fr2} (l : Lws ps) (h : BT j i ps) (h5 : ps.length ≤ 5) : ∀ n ∈ wholeF ps, Bd (j + (1 + i * 5)) n := fun n hn => by
  obtain ⟨k, e⟩ := List.mem_iff_getElem?.mp hn
  obtain ⟨p, e1, rfl⟩ := whole_get e
  obtain ⟨b0, bd, bb⟩ := bot_of l fun p hp => (h p hp).2
  have lp := l.get e1
  have b1 := (h.get e1).1
  have b2 : Bd (1 + i * 5) ((botF ps).fdiv p.2) := (bb.mono (by have := Nat.mul_le_mul_left i h5; omega)).le (fdiv_le lp.pos)
  exact b1.mul b2
theorem red_bd {j i : Nat} {ps : List Fr2} (l : Lws ps) (d : Desc' ps) (h : BT j i ps) : BT (j + (1 + i * 5)) 1 (redF ps) := fun p hp => by
  obtain ⟨m, hm, rfl⟩ := List.mem_map.mp hp
  obtain ⟨n, hn, rfl⟩ := List.mem_map.mp hm
  have g0 := (div_desc (whole_desc l d fun p hp => (h p hp).2)).1
  exact ⟨(whole_bd l h d.five n hn).le (fdiv_le g0), bd_one (by decide)⟩
theorem red_desc {j i : Nat} {ps : List Fr2} (l : Lws ps) (d : Desc' ps) (h : BT j i ps) : DescI (redI ps) := (div_desc (whole_desc l d fun p hp => (h p hp).2)).2
theorem red_lws (ps : List Fr2) : Lws (redF ps) := fun p hp => by
  obtain ⟨m, hm, rfl⟩ := List.mem_map.mp hp
  exact lw_int m
theorem red_len (ps : List Fr2) : (redF ps).length = ps.length := by
  unfold redF redI divF wholeF
  rw [List.length_map, List.length_map, List.length_map]
theorem pad_five {ps : List Fr2} (h : ps.length = 5) : pad ps = ps := by
  unfold pad
  rw [h]
  show ps ++ [] = ps
  rw [List.append_nil]
theorem add_bd {j i j' i' : Nat} {ps qs : List Fr2} (l : Lws ps) (m : Lws qs) (h : BT j i ps) (g : BT j' i' qs) : BT (j + i' + (j' + i) + 1) (i + i') (addF ps qs) := fun p hp => by
  obtain ⟨k, e⟩ := List.mem_iff_getElem?.mp hp
  obtain ⟨a, b, e1, e2, rfl⟩ := add_get e
  have ha := h.get e1
  have hb := g.get e2
  have hd := mul_ne (l.get e1).pos (m.get e2).pos
  exact ⟨bd_low1 hd (((ha.1.mul hb.2).mono (show j + i' ≤ j + i' + (j' + i) by omega)).add ((hb.1.mul ha.2).mono (show j' + i ≤ j + i' + (j' + i) by omega)) |>.mono (by omega)), bd_low2 hd (ha.2.mul hb.2)⟩
theorem mul_bd {j i j' i' : Nat} {ps : List Fr2} {k : Fr2} (l : Lws ps) (m : Lw k.1 k.2) (h : BT j i ps) (h1 : Bd j' k.1) (h2 : Bd i' k.2) : BT (j + j') (i + i') (mulF ps k) := fun p hp => by
  obtain ⟨n, e⟩ := List.mem_iff_getElem?.mp hp
  obtain ⟨a, e1, rfl⟩ := mul_get e
  have ha := h.get e1
  have hd := mul_ne (l.get e1).pos m.pos
  exact ⟨bd_low1 hd (ha.1.mul h1), bd_low2 hd (ha.2.mul h2)⟩
end Rm
/-! math.lcm, math.gcd as the tables use them. -/
namespace Ow
open PySem PySem.Calls PySem.Spec PyProof.Rows L2 Rm
section
variable {X : Cx}
def rLcm : List V → Hp → VK → Prop := fun vs H Q => ∃ a b : Int, vs = [.int a, .int b] ∧ Bd 6000 a ∧ Bd 6000 b ∧ Q (.int (lcmI a b)) H
theorem cr_lcm : CallR X (.builtin "math.lcm") rLcm := by
  intro pins s σ H vs us Q I r h
  obtain ⟨a, b, rfl, ha, hb, q⟩ := h
  obtain ⟨t, u, rfl⟩ := Vals.int2 r
  have la := ha.log2 (by decide)
  have lb := hb.log2 (by decide)
  have e : (((Nat.lcm 1 a.natAbs).lcm b.natAbs : Nat) : Int) = lcmI a b := by
    unfold lcmI
    rw [show Nat.lcm 1 a.natAbs = a.natAbs by simp [Nat.lcm]]
  have hl : (lcmI a b).natAbs.log2 < bitsLine := Nat.lt_of_lt_of_le ((lcm_bd ha hb).log2 (by decide)) (by decide)
  have m1 : (max 1 a.natAbs).log2 ≤ 6000 := by
    rcases Nat.le_total 1 a.natAbs with c | c
    · rw [Nat.max_eq_right c]; omega
    · rw [Nat.max_eq_left c]; decide
  have m2 : (max a.natAbs b.natAbs).log2 ≤ 6000 := by
    rcases Nat.le_total a.natAbs b.natAbs with c | c
    · rw [Nat.max_eq_right c]; omega
    · rw [Nat.max_eq_left c]; omega
  have g := PySem.W.mg_run_lcm a t b u (by omega) (by omega) (by rw [e]; exact hl)
  rw [e] at g
  exact call_function_meets PySem.W.MGF.kind_lcm PySem.W.MGF.plain_lcm PySem.W.MGF.entry_lcm (PySem.W.MGF.args_lcm _ _) g.meets ⟨.int _, H, I.tok _, ⟨_, rfl⟩, q⟩
end
end Ow
/-! An own operator with an instance of another class on the right. -/
namespace Ow
open PySem PySem.W PySem.Calls PySem.Spec PyProof.Rows
theorem bin_two {prog : Program} {w : World} {A : Around} {E : Value → Shared → Prop} {s : Shared} {K : Frag} {x C L f y D f2 : Addr} {h₀ : Heap} {m : Str → Option Value} {ox oy : Obj} {od od2 : Option Obj} {op : Operator} {rc rc2 : Option Value} {Q : Value → Shared → Prop}
    (F : Fr h₀ L s.heap m) (X₀ : K.In h₀) (I : InstAt s.heap x ox C od) (J : InstAt s.heap y oy D od2) (hc : selfFirst K C = true) (hd : selfFirst K D = true)
    (hs : findIn K (.ref C) (PySem.dunder op.info.2) = some (some (.ref f))) (hf : isFn K (.ref f) = true) (hr : findIn K (.ref C) (dunderR op.info.2) = some rc) (hp : rc = none ∨ ∃ g : Addr, rc = some (.ref g))
    (hs2 : findIn K (.ref D) (PySem.dunder op.info.2) = some (some (.ref f2))) (hr2 : findIn K (.ref D) (dunderR op.info.2) = some rc2) (hp2 : rc2 = none ∨ ∃ g : Addr, rc2 = some (.ref g)) (ne : C ≠ D) (hsub : subIn K (.ref D) (.ref C) = some false)
    (h : wpAny (model prog w) A (call (.ref f) [.ref x, .ref y]) (PySem.W.CmpBack Q) E s) : wpAny (model prog w) A (binaryOp op (.ref x) (.ref y)) Q E s := by
  have X := X₀.keeps F.keep
  obtain ⟨cd, rest, hcd, hm⟩ := ksp_first hc
  obtain ⟨cd2, rest2, hcd2, hm2⟩ := ksp_first hd
  rcases hi : op.info with ⟨sym, nm'⟩
  rw [hi] at hs hr hs2 hr2
  dsimp only at hs hr hs2 hr2
  have one := ksp_try X I hs hf h
  obtain ⟨hh, g, d, tt, os⟩ := s
  have L1 : Looks (model prog w) hh (typeOf (.ref x)) (.ref C) := I.type
  have L2 : Looks (model prog w) hh (typeOf (.ref y)) (.ref D) := J.type
  have L3 : Looks (model prog w) hh (fillsNumberSlot (.ref C) nm') true := fills_K X hcd hm hs
  have L4 : Looks (model prog w) hh (fillsNumberSlot (.ref D) nm') true := fills_K X hcd2 hm2 hs2
  have L5 : Looks (model prog w) hh (isSubtype (.ref D) (.ref C)) false := looks_subIn X hsub
  have L6 : Looks (model prog w) hh (numberSlotInPython (.ref C) nm') true := ksp_inPy X hs hr hp
  have L7 : Looks (model prog w) hh (numberSlotInPython (.ref D) nm') true := ksp_inPy X hs2 hr2 hp2
  have hne : (Value.ref C == Value.ref D) = false := Bool.eq_false_iff.mpr fun q => by
    have := beq_iff_eq.mp q
    injection this with this
    exact ne this
  simp only [binaryOp, hi]
  refine wpAny_holding (wpAny_bind ?_)
  unfold binaryOp1
  refine wpAny_bind (L1.at (wpAny_bind (L2.at (wpAny_bind (L3.at ?_)))))
  simp only [hne, Bool.false_eq_true, if_false]
  ksp_lk
  refine wpAny_mono one (fun r s' hr' => ?_) fun _ _ e => e
  obtain ⟨v, rfl, hq⟩ := hr'
  ksp_lk
  exact hq
open L2 Pt
/-- x op y, y an instance of another class -/
def rOwn2 (C D : Addr) (sp : Sp) (E : XK) : R2 := fun x y H Q => ∃ a dx fs b dy gs, x = .ref a ∧ H a = some (.ins C dx fs) ∧ y = .ref b ∧ H b = some (.ins D dy gs) ∧ sp [.ref a, .ref b] H Q E
theorem op_xy {X : Cx} {C D : Addr} {k : Nat} {sp : Sp} {op : Operator} {f2 : Addr} {rc2 : Option Value} (O : OpX X.prog X.w X.K X.mg X.base C op k sp) (n : Num X.K C) (hd : PySem.W.selfFirst X.K D = true)
    (hs2 : PySem.W.findIn X.K (.ref D) (PySem.dunder op.info.2) = some (some (.ref f2))) (hr2 : PySem.W.findIn X.K (.ref D) (dunderR op.info.2) = some rc2) (hp2 : rc2 = none ∨ ∃ g : Addr, rc2 = some (.ref g)) (ne : C ≠ D) (hsub : PySem.W.subIn X.K (.ref D) (.ref C) = some false) (hr : Room k X.A) :
    OpR X (binaryOp op) (rOwn2 C D sp E0) := by
  obtain ⟨f, fd, o, F, hb⟩ := O.ex
  obtain ⟨rc, h1, h2⟩ := O.rf
  intro pins s σ H x y u v Q I rx ry hq
  obtain ⟨a, dx, fs, b, dy, gs, rfl, ea, rfl, eb, q⟩ := hq
  cases rx
  cases ry
  obtain ⟨od, J⟩ := inst_of I ea
  obtain ⟨od', J'⟩ := inst_of I eb
  obtain ⟨m, hF⟩ := I.fr
  exact bin_two hF I.ok.mod.kin J J' n.sf hd o.at_ o.fn h1 h2 hs2 hr2 hp2 ne hsub (run_back (vs := [.ref a, .ref b]) F hr hb pass0 I (.cons rfl (.cons rfl .nil)) q)
end Ow
/-! Tables added, multiplied, reduced. -/
namespace Tb
open PySem PySem.Spec PyProof.Rows L2 Ow Pt Rm Ra
section
variable {P : Program} {w : World} {K : PySem.W.Frag} {mg : Str → Option Value} {base : Heap}
/-! ### check_table -/
def spCT (C D : Addr) : Sp := fun vs H Q _ => ∃ x ps, vs = [.ref x] ∧ TabAt C D H x ps ∧ Q .non H
abbrev n_check_table : List Str := ["table"]
theorem sc_check_table : FnScope n_check_table ["table"] (defScope d_check_table) := ⟨rfl, rfl, rfl, by decide +kernel, rfl, by decide +kernel, by decide +kernel⟩
theorem ok_check_table {f C D : Addr} {fd : FuncData} (F : FnP K "check_table" "check_table" d_check_table [] f fd) (B : Blt mg) (T : RT K mg C) (U : TC K mg D) (Z : TK K D) : FnOk P w K mg base CX0 1 f fd ["table"] (spCT C D) := by
  refine F.ok sc_check_table (fun vs H Q E h => ?_) (fun cdv A outer s H vs Q E hr h => ?_)
  · obtain ⟨x, ps, rfl, _⟩ := h
    rfl
  · obtain ⟨x, ps, rfl, t, q⟩ := h
    refine ⟨_, PSs.nox (pss_one (ps_if (pt_not (pt_val (pe_callB call_isi (by rfl) B.isi boot_isinstance (pa_cons (pv 0) (pa_cons (pe_glob (v := .ref D) rfl U.mgT rfl) pa_nil))))) pss_never pss_nil)), ?_⟩
    refine ⟨_, rfl, _, .ref D, .ref D, _, true, rfl, .own D, ty_tab T U Z t, Z.kDD, true, rfl, ?_⟩
    exact iteF q
/-! ### without_divisor -/
def spWD : Sp := fun vs H Q _ => ∃ (l : Addr) (ns : List Int), vs = [.ref l] ∧ H l = some (.lst (ns.map V.int)) ∧ DescI ns ∧ (∀ n ∈ ns, Bd 2400 n) ∧ ∀ g H', H' g = some (.lst ((divF ns).map V.int)) → Same H H' → Q (.ref g) H'
abbrev n_without_divisor : List Str := ["numbers", "shared", "number"]
theorem sc_without_divisor : FnScope n_without_divisor ["numbers"] (defScope d_without_divisor) := ⟨rfl, rfl, rfl, by decide +kernel, rfl, by decide +kernel, by decide +kernel⟩
theorem fold_take {α β : Type} (g : β → α → β) (b : β) {xs : List α} {i : Nat} {x : α} (e : xs[i]? = some x) : (xs.take (i + 1)).foldl g b = g ((xs.take i).foldl g b) x := by
  rw [List.take_add_one, e]
  show (xs.take i ++ [x]).foldl g b = _
  rw [List.foldl_append]
  rfl
theorem gcd_bd {ns : List Int} {k : Nat} (d : DescI ns) (b : ∀ n ∈ ns, Bd k n) : Bd k (gcdF ns) := by
  cases c : ns[0]? with
  | none => have := List.getElem?_eq_none_iff.mp c; have := d.one; omega
  | some n =>
    have p0 := d.first n c
    have hm := List.mem_of_getElem? c
    obtain ⟨g0, gd⟩ := gcd_of hm (by omega)
    have := Int.le_of_dvd p0 (gd n hm)
    exact (b n hm).le (by omega)
theorem ok_wd {f C : Addr} {fd : FuncData} (F : FnP K "without_divisor" "without_divisor" d_without_divisor [] f fd) (B : Blt mg) (T : RT K mg C) : FnOk P w K mg base CX0 1 f fd ["numbers"] spWD := by
  refine F.ok sc_without_divisor (fun vs H Q E h => ?_) (fun cdv A outer s H vs Q E hr h => ?_)
  · obtain ⟨l, ns, rfl, _⟩ := h
    rfl
  · obtain ⟨l, ns, rfl, hl, d, bd, q⟩ := h
    obtain ⟨g0, _⟩ := div_desc d
    have h5 := d.five
    have gb := gcd_bd d bd
    refine ⟨_, PSs.nox (pss_cons (ps_set (i := 1) sc_without_divisor.nd rfl (Or.inr rfl) pe_int)
      (pss_cons (ps_for PassesOwn.never rfl (pi_list (pv 0)) (pg_name (i := 2) sc_without_divisor.nd rfl (.inl rfl))
      (pss_one (ps_set (i := 1) sc_without_divisor.nd rfl (Or.inr rfl) (pe_callBfun cr_gcd rfl T.gcd (pa_cons (pv 1) (pa_cons (pv 2) pa_nil))))))
      (pss_cons (ps_if (pt_cmpR op_eq (pv 1) pe_int (nomark _)) (pss_one (ps_ret (pe_callTy (r := rListOf K) call_list_of (by rfl) B.list PyProof.Rows.boot_list (pa_cons (pv 0) pa_nil)))) pss_nil)
      (pss_one (ps_ret (pe_lc rfl sc_without_divisor.nd (pi_list (pv 0)) (blkOk_by (own := [("number", 2)]) (by show blkC n_without_divisor (defScope d_without_divisor) _ _ = true; decide +kernel)) (fun _ _ _ _ _ => pg_name (i := 2) sc_without_divisor.nd rfl (.inl rfl)) (fun _ _ _ _ _ => pts_nil) (fun _ _ _ _ _ => (pe_op op_fdivZ (pv 2) (pv 1))))))))), ?_⟩
    refine ⟨_, rfl, l, rfl, ⟨_, SqL.of hl⟩, ?_⟩
    refine for_it (walk_list (xs := ns.map V.int)) (fun i σ H' => ∃ v2 : Option V, σ = [some (.ref l), some (.int ((ns.take i).foldl gcdI 0)), v2] ∧ Same H H') ⟨_, rfl, Same.refl _⟩ (fun i σ H' _ h => by obtain ⟨_, _, s1⟩ := h; exact SqL.of (s1 _ _ hl)) ?_ ?_
    · rintro i x σ H1 H2 hi ⟨v2, rfl, s1⟩ ⟨rfl, hx⟩
      rw [List.getElem?_map] at hx
      cases c : ns[i]? with
      | none => rw [c] at hx; exact nomatch hx
      | some n =>
        rw [c] at hx
        cases hx
        refine ⟨_, rfl, _, rfl, _, _, rfl, some (.int n), ?_, s1⟩
        rw [fold_take gcdI 0 c]
        rfl
    · rintro σ H1 ⟨v2, rfl, s1⟩
      have e : (ns.take (ns.map V.int).length).foldl gcdI 0 = gcdF ns := by rw [List.length_map, List.take_length]; rfl
      rw [e]
      refine ⟨_, rfl, rfl, _, rfl, ?_⟩
      rw [decide_eq_false (fun z => by
        have := V.int.inj z
        omega)]
      refine iteF ?_
      refine ⟨_, rfl, l, rfl, ⟨_, SqL.of (s1 _ _ hl)⟩, fun D1 hD1 => ?_⟩
      refine lc_vals (walk_list (xs := ns.map V.int)) (rel_same hD1) ((divF ns).map V.int) (by unfold divF; rw [List.length_map, List.length_map, List.length_map]) (by rw [List.length_map]; omega) (fun H' s => SqL.of (s _ _ (s1 _ _ hl))) ?_ ?_
      · rintro i v H5 H6 u hi hu s5 _ ⟨rfl, hx⟩ R k
        unfold divF at hu
        rw [List.getElem?_map] at hx
        rw [List.getElem?_map, List.getElem?_map] at hu
        cases c : ns[i]? with
        | none => rw [c] at hx; exact nomatch hx
        | some n =>
          rw [c] at hx hu
          cases hx
          cases hu
          exact ⟨rfl, _, rfl, _, rfl, _, _, rfl, rfl, ⟨by omega, Nat.lt_of_lt_of_le (gb.log2 (by decide)) (by decide)⟩, k _ (Same.refl _)⟩
      · intro H5 s5 hD5
        exact q D1 H5 hD5 (s1.trans s5)
/-! ### whole_numbers -/
def spWN (C : Addr) : Sp := fun vs H Q _ => ∃ (L : Addr) (rs : List Addr) (ps : List Fr2) (j i : Nat), vs = [.ref L] ∧ H L = some (.lst (rs.map V.ref)) ∧ Rats C H rs ps ∧ ps.length = 5 ∧ Desc' ps ∧ BT j i ps ∧ j + (1 + i * 5) ≤ 2400 ∧ ∀ g H', H' g = some (.lst ((redI ps).map V.int)) → Same H H' → Q (.ref g) H'
abbrev n_whole_numbers : List Str := ["ratios", "bottom", "ratio"]
theorem sc_whole_numbers : FnScope n_whole_numbers ["ratios"] (defScope d_whole_numbers) := ⟨rfl, rfl, rfl, by decide +kernel, rfl, by decide +kernel, by decide +kernel⟩
theorem ok_whole_numbers {f C D : Addr} {fd : FuncData} (F : FnP K "whole_numbers" "whole_numbers" d_whole_numbers [] f fd) (B : Blt mg) (T : RT K mg C) (hlcm : mg "lcm" = some (.builtin "math.lcm")) (pT : PT_ P w K mg base C) (pB : PB_ P w K mg base C) (dWD : Dfn P w K mg base 1 "without_divisor" ["numbers"] spWD) : FnOk P w K mg base CX0 3 f fd ["ratios"] (spWN C) := by
  refine F.ok sc_whole_numbers (fun vs H Q E h => ?_) (fun cdv A outer s H vs Q E hr h => ?_)
  · obtain ⟨L, rs, ps, j, i, rfl, _⟩ := h
    rfl
  · obtain ⟨L, rs, ps, j0, i0, rfl, h2, h3, l5, td, bt, hb, q⟩ := h
    have hr1 := hr.mono (by decide : 1 ≤ 2)
    have hr2 := hr
    have lr : rs.length = 5 := by rw [h3.1, l5]
    have lw := h3.nms.lws
    refine ⟨_, PSs.nox (pss_cons (ps_set (i := 1) sc_whole_numbers.nd rfl (Or.inr rfl) pe_int)
      (pss_cons (ps_for PassesOwn.never rfl (pi_list (pv 0)) (pg_name (i := 2) sc_whole_numbers.nd rfl (.inl rfl))
      (pss_one (ps_set (i := 1) sc_whole_numbers.nd rfl (Or.inr rfl) (pe_callBfun cr_lcm rfl hlcm (pa_cons (pv 1) (pa_cons (pe_prp pB (pv 2) T.cl hr2 rfl) pa_nil))))))
      (pss_one (ps_ret (pe_use dWD hr1 rfl (pa_cons (pe_lc rfl sc_whole_numbers.nd (pi_list (pv 0)) (blkOk_by (own := [("ratio", 2)]) (by show blkC n_whole_numbers (defScope d_whole_numbers) _ _ = true; decide +kernel)) (fun _ _ _ _ _ => pg_name (i := 2) sc_whole_numbers.nd rfl (.inl rfl)) (fun _ _ _ _ _ => pts_nil) (fun _ _ _ _ _ => (pe_op op_mulW (pe_prp pT (pv 2) T.cl hr2 rfl) (pe_op op_fdivZ (pv 1) (pe_prp pB (pv 2) T.cl hr2 rfl))))) pa_nil)))))), ?_⟩
    refine ⟨_, rfl, L, rfl, ⟨_, SqL.of h2⟩, ?_⟩
    refine for_it (walk_list (xs := rs.map V.ref)) (fun i σ H' => ∃ v2 : Option V, σ = [some (.ref L), some (.int ((ps.take i).foldl (fun b p => lcmI b p.2) 1)), v2] ∧ Same H H') ⟨_, rfl, Same.refl _⟩ (fun i σ H' _ h => by obtain ⟨_, _, s1⟩ := h; exact SqL.of (s1 _ _ h2)) ?_ ?_
    · rintro i y σ H1 H2 hi ⟨v2, rfl, s1⟩ ⟨rfl, hx⟩
      rw [List.getElem?_map] at hx
      cases c : rs[i]? with
      | none => rw [c] at hx; exact nomatch hx
      | some r =>
        rw [c] at hx
        cases hx
        obtain ⟨p, hp, k⟩ := h3.getL c
        obtain ⟨dy, hr'⟩ := (k.same s1).rat
        have bp := bt.get hp
        have ti := bot_fold (i := i0) (ps.take i) 1 1 (lws_take lw i) (fun p hp => (bt p (List.mem_of_mem_take hp)).2) (by decide) (bd_one (by decide))
        have hle : i0 * (ps.take i).length ≤ i0 * 5 := Nat.mul_le_mul_left _ (by rw [List.length_take]; omega)
        refine ⟨_, rfl, _, rfl, r, dy, _, rfl, hr', r, p.1, p.2, rfl, ⟨dy, hr'⟩, _, _, rfl, ti.2.2.2.mono (by omega), bp.2.mono (by omega), some (.ref r), ?_, s1⟩
        rw [fold_take (fun b p => lcmI b p.2) 1 hp]
        rfl
    · rintro σ H1 ⟨v2, rfl, s1⟩
      have e : (ps.take (rs.map V.ref).length).foldl (fun b p => lcmI b p.2) 1 = botF ps := by rw [List.length_map, lr, ← l5, List.take_length]; rfl
      rw [e]
      obtain ⟨b0, bdv, bb⟩ := bot_of lw fun p hp => (bt p hp).2
      rw [l5] at bb
      refine ⟨_, rfl, L, rfl, ⟨_, SqL.of (s1 _ _ h2)⟩, fun D1 hD1 => ?_⟩
      refine lc_vals (walk_list (xs := rs.map V.ref)) (rel_same hD1) ((wholeF ps).map V.int) (by rw [List.length_map, whole_len, List.length_map, lr, l5]) (by rw [List.length_map]; omega) (fun H' s => SqL.of (s _ _ (s1 _ _ h2))) ?_ ?_
      · rintro i v H5 H6 u hi hu s5 _ ⟨rfl, hx⟩ R k
        rw [List.getElem?_map] at hx
        cases c : rs[i]? with
        | none => rw [c] at hx; exact nomatch hx
        | some r =>
          rw [c] at hx
          cases hx
          obtain ⟨p, hp, kr⟩ := h3.getL c
          obtain ⟨dy, hr'⟩ := (kr.same (s1.trans s5)).rat
          have bp := bt.get hp
          have lp := lw.get hp
          unfold wholeF at hu
          rw [List.getElem?_map, List.getElem?_map, hp] at hu
          cases hu
          have b2 : Bd (1 + i0 * 5) ((botF ps).fdiv p.2) := bb.le (fdiv_le lp.pos)
          have j0' : Bd (j0 + 1) p.1 := bp.1.mono (by omega)
          refine ⟨rfl, _, rfl, r, dy, _, rfl, hr', r, p.1, p.2, rfl, ⟨dy, hr'⟩, _, rfl, _, rfl, r, dy, _, rfl, hr', r, p.1, p.2, rfl, ⟨dy, hr'⟩, _, _, rfl, rfl, ⟨by have := lp.pos; omega, Nat.lt_of_lt_of_le ((bp.2.mono (show i0 ≤ i0 + 1 by omega)).log2 (by omega)) (by omega)⟩, _, _, rfl, rfl, ?_, k _ (Same.refl _)⟩
          exact cmul (j := j0 + 1) (k := 1 + i0 * 5) j0' b2 (by omega) (by omega) (by omega)
      · intro H5 s5 hD5
        have wd := whole_desc lw td fun p hp => (bt p hp).2
        refine ⟨D1, wholeF ps, rfl, hD5, wd, fun n hn => (whole_bd lw bt (by omega) n hn).mono hb, fun g H6 hg s6 => ?_⟩
        exact q g H6 hg ((s1.trans s5).trans s6)
/-! ### reduced() -/
def spRed (C D : Addr) : Sp := fun vs H Q _ => ∃ (x : Addr) (ps : List Fr2) (j i : Nat), vs = [.ref x] ∧ TabAt C D H x ps ∧ BT j i ps ∧ j + (1 + i * 5) ≤ 2400 ∧ ∀ y H', TabAt C D H' y (redF ps) → Same H H' → Q (.ref y) H'
abbrev n_Table_reduced : List Str := ["self", "points"]
theorem sc_Table_reduced : FnScope n_Table_reduced ["self"] (defScope d_Table_reduced) := ⟨rfl, rfl, rfl, by decide +kernel, rfl, by decide +kernel, by decide +kernel⟩
theorem ok_reduced {f C D : Addr} {fd : FuncData} (F : FnP K "reduced" "Table.reduced" d_Table_reduced [] f fd) (B : Blt mg) (T : RT K mg C) (U : TC K mg D) (N : TMk P w K mg base C D) (dWN : Dfn P w K mg base 3 "whole_numbers" ["ratios"] (spWN C)) : FnOk P w K mg base CX0 11 f fd ["self"] (spRed C D) := by
  obtain ⟨ft, mk, Ft⟩ := N.ex
  refine F.ok sc_Table_reduced (fun vs H Q E h => ?_) (fun cdv A outer s H vs Q E hr h => ?_)
  · obtain ⟨x, ps, j, i, rfl, _⟩ := h
    rfl
  · obtain ⟨x, ps, j0, i0, rfl, t, bt, hb, q⟩ := h
    obtain ⟨dx, L, rs, h1, h2, h3⟩ := t.at_
    have hr3 := hr.mono (by decide : 3 ≤ 10)
    have l5 := t.len
    have lw := t.lws
    refine ⟨_, PSs.nox (pss_cons (ps_set (i := 1) sc_Table_reduced.nd rfl (Or.inl rfl) (pe_use dWN hr3 rfl (pa_cons (pe_fld (pv 0) rfl) pa_nil)))
      (pss_one (ps_ret (pe_makeGS mk Ft hr rfl U.mgT pass0 (pv 1))))), ?_⟩
    refine ⟨_, rfl, x, D, dx, _, _, rfl, h1, U.cl, U.nP, pf_pts L, L, rs, ps, j0, i0, rfl, h2, h3, l5, t.desc, bt, hb, fun g H6 hg s6 => ?_⟩
    have rd := red_desc lw t.desc bt
    refine ⟨_, rfl, g, _, rfl, .inr (SqL.of hg), ?_⟩
    have nm := nms_ints (C := C) (H := H6) (ns := redI ps) fun n hn => by
      have := (red_bd lw t.desc bt) (n, 1) (List.mem_map_of_mem (f := fun n => ((n, 1) : Fr2)) hn)
      exact this.1.mono (by omega)
    refine tab_new nm rd.desc fun y H7 tb s7 _ => ?_
    have e5 : pad ((redI ps).map fun n => ((n, 1) : Fr2)) = redF ps := pad_five (ps := redF ps) (by rw [red_len, l5])
    rw [e5] at tb
    exact q y H7 tb (s6.trans s7)
end
end Tb
/-! Tables added, multiplied. -/
namespace Tb
open PySem PySem.Spec PyProof.Rows L2 Ow Pt Rm Ra
section
variable {P : Program} {w : World} {K : PySem.W.Frag} {mg : Str → Option Value} {base : Heap}
theorem rats_of {C D : Addr} {H : Hp} {acc : List V} {ps : List Fr2} (hl : acc.length = ps.length) (he : ∀ (j : Nat) v, acc[j]? = some v → ∃ r p, v = V.ref r ∧ r ≠ D ∧ ps[j]? = some p ∧ Nm C H (.ref r) p.1 p.2) : Nms C H acc ps := ⟨hl, fun i v p e1 e2 => by
  obtain ⟨r, p', rfl, _, ep, k⟩ := he i v e1
  rw [ep] at e2
  cases e2
  exact k⟩
/-! ### + -/
def spAdd (C D : Addr) : Sp := fun vs H Q _ => ∃ (x y : Addr) (ps qs : List Fr2) (j i : Nat), vs = [.ref x, .ref y] ∧ TabAt C D H x ps ∧ TabAt C D H y qs ∧ BT j i ps ∧ BT j i qs ∧ j + i + (j + i) + 1 ≤ 2400 ∧ ∀ z H', TabAt C D H' z (addF ps qs) → Same H H' → Q (.ref z) H'
abbrev n_Table___add__ : List Str := ["self", "other", "points", "one", "more"]
theorem sc_Table___add__ : FnScope n_Table___add__ ["self", "other"] (defScope d_Table___add__) := ⟨rfl, rfl, rfl, by decide +kernel, rfl, by decide +kernel, by decide +kernel⟩
theorem ok_tadd {f C D : Addr} {fd : FuncData} (F : FnP K "__add__" "Table.__add__" d_Table___add__ [] f fd) (B : Blt mg) (T : RT K mg C) (U : TC K mg D) (N : TMk P w K mg base C D) (oA : OpX P w K mg base C .Add 5 (spBin plus C)) (mP : Mtd P w K mg base 1 D "points" ["self"] (spPts C D)) (dCT : Dfn P w K mg base 1 "check_table" ["table"] (spCT C D)) : FnOk P w K mg base CX0 11 f fd ["self", "other"] (spAdd C D) := by
  obtain ⟨ft, mk, Ft⟩ := N.ex
  refine F.ok sc_Table___add__ (fun vs H Q E h => ?_) (fun cdv A outer s H vs Q E hr h => ?_)
  · obtain ⟨x, y, ps, qs, j, i, rfl, _⟩ := h
    rfl
  · obtain ⟨x, y, ps, qs, j0, i0, rfl, t, t2, bt, bt2, hb, q⟩ := h
    obtain ⟨dx, L, rs, h1, h2, h3⟩ := t.at_
    obtain ⟨dy, L2, rs2, k1, k2, k3⟩ := id t2.at_
    have hr1 := hr.mono (by decide : 1 ≤ 10)
    have hr5 := hr.mono (by decide : 5 ≤ 10)
    have l5 := t.len
    have m5 := t2.len
    have lr : rs.length = 5 := by rw [h3.1, l5]
    have lw := t.lws
    have lw2 := t2.lws
    have le : ps.length = qs.length := by rw [l5, m5]
    have no1 : (pf L2).lookup ("points" : Str) = none := pf_no L2 (by decide +kernel)
    refine ⟨_, PSs.nox (pss_cons (ps_expr (pe_use dCT hr1 rfl (pa_cons (pv 1) pa_nil)))
      (pss_cons (ps_setLc (i := 2) (g := (gTup K 2 (gCons (gName 3) (gCons (gName 4) gNil)))) rfl sc_Table___add__.nd rfl rfl (by rfl) (pi_zip rfl B.zip (pa_cons (pe_fld (pv 0) rfl) (pa_cons (pe_mt0 U.cl mP hr1 (pv 1)) pa_nil))) (blkOk_by (own := [("one", 3), ("more", 4)]) (by show blkC n_Table___add__ (defScope d_Table___add__) _ _ = true; decide +kernel)) (fun _ _ _ _ _ => pg_tup (by rfl) (pgs_cons (pg_name (i := 3) sc_Table___add__.nd rfl (.inl rfl)) (pgs_cons (pg_name (i := 4) sc_Table___add__.nd rfl (.inl rfl)) pgs_nil))) (fun _ _ _ _ _ => pts_nil) (fun _ _ _ _ _ => (pe_op (op_nm oA T.num hr5) (pv 3) (pv 4))))
      (pss_one (ps_ret (pe_makeGS mk Ft hr rfl U.mgT pass0 (pv 2)))))), ?_⟩
    refine ⟨_, rfl, y, qs, rfl, t2, ?_⟩
    refine ⟨_, rfl, x, D, dx, _, _, rfl, h1, U.cl, U.nP, pf_pts L, _, rfl, y, dy, _, rfl, k1, no1, y, qs, rfl, t2, fun g ss H1 hg hss s1 hgn => ?_⟩
    have ls : ss.length = 5 := by rw [hss.1, m5]
    refine ⟨L, g, _, _, rfl, SqL.of (s1 _ _ h2), SqL.of hg, fun D1 hD1 => ?_⟩
    have ha := h3.same s1
    refine lc_el (walk_zip (xs := rs.map V.ref) (ys := ss.map V.ref) (n := 5) (by rw [List.length_map, List.length_map, lr, ls]; rfl)) (rel_same hD1) (by decide)
      (fun j v H' => ∃ r p, v = V.ref r ∧ r ≠ D1 ∧ (addF ps qs)[j]? = some p ∧ Nm C H' (.ref r) p.1 p.2) ?_ ?_ (fun H' s => ⟨SqL.of (s _ _ (s1 _ _ h2)), SqL.of (s _ _ hg)⟩) ?_ ?_
    · rintro j v H5 H6 s ⟨r, p, e, n, ep, k⟩
      exact ⟨r, p, e, n, ep, k.same s⟩
    · rintro j v H5 l l' hl5 ⟨r, p, e, n, ep, k⟩
      refine ⟨r, p, e, n, ep, ⟨.inl ⟨r, rfl, ?_⟩, k.lw, k.b1, k.b2⟩⟩
      obtain ⟨dz, h⟩ := k.rat
      exact ⟨dz, by rw [upd_ne n]; exact h⟩
    · rintro i v H5 H6 hi s5 ⟨acc, hacc, _⟩ ⟨Tp, u1, u2, rfl, hTp, rfl, hu1, hu2⟩ R k
      replace hu1 : (rs.map V.ref)[i]? = some u1 := hu1
      replace hu2 : (ss.map V.ref)[i]? = some u2 := hu2
      rw [List.getElem?_map, List.getElem?_eq_getElem (show i < rs.length by omega)] at hu1
      rw [List.getElem?_map, List.getElem?_eq_getElem (show i < ss.length by omega)] at hu2
      cases hu1
      cases hu2
      obtain ⟨p, hp, n1⟩ := ha.getL (List.getElem?_eq_getElem (show i < rs.length by omega))
      obtain ⟨p', hp', n2⟩ := hss.getL (List.getElem?_eq_getElem (show i < ss.length by omega))
      have s6 := s5.trans (same_upd (o := .tup [V.ref rs[i], V.ref ss[i]]) hTp)
      have m1 := n1.same s6
      have m2 := n2.same s6
      refine ⟨Tp, _, rfl, SqT.of upd_same, rfl, _, _, rfl, _, _, rfl, rfl, rfl, ?_⟩
      refine ⟨_, rfl, _, rfl, rs[i], p.1, p.2, _, _, rfl, m1.rat, m2.at_, rs[i], .ref ss[i], p.1, p.2, _, _, rfl, m1, m2, fun z H7 hz s7 => ?_⟩
      have hb := (add_bd lw lw2 bt bt2) _ (List.mem_of_getElem? (add_at hp hp'))
      refine k _ H7 (fun b o e => s7 _ _ ((same_upd (o := .tup [V.ref rs[i], V.ref ss[i]]) hTp) _ _ e)) ⟨z, _, rfl, fun zz => ?_, add_at hp hp', ⟨.inl ⟨z, rfl, hz⟩, lw_plus (lw.get hp) (lw2.get hp'), hb.1.mono (by omega), hb.2.mono (by omega)⟩⟩
      obtain ⟨dz, h⟩ := hz
      have hL7 := s7 _ _ ((same_upd (o := .tup [V.ref rs[i], V.ref ss[i]]) hTp) _ _ hacc)
      rw [← zz, h] at hL7
      cases hL7
    · rintro H5 acc s5 hD5 hlen he
      refine ⟨_, rfl, D1, _, rfl, .inr (SqL.of hD5), ?_⟩
      have la : (addF ps qs).length = 5 := by rw [add_len le, l5]
      refine tab_new (rats_of (hlen.trans la.symm) he) (add_desc lw lw2 t.desc t2.desc le) fun z H7 tb s7 _ => ?_
      rw [pad_five la] at tb
      exact q z H7 tb ((s1.trans s5).trans s7)
/-! ### * -/
def spMulT (C D : Addr) : Sp := fun vs H Q _ => ∃ (x : Addr) (v : V) (ps : List Fr2) (k : Fr2), vs = [.ref x, v] ∧ TabAt C D H x ps ∧ Nm C H v k.1 k.2 ∧ 0 < k.1 ∧ Bds 1000 ps ∧ Bd 1000 k.1 ∧ Bd 1000 k.2 ∧ ∀ z H', TabAt C D H' z (mulF ps k) → Same H H' → Q (.ref z) H'
abbrev n_Table___mul__ : List Str := ["self", "other", "points", "point"]
theorem sc_Table___mul__ : FnScope n_Table___mul__ ["self", "other"] (defScope d_Table___mul__) := ⟨rfl, rfl, rfl, by decide +kernel, rfl, by decide +kernel, by decide +kernel⟩
theorem ok_tmul {f C D : Addr} {fd : FuncData} (F : FnP K "__mul__" "Table.__mul__" d_Table___mul__ [] f fd) (B : Blt mg) (T : RT K mg C) (U : TC K mg D) (N : TMk P w K mg base C D) (oM : OpX P w K mg base C .Mult 5 (spBin times C)) (dNu : Dfn P w K mg base 2 "is_number" ["value"] (spKnd K C isN)) (dAs : DAs P w K mg base C) (pS : PS_ P w K mg base C) : FnOk P w K mg base CX0 11 f fd ["self", "other"] (spMulT C D) := by
  obtain ⟨ft, mk, Ft⟩ := N.ex
  refine F.ok sc_Table___mul__ (fun vs H Q E h => ?_) (fun cdv A outer s H vs Q E hr h => ?_)
  · obtain ⟨x, v, ps, k, rfl, _⟩ := h
    rfl
  · obtain ⟨x, v, ps, c, rfl, t, nv, c0, bt, bc1, bc2, q⟩ := h
    obtain ⟨dx, L, rs, h1, h2, h3⟩ := t.at_
    have hr2 := hr.mono (by decide : 2 ≤ 10)
    have hr4 := hr.mono (by decide : 4 ≤ 10)
    have hr5 := hr.mono (by decide : 5 ≤ 10)
    have l5 := t.len
    have lr : rs.length = 5 := by rw [h3.1, l5]
    have lw := t.lws
    refine ⟨_, PSs.nox (pss_cons (ps_if (PW.pt (pw_or (pt_not (pt_val (pe_use dNu hr2 rfl (pa_cons (pv 1) pa_nil)))) (pw_or1 (pt_cmpR op_le (pe_prp pS (pe_use dAs hr4 rfl (pa_cons (pv 1) pa_nil)) T.cl hr2 rfl) pe_int (nomark _))))) pss_never pss_nil)
      (pss_cons (ps_setLc (i := 2) rfl sc_Table___mul__.nd rfl rfl (by rfl) (pi_list (pe_fld (pv 0) rfl)) (blkOk_by (own := [("point", 3)]) (by show blkC n_Table___mul__ (defScope d_Table___mul__) _ _ = true; decide +kernel)) (fun _ _ _ _ _ => pg_name (i := 3) sc_Table___mul__.nd rfl (.inl rfl)) (fun _ _ _ _ _ => pts_nil) (fun _ _ _ _ _ => (pe_op (op_nm oM T.num hr5) (pv 3) (pv 1))))
      (pss_one (ps_ret (pe_makeGS mk Ft hr rfl U.mgT pass0 (pv 2)))))), ?_⟩
    obtain ⟨k, hk, ek⟩ := nm_kd T nv
    refine ⟨_, rfl, v, k, rfl, hk, fun H1 s1 => ⟨_, rfl, ?_⟩⟩
    rw [ek]
    refine ⟨_, rfl, v, c.1, c.2, rfl, (nv.same s1).at_, fun r H2 hr' s2 => ?_⟩
    obtain ⟨dr, hr''⟩ := id hr'
    refine ⟨r, dr, _, rfl, hr'', r, _, _, rfl, hr', _, _, rfl, rfl, _, rfl, ?_⟩
    rw [decide_eq_false (show ¬ c.1.sign ≤ 0 by rw [Int.sign_eq_one_of_pos c0]; decide)]
    refine iteF ?_
    have s12 := s1.trans s2
    refine ⟨_, rfl, x, D, dx, _, _, rfl, s12 _ _ h1, U.cl, U.nP, pf_pts L, L, rfl, ⟨_, SqL.of (s12 _ _ h2)⟩, fun D1 hD1 => ?_⟩
    have ha := h3.same s12
    have nv2 := nv.same s12
    refine lc_el (walk_list (xs := rs.map V.ref)) (rel_same hD1) (by rw [List.length_map]; omega)
      (fun j v H' => ∃ r p, v = V.ref r ∧ r ≠ D1 ∧ (mulF ps c)[j]? = some p ∧ Nm C H' (.ref r) p.1 p.2) ?_ ?_ (fun H' s => SqL.of (s _ _ (s12 _ _ h2))) ?_ ?_
    · rintro j v H5 H6 s ⟨r, p, e, n, ep, k⟩
      exact ⟨r, p, e, n, ep, k.same s⟩
    · rintro j v H5 l l' hl5 ⟨r, p, e, n, ep, k⟩
      refine ⟨r, p, e, n, ep, ⟨.inl ⟨r, rfl, ?_⟩, k.lw, k.b1, k.b2⟩⟩
      obtain ⟨dz, h⟩ := k.rat
      exact ⟨dz, by rw [upd_ne n]; exact h⟩
    · rintro i u H5 H6 hi s5 ⟨acc, hacc, _⟩ ⟨rfl, hx⟩ R kk
      rw [List.getElem?_map] at hx
      cases cc : rs[i]? with
      | none => rw [cc] at hx; exact nomatch hx
      | some r1 =>
        rw [cc] at hx
        cases hx
        obtain ⟨p, hp, n1⟩ := ha.getL cc
        have m1 := n1.same s5
        have m2 := nv2.same s5
        have bp := bt.get hp
        have hb := (mul_bd (j := 1000) (i := 1000) lw nv.lw bt bc1 bc2) _ (List.mem_of_getElem? (mul_at hp))
        refine ⟨rfl, _, rfl, _, rfl, r1, p.1, p.2, _, _, rfl, m1.rat, m2.at_, r1, v, p.1, p.2, _, _, rfl, m1, m2, fun z H7 hz s7 => ?_⟩
        refine kk _ H7 s7 ⟨z, _, rfl, fun zz => ?_, mul_at hp, ⟨.inl ⟨z, rfl, hz⟩, lw_times (lw.get hp) nv.lw, hb.1.mono (by decide), hb.2.mono (by decide)⟩⟩
        obtain ⟨dz, h⟩ := hz
        have hL7 := s7 _ _ hacc
        rw [← zz, h] at hL7
        cases hL7
    · rintro H5 acc s5 hD5 hlen he
      refine ⟨_, rfl, D1, _, rfl, .inr (SqL.of hD5), ?_⟩
      have la : (mulF ps c).length = 5 := by rw [mul_len, l5]
      refine tab_new (rats_of (hlen.trans (by rw [List.length_map, lr, la])) he) (mul_desc lw nv.lw t.desc c0) fun z H7 tb s7 _ => ?_
      rw [pad_five la] at tb
      exact q z H7 tb ((s12.trans s5).trans s7)
def spRmT (C D : Addr) : Sp := fun vs H Q _ => ∃ (x : Addr) (n : Int) (ps : List Fr2), vs = [.ref x, .int n] ∧ TabAt C D H x ps ∧ 0 < n ∧ Bds 1000 ps ∧ Bd 1000 n ∧ ∀ z H', TabAt C D H' z (mulF ps (n, 1)) → Same H H' → Q (.ref z) H'
abbrev n_Table___rmul__ : List Str := ["self", "other"]
theorem sc_Table___rmul__ : FnScope n_Table___rmul__ ["self", "other"] (defScope d_Table___rmul__) := ⟨rfl, rfl, rfl, by decide +kernel, rfl, by decide +kernel, by decide +kernel⟩
theorem ok_trmul {f C D : Addr} {fd : FuncData} (F : FnP K "__rmul__" "Table.__rmul__" d_Table___rmul__ [] f fd) (nD : Num K D) (mT : OpX P w K mg base D .Mult 11 (spMulT C D)) : FnOk P w K mg base CX0 12 f fd ["self", "other"] (spRmT C D) := by
  refine F.ok sc_Table___rmul__ (fun vs H Q E h => ?_) (fun cdv A outer s H vs Q E hr h => ?_)
  · obtain ⟨x, n, ps, rfl, _⟩ := h
    rfl
  · obtain ⟨x, n, ps, rfl, t, n0, bt, bn, q⟩ := h
    obtain ⟨dx, L, rs, h1, h2, h3⟩ := id t.at_
    refine ⟨_, PSs.nox (pss_one (ps_ret (pe_op (op_xi mT nD hr) (pv 0) (pv 1)))), ?_⟩
    exact ⟨_, rfl, _, rfl, x, dx, _, n, rfl, h1, rfl, x, .int n, ps, (n, 1), rfl, t, nm_int (bn.mono (by decide)), n0, bt, bn, bd_one (by decide), q⟩
end
end Tb
/-! The law's own defs: what a table tells, changed lists. -/
namespace Lb
open PySem PySem.Spec PyProof.Rows L2 Ow Pt Rm Ra La Tb
/-- how ratios, tables, plain things show themselves -/
def shRt (C : Addr) : ShD := fun x t H => ∃ r n d, x = .ref r ∧ RatAt C H r n d ∧ Bd 1900 n ∧ Bd 1900 d ∧ t = shw n d
def shTb (C D : Addr) : ShD := fun x t H => ∃ r ps, x = .ref r ∧ TabAt C D H r ps ∧ Bds 1900 ps ∧ t = tabText ps
def shD (C D : Addr) : ShD := fun x t H => leafS x t H ∨ shRt C x t H ∨ shTb C D x t H
theorem monSh (C D : Addr) : MonS (shD C D) := fun x t H H' e d => by
  rcases d with d | ⟨r, n, dd, rfl, h, b1, b2, rfl⟩ | ⟨r, ps, rfl, h, b, rfl⟩
  · exact .inl d
  · exact .inr (.inl ⟨r, n, dd, rfl, h.same e, b1, b2, rfl⟩)
  · exact .inr (.inr ⟨r, ps, rfl, h.same e, b, rfl⟩)
structure ShT (P : Program) (w : World) (K : PySem.W.Frag) (mg : Str → Option Value) (base : Heap) (C D : Addr) : Prop where
  ex : ∃ f fd, OpOf K D "__repr__" f ∧ FnOk P w K mg base CX0 3 f fd ["self"] (spTRepr C D) ∧ Binds K fd ["self"] []
theorem shown_trepr {X : Cx} {C D : Addr} (O : ShT X.prog X.w X.K X.mg X.base C D) (hr : Room 4 X.A) : CallR X (.builtin "repr") (rShow D (spTRepr C D) E0) := by
  obtain ⟨f, fd, o, F, hb⟩ := O.ex
  exact call_repr_own o F hr hb pass0
theorem shB_all {X : Cx} {C D : Addr} (sR : ShX X.prog X.w X.K X.mg X.base C "__repr__" shw) (sT : ShT X.prog X.w X.K X.mg X.base C D) : ShB X 3 (shD C D) := by
  obtain ⟨f, fd, o, F, hb⟩ := sR.ex
  obtain ⟨f2, fd2, o2, F2, hb2⟩ := sT.ex
  refine shB_or shB_leaf (shB_or (shB_own (C := C) (sp := spText shw C) (E := E0) ⟨fun x t H d => ?_⟩ o (F.mono (by decide)) hb pass0) (shB_own (C := D) (sp := spTRepr C D) (E := E0) ⟨fun x t H d => ?_⟩ o2 F2 hb2 pass0))
  · obtain ⟨r, n, dd, rfl, ⟨dx, h⟩, b1, b2, rfl⟩ := d
    exact ⟨r, dx, _, rfl, h, fun Q q => ⟨r, n, dd, rfl, ⟨dx, h⟩, b1, b2, q H Ext.rfl'⟩⟩
  · obtain ⟨r, ps, rfl, h, b, rfl⟩ := d
    obtain ⟨dx, L, rs, h1, h2, h3⟩ := id h.at_
    exact ⟨r, dx, _, rfl, h1, fun Q q => ⟨r, ps, rfl, h, b, fun H' s => q H' s⟩⟩
/-- the texts of ratios side by side with them -/
theorem sh_rats {C D : Addr} {H : Hp} {rs : List Addr} {ps : List Fr2} (h : Rats C H rs ps) (b : Bds 1900 ps) : (ps.map shwP).length = (rs.map V.ref).length ∧ ∀ (i : Nat) x t, (rs.map V.ref)[i]? = some x → (ps.map shwP)[i]? = some t → shD C D x t H := by
  refine ⟨by rw [List.length_map, List.length_map, h.1], fun i x t e1 e2 => ?_⟩
  obtain ⟨p, hp, k⟩ := h.nms.getL e1
  rw [List.getElem?_map, hp] at e2
  cases e2
  rw [List.getElem?_map] at e1
  cases c : rs[i]? with
  | none => rw [c] at e1; exact nomatch e1
  | some r =>
    rw [c] at e1
    cases e1
    have bp := b.get hp
    exact .inr (.inl ⟨r, p.1, p.2, rfl, k.rat, bp.1, bp.2, rfl⟩)
theorem txt_len {ps : List Fr2} (h5 : ps.length ≤ 5) (b : Bds 1900 ps) : (Str.join ", " (ps.map shwP)).length ≤ 20010 ∧ ((ps.map shwP).map (·.length)).sum ≤ 20000 := by
  have l : ∀ t ∈ ps.map shwP, t.length ≤ 4000 := fun t ht => by
    obtain ⟨p, hp, rfl⟩ := List.mem_map.mp ht
    exact shw_len (b p hp).1 (b p hp).2
  have a := join_len ", " 4000 _ l
  have c := sum_le 4000 _ l
  rw [len2] at a
  rw [List.length_map] at a c
  omega
theorem lb_len : (Str.ofString "[").length = 1 := by decide +kernel
theorem rb_len : (Str.ofString "]").length = 1 := by decide +kernel
theorem lst_eq (ts : List Str) : (("[" : Str) ++ Txt.join ", " ts) ++ "]" = listText ts := by
  rw [TL.join_eq, listText_eq_join]
theorem lst_len {ps : List Fr2} (h5 : ps.length ≤ 5) (b : Bds 1900 ps) : (listText (ps.map shwP)).length ≤ 20012 := by
  rw [listText_eq_join, strLen_append, strLen_append, lb_len, rb_len]
  have := (txt_len h5 b).1
  omega
theorem nm_upd {C : Addr} {H : Hp} {v : V} {n d : Int} {D : Addr} {xs : List V} {o : HO} (h : Nm C H v n d) (hD : H D = some (.lst xs)) : Nm C (upd H D o) v n d := by
  refine ⟨?_, h.lw, h.b1, h.b2⟩
  rcases h.at_ with ⟨r, e, dx, hr⟩ | c
  · refine .inl ⟨r, e, dx, ?_⟩
    rw [upd_ne (fun z => by rw [z, hD] at hr; cases hr)]
    exact hr
  · exact .inr c
theorem nm_st {C : Addr} {H H' : Hp} {v : V} {n d : Int} {p : Addr} (h : Nm C H v n d) (hp : Pot H p) (s : Stp p H H') : Nm C H' v n d := ⟨La.NumAt.st h.at_ hp s, h.lw, h.b1, h.b2⟩
theorem tab_st {C D : Addr} {H H' : Hp} {x p : Addr} {ps : List Fr2} (h : TabAt C D H x ps) (hp : Pot H p) (s : Stp p H H') : TabAt C D H' x ps := by
  obtain ⟨dx, L, rs, h1, h2, h3⟩ := h.at_
  exact ⟨⟨dx, L, rs, at_st h1 (fun i j z => nomatch z) hp s, lst_st h2 (nt_ref rs) hp s, Par.imp h3 fun _ _ k => nm_st k hp s⟩, h.len, h.desc⟩
theorem nms_of {C : Addr} {H : Hp} {acc : List V} {ps : List Fr2} {n : Nat} (hl : acc.length = n) (hn : n = ps.length) (he : ∀ (j : Nat) v, acc[j]? = some v → ∃ b, ps[j]? = some b ∧ Nm C H v b.1 b.2) : Nms C H acc ps := ⟨hl.trans hn, fun i x p e1 e2 => by
  obtain ⟨b, eb, k⟩ := he i x e1
  rw [eb] at e2
  cases e2
  exact k⟩
theorem bt_steps {j i : Nat} {ps : List Fr2} (l : Lws ps) (b : BT j i ps) (h : 1 ≤ j ∧ 1 ≤ i) : BT (j + i + 1) (i + i) (stepsOf ps) := fun s hs => by
  obtain ⟨n, e⟩ := List.mem_iff_getElem?.mp hs
  have hi : n < ps.length := by
    have := (List.getElem?_eq_some_iff.mp e).1
    rw [steps_len] at this
    exact this
  have ep := List.getElem?_eq_getElem hi
  rw [steps_get ep] at e
  cases e
  have b1 := b.get ep
  have l1 := l.get ep
  have b2 : Bd j (ps[n + 1]?.getD z01).1 ∧ Bd i (ps[n + 1]?.getD z01).2 ∧ Lw (ps[n + 1]?.getD z01).1 (ps[n + 1]?.getD z01).2 := by
    cases c : ps[n + 1]? with
    | none => exact ⟨bd_zero, bd_one h.2, lw_z⟩
    | some r => exact ⟨(b.get c).1, (b.get c).2, l.get c⟩
  have hd := mul_ne l1.pos b2.2.2.pos
  exact ⟨bd_low1 hd (((b1.1.mul b2.2.1).sub (b2.1.mul b1.2)).mono (by omega)), bd_low2 hd (b1.2.mul b2.2.1)⟩
def allV (ps : List Fr2) : List V := [.str (tabText ps), .str (listText (ps.map shwP)), .str (listText ((stepsOf ps).map shwP)), .int ((paidN ps : Nat) : Int), .str (tabText (redF ps)), .str (shwP (ps[0]?.getD z01))]
def allD (ps : List Fr2) : PyData := .list [.str (tabText ps), .str (listText (ps.map shwP)), .str (listText ((stepsOf ps).map shwP)), .int ((paidN ps : Nat) : Int), .str (tabText (redF ps)), .str (shwP (ps[0]?.getD z01))]
theorem all_dp {K : PySem.W.Frag} {H : Hp} {a : Addr} {ps : List Fr2} (h : H a = some (.lst (allV ps))) : Dp K H (.ref a) (allD ps) := .lst (SqL.of h) (.cons (.str _) (.cons (.str _) (.cons (.str _) (.cons (.int _) (.cons (.str _) (.cons (.str _) .nil))))))
section
variable {P : Program} {w : World} {K : PySem.W.Frag} {mg : Str → Option Value} {base : Heap}
def spAll (C D : Addr) : Sp := fun vs H Q _ => ∃ (t : Addr) (ps : List Fr2) (j i : Nat), vs = [.ref t] ∧ TabAt C D H t ps ∧ BT j i ps ∧ 1 ≤ j ∧ 1 ≤ i ∧ j ≤ 1000 ∧ i ≤ 900 ∧ j + (1 + i * 5) ≤ 1800 ∧ ∀ g H', H' g = some (.lst (allV ps)) → Same H H' → H g = none → Q (.ref g) H'
abbrev n__law_all : List Str := ["_law_made"]
theorem sc__law_all : FnScope n__law_all ["_law_made"] (defScope d__law_all) := ⟨rfl, rfl, rfl, by decide +kernel, rfl, by decide +kernel, by decide +kernel⟩
theorem ok_all {f C D : Addr} {fd : FuncData} (F : FnP K "_law_all" "_law_all" d__law_all [] f fd) (B : Blt mg) (T : RT K mg C) (U : TC K mg D) (sR : ShX P w K mg base C "__repr__" shw) (sT : ShT P w K mg base C D)
    (mP : Mtd P w K mg base 1 D "points" ["self"] (spPts C D)) (mS : Mtd P w K mg base 7 D "steps" ["self"] (spStp C D)) (mRd : Mtd P w K mg base 11 D "reduced" ["self"] (spRed C D))
    (pPd : Tb.Prp P w K mg base 3 D "paid" (spPaid C D)) (iX : Opr P w K mg base 3 D "__getitem__" ["self", "at"] (spIx C D)) (hfX : ∀ f, OpOf K D "__getitem__" f → PySem.W.fnIn K f = true) :
    FnG P w K mg base CX0 12 f fd ["_law_made"] (spAll C D) := by
  obtain ⟨fx, fxd, oX, FX, bX⟩ := iX.ex
  have fX := hfX fx oX
  refine fnG_ok (k := 11) F sc__law_all (fun vs H Q E h => ?_) (fun cdv A outer s H vs Q E hr hg h => ?_)
  · obtain ⟨t, ps, j, i, rfl, _⟩ := h
    rfl
  · obtain ⟨t, ps, j, i, rfl, tb, bt, j1, i1, jb, ib, ji, q⟩ := h
    have hr1 := hr.mono (by decide : 1 ≤ 11)
    have hr2 := hr.mono (by decide : 2 ≤ 11)
    have hr4 := hr.mono (by decide : 4 ≤ 11)
    have hr6 := hr.mono (by decide : 6 ≤ 11)
    have hr7 := hr.mono (by decide : 7 ≤ 11)
    have hr11 := hr
    refine ⟨_, PSs.nox (pss_one (ps_ret (pe_lst (pa_cons (pe_callB (shown_trepr sT hr4) (by rfl) B.repr PyProof.Rows.boot_repr (pa_cons (pv 0) pa_nil)) (pa_cons (pe_callB (call_repr_lst (monSh C D) (shB_all sR sT) hg hr6) (by rfl) B.repr PyProof.Rows.boot_repr (pa_cons (pe_mt0 U.cl mP hr1 (pv 0)) pa_nil)) (pa_cons (pe_callB (call_repr_lst (monSh C D) (shB_all sR sT) hg hr6) (by rfl) B.repr PyProof.Rows.boot_repr (pa_cons (pe_mt0 U.cl mS hr7 (pv 0)) pa_nil)) (pa_cons (pe_pr pPd (pv 0) U.cl hr4 rfl) (pa_cons (pe_callB (shown_trepr sT hr4) (by rfl) B.repr PyProof.Rows.boot_repr (pa_cons (pe_mt0 U.cl mRd hr11 (pv 0)) pa_nil)) (pa_cons (pe_callB (shown_repr sR hr2) (by rfl) B.repr PyProof.Rows.boot_repr (pa_cons (pe_ixO oX fX FX hr4 bX pass0 (pv 0) pe_int) pa_nil)) pa_nil))))))))), ?_⟩
    have l5 := tb.len
    have lw := tb.lws
    have bd19 : Bds 1900 ps := bt.bds (by omega) (by omega)
    have bds19 : Bds 1900 (stepsOf ps) := (bt_steps lw bt ⟨j1, i1⟩).bds (by omega) (by omega)
    have bdr : Bds 1900 (redF ps) := (red_bd lw tb.desc bt).bds (by omega) (by decide)
    have s5l : (stepsOf ps).length = 5 := by rw [steps_len, l5]
    obtain ⟨dx, L, rs, h1, h2, h3⟩ := id tb.at_
    have no1 : (pf L).lookup ("points" : Str) = none := pf_no L (by decide +kernel)
    have no2 : (pf L).lookup ("steps" : Str) = none := pf_no L (by decide +kernel)
    have no3 : (pf L).lookup ("reduced" : Str) = none := pf_no L (by decide +kernel)
    refine ⟨_, rfl, t, dx, _, rfl, h1, t, ps, rfl, tb, bd19, fun Ha sa => ⟨_, rfl, ?_⟩⟩
    refine ⟨_, rfl, t, dx, _, rfl, sa _ _ h1, no1, t, ps, rfl, tb.same sa, fun g rs2 Hb hg2 hrs2 sb hgn => ?_⟩
    have shp := sh_rats (C := C) (D := D) hrs2 bd19
    have sab := sa.trans sb
    refine ⟨g, _, ps.map shwP, rfl, SqL.of hg2, shp.1, shp.2, line _ (Nat.le_trans (lst_len (by omega) bd19) (by decide)), fun Hc sc => ?_⟩
    have sc' := sab.trans sc
    refine ⟨_, rfl, t, dx, _, rfl, sc' _ _ h1, no2, t, ps, rfl, tb.same sc', bt.bds (by omega) (by omega), fun g2 ss2 Hd hgd hss2 sd hgn2 => ?_⟩
    have shs := sh_rats (C := C) (D := D) hss2 bds19
    refine ⟨g2, _, (stepsOf ps).map shwP, rfl, SqL.of hgd, shs.1, shs.2, line _ (Nat.le_trans (lst_len (by omega) bds19) (by decide)), fun He se => ?_⟩
    have se' := (sc'.trans sd).trans se
    refine ⟨_, rfl, t, dx, _, rfl, se' _ _ h1, t, ps, rfl, tb.same se', fun Hf sf => ?_⟩
    have sf' := se'.trans sf
    refine ⟨_, rfl, t, dx, _, rfl, sf' _ _ h1, no3, t, ps, j, i, rfl, tb.same sf', bt, by omega, fun y Hg ty sg => ?_⟩
    obtain ⟨dy, Ly, ry, y1, y2, y3⟩ := id ty.at_
    refine ⟨y, dy, _, rfl, y1, y, redF ps, rfl, ty, bdr, fun Hh sh => ⟨_, rfl, ?_⟩⟩
    have sh' := (sf'.trans sg).trans sh
    refine ⟨_, rfl, t, dx, _, rfl, sh' _ _ h1, t, ps, 0, rfl, tb.same sh', by decide, fun r p hp nm => ?_⟩
    obtain ⟨dz, hz⟩ := nm.rat
    have bp := bd19.get hp
    refine ⟨r, dz, _, rfl, hz, r, p.1, p.2, rfl, ⟨dz, hz⟩, bp.1, bp.2, _, rfl, (by show 6 ≤ sizeLine; decide), fun l hl => ?_⟩
    have e : shw p.1 p.2 = shwP (ps[0]?.getD z01) := by rw [hp]; rfl
    refine q l _ ?_ (sh'.trans (same_upd hl)) (same_none sh' hl)
    rw [upd_same, e]
    rfl
end
end Lb
/-! The law's own defs: what was told is changed. -/
namespace Lb
open PySem PySem.Spec PyProof.Rows L2 Ow Pt Rm Ra La Tb
section
variable {P : Program} {w : World} {K : PySem.W.Frag} {mg : Str → Option Value} {base : Heap}
def spSpl : Sp := fun vs H Q _ => ∃ (p l : Addr) (xs : List V), vs = [.ref p, .ref l] ∧ Pot H p ∧ l ≠ p ∧ H l = some (.lst xs) ∧ 0 < xs.length ∧ xs.length ≤ 1000 ∧ ∀ H', (∀ b o, b ≠ p → b ≠ l → H b = some o → H' b = some o) → Pot H' p → Q .non H'
abbrev n__law_spoil : List Str := ["_law_pot_here", "_law_row", "_law_way"]
theorem sc__law_spoil : FnScope n__law_spoil ["_law_pot_here", "_law_row"] (defScope d__law_spoil) := ⟨rfl, rfl, rfl, by decide +kernel, rfl, by decide +kernel, by decide +kernel⟩
theorem ok_spoil {f C : Addr} {fd : FuncData} (F : FnP K "_law_spoil" "_law_spoil" d__law_spoil [] f fd) (B : Blt mg) (T : RT K mg C) (M : RMk P w K mg base C) (dD : DDraw P w K mg base) : FnOk P w K mg base CX0 4 f fd ["_law_pot_here", "_law_row"] spSpl := by
  refine F.ok sc__law_spoil (fun vs H Q E h => ?_) (fun cdv A outer s H vs Q E hr h => ?_)
  · obtain ⟨p, l, xs, rfl, _⟩ := h
    rfl
  · obtain ⟨p, l, xs, rfl, hp, ne, hl, x0, x1, q⟩ := h
    have hr1 := hr.mono (by decide : 1 ≤ 3)
    refine ⟨_, PSs.nox (pss_cons (ps_set (i := 2) sc__law_spoil.nd rfl (Or.inl rfl) (pe_use dD hr1 rfl (pa_cons (pv 0) (pa_cons pe_int pa_nil))))
      (pss_one (ps_if (pt_cmpR op_eq (pv 2) pe_int (nomark _)) (pss_one (ps_expr (pe_bm0 PySem.F.plainAttrs_list PySem.F.slot_list_clear PySem.F.type_list_clear mt_clear (pv 1)))) (pss_one (ps_if (pt_cmpR op_eq (pv 2) pe_int (nomark _)) (pss_one (ps_expr (pe_bm0 PySem.F.plainAttrs_list PySem.F.slot_list_reverse PySem.F.type_list_reverse mt_reverse (pv 1)))) (pss_one (ps_if (pt_cmpR op_eq (pv 2) pe_int (nomark _)) (pss_one (ps_asg (pe_rat1 M hr rfl T.mgC (pe_un un_neg pe_int)) (pg_sub (pv 1) (pe_use dD hr1 rfl (pa_cons (pv 0) (pa_cons (pe_callB (r := rLenS K) call_len_seq (by rfl) B.len PySem.boot_len (pa_cons (pv 1) pa_nil)) pa_nil))) set_list))) (pss_one (ps_expr (pe_bm PySem.F.plainAttrs_list PySem.F.slot_list_append PySem.F.type_list_append mt_append (pv 1) (pa_cons pe_non pa_nil))))))))))), ?_⟩
    refine ⟨_, rfl, p, _, rfl, hp, by decide, bd_small (by decide) (by decide) (by decide), fun r H1 r0 r1 s1 => ?_⟩
    have hl1 := s1.keep l _ ne hl
    have pot : ∀ {H' : Hp} {o : HO}, Pot H' p → Pot (upd H' l o) p := fun {H' o} h => by
      obtain ⟨a, b, e, h0⟩ := h
      exact ⟨a, b, by rw [upd_ne ne.symm]; exact e, h0⟩
    have keep : ∀ {H' : Hp} {o : HO}, Stp p H H' → ∀ b u, b ≠ p → b ≠ l → H b = some u → upd H' l o b = some u := fun {H' o} s b u n1 n2 e => by
      rw [upd_ne n2]
      exact s.keep b u n1 e
    refine ⟨_, rfl, rfl, _, rfl, ?_⟩
    refine ite2 (fun _ => ?_) fun c0 => ?_
    · refine ⟨_, rfl, .inl ⟨rfl, xs, SqL.of hl1⟩, l, xs, rfl, rfl, hl1, ?_⟩
      exact q _ (keep s1) (pot s1.pot)
    refine ⟨_, rfl, rfl, _, rfl, ?_⟩
    refine ite2 (fun _ => ?_) fun c1 => ?_
    · refine ⟨_, rfl, .inl ⟨rfl, xs, SqL.of hl1⟩, l, xs, rfl, rfl, hl1, ?_⟩
      exact q _ (keep s1) (pot s1.pot)
    refine ⟨_, rfl, rfl, _, rfl, ?_⟩
    refine ite2 (fun _ => ?_) fun c2 => ?_
    · refine ⟨_, rfl, rat_new (by decide) (bd_one (by decide)) fun z H2 hz s2 _ => ?_⟩
      have hl2 := s2 _ _ hl1
      refine ⟨_, rfl, _, rfl, _, rfl, l, xs, rfl, .inl (SqL.of hl2), p, _, rfl, s1.pot.same s2, by omega, bd_small (by omega) (by have := e60; omega) (by decide), fun k H3 k0 k1 s3 => ?_⟩
      have s13 := (s1.sm s2).trans s3
      have hl3 := s3.keep l _ ne hl2
      obtain ⟨j, rfl⟩ : ∃ j : Nat, k = (j : Int) := ⟨k.toNat, by omega⟩
      have hj : j < xs.length := by omega
      refine ⟨l, xs, _, j, rfl, rfl, hl3, ix_at hj, ?_⟩
      exact q _ (keep s13) (pot s13.pot)
    · refine ⟨_, rfl, .inl ⟨rfl, xs, SqL.of hl1⟩, ?_⟩
      refine ⟨l, xs, _, rfl, rfl, hl1, Nat.lt_of_le_of_lt x1 (by decide), ?_⟩
      exact q _ (keep s1) (pot s1.pot)
/-! ### == of tables, as lists ask it -/
def DT (C D : Addr) : EqD := fun x y b H => ∃ (a c : Addr) (ps qs : List Fr2), x = .ref a ∧ y = .ref c ∧ TabAt C D H a ps ∧ TabAt C D H c qs ∧ b = decide (ps = qs)
theorem monTD (C D : Addr) : MonB (DT C D) := fun x y b H H' s h => by
  obtain ⟨a, c, ps, qs, rfl, rfl, t, u, rfl⟩ := h
  exact ⟨a, c, ps, qs, rfl, rfl, t.same s, u.same s, rfl⟩
theorem tab_one {C D : Addr} {H : Hp} {a : Addr} {ps qs : List Fr2} (t : TabAt C D H a ps) (u : TabAt C D H a qs) : ps = qs := by
  obtain ⟨dx, L, rs, h1, h2, h3⟩ := t.at_
  obtain ⟨dy, L2, rs2, k1, k2, k3⟩ := u.at_
  rw [h1] at k1
  have e := Option.some.inj k1
  injection e with e1 e2 e3
  have e4 : (pf L).lookup ("_points" : Str) = (pf L2).lookup ("_points" : Str) := by rw [e3]
  rw [pf_pts, pf_pts] at e4
  injection e4 with e4
  injection e4 with e4
  subst e4
  rw [h2] at k2
  have e5 : rs.map V.ref = rs2.map V.ref := by
    injection k2 with k2
    injection k2
  have e6 : rs = rs2 := (List.map_inj_right (fun a b h => by injection h)).mp e5
  subst e6
  refine List.ext_getElem? fun i => ?_
  cases c : rs[i]? with
  | none =>
    have := List.getElem?_eq_none_iff.mp c
    rw [List.getElem?_eq_none (by rw [← h3.1]; exact this), List.getElem?_eq_none (by rw [← k3.1]; exact this)]
  | some r =>
    obtain ⟨p, hp, n1⟩ := h3.getL c
    obtain ⟨q, hq, n2⟩ := k3.getL c
    rw [hp, hq]
    obtain ⟨d1, g1⟩ := n1.rat
    obtain ⟨d2, g2⟩ := n2.rat
    rw [g1] at g2
    have e := Option.some.inj g2
    injection e with e1 e2 e3
    have t1 : (rf p.1 p.2).lookup ("_top" : Str) = (rf q.1 q.2).lookup ("_top" : Str) := by rw [e3]
    have b1 : (rf p.1 p.2).lookup ("_bottom" : Str) = (rf q.1 q.2).lookup ("_bottom" : Str) := by rw [e3]
    rw [rf_top, rf_top] at t1
    rw [rf_bottom, rf_bottom] at b1
    have t2 : p.1 = q.1 := by
      injection t1 with t1
      injection t1
    have b2 : p.2 = q.2 := by
      injection b1 with b1
      injection b1
    exact congrArg some (Prod.ext t2 b2)
theorem ownT {C D : Addr} (T : RT K mg C) (U : TC K mg D) (Z : TK K D) (nf : PySem.W.notFirst K D (.ref D) = true) : OwnB K D (spTEq K C D) E0 (DT C D) := by
  refine ⟨fun x y b H h => ?_⟩
  obtain ⟨a, c, ps, qs, rfl, rfl, t, u, rfl⟩ := h
  obtain ⟨dx, L, rs, h1, _⟩ := id t.at_
  refine ⟨a, c, dx, _, .ref D, rfl, rfl, h1, ty_tab T U Z u, nf, fun e => ?_, fun Q q => ⟨a, ps, .ref c, rfl, t, .inl ⟨c, qs, rfl, u, fun H' s => q H' s⟩⟩⟩
  subst e
  exact decide_eq_true (tab_one t u)
structure TEq (P : Program) (w : World) (K : PySem.W.Frag) (mg : Str → Option Value) (base : Heap) (C D : Addr) : Prop where
  ex : ∃ f fd, OpOf K D "__eq__" f ∧ FnOk P w K mg base CX0 3 f fd ["self", "other"] (spTEq K C D) ∧ Binds K fd ["self", "other"] []
  nf : PySem.W.notFirst K D (.ref D) = true
/-! ### _law_lists_right -/
def SOk (x : Str) : Prop := PyData.strOk x = true
theorem sok_of {s : String} : SOk (Str.ofString s) := by
  unfold SOk PyData.strOk
  rw [Str.ofString_eq_toList, Array.all_eq_true']
  intro n hn
  obtain ⟨c, _, rfl⟩ := List.mem_map.mp (by simpa using hn)
  rw [decide_eq_true_iff]
  have := c.valid
  have e : c.toNat = c.val.toNat := rfl
  unfold UInt32.isValidChar Nat.isValidChar at this
  omega
theorem sok_app {a b : Str} (h : SOk a) (k : SOk b) : SOk (a ++ b) := by
  unfold SOk PyData.strOk at *
  rw [PySem.Str.cps_append, Array.all_append, h, k]
  rfl
theorem sok_join {sep : Str} (h : SOk sep) : ∀ ts : List Str, (∀ t ∈ ts, SOk t) → SOk (Str.join sep ts)
  | [], _ => (sok_of (s := "") : SOk (Str.ofString ""))
  | [t], k => k t List.mem_cons_self
  | t :: u :: r, k => sok_app (sok_app (k t List.mem_cons_self) h) (sok_join h (u :: r) fun x hx => k x (List.mem_cons_of_mem _ hx))
theorem sok_shw (p : Fr2) : SOk (shwP p) := sok_app (sok_app (sok_app (sok_app sok_of sok_of) sok_of) sok_of) sok_of
theorem sok_shws (ps : List Fr2) : ∀ t ∈ ps.map shwP, SOk t := fun t ht => by
  obtain ⟨p, _, rfl⟩ := List.mem_map.mp ht
  exact sok_shw p
theorem sok_lst (ps : List Fr2) : SOk (listText (ps.map shwP)) := by
  rw [listText_eq_join]
  exact sok_app (sok_app sok_of (sok_join sok_of _ (sok_shws ps))) sok_of
theorem sok_tab (ps : List Fr2) : SOk (tabText ps) := sok_app (sok_app sok_of (sok_join sok_of _ (sok_shws _))) sok_of
theorem all_lay (ps : List Fr2) : (allD ps).canLay0 = true ∧ (allD ps).depth ≤ 2 := by
  unfold allD
  have a1 : PyData.strOk (tabText ps) = true := sok_tab ps
  have a2 : PyData.strOk (listText (ps.map shwP)) = true := sok_lst ps
  have a3 : PyData.strOk (listText ((stepsOf ps).map shwP)) = true := sok_lst _
  have a4 : PyData.strOk (tabText (redF ps)) = true := sok_tab _
  have a5 : PyData.strOk (shwP (ps[0]?.getD z01)) = true := sok_shw _
  simp only [PyData.canLay0, PyData.canLayAll0, PyData.depth, PyData.depthAll, a1, a2, a3, a4, a5]
  exact ⟨rfl, by decide⟩
theorem shl_all (ps : List Fr2) : SeqAt.shaped (allD ps) = true := by
  unfold SeqAt.shaped
  rw [(all_lay ps).1, Bool.true_and]
  exact decide_eq_true (by have := (all_lay ps).2; omega)
/-- what tables tell, one after the other -/
def bagD (pss : List (List Fr2)) : PyData := .list (pss.map allD)
theorem bag_lay : ∀ pss : List (List Fr2), PyData.canLayAll0 (pss.map allD) = true ∧ PyData.depthAll (pss.map allD) ≤ 2
  | [] => ⟨rfl, by simp [PyData.depthAll]⟩
  | ps :: pss => by
    have h := bag_lay pss
    have a := all_lay ps
    rw [List.map_cons]
    simp only [PyData.canLayAll0, PyData.depthAll, h.1, a.1, Bool.and_self]
    exact ⟨trivial, by omega⟩
theorem bag_shaped (pss : List (List Fr2)) : SeqAt.shaped (bagD pss) = true := by
  have h := bag_lay pss
  unfold SeqAt.shaped bagD
  simp only [PyData.canLay0, PyData.depth, h.1, Bool.true_and]
  exact decide_eq_true (by omega)
theorem eqv_self {d : PyData} (h : SeqAt.shaped d = true) : PyData.eqv d d = true := SeqAt.eqv_refl _ (SeqAt.canLay_of_shaped h)
/-- told lists in a list -/
theorem bag_dp {K : PySem.W.Frag} {H : Hp} {l : Addr} {as : List Addr} {pss : List (List Fr2)} (h : H l = some (.lst (as.map V.ref))) (e : Par (fun a ps => H a = some (.lst (allV ps))) as pss) : Dp K H (.ref l) (bagD pss) := by
  refine .lst (SqL.of h) (dpa_of (by rw [List.length_map, List.length_map, e.1]) fun i v d e1 e2 => ?_)
  rw [List.getElem?_map] at e1 e2
  cases c : as[i]? with
  | none => rw [c] at e1; exact nomatch e1
  | some a =>
    rw [c] at e1
    cases e1
    obtain ⟨ps, hp, k⟩ := e.getL c
    rw [hp] at e2
    cases e2
    exact all_dp k
end
end Lb
/-! The law's own defs: told lists are changed, the tables stay. -/
namespace Lb
open PySem PySem.Spec PyProof.Rows L2 Ow Pt Rm Ra La Tb
theorem spl_st {p g : Addr} {H H1 H' : Hp} (s : Same H H1) (hg : H g = none) (k : ∀ b o, b ≠ p → b ≠ g → H1 b = some o → H' b = some o) (hp : Pot H' p) : Stp p H H' :=
  ⟨fun b o n e => k b o n (ne_of_none e hg) (s _ _ e), hp⟩
theorem nt_all (ps : List Fr2) : NotTwo (allV ps) := fun i j e => nomatch e
/-- told lists, one for each -/
structure Bef (H : Hp) (b : Addr) (pss : List (List Fr2)) : Prop where
  ex : ∃ as : List Addr, H b = some (.lst (as.map V.ref)) ∧ Par (fun a ps => H a = some (.lst (allV ps))) as pss
theorem Bef.st {p b : Addr} {H H' : Hp} {pss : List (List Fr2)} (h : Bef H b pss) (hp : Pot H p) (s : Stp p H H') : Bef H' b pss := by
  obtain ⟨as, e, k⟩ := h.ex
  exact ⟨as, lst_st e (nt_ref as) hp s, Par.imp k fun _ ps z => lst_st z (nt_all ps) hp s⟩
theorem Bef.dp {K : PySem.W.Frag} {b : Addr} {H : Hp} {pss : List (List Fr2)} (h : Bef H b pss) : Dp K H (.ref b) (bagD pss) := by
  obtain ⟨as, e, k⟩ := h.ex
  exact bag_dp e k
/-- in bounds for all that a table tells -/
structure Bw (ps : List Fr2) : Prop where
  ex : ∃ j i, BT j i ps ∧ 1 ≤ j ∧ 1 ≤ i ∧ j ≤ 1000 ∧ i ≤ 900 ∧ j + (1 + i * 5) ≤ 1800
theorem dec_self {α : Type} [DecidableEq α] (x : α) : decide (x = x) = true := decide_eq_true rfl
/-- tables and what they are of -/
abbrev Tabs (C D : Addr) (H : Hp) (ts : List Addr) (pss : List (List Fr2)) : Prop := Par (fun t ps => TabAt C D H t ps) ts pss
theorem tabs_st {C D p : Addr} {H H' : Hp} {ts : List Addr} {pss : List (List Fr2)} (h : Tabs C D H ts pss) (hp : Pot H p) (s : Stp p H H') : Tabs C D H' ts pss := Par.imp h fun _ _ k => tab_st k hp s
section
variable {P : Program} {w : World} {K : PySem.W.Frag} {mg : Str → Option Value} {base : Heap}
/-- [_law_all(x) for x in ..], as the rule asks it -/
theorem lc_all {C D l : Addr} {te : TE} {vs : List Nat} {σ : L2.St} {g : TG} {H1 : Hp} {D1 : Addr} {Qd : Hp → Prop} {ts : List Addr} {pss : List (List Fr2)} (ht : Tabs C D H1 ts pss) (hb : ∀ ps ∈ pss, Bw ps) (hl : H1 l = some (.lst (ts.map V.ref))) (hD : H1 D1 = none) (h8 : ts.length ≤ 8)
    (hs : ∀ t H' (R : VK), (spAll C D [.ref t] H' R E0 → g (.ref t) (wipe σ vs) H' fun σ2 H2 => wipe σ2 vs = wipe σ vs ∧ te σ2 H2 R))
    (hd : ∀ H, Same H1 H → Bef H D1 pss → Qd H) :
    ∃ W : Nat → Nat → Hp → Prop, (∃ m, W 0 m (L2.upd H1 D1 (.lst []))) ∧ ∀ i m H, W i m H →
      ((Itl K l).stop i H ∧ Qd H) ∨ ((Itl K l).go i H ∧ ∃ Nx : Hp → Prop, (∀ H', Nx H' → ∃ m', m' < m ∧ W (i + 1) m' H') ∧ ∀ x H', (Itl K l).yld i H x H' → g x (wipe σ vs) H' fun σ2 H2 => wipe σ2 vs = wipe σ vs ∧ tYes σ2 H2 fun b H3 =>
        if b = true then te σ2 H3 fun y H4 => ∃ acc, H4 D1 = some (.lst acc) ∧ acc.length < sizeLine ∧ Nx (L2.upd H4 D1 (.lst (acc ++ [y]))) else Nx H3) := by
  refine lc_el (walk_list (xs := ts.map V.ref)) (rel_same hD) (by rw [List.length_map]; omega) (fun j v H' => ∃ a ps, v = V.ref a ∧ a ≠ D1 ∧ pss[j]? = some ps ∧ H' a = some (.lst (allV ps))) ?_ ?_ (fun H' s => SqL.of (s _ _ hl)) ?_ ?_
  · rintro j v H5 H6 s ⟨a, ps, e, ne, ep, k⟩
    exact ⟨a, ps, e, ne, ep, s _ _ k⟩
  · rintro j v H5 l l' hl5 ⟨a, ps, e, ne, ep, k⟩
    exact ⟨a, ps, e, ne, ep, by rw [upd_ne ne]; exact k⟩
  · rintro i v H5 H6 hi s5 ⟨acc, hacc, _⟩ ⟨rfl, hx⟩ R k
    rw [List.getElem?_map] at hx
    cases c : ts[i]? with
    | none => rw [c] at hx; exact nomatch hx
    | some t =>
      rw [c] at hx
      cases hx
      obtain ⟨ps, hp, tb⟩ := ht.getL c
      obtain ⟨j, i', b, h1, h2, h3, h4, h5⟩ := (hb ps (List.mem_of_getElem? hp)).ex
      refine hs t H6 R ⟨t, ps, j, i', rfl, tb.same s5, b, h1, h2, h3, h4, h5, fun a H7 ha s7 hn => ?_⟩
      exact k _ _ s7 ⟨a, ps, rfl, (fun e => by rw [e, hacc] at hn; cases hn), hp, ha⟩
  · rintro H5 acc s5 hD5 hlen he
    obtain ⟨as, rfl, hal, _⟩ := els V.ref (fun _ => True) acc fun j v hv => by
      obtain ⟨a, ps, e, _⟩ := he j v hv
      exact ⟨a, e, trivial⟩
    refine hd H5 s5 ⟨as, hD5, by rw [hal, hlen, List.length_map, ht.1], fun i a ps e1 e2 => ?_⟩
    obtain ⟨a', ps', e, _, ep, k⟩ := he i (.ref a) (by rw [List.getElem?_map, e1]; rfl)
    cases e
    rw [ep] at e2
    cases e2
    exact k
def spLR (C D : Addr) : Sp := fun vs H Q _ => ∃ (p l : Addr) (ts : List Addr) (ps : List Fr2), vs = [.ref p, .ref l] ∧ Pot H p ∧ H l = some (.lst (ts.map V.ref)) ∧ 1 ≤ ts.length ∧ ts.length ≤ 4 ∧ Tabs C D H ts (List.replicate ts.length ps) ∧ Bw ps ∧ ∀ H', Stp p H H' → Q (.bl true) H'
abbrev n__law_lists_right : List Str := ["_law_pot_here", "_law_bag", "_law_made", "_law_before", "_law_told", "_law_steps_here"]
theorem sc__law_lists_right : FnScope n__law_lists_right ["_law_pot_here", "_law_bag"] (defScope d__law_lists_right) := ⟨rfl, rfl, rfl, by decide +kernel, rfl, by decide +kernel, by decide +kernel⟩
theorem ok_lists {f C D : Addr} {fd : FuncData} (F : FnP K "_law_lists_right" "_law_lists_right" d__law_lists_right [] f fd) (B : Blt mg) (T : RT K mg C) (U : TC K mg D) (Z : TK K D) (E_ : TEq P w K mg base C D)
    (mP : Mtd P w K mg base 1 D "points" ["self"] (spPts C D)) (mS : Mtd P w K mg base 7 D "steps" ["self"] (spStp C D)) (dAll : DfnG P w K mg base 12 "_law_all" ["_law_made"] (spAll C D)) (dSp : Dfn P w K mg base 4 "_law_spoil" ["_law_pot_here", "_law_row"] spSpl) :
    FnG P w K mg base CX0 13 f fd ["_law_pot_here", "_law_bag"] (spLR C D) := by
  obtain ⟨fe, fed, oE, FE, bE⟩ := E_.ex
  refine fnG_ok (k := 12) F sc__law_lists_right (fun vs H Q E h => ?_) (fun cdv A outer s H vs Q E hr hg h => ?_)
  · obtain ⟨p, l, ts, ps, rfl, _⟩ := h
    rfl
  · obtain ⟨p, l, ts, ps, rfl, hp, hl, t1, t4, tt, bw, q⟩ := h
    have hr1 := hr.mono (by decide : 1 ≤ 12)
    have hr4 := hr.mono (by decide : 4 ≤ 12)
    have hr7 := hr.mono (by decide : 7 ≤ 12)
    have hu : (A.deeper (envOfC "_law_lists_right" (defScope d__law_lists_right) s.heap.objs.size f cdv)).units + 64 < cLine := by have := hr1.units; omega
    have eqTb : EqB (cxOf CX0 P w K mg base n__law_lists_right "_law_lists_right" (defScope d__law_lists_right) f cdv A outer s H E).nox 3 (DT C D) := eqB_own (ownT T U Z E_.nf) oE FE bE pass0
    refine ⟨_, PSs.nox (pss_cons (ps_setLc (i := 3) rfl sc__law_lists_right.nd rfl rfl (by rfl) (pi_list (pv 1)) (blkOk_by (own := [("_law_made", 2)]) (by show blkC n__law_lists_right (defScope d__law_lists_right) _ _ = true; decide +kernel)) (fun _ _ _ _ _ => pg_name (i := 2) sc__law_lists_right.nd rfl (.inl rfl)) (fun _ _ _ _ _ => pts_nil) (fun _ _ _ _ _ => (pe_useG dAll hr hg rfl (pa_cons (pv 2) pa_nil))))
      (pss_cons (ps_for PassesOwn.never rfl (pi_list (pv 1)) (pg_name (i := 2) sc__law_lists_right.nd rfl (.inl rfl))
      (pss_cons (ps_expr (pe_use dSp hr4 rfl (pa_cons (pv 0) (pa_cons (pe_mt0 U.cl mP hr1 (pv 2)) pa_nil))))
      (pss_cons (ps_par (i := 4) (j := 5) rfl sc__law_lists_right.nd rfl rfl (by decide) rfl rfl (pa_cons (pe_mt0 U.cl mP hr1 (pv 2)) (pa_cons (pe_mt0 U.cl mS hr7 (pv 2)) pa_nil)) rfl)
      (pss_cons (ps_expr (pe_use dSp hr4 rfl (pa_cons (pv 0) (pa_cons (pv 5) pa_nil))))
      (pss_cons (ps_expr (pe_use dSp hr4 rfl (pa_cons (pv 0) (pa_cons (pv 4) pa_nil))))
      (pss_one (ps_if (PW.pt (pw_or (pt_cmpR (op_neD hu) (pe_useG dAll hr hg rfl (pa_cons (pv 2) pa_nil)) (pe_ix ix_list (pv 3) (pe_bm PySem.F.plainAttrs_list PySem.F.slot_list_index PySem.F.type_list_index (mt_indexB (monTD C D) eqTb hr4) (pv 1) (pa_cons (pv 2) pa_nil)) (fun _ _ => rfl)) (nomark _)) (pw_or (pt_cmpR op_ne (pe_callB (r := rLenS K) call_len_seq (by rfl) B.len PySem.boot_len (pa_cons (pe_mt0 U.cl mP hr1 (pv 2)) pa_nil)) pe_int (nomark _)) (pw_or1 (pt_cmpR op_ne (pe_callB (r := rLenS K) call_len_seq (by rfl) B.len PySem.boot_len (pa_cons (pe_mt0 U.cl mS hr7 (pv 2)) pa_nil)) pe_int (nomark _)))))) (pss_one (ps_ret pe_bl)) pss_nil)))))))
      (pss_one (ps_ret (pe_cmpR (op_eqD hu) (pe_lc rfl sc__law_lists_right.nd (pi_list (pv 1)) (blkOk_by (own := [("_law_made", 2)]) (by show blkC n__law_lists_right (defScope d__law_lists_right) _ _ = true; decide +kernel)) (fun _ _ _ _ _ => pg_name (i := 2) sc__law_lists_right.nd rfl (.inl rfl)) (fun _ _ _ _ _ => pts_nil) (fun _ _ _ _ _ => (pe_useG dAll hr hg rfl (pa_cons (pv 2) pa_nil)))) (pv 3) (nomark _)))))), ?_⟩
    have bws : ∀ qs ∈ List.replicate ts.length ps, Bw qs := fun qs h => by rw [List.eq_of_mem_replicate h]; exact bw
    refine ⟨_, rfl, l, rfl, ⟨_, SqL.of hl⟩, fun D1 hD1 => ?_⟩
    refine lc_all tt bws hl hD1 (by omega) (fun t H' R h => ⟨rfl, _, rfl, h⟩) fun H1 s1 hbf => ?_
    have b1 : Stp p H H1 := Stp.of s1 hp
    refine ⟨_, rfl, l, rfl, ⟨_, SqL.of (s1 _ _ hl)⟩, ?_⟩
    refine for_it (walk_list (xs := ts.map V.ref)) (fun i σ H' => ∃ v2 v4 v5 : Option V, σ = [some (.ref p), some (.ref l), v2, some (.ref D1), v4, v5] ∧ Stp p H H' ∧ Bef H' D1 (List.replicate ts.length ps)) ⟨_, _, _, rfl, b1, hbf⟩ (fun i σ H' _ h => by obtain ⟨_, _, _, _, st, _⟩ := h; exact SqL.of (lst_st hl (nt_ref ts) hp st)) ?_ ?_
    · rintro i x σ Ha Hb hi ⟨v2, v4, v5, rfl, st, bf⟩ ⟨rfl, hx⟩
      rw [List.getElem?_map] at hx
      cases c : ts[i]? with
      | none => rw [c] at hx; exact nomatch hx
      | some t =>
        rw [c] at hx
        cases hx
        have tta := tabs_st tt hp st
        obtain ⟨ps', ep, tb⟩ := tta.getL c
        cases List.eq_of_mem_replicate (List.mem_of_getElem? ep)
        obtain ⟨dx, L, rs, h1, h2, h3⟩ := id tb.at_
        have no1 : (pf L).lookup ("points" : Str) = none := pf_no L (by decide +kernel)
        have no2 : (pf L).lookup ("steps" : Str) = none := pf_no L (by decide +kernel)
        obtain ⟨j, i', bt, j1, i1, jb, ib, ji⟩ := bw.ex
        have l5 := tb.len
        refine ⟨_, rfl, _, rfl, t, dx, _, rfl, h1, no1, t, ps, rfl, tb, fun g rg Hc hg1 hrg sc hgn => ?_⟩
        have lg : rg.length = 5 := by rw [hrg.1, l5]
        refine ⟨p, g, _, rfl, st.pot.same sc, La.pot_ne (st.pot) hgn, hg1, by rw [List.length_map]; omega, by rw [List.length_map]; omega, fun Hd kd pd => ?_⟩
        have sd := spl_st sc hgn kd pd
        have tbd := tab_st tb st.pot sd
        obtain ⟨dx2, L2, rs2, g1, g2, g3⟩ := id tbd.at_
        have no3 : (pf L2).lookup ("points" : Str) = none := pf_no L2 (by decide +kernel)
        have no4 : (pf L2).lookup ("steps" : Str) = none := pf_no L2 (by decide +kernel)
        refine ⟨_, rfl, t, dx2, _, rfl, g1, no3, t, ps, rfl, tbd, fun m rm He hm hrm se hmn => ?_⟩
        have lm : rm.length = 5 := by rw [hrm.1, l5]
        refine ⟨_, rfl, t, dx2, _, rfl, se _ _ g1, no4, t, ps, rfl, tbd.same se, bt.bds jb (by omega), fun n rn Hf hn hrn sf hnn => ?_⟩
        have ln : rn.length = 5 := by rw [hrn.1, steps_len, l5]
        have sef := se.trans sf
        have pe := pd.same se
        refine ⟨_, _, rfl, ?_⟩
        refine ⟨_, rfl, _, rfl, p, n, _, rfl, pe.same sf, La.pot_ne pe hnn, hn, by rw [List.length_map]; omega, by rw [List.length_map]; omega, fun Hg kg pg => ?_⟩
        have sg := spl_st sf hnn kg pg
        have ne : m ≠ n := ne_of_none hm hnn
        have hm2 := sg.keep m _ (La.pot_ne pd hmn) hm
        refine ⟨_, rfl, _, rfl, p, m, _, rfl, pg, La.pot_ne pd hmn, hm2, by rw [List.length_map]; omega, by rw [List.length_map]; omega, fun Hh kh ph => ?_⟩
        have sh : Stp p Hd Hh := ⟨fun b o nb eb => kh b o nb (ne_of_none eb hmn) (sg.keep b o nb (se _ _ eb)), ph⟩
        have sdh : Stp p Hb Hh := sd.trans sh
        have tbh := tab_st tb st.pot sdh
        have bfh := bf.st st.pot sdh
        have tth := tabs_st tta st.pot sdh
        have lh := lst_st hl (nt_ref ts) hp (st.trans sdh)
        refine ⟨_, rfl, t, ps, j, i', rfl, tbh, bt, j1, i1, jb, ib, ji, fun a Hi ha si hna => ?_⟩
        have tti := Par.imp (S := fun t ps => TabAt C D Hi t ps) tth fun _ _ k => k.same si
        have hrep : ∀ (n : Nat) u, (ts.map V.ref)[n]? = some u → DT C D u (.ref t) true Hi := fun n u e => by
          rw [List.getElem?_map] at e
          cases c2 : ts[n]? with
          | none => rw [c2] at e; exact nomatch e
          | some t2 =>
            rw [c2] at e
            cases e
            obtain ⟨ps2, ep2, tb2⟩ := tti.getL c2
            cases List.eq_of_mem_replicate (List.mem_of_getElem? ep2)
            exact ⟨t2, t, ps, ps, rfl, rfl, tb2, tbh.same si, (dec_self ps).symm⟩
        refine ⟨_, rfl, _, rfl, .inl ⟨rfl, _, SqL.of (si _ _ lh)⟩, _, rfl, l, ts.map V.ref, .ref t, fun _ => true, 0, rfl, rfl, si _ _ lh, hrep, by rw [List.length_map]; omega, rfl, fun m hm => absurd hm (Nat.not_lt_zero m), fun Hj sj => ?_⟩
        have bfj := bfh.st ph (Stp.of (si.trans sj) ph)
        obtain ⟨as, ea, ka⟩ := bfj.ex
        have hal : 0 < as.length := by rw [ka.1, List.length_replicate]; omega
        have e0 := List.getElem?_eq_getElem hal
        obtain ⟨ps3, ep3, k3⟩ := ka.getL e0
        cases List.eq_of_mem_replicate (List.mem_of_getElem? ep3)
        have hat : atI (as.map V.ref) ((0 : Nat) : Int) = some (V.ref as[0]) := atI_nat (j := 0) (by rw [List.getElem?_map, e0]; rfl)
        refine ⟨D1, _, _, _, rfl, rfl, SqL.of ea, hat, _, _, all_dp (sj _ _ ha), all_dp k3, shl_all ps, shl_all ps, _, rfl, ?_⟩
        rw [eqv_self (shl_all ps)]
        have sij := si.trans sj
        have tbj := tbh.same sij
        obtain ⟨dx3, L3, rs3, f1, f2, f3⟩ := id tbj.at_
        have no5 : (pf L3).lookup ("points" : Str) = none := pf_no L3 (by decide +kernel)
        have no6 : (pf L3).lookup ("steps" : Str) = none := pf_no L3 (by decide +kernel)
        have five : ∀ xs : List Addr, xs.length = 5 → (!decide (V.int (((xs.map V.ref).length : Nat) : Int) = V.int 5)) = false := fun xs h => by
          rw [decide_eq_true (by rw [List.length_map, h]; rfl)]
          rfl
        refine ⟨_, rfl, t, dx3, _, rfl, f1, no5, t, ps, rfl, tbj, fun g7 r7 Hk hg7 hr7 sk hn7 => ?_⟩
        refine ⟨g7, _, rfl, .inl (SqL.of hg7), rfl, _, rfl, ?_⟩
        rw [five r7 (by rw [hr7.1, l5])]
        refine ⟨_, rfl, t, dx3, _, rfl, sk _ _ f1, no6, t, ps, rfl, tbj.same sk, bt.bds jb (by omega), fun g8 r8 Hl hg8 hr8 sl hn8 => ?_⟩
        refine ⟨g8, _, rfl, .inl (SqL.of hg8), rfl, _, rfl, ?_⟩
        rw [five r8 (by rw [hr8.1, steps_len, l5])]
        refine iteF ?_
        have skl := sk.trans sl
        exact ⟨_, _, _, rfl, (st.trans sdh).sm (sij.trans skl), bfj.st (ph.same sij) (Stp.of skl (ph.same sij))⟩
    rintro σ Ha ⟨v2, v4, v5, rfl, st, bf⟩
    have lh := lst_st hl (nt_ref ts) hp st
    refine ⟨_, rfl, l, rfl, ⟨_, SqL.of lh⟩, fun D2 hD2 => ?_⟩
    refine lc_all (tabs_st tt hp st) bws lh hD2 (by omega) (fun t H' R h => ⟨rfl, _, rfl, h⟩) fun H2 s2 hbf2 => ?_
    refine ⟨_, rfl, _, _, hbf2.dp, (bf.st st.pot (Stp.of s2 st.pot)).dp, bag_shaped _, bag_shaped _, ?_⟩
    rw [eqv_self (bag_shaped _)]
    exact q _ (st.sm s2)
end
end Lb
/-! The law's own defs: deeds on tables. -/
namespace Lb
open PySem PySem.Spec PyProof.Rows L2 Ow Pt Rm Ra La Tb
def deeds (ps : List Fr2) (n : Int) (k : Fr2) : List (List Fr2) := [addF ps ps, addF ps ps, mulF ps (n, 1), mulF ps (n, 1), mulF ps k, redF ps, mulF ps (1, 1)]
theorem deeds_bw {ps : List Fr2} {n : Int} {k : Fr2} (l : Lws ps) (d : Desc' ps) (bt : BT 120 120 ps) (bn : Bd 4 n) (lk : Lw k.1 k.2) (b1 : Bd 4 k.1) (b2 : Bd 3 k.2) : ∀ qs ∈ deeds ps n k, Bw qs := by
  have h0 : Bw (addF ps ps) := ⟨_, _, add_bd l l bt bt, by decide, by decide, by decide, by decide, by decide⟩
  have h2 : ∀ {c : Fr2}, Lw c.1 c.2 → Bd 4 c.1 → Bd 3 c.2 → Bw (mulF ps c) := fun lc c1 c2 => ⟨_, _, mul_bd l lc bt c1 c2, by decide, by decide, by decide, by decide, by decide⟩
  have h5 : Bw (redF ps) := ⟨_, _, red_bd l d bt, by decide, by decide, by decide, by decide, by decide⟩
  have h1 : Bd 3 (1 : Int) := bd_one (by decide)
  intro qs h
  unfold deeds at h
  rcases List.mem_cons.mp h with rfl | h
  · exact h0
  rcases List.mem_cons.mp h with rfl | h
  · exact h0
  rcases List.mem_cons.mp h with rfl | h
  · exact h2 (lw_int n) bn h1
  rcases List.mem_cons.mp h with rfl | h
  · exact h2 (lw_int n) bn h1
  rcases List.mem_cons.mp h with rfl | h
  · exact h2 lk b1 b2
  rcases List.mem_cons.mp h with rfl | h
  · exact h5
  rcases List.mem_cons.mp h with rfl | h
  · exact h2 (lw_int 1) (bd_one (by decide)) h1
  exact nomatch h
theorem low_self {k : Fr2} (l : Lw k.1 k.2) : low k.1 k.2 = k := by
  have := low_mul l (m := 1) (by decide)
  rw [Int.mul_one, Int.mul_one] at this
  exact this
theorem bd4 {r : Int} (h0 : 0 ≤ r) (h : r < 9) : Bd 4 (1 + r) := by
  unfold Bd
  have : (2 : Nat) ^ 4 = 16 := by decide
  omega
section
variable {P : Program} {w : World} {K : PySem.W.Frag} {mg : Str → Option Value} {base : Heap}
def spDR (C D : Addr) : Sp := fun vs H Q _ => ∃ (p l : Addr) (ts : List Addr) (ps : List Fr2), vs = [.ref p, .ref l] ∧ Pot H p ∧ H l = some (.lst (ts.map V.ref)) ∧ 1 ≤ ts.length ∧ ts.length ≤ 4 ∧ Tabs C D H ts (List.replicate ts.length ps) ∧ BT 120 120 ps ∧ ∀ H', Stp p H H' → Q (.bl true) H'
abbrev n__law_deeds_right : List Str := ["_law_pot_here", "_law_bag", "_law_made", "_law_before", "_law_one", "_law_two", "_law_n", "_law_part", "_law_some", "_law_shown_here", "_law_again"]
theorem sc__law_deeds_right : FnScope n__law_deeds_right ["_law_pot_here", "_law_bag"] (defScope d__law_deeds_right) := ⟨rfl, rfl, rfl, by decide +kernel, rfl, by decide +kernel, by decide +kernel⟩
theorem ok_deeds {f C D : Addr} {fd : FuncData} {f2 : Addr} {rc2 : Option Value} (F : FnP K "_law_deeds_right" "_law_deeds_right" d__law_deeds_right [] f fd) (B : Blt mg) (T : RT K mg C) (U : TC K mg D) (Z : TK K D) (E_ : TEq P w K mg base C D) (M : RMk P w K mg base C) (sR : ShX P w K mg base C "__repr__" shw) (sT : ShT P w K mg base C D)
    (pT : PT_ P w K mg base C) (pB : PB_ P w K mg base C) (pS : PS_ P w K mg base C) (nD : Num K D) (aT : OpX P w K mg base D .Add 11 (spAdd C D)) (mT : OpX P w K mg base D .Mult 11 (spMulT C D)) (yT : OpY P w K mg base D .Mult 12 (spRmT C D))
    (o2a : PySem.W.findIn K (.ref C) (PySem.dunder (Operator.Mult).info.2) = some (some (.ref f2))) (o2b : PySem.W.findIn K (.ref C) (dunderR (Operator.Mult).info.2) = some rc2) (o2c : rc2 = none ∨ ∃ g : Addr, rc2 = some (.ref g)) (CD : D ≠ C) (sCD : PySem.W.subIn K (.ref C) (.ref D) = some false)
    (mP : Mtd P w K mg base 1 D "points" ["self"] (spPts C D)) (mS : Mtd P w K mg base 7 D "steps" ["self"] (spStp C D)) (mRd : Mtd P w K mg base 11 D "reduced" ["self"] (spRed C D)) (dD : DDraw P w K mg base) (dP : DPick P w K mg base)
    (dAll : DfnG P w K mg base 12 "_law_all" ["_law_made"] (spAll C D)) (dSp : Dfn P w K mg base 4 "_law_spoil" ["_law_pot_here", "_law_row"] spSpl) :
    FnG P w K mg base CX0 13 f fd ["_law_pot_here", "_law_bag"] (spDR C D) := by
  obtain ⟨fe, fed, oE, FE, bE⟩ := E_.ex
  refine fnG_ok (k := 12) F sc__law_deeds_right (fun vs H Q E h => ?_) (fun cdv A outer s H vs Q E hr hg h => ?_)
  · obtain ⟨p, l, ts, ps, rfl, _⟩ := h
    rfl
  · obtain ⟨p, l, ts, ps, rfl, hp, hl, t1, t4, tt, bt, q⟩ := h
    have hr1 := hr.mono (by decide : 1 ≤ 12)
    have hr2 := hr.mono (by decide : 2 ≤ 12)
    have hr3 := hr.mono (by decide : 3 ≤ 12)
    have hr4 := hr.mono (by decide : 4 ≤ 12)
    have hr6 := hr.mono (by decide : 6 ≤ 12)
    have hr7 := hr.mono (by decide : 7 ≤ 12)
    have hr11 := hr.mono (by decide : 11 ≤ 12)
    have hr12 := hr
    have hu : (A.deeper (envOfC "_law_deeds_right" (defScope d__law_deeds_right) s.heap.objs.size f cdv)).units + 64 < cLine := by have := hr1.units; omega
    have eqTb : EqB (cxOf CX0 P w K mg base n__law_deeds_right "_law_deeds_right" (defScope d__law_deeds_right) f cdv A outer s H E).nox 3 (DT C D) := eqB_own (ownT T U Z E_.nf) oE FE bE pass0
    refine ⟨_, PSs.nox (pss_cons (ps_setLc (i := 3) rfl sc__law_deeds_right.nd rfl rfl (by rfl) (pi_list (pv 1)) (blkOk_by (own := [("_law_made", 2)]) (by show blkC n__law_deeds_right (defScope d__law_deeds_right) _ _ = true; decide +kernel)) (fun _ _ _ _ _ => pg_name (i := 2) sc__law_deeds_right.nd rfl (.inl rfl)) (fun _ _ _ _ _ => pts_nil) (fun _ _ _ _ _ => (pe_useG dAll hr12 hg rfl (pa_cons (pv 2) pa_nil))))
      (pss_cons (ps_par (i := 4) (j := 5) rfl sc__law_deeds_right.nd rfl rfl (by decide) rfl rfl (pa_cons (pe_use dP hr2 rfl (pa_cons (pv 0) (pa_cons (pv 1) pa_nil))) (pa_cons (pe_use dP hr2 rfl (pa_cons (pv 0) (pa_cons (pv 1) pa_nil))) pa_nil)) rfl)
      (pss_cons (ps_par (i := 6) (j := 7) rfl sc__law_deeds_right.nd rfl rfl (by decide) rfl rfl (pa_cons (pe_op op_add pe_int (pe_use dD hr1 rfl (pa_cons (pv 0) (pa_cons pe_int pa_nil)))) (pa_cons (pe_rat2 M hr3 rfl T.mgC (pe_op op_add pe_int (pe_use dD hr1 rfl (pa_cons (pv 0) (pa_cons pe_int pa_nil)))) pe_int) pa_nil)) rfl)
      (pss_cons (ps_set (i := 2) sc__law_deeds_right.nd rfl (Or.inl rfl) (pe_lst (pa_cons (pe_op (op_xx aT nD hr11) (pv 4) (pv 5)) (pa_cons (pe_op (op_xx aT nD hr11) (pv 4) (pv 4)) (pa_cons (pe_op (op_xi mT nD hr11) (pv 4) (pv 6)) (pa_cons (pe_op (op_ixM yT nD hr) (pv 6) (pv 4)) (pa_cons (pe_op (op_xy mT nD T.num.sf o2a o2b o2c CD sCD hr11) (pv 4) (pv 7)) (pa_cons (pe_mt0 U.cl mRd hr11 (pv 5)) (pa_cons (pe_op (op_xi mT nD hr11) (pv 4) pe_int) pa_nil)))))))))
      (pss_cons (ps_setLc (i := 9) rfl sc__law_deeds_right.nd rfl rfl (by rfl) (pi_list (pv 2)) (blkOk_by (own := [("_law_some", 8)]) (by show blkC n__law_deeds_right (defScope d__law_deeds_right) _ _ = true; decide +kernel)) (fun _ _ _ _ _ => pg_name (i := 8) sc__law_deeds_right.nd rfl (.inl rfl)) (fun _ _ _ _ _ => pts_nil) (fun _ _ _ _ _ => (pe_useG dAll hr12 hg rfl (pa_cons (pv 8) pa_nil))))
      (pss_cons (ps_for PassesOwn.never rfl (pi_list (pv 2)) (pg_name (i := 8) sc__law_deeds_right.nd rfl (.inl rfl))
      (pss_cons (ps_expr (pe_use dSp hr4 rfl (pa_cons (pv 0) (pa_cons (pe_mt0 U.cl mP hr1 (pv 8)) pa_nil))))
      (pss_one (ps_expr (pe_use dSp hr4 rfl (pa_cons (pv 0) (pa_cons (pe_mt0 U.cl mS hr7 (pv 8)) pa_nil)))))))
      (pss_cons (ps_set (i := 10) sc__law_deeds_right.nd rfl (Or.inl rfl) (pe_lst (pa_cons (pe_op (op_xx aT nD hr11) (pv 4) (pv 5)) (pa_cons (pe_op (op_xx aT nD hr11) (pv 4) (pv 4)) (pa_cons (pe_op (op_xi mT nD hr11) (pv 4) (pv 6)) (pa_cons (pe_op (op_ixM yT nD hr) (pv 6) (pv 4)) (pa_cons (pe_op (op_xy mT nD T.num.sf o2a o2b o2c CD sCD hr11) (pv 4) (pv 7)) (pa_cons (pe_mt0 U.cl mRd hr11 (pv 5)) (pa_cons (pe_op (op_xi mT nD hr11) (pv 4) pe_int) pa_nil)))))))))
      (pss_cons (ps_if (PW.pt (pw_or (pt_cmpR (op_neD hu) (pe_lc rfl sc__law_deeds_right.nd (pi_list (pv 2)) (blkOk_by (own := [("_law_some", 8)]) (by show blkC n__law_deeds_right (defScope d__law_deeds_right) _ _ = true; decide +kernel)) (fun _ _ _ _ _ => pg_name (i := 8) sc__law_deeds_right.nd rfl (.inl rfl)) (fun _ _ _ _ _ => pts_nil) (fun _ _ _ _ _ => (pe_useG dAll hr12 hg rfl (pa_cons (pv 8) pa_nil)))) (pv 9) (nomark _)) (pw_or1 (pt_cmpR (op_neD hu) (pe_lc rfl sc__law_deeds_right.nd (pi_list (pv 10)) (blkOk_by (own := [("_law_some", 8)]) (by show blkC n__law_deeds_right (defScope d__law_deeds_right) _ _ = true; decide +kernel)) (fun _ _ _ _ _ => pg_name (i := 8) sc__law_deeds_right.nd rfl (.inl rfl)) (fun _ _ _ _ _ => pts_nil) (fun _ _ _ _ _ => (pe_useG dAll hr12 hg rfl (pa_cons (pv 8) pa_nil)))) (pv 9) (nomark _))))) (pss_one (ps_ret pe_bl)) pss_nil)
      (pss_cons (ps_if (PW.pt (pw_or (pt_not (pt_cmpR (op_eqLB (monTD C D) eqTb hr4) (pv 2) (pv 10) (nomark _))) (pw_or1 (pt_cmpR op_ne (pe_callB (call_repr_lst (monSh C D) (shB_all sR sT) hg hr6) (by rfl) B.repr PyProof.Rows.boot_repr (pa_cons (pe_lst (pa_cons (pv 6) (pa_cons (pv 7) (pa_cons (pe_prp pS (pv 7) T.cl hr2 rfl) pa_nil)))) pa_nil)) (pe_callB (call_repr_lst (monSh C D) (shB_all sR sT) hg hr6) (by rfl) B.repr PyProof.Rows.boot_repr (pa_cons (pe_lst (pa_cons (pv 6) (pa_cons (pe_rat2 M hr3 rfl T.mgC (pe_prp pT (pv 7) T.cl hr2 rfl) (pe_prp pB (pv 7) T.cl hr2 rfl)) (pa_cons pe_int pa_nil)))) pa_nil)) (nomark _))))) (pss_one (ps_ret pe_bl)) pss_nil)
      (pss_one (ps_ret (pe_and (pe_cmpR (op_eqI oE FE hr3 bE pass0) (pe_ix ix_list (pv 2) pe_int (fun _ _ => rfl)) (pv 4) (nomark _)) (pe_and (pe_cmpR (op_eqI oE FE hr3 bE pass0) (pe_ix ix_list (pv 2) pe_int (fun _ _ => rfl)) (pe_ix ix_list (pv 2) pe_int (fun _ _ => rfl)) (nomark _)) (pe_one (pe_cmpR (op_eqD hu) (pe_lc rfl sc__law_deeds_right.nd (pi_list (pv 1)) (blkOk_by (own := [("_law_some", 8)]) (by show blkC n__law_deeds_right (defScope d__law_deeds_right) _ _ = true; decide +kernel)) (fun _ _ _ _ _ => pg_name (i := 8) sc__law_deeds_right.nd rfl (.inl rfl)) (fun _ _ _ _ _ => pts_nil) (fun _ _ _ _ _ => (pe_useG dAll hr12 hg rfl (pa_cons (pv 8) pa_nil)))) (pv 3) (nomark _)))))))))))))))), ?_⟩
    have bw : Bw ps := ⟨120, 120, bt, by decide, by decide, by decide, by decide, by decide⟩
    have bds : Bds 1000 ps := bt.bds (by decide) (by decide)
    have bws : ∀ qs ∈ List.replicate ts.length ps, Bw qs := fun qs h => by rw [List.eq_of_mem_replicate h]; exact bw
    refine ⟨_, rfl, l, rfl, ⟨_, SqL.of hl⟩, fun D1 hD1 => ?_⟩
    refine lc_all tt bws hl hD1 (by omega) (fun t H' R h => ⟨rfl, _, rfl, h⟩) fun H1 s1 hbf => ?_
    have st1 : Stp p H H1 := Stp.of s1 hp
    have lp : l ≠ p := fun e => by
      obtain ⟨a, b, e2, _⟩ := hp
      rw [e, e2] at hl
      injection hl with hl
      injection hl with hl
      rcases ts with _ | ⟨t, ts⟩
      · exact nomatch hl
      · injection hl with hl
        exact nomatch hl
    have pick : ∀ {j : Nat} {x : V} {H' : Hp}, (ts.map V.ref)[j]? = some x → Stp p H H' → ∃ t, x = .ref t ∧ TabAt C D H' t ps := fun {j x H'} e st => by
      rw [List.getElem?_map] at e
      cases c : ts[j]? with
      | none => rw [c] at e; exact nomatch e
      | some t =>
        rw [c] at e
        cases e
        obtain ⟨ps2, ep, tb⟩ := (tabs_st tt hp st).getL c
        cases List.eq_of_mem_replicate (List.mem_of_getElem? ep)
        exact ⟨t, rfl, tb⟩
    refine ⟨_, rfl, _, rfl, p, l, _, rfl, st1.pot, lp, lst_st hl (nt_ref ts) hp st1, by rw [List.length_map]; omega, by rw [List.length_map]; omega, fun j x H2 ex s2 => ?_⟩
    have st2 := st1.trans s2
    refine ⟨_, rfl, _, rfl, p, l, _, rfl, st2.pot, lp, lst_st hl (nt_ref ts) hp st2, by rw [List.length_map]; omega, by rw [List.length_map]; omega, fun j2 x2 H3 ex2 s3 => ?_⟩
    have st3 := st2.trans s3
    obtain ⟨one, rfl, _⟩ := pick ex st3
    obtain ⟨two, rfl, _⟩ := pick ex2 st3
    refine ⟨_, _, rfl, ?_⟩
    refine ⟨_, rfl, p, _, rfl, st3.pot, by decide, bd_small (by decide) (by decide) (by decide), fun r H4 r0 r1 s4 => ⟨_, _, rfl, rfl, ?_⟩⟩
    refine ⟨_, rfl, p, _, rfl, (st3.trans s4).pot, by decide, bd_small (by decide) (by decide) (by decide), fun r2 H5 r20 r21 s5 => ⟨_, _, rfl, rfl, ?_⟩⟩
    have st5 := (st3.trans s4).trans s5
    refine rat_new (by decide) (bd_small (by decide) (by decide) (by decide)) fun z H6 hz s6 _ => ?_
    obtain ⟨k, hk⟩ : ∃ k : Fr2, k = low (1 + r2) 7 := ⟨_, rfl⟩
    obtain ⟨n, hn⟩ : ∃ n : Int, n = 1 + r := ⟨_, rfl⟩
    have lk : Lw k.1 k.2 := hk ▸ low_lw _ (by decide)
    have bk1 : Bd 4 k.1 := hk ▸ bd_low1 (by decide) (bd4 r20 r21)
    have bk2 : Bd 3 k.2 := hk ▸ bd_low2 (by decide) (show Bd 3 7 by unfold Bd; decide)
    have bn : Bd 4 n := hn ▸ bd4 r0 r1
    have n0 : 0 < n := by omega
    have k0 : 0 < k.1 := (q_pos lk).mpr (by
      rw [hk, q_low _ (by decide)]
      rw [Rat.lt_div_iff (pos_q (by decide))]
      have := pos_q (show (0 : Int) < 1 + r2 by omega)
      grind)
    have hz' : RatAt C H6 z k.1 k.2 := by rw [hk]; exact hz
    have nz : Nm C H6 (.ref z) k.1 k.2 := ⟨.inl ⟨z, rfl, hz'⟩, lk, bk1.mono (by decide), bk2.mono (by decide)⟩
    have st6 := st5.sm s6
    have e1n : (fun i j : Int => V.int (i + j)) 1 r = V.int n := by rw [hn]
    refine ⟨_, _, rfl, ?_⟩
    rw [e1n]
    have ta6 := tabs_st tt hp st6
    obtain ⟨one', e1', ta⟩ := pick ex st6
    obtain ⟨two', e2', tb⟩ := pick ex2 st6
    cases e1'
    cases e2'
    obtain ⟨dx, L, rs, g1, _⟩ := id ta.at_
    obtain ⟨dy, L2, rs2, g2, _⟩ := id tb.at_
    have no3 : (pf L2).lookup ("reduced" : Str) = none := pf_no L2 (by decide +kernel)
    refine ⟨_, rfl, _, rfl, one, dx, _, two, dy, _, rfl, g1, rfl, g2, one, two, ps, ps, 120, 120, rfl, ta, tb, bt, bt, by decide, fun m0a K0a u0a s0a => ?_⟩
    refine ⟨_, rfl, _, rfl, one, dx, _, one, dx, _, rfl, s0a _ _ g1, rfl, s0a _ _ g1, one, one, ps, ps, 120, 120, rfl, (ta.same s0a), (ta.same s0a), bt, bt, by decide, fun m1a K1a u1a s1a => ?_⟩
    have S1a := s0a.trans s1a
    refine ⟨_, rfl, _, rfl, one, dx, _, n, rfl, S1a _ _ g1, rfl, one, .int n, ps, (n, 1), rfl, (ta.same S1a), nm_int (bn.mono (by decide)), n0, bds, bn.mono (by decide), bd_one (by decide), fun m2a K2a u2a s2a => ?_⟩
    have S2a := S1a.trans s2a
    refine ⟨_, rfl, _, rfl, one, dx, _, n, rfl, S2a _ _ g1, rfl, one, n, ps, rfl, (ta.same S2a), n0, bds, bn.mono (by decide), fun m3a K3a u3a s3a => ?_⟩
    have S3a := S2a.trans s3a
    obtain ⟨dza, gza⟩ := (nz.same S3a).rat
    refine ⟨_, rfl, _, rfl, one, dx, _, z, dza, _, rfl, S3a _ _ g1, rfl, gza, one, .ref z, ps, k, rfl, (ta.same S3a), nz.same S3a, k0, bds, bk1.mono (by decide), bk2.mono (by decide), fun m4a K4a u4a s4a => ?_⟩
    have S4a := S3a.trans s4a
    refine ⟨_, rfl, two, dy, _, rfl, S4a _ _ g2, no3, two, ps, 120, 120, rfl, (tb.same S4a), bt, by decide, fun m5a K5a u5a s5a => ?_⟩
    have S5a := S4a.trans s5a
    refine ⟨_, rfl, one, dx, _, 1, rfl, S5a _ _ g1, rfl, one, .int 1, ps, (1, 1), rfl, (ta.same S5a), nm_int (bd_one (by decide)), by decide, bds, bd_one (by decide), bd_one (by decide), fun m6a K6a u6a s6a => ?_⟩
    have S6a := S5a.trans s6a
    refine ⟨(by show 7 ≤ sizeLine; decide), fun la hla => ?_⟩
    have S7a := same_upd (o := .lst [V.ref m0a, V.ref m1a, V.ref m2a, V.ref m3a, V.ref m4a, V.ref m5a, V.ref m6a]) hla
    have SA := S6a.trans S7a
    have E5a := s6a.trans S7a
    have E4a := s5a.trans E5a
    have E3a := s4a.trans E4a
    have E2a := s3a.trans E3a
    have E1a := s2a.trans E2a
    have E0a := s1a.trans E1a
    have TTa : Tabs C D (upd K6a la (.lst [V.ref m0a, V.ref m1a, V.ref m2a, V.ref m3a, V.ref m4a, V.ref m5a, V.ref m6a])) [m0a, m1a, m2a, m3a, m4a, m5a, m6a] (deeds ps n k) := Par.cons (u0a.same E0a) (Par.cons (u1a.same E1a) (Par.cons (u2a.same E2a) (Par.cons (u3a.same E3a) (Par.cons (u4a.same E4a) (Par.cons (u5a.same E5a) (Par.one (u6a.same S7a)))))))
    have LLa : upd K6a la (.lst [V.ref m0a, V.ref m1a, V.ref m2a, V.ref m3a, V.ref m4a, V.ref m5a, V.ref m6a]) la = some (.lst ([m0a, m1a, m2a, m3a, m4a, m5a, m6a].map V.ref)) := upd_same
    have NNa : K6a la = none := hla
    have lw := ta.lws
    have dbw := deeds_bw lw ta.desc bt bn lk bk1 bk2
    have st7 := st6.sm SA
    have TTa' := TTa
    generalize upd K6a la (.lst [V.ref m0a, V.ref m1a, V.ref m2a, V.ref m3a, V.ref m4a, V.ref m5a, V.ref m6a]) = H7 at SA TTa LLa TTa' st7 ⊢
    refine ⟨_, rfl, la, rfl, ⟨_, SqL.of LLa⟩, fun D2 hD2 => ?_⟩
    refine lc_all TTa dbw LLa hD2 (by show 7 ≤ 8; decide) (fun t H' R h => ⟨rfl, _, rfl, h⟩) fun H8 s8 hbf2 => ?_
    have st8 := st7.sm s8
    have nla : NotTwo ([m0a, m1a, m2a, m3a, m4a, m5a, m6a].map V.ref) := nt_ref _
    have hz0 : True := trivial
    refine ⟨_, rfl, la, rfl, ⟨_, SqL.of (s8 _ _ LLa)⟩, ?_⟩
    refine for_it (walk_list (xs := [m0a, m1a, m2a, m3a, m4a, m5a, m6a].map V.ref)) (fun i σ H' => ∃ v8 : Option V, σ = [some (.ref p), some (.ref l), some (.ref la), some (.ref D1), some (.ref one), some (.ref two), some (.int n), some (.ref z), v8, some (.ref D2), none] ∧ Stp p H8 H') ⟨_, rfl, Stp.refl st8.pot⟩ (fun i σ H' _ h => by obtain ⟨_, _, st⟩ := h; exact SqL.of (lst_st (s8 _ _ LLa) nla st8.pot st)) ?_ ?_
    · rintro i x σ Ha Hb hi ⟨v8, rfl, st⟩ ⟨rfl, hx⟩
      rw [List.getElem?_map] at hx
      cases c : ([m0a, m1a, m2a, m3a, m4a, m5a, m6a] : List Addr)[i]? with
      | none => rw [c] at hx; exact nomatch hx
      | some t =>
        rw [c] at hx
        cases hx
        obtain ⟨qs, ep, tq⟩ := (tabs_st (Par.imp (S := fun t ps => TabAt C D H8 t ps) TTa' fun _ _ k => k.same s8) st8.pot st).getL c
        obtain ⟨jj, ii, btq, _, _, jb, ib, _⟩ := (dbw qs (List.mem_of_getElem? ep)).ex
        have l5 := tq.len
        obtain ⟨dt, Lt, rt, h1, h2, h3⟩ := id tq.at_
        have no1 : (pf Lt).lookup ("points" : Str) = none := pf_no Lt (by decide +kernel)
        refine ⟨_, rfl, _, rfl, t, dt, _, rfl, h1, no1, t, qs, rfl, tq, fun g rg Hc hg1 hrg sc hgn => ?_⟩
        have lg : rg.length = 5 := by rw [hrg.1, l5]
        refine ⟨p, g, _, rfl, st.pot.same sc, La.pot_ne (st.pot) hgn, hg1, by rw [List.length_map]; omega, by rw [List.length_map]; omega, fun Hd kd pd => ?_⟩
        have sd := spl_st sc hgn kd pd
        have tqd := tab_st tq st.pot sd
        obtain ⟨dt2, Lt2, rt2, g1', g2', g3'⟩ := id tqd.at_
        have no4 : (pf Lt2).lookup ("steps" : Str) = none := pf_no Lt2 (by decide +kernel)
        refine ⟨_, rfl, _, rfl, t, dt2, _, rfl, g1', no4, t, qs, rfl, tqd, btq.bds jb (by omega), fun m rm He hm hrm se hmn => ?_⟩
        have lm : rm.length = 5 := by rw [hrm.1, steps_len, l5]
        refine ⟨p, m, _, rfl, pd.same se, La.pot_ne pd hmn, hm, by rw [List.length_map]; omega, by rw [List.length_map]; omega, fun Hf kf pf' => ?_⟩
        exact ⟨_, rfl, st.trans (sd.trans (spl_st se hmn kf pf'))⟩
    rintro σ H9 ⟨v8, rfl, st⟩
    have s69 : Stp p H6 H9 := (Stp.of (SA.trans s8) st6.pot).trans st
    have st9 : Stp p H H9 := st6.trans s69
    have ta9 := tab_st ta st6.pot s69
    have tb9 := tab_st tb st6.pot s69
    have nz9 := nm_st nz st6.pot s69
    obtain ⟨dx, L, rs, g1, _⟩ := id ta9.at_
    obtain ⟨dy, L2, rs2, g2, _⟩ := id tb9.at_
    have no3 : (pf L2).lookup ("reduced" : Str) = none := pf_no L2 (by decide +kernel)
    refine ⟨_, rfl, _, rfl, one, dx, _, two, dy, _, rfl, g1, rfl, g2, one, two, ps, ps, 120, 120, rfl, ta9, tb9, bt, bt, by decide, fun m0b K0b u0b s0b => ?_⟩
    refine ⟨_, rfl, _, rfl, one, dx, _, one, dx, _, rfl, s0b _ _ g1, rfl, s0b _ _ g1, one, one, ps, ps, 120, 120, rfl, (ta9.same s0b), (ta9.same s0b), bt, bt, by decide, fun m1b K1b u1b s1b => ?_⟩
    have S1b := s0b.trans s1b
    refine ⟨_, rfl, _, rfl, one, dx, _, n, rfl, S1b _ _ g1, rfl, one, .int n, ps, (n, 1), rfl, (ta9.same S1b), nm_int (bn.mono (by decide)), n0, bds, bn.mono (by decide), bd_one (by decide), fun m2b K2b u2b s2b => ?_⟩
    have S2b := S1b.trans s2b
    refine ⟨_, rfl, _, rfl, one, dx, _, n, rfl, S2b _ _ g1, rfl, one, n, ps, rfl, (ta9.same S2b), n0, bds, bn.mono (by decide), fun m3b K3b u3b s3b => ?_⟩
    have S3b := S2b.trans s3b
    obtain ⟨dzb, gzb⟩ := (nz9.same S3b).rat
    refine ⟨_, rfl, _, rfl, one, dx, _, z, dzb, _, rfl, S3b _ _ g1, rfl, gzb, one, .ref z, ps, k, rfl, (ta9.same S3b), nz9.same S3b, k0, bds, bk1.mono (by decide), bk2.mono (by decide), fun m4b K4b u4b s4b => ?_⟩
    have S4b := S3b.trans s4b
    refine ⟨_, rfl, two, dy, _, rfl, S4b _ _ g2, no3, two, ps, 120, 120, rfl, (tb9.same S4b), bt, by decide, fun m5b K5b u5b s5b => ?_⟩
    have S5b := S4b.trans s5b
    refine ⟨_, rfl, one, dx, _, 1, rfl, S5b _ _ g1, rfl, one, .int 1, ps, (1, 1), rfl, (ta9.same S5b), nm_int (bd_one (by decide)), by decide, bds, bd_one (by decide), bd_one (by decide), fun m6b K6b u6b s6b => ?_⟩
    have S6b := S5b.trans s6b
    refine ⟨(by show 7 ≤ sizeLine; decide), fun lb hlb => ?_⟩
    have S7b := same_upd (o := .lst [V.ref m0b, V.ref m1b, V.ref m2b, V.ref m3b, V.ref m4b, V.ref m5b, V.ref m6b]) hlb
    have SB := S6b.trans S7b
    have E5b := s6b.trans S7b
    have E4b := s5b.trans E5b
    have E3b := s4b.trans E4b
    have E2b := s3b.trans E3b
    have E1b := s2b.trans E2b
    have E0b := s1b.trans E1b
    have TTb : Tabs C D (upd K6b lb (.lst [V.ref m0b, V.ref m1b, V.ref m2b, V.ref m3b, V.ref m4b, V.ref m5b, V.ref m6b])) [m0b, m1b, m2b, m3b, m4b, m5b, m6b] (deeds ps n k) := Par.cons (u0b.same E0b) (Par.cons (u1b.same E1b) (Par.cons (u2b.same E2b) (Par.cons (u3b.same E3b) (Par.cons (u4b.same E4b) (Par.cons (u5b.same E5b) (Par.one (u6b.same S7b)))))))
    have LLb : upd K6b lb (.lst [V.ref m0b, V.ref m1b, V.ref m2b, V.ref m3b, V.ref m4b, V.ref m5b, V.ref m6b]) lb = some (.lst ([m0b, m1b, m2b, m3b, m4b, m5b, m6b].map V.ref)) := upd_same
    have NNb : K6b lb = none := hlb
    have st10 := st9.sm SB
    have TTb' := TTb
    generalize upd K6b lb (.lst [V.ref m0b, V.ref m1b, V.ref m2b, V.ref m3b, V.ref m4b, V.ref m5b, V.ref m6b]) = H10 at SB TTb LLb TTb' st10 ⊢
    have s8x : Stp p H8 H10 := st.sm SB
    have TTc : Tabs C D H10 [m0a, m1a, m2a, m3a, m4a, m5a, m6a] (deeds ps n k) := tabs_st (Par.imp (S := fun t ps => TabAt C D H8 t ps) TTa' fun _ _ k => k.same s8) st8.pot s8x
    have LLc := lst_st (s8 _ _ LLa) nla st8.pot s8x
    have bfx := hbf2.st st8.pot s8x
    refine ⟨_, rfl, la, rfl, ⟨_, SqL.of LLc⟩, fun D3 hD3 => ?_⟩
    refine lc_all TTc dbw LLc hD3 (by show 7 ≤ 8; decide) (fun t H' R h => ⟨rfl, _, rfl, h⟩) fun H11 s11 hbf3 => ?_
    have bf11 := bfx.st st10.pot (Stp.of s11 st10.pot)
    refine ⟨_, rfl, _, _, hbf3.dp, bf11.dp, bag_shaped _, bag_shaped _, _, rfl, ?_⟩
    rw [eqv_self (bag_shaped _)]
    refine ⟨_, rfl, lb, rfl, ⟨_, SqL.of (s11 _ _ LLb)⟩, fun D4 hD4 => ?_⟩
    refine lc_all (Par.imp (S := fun t ps => TabAt C D H11 t ps) TTb' fun _ _ k => k.same s11) dbw (s11 _ _ LLb) hD4 (by show 7 ≤ 8; decide) (fun t H' R h => ⟨rfl, _, rfl, h⟩) fun H12 s12 hbf4 => ?_
    have st11 := st10.sm s11
    have bf12 := bf11.st st11.pot (Stp.of s12 st11.pot)
    refine ⟨_, rfl, _, _, hbf4.dp, bf12.dp, bag_shaped _, bag_shaped _, _, rfl, ?_⟩
    rw [eqv_self (bag_shaped _)]
    refine iteF ?_
    have sc12 := s11.trans s12
    have TA12 := Par.imp (S := fun t ps => TabAt C D H12 t ps) TTc fun _ _ k => k.same sc12
    have TB12 := Par.imp (S := fun t ps => TabAt C D H12 t ps) TTb' fun _ _ k => k.same sc12
    refine ⟨_, rfl, _, rfl, true, ⟨la, lb, _, _, fun _ => true, rfl, rfl, sc12 _ _ LLc, sc12 _ _ LLb, rfl, fun i u v e1 e2 => ?_, rfl⟩, fun H13 s13 => ⟨_, rfl, ?_⟩⟩
    · rw [List.getElem?_map] at e1 e2
      cases c1 : ([m0a, m1a, m2a, m3a, m4a, m5a, m6a] : List Addr)[i]? with
      | none => rw [c1] at e1; exact nomatch e1
      | some t => cases c2 : ([m0b, m1b, m2b, m3b, m4b, m5b, m6b] : List Addr)[i]? with
        | none => rw [c2] at e2; exact nomatch e2
        | some t2 =>
          rw [c1] at e1
          rw [c2] at e2
          cases e1
          cases e2
          obtain ⟨q1, f1, x1⟩ := TA12.getL c1
          obtain ⟨q2, f2', x2⟩ := TB12.getL c2
          rw [f1] at f2'
          cases f2'
          exact ⟨t, t2, q1, q1, rfl, rfl, x1, x2, (dec_self q1).symm⟩
    have st13 := (st11.sm s12).sm s13
    have s613 : Stp p H6 H13 := s69.sm (SB.trans (sc12.trans s13))
    have nz13 := nm_st nz st6.pot s613
    obtain ⟨dz, ez⟩ := id nz13.rat
    have bk19 : Bd 1900 k.1 := bk1.mono (by decide)
    have bk29 : Bd 1900 k.2 := bk2.mono (by decide)
    have sg : k.1.sign = 1 := Int.sign_eq_one_of_pos k0
    have b1 : Bd 1900 (1 : Int) := bd_one (by decide)
    have bn19 : Bd 1900 n := bn.mono (by decide)
    have size3 : (listText [it n, shw k.1 k.2, it 1]).length ≤ sizeLine := by
      rw [listText_eq_join, strLen_append, strLen_append, lb_len, rb_len]
      have e : (Str.join ", " [it n, shw k.1 k.2, it 1]) = it n ++ ", " ++ (shw k.1 k.2 ++ ", " ++ it 1) := rfl
      rw [e, strLen_append, strLen_append, strLen_append, strLen_append, len2]
      have a1 := it_len bn19
      have a2 := it_len b1
      have a3 := shw_len bk19 bk29
      exact line _ (Nat.le_trans (show 1 + (_ + 2 + (_ + 2 + _)) + 1 ≤ 10000 by omega) (by decide))
    have items : ∀ {H' : Hp} {y : Addr} {m : Int}, RatAt C H' y k.1 k.2 → m = 1 → ∀ (i : Nat) u tx, ([V.int n, V.ref y, V.int m] : List V)[i]? = some u → ([it n, shw k.1 k.2, it 1] : List Str)[i]? = some tx → shD C D u tx H' := fun {H' y m} hy em i u tx e1 e2 => by
      subst em
      rcases i with _ | _ | _ | i
      · cases e1
        cases e2
        exact .inl (.inl ⟨_, rfl, lt1920 bn19, rfl⟩)
      · cases e1
        cases e2
        exact .inr (.inl ⟨y, k.1, k.2, rfl, hy, bk19, bk29, rfl⟩)
      · cases e1
        cases e2
        exact .inl (.inl ⟨_, rfl, lt1920 b1, rfl⟩)
      · exact nomatch e1
    refine ⟨_, rfl, _, rfl, _, rfl, z, dz, _, rfl, ez, z, k.1, k.2, rfl, ⟨dz, ez⟩, (by show 3 ≤ sizeLine; decide), fun u hu => ?_⟩
    have su := same_upd (o := .lst [V.int n, V.ref z, V.int k.1.sign]) hu
    refine ⟨u, _, [it n, shw k.1 k.2, it 1], rfl, SqL.of upd_same, rfl, items ⟨dz, su _ _ ez⟩ sg, size3, fun H14 s14 => ?_⟩
    have s13' := su.trans s14
    have ez4 := s13' _ _ ez
    refine ⟨_, rfl, _, rfl, z, dz, _, rfl, ez4, z, k.1, k.2, rfl, ⟨dz, ez4⟩, _, rfl, z, dz, _, rfl, ez4, z, k.1, k.2, rfl, ⟨dz, ez4⟩, ?_⟩
    refine rat_new (by have := lk.pos; omega) (bk2.mono (by decide)) fun y H15 hy s15 _ => ?_
    rw [low_self lk] at hy
    refine ⟨(by show 3 ≤ sizeLine; decide), fun v hv => ?_⟩
    have sv := same_upd (o := .lst [V.int n, V.ref y, V.int 1]) hv
    refine ⟨v, _, [it n, shw k.1 k.2, it 1], rfl, SqL.of upd_same, rfl, items (hy.same sv) rfl, size3, fun H16 s16 => ⟨rfl, _, rfl, ?_⟩⟩
    rw [dec_self]
    refine iteF ?_
    have s1316 := (s13'.trans s15).trans (sv.trans s16)
    have st16 := st13.sm s1316
    have sc16 := sc12.trans (s13.trans s1316)
    have TA16 := Par.imp (S := fun t ps => TabAt C D H16 t ps) TTc fun _ _ k => k.same sc16
    have one16 := tab_st ta st6.pot (s613.sm s1316)
    have L16 := sc16 _ _ LLc
    have at6 : TabAt C D H16 m6a (mulF ps (1, 1)) := TA16.2 6 _ _ rfl rfl
    have at2 : TabAt C D H16 m2a (mulF ps (n, 1)) := TA16.2 2 _ _ rfl rfl
    have at3 : TabAt C D H16 m3a (mulF ps (n, 1)) := TA16.2 3 _ _ rfl rfl
    obtain ⟨d6, L6, r6, y6, _⟩ := id at6.at_
    refine ⟨_, rfl, la, _, _, _, rfl, rfl, SqL.of L16, rfl, _, rfl, m6a, d6, _, .ref D, rfl, y6, ty_tab T U Z one16, E_.nf, m6a, _, .ref one, rfl, at6, .inl ⟨one, ps, rfl, one16, fun H17 s17 => ?_⟩⟩
    rw [mul_one lw, dec_self]
    refine ⟨true, rfl, iteT ?_⟩
    obtain ⟨d2, L2', r2', y2, _⟩ := id (at2.same s17).at_
    refine ⟨_, rfl, la, _, _, _, rfl, rfl, SqL.of (s17 _ _ L16), rfl, _, rfl, la, _, _, _, rfl, rfl, SqL.of (s17 _ _ L16), rfl, m2a, d2, _, .ref D, rfl, y2, ty_tab T U Z (at3.same s17), E_.nf, m2a, _, .ref m3a, rfl, at2.same s17, .inl ⟨m3a, _, rfl, at3.same s17, fun H18 s18 => ?_⟩⟩
    rw [dec_self]
    refine ⟨true, rfl, iteT ?_⟩
    have st18 := (st16.sm s17).sm s18
    have l18 := lst_st hl (nt_ref ts) hp st18
    refine ⟨_, rfl, l, rfl, ⟨_, SqL.of l18⟩, fun D5 hD5 => ?_⟩
    refine lc_all (tabs_st tt hp st18) bws l18 hD5 (by omega) (fun t H' R h => ⟨rfl, _, rfl, h⟩) fun H19 s19 hbf5 => ?_
    have sbf : Stp p H1 H19 := (((((s2.trans s3).trans s4).trans s5).sm s6).trans (((s613.sm s1316).sm s17).sm s18)).sm s19
    refine ⟨_, rfl, _, _, hbf5.dp, (hbf.st st1.pot sbf).dp, bag_shaped _, bag_shaped _, ?_⟩
    rw [eqv_self (bag_shaped _)]
    exact q _ (st18.sm s19)
end
end Lb
/-! The law's own defs: tables by the same numbers. -/
namespace Lb
open PySem PySem.Spec PyProof.Rows L2 Ow Pt Rm Ra La Tb
theorem allT : ∀ n : Nat, (List.replicate n true).all id = true
  | 0 => rfl
  | n + 1 => by rw [List.replicate_succ, List.all_cons, allT n]; rfl
theorem tab_upd {C D x g : Addr} {H : Hp} {ps : List Fr2} {ys : List V} {o : HO} (h : TabAt C D H x ps) (hg : H g = some (.lst ys)) (n : ∀ dx L, H x = some (.ins D dx (pf L)) → L ≠ g) : TabAt C D (upd H g o) x ps := by
  obtain ⟨dx, L, rs, h1, h2, h3⟩ := h.at_
  refine ⟨⟨dx, L, rs, ?_, ?_, Par.imp h3 fun _ _ k => nm_upd k hg⟩, h.len, h.desc⟩
  · rw [upd_ne (fun z => by rw [z, hg] at h1; cases h1)]
    exact h1
  · rw [upd_ne (n dx L h1)]
    exact h2
/-- its list is not this one -/
def Nl (D : Addr) (g : Addr) (H : Hp) (x : Addr) : Prop := ∃ dx L, H x = some (.ins D dx (pf L)) ∧ L ≠ g
theorem pf_inj {a b : Addr} (h : pf a = pf b) : a = b := by
  have e : (pf a).lookup ("_points" : Str) = (pf b).lookup ("_points" : Str) := by rw [h]
  rw [pf_pts, pf_pts] at e
  injection e with e
  injection e
theorem Nl.ne {D g x : Addr} {H : Hp} (h : Nl D g H x) : ∀ dx L, H x = some (.ins D dx (pf L)) → L ≠ g := fun dx L e => by
  obtain ⟨dy, L2, e2, n⟩ := h
  rw [e2] at e
  have e := Option.some.inj e
  injection e with e1 e3 e4
  rw [← pf_inj e4]
  exact n
theorem Nl.st {D g x p : Addr} {H H' : Hp} (h : Nl D g H x) (hp : Pot H p) (s : Stp p H H') : Nl D g H' x := by
  obtain ⟨dx, L, e, n⟩ := h
  exact ⟨dx, L, at_st e (fun i j z => nomatch z) hp s, n⟩
theorem Nl.upd {D g x b : Addr} {H : Hp} {ys : List V} {o : HO} (h : Nl D g H x) (hb : H b = some (.lst ys)) : Nl D g (L2.upd H b o) x := by
  obtain ⟨dx, L, e, n⟩ := h
  exact ⟨dx, L, by rw [upd_ne (fun z => by rw [z, hb] at e; cases e)]; exact e, n⟩
theorem nw_nl {D g x : Addr} {H H' : Hp} {o : HO} (n : Nw D H H' x) (h : H g = some o) : Nl D g H' x := by
  obtain ⟨dx, L, e, hn⟩ := n
  exact ⟨dx, L, e, fun z => by rw [z, h] at hn; cases hn⟩
theorem nl_five {C D g x : Addr} {H : Hp} {ps : List Fr2} {ys : List V} (h : TabAt C D H x ps) (hg : H g = some (.lst ys)) (n : ys.length ≠ 5) : Nl D g H x := by
  obtain ⟨dx, L, rs, h1, h2, h3⟩ := h.at_
  refine ⟨dx, L, h1, fun z => ?_⟩
  rw [z, hg] at h2
  injection h2 with h2
  injection h2 with h2
  rw [h2, List.length_map, h3.1, h.len] at n
  exact n rfl
/-- [_law_number(pot, a) for a in ..], as the rule asks it -/
theorem lc_nums {K : PySem.W.Frag} {C p l : Addr} {te : TE} {vs : List Nat} {σ : L2.St} {g : TG} {H1 : Hp} {D1 : Addr} {Qd : Hp → Prop} {qs : List Addr} {ps : List Fr2} (hq : H1 l = some (.lst (qs.map V.ref))) (hk : Par (fun q a => PairAt H1 q a) qs ps) (hp : Pot H1 p) (lw : Lws ps) (bd : Bds 400 ps) (h5 : ps.length ≤ 5) (hD : H1 D1 = none)
    (hs : ∀ q H' (R : VK), spNum C [.ref p, .ref q] H' R E0 → g (.ref q) (wipe σ vs) H' fun σ2 H2 => wipe σ2 vs = wipe σ vs ∧ te σ2 H2 R)
    (hd : ∀ H acc, Stp p H1 H → H D1 = some (.lst acc) → Nms C H acc ps → Qd H) :
    ∃ W : Nat → Nat → Hp → Prop, (∃ m, W 0 m (L2.upd H1 D1 (.lst []))) ∧ ∀ i m H, W i m H →
      ((Itl K l).stop i H ∧ Qd H) ∨ ((Itl K l).go i H ∧ ∃ Nx : Hp → Prop, (∀ H', Nx H' → ∃ m', m' < m ∧ W (i + 1) m' H') ∧ ∀ x H', (Itl K l).yld i H x H' → g x (wipe σ vs) H' fun σ2 H2 => wipe σ2 vs = wipe σ vs ∧ tYes σ2 H2 fun b H3 =>
        if b = true then te σ2 H3 fun y H4 => ∃ acc, H4 D1 = some (.lst acc) ∧ acc.length < sizeLine ∧ Nx (L2.upd H4 D1 (.lst (acc ++ [y]))) else Nx H3) := by
  refine lc_el (walk_list (xs := qs.map V.ref)) (rel_sp hp hD) (by rw [List.length_map, hk.1]; omega) (fun j v H' => ∃ b, ps[j]? = some b ∧ Nm C H' v b.1 b.2) ?_ ?_ (fun H' s => SqL.of (lst_st hq (nt_ref _) hp s.2)) ?_ ?_
  · rintro j v H5 H6 s ⟨b, eb, k⟩
    exact ⟨b, eb, nm_st k s.1 s.2⟩
  · rintro j v H5 xs ys hl5 ⟨b, eb, k⟩
    exact ⟨b, eb, nm_upd k hl5⟩
  · rintro i v H5 H6 hi s5 _ ⟨rfl, hx⟩ R k
    rw [List.getElem?_map] at hx
    cases c : qs[i]? with
    | none => rw [c] at hx; exact nomatch hx
    | some a =>
      rw [c] at hx
      cases hx
      obtain ⟨b, hb, pa⟩ := hk.getL c
      have bb := bd.get hb
      refine hs a _ R ⟨p, a, b, rfl, s5.2.pot, pa.st hp s5.2, lw.get hb, bb.1, bb.2, fun v H7 nm s7 => ?_⟩
      exact k _ H7 ⟨s5.2.pot, s7⟩ ⟨b, hb, nm⟩
  · rintro H3 acc s3 hD3 hlen he
    exact hd H3 acc s3.2 hD3 (nms_of hlen (by rw [List.length_map, hk.1]) he)
/-- a number as it shows itself -/
def nTxt (v : V) (p : Fr2) : Str := match v with
  | .int n => it n
  | _ => shwP p
theorem sh_num {C D : Addr} {H : Hp} {v : V} {p : Fr2} (h : Nm C H v p.1 p.2) (b : Bd 1900 p.1 ∧ Bd 1900 p.2) : shD C D v (nTxt v p) H ∧ (nTxt v p).length ≤ 4000 := by
  rcases h.at_ with ⟨r, rfl, hr⟩ | ⟨rfl, _⟩
  · exact ⟨.inr (.inl ⟨r, p.1, p.2, rfl, hr, b.1, b.2, rfl⟩), shw_len b.1 b.2⟩
  · exact ⟨.inl (.inl ⟨_, rfl, lt1920 b.1, rfl⟩), Nat.le_trans (it_len b.1) (by decide)⟩
theorem lst_len5 {ts : List Str} (h5 : ts.length ≤ 5) (l : ∀ t ∈ ts, t.length ≤ 4000) : (listText ts).length ≤ 20012 := by
  rw [listText_eq_join, strLen_append, strLen_append, lb_len, rb_len]
  have a := join_len ", " 4000 _ l
  rw [len2] at a
  have : ts.length * (4000 + 2) ≤ 5 * (4000 + 2) := Nat.mul_le_mul_right _ h5
  omega
/-- the bag on its way: the row of numbers, the tables so far -/
structure Bg (C D D1 g : Addr) (acc : List V) (ps : List Fr2) (X : Hp) (xs : List Addr) : Prop where
  ht : ∀ x ∈ xs, TabAt C D X x ps ∧ Nl D D1 X x
  hd : X D1 = some (.lst acc)
  nm : Nms C X acc ps
  hg : X g = some (.lst (xs.map V.ref))
theorem nt_five {xs : List V} (h : xs.length = 5) : NotTwo xs := fun i j e => by
  rw [e] at h
  exact nomatch h
section
variable {C D D1 g p : Addr} {acc : List V} {ps : List Fr2} {X X' : Hp} {xs : List Addr}
theorem Bg.st (h : Bg C D D1 g acc ps X xs) (h5 : acc.length = 5) (hp : Pot X p) (s : Stp p X X') : Bg C D D1 g acc ps X' xs :=
  ⟨fun x hx => ⟨tab_st (h.ht x hx).1 hp s, (h.ht x hx).2.st hp s⟩, lst_st h.hd (nt_five h5) hp s, Par.imp h.nm fun _ _ k => nm_st k hp s, lst_st h.hg (nt_ref xs) hp s⟩
theorem Bg.push (h : Bg C D D1 g acc ps X xs) (h5 : acc.length = 5) (h3 : xs.length ≤ 3) {x : Addr} (t : TabAt C D X x ps) (n : Nl D D1 X x) : Bg C D D1 g acc ps (upd X g (.lst (xs.map V.ref ++ [.ref x]))) (xs ++ [x]) := by
  have go : ∀ y, TabAt C D X y ps → TabAt C D (upd X g (.lst (xs.map V.ref ++ [.ref x]))) y ps := fun y ty => tab_upd ty h.hg (nl_five ty h.hg (by rw [List.length_map]; omega)).ne
  have ne : D1 ≠ g := fun z => by
    have e := h.hd
    rw [z, h.hg] at e
    injection e with e
    injection e with e
    rw [← e, List.length_map] at h5
    omega
  refine ⟨fun y hy => ?_, by rw [upd_ne ne]; exact h.hd, Par.imp h.nm fun _ _ k => nm_upd k h.hg, by rw [upd_same, List.map_append]; rfl⟩
  rcases List.mem_append.mp hy with c | c
  · exact ⟨go y (h.ht y c).1, (h.ht y c).2.upd h.hg⟩
  · rw [List.mem_singleton.mp c]
    exact ⟨go x t, n.upd h.hg⟩
end
section
variable {P : Program} {w : World} {K : PySem.W.Frag} {mg : Str → Option Value} {base : Heap}
def spSh (C D : Addr) : Sp := fun vs H Q _ => ∃ p : Addr, vs = [.ref p] ∧ Pot H p ∧ ∀ (l : Addr) (ts : List Addr) (ps : List Fr2) H', H' l = some (.lst (ts.map V.ref)) → 1 ≤ ts.length → ts.length ≤ 4 → Tabs C D H' ts (List.replicate ts.length ps) → BT 120 120 ps → Stp p H H' → Q (.ref l) H'
abbrev n__law_shared : List Str := ["_law_pot_here", "_law_steps_here", "_law_row", "_law_shown_here", "_law_bag", "_law_a", "_law_made"]
theorem sc__law_shared : FnScope n__law_shared ["_law_pot_here"] (defScope d__law_shared) := ⟨rfl, rfl, rfl, by decide +kernel, rfl, by decide +kernel, by decide +kernel⟩
theorem ok_shared {f C D : Addr} {fd : FuncData} (F : FnP K "_law_shared" "_law_shared" d__law_shared [] f fd) (B : Blt mg) (T : RT K mg C) (U : TC K mg D) (Z : TK K D) (E_ : TEq P w K mg base C D) (sR : ShX P w K mg base C "__repr__" shw) (sT : ShT P w K mg base C D) (mP : Mtd P w K mg base 1 D "points" ["self"] (spPts C D))
    (dD : DDraw P w K mg base) (dSt : Dfn P w K mg base 4 "_law_steps" ["_law_pot_here"] (Lb.spSteps K)) (dPt : Dfn P w K mg base 4 "_law_points" ["_law_steps_here"] spPoints) (dN : Dfn P w K mg base 4 "_law_number" ["_law_pot_here", "_law_a"] (spNum C))
    (dBP : Dfn P w K mg base 11 "_law_by_points" ["_law_row"] (spBP C D)) (dBS : Dfn P w K mg base 12 "_law_by_steps" ["_law_row"] (spBS C D)) :
    FnG P w K mg base CX0 13 f fd ["_law_pot_here"] (spSh C D) := by
  obtain ⟨fe, fed, oE, FE, bE⟩ := E_.ex
  refine fnG_ok (k := 12) F sc__law_shared (fun vs H Q E h => ?_) (fun cdv A outer s H vs Q E hr hg h => ?_)
  · obtain ⟨p, rfl, _⟩ := h
    rfl
  · obtain ⟨p, rfl, hp, q⟩ := h
    have hr1 := hr.mono (by decide : 1 ≤ 12)
    have hr3 := hr.mono (by decide : 3 ≤ 12)
    have hr4 := hr.mono (by decide : 4 ≤ 12)
    have hr6 := hr.mono (by decide : 6 ≤ 12)
    have hr11 := hr.mono (by decide : 11 ≤ 12)
    refine ⟨_, PSs.nox (pss_cons (ps_set (i := 1) sc__law_shared.nd rfl (Or.inl rfl) (pe_use dSt hr4 rfl (pa_cons (pv 0) pa_nil)))
      (pss_cons (ps_setLc (i := 2) rfl sc__law_shared.nd rfl rfl (by rfl) (pi_list (pe_use dPt hr4 rfl (pa_cons (pv 1) pa_nil))) (blkOk_by (own := [("_law_a", 5)]) (by show blkC n__law_shared (defScope d__law_shared) _ _ = true; decide +kernel)) (fun _ _ _ _ _ => pg_name (i := 5) sc__law_shared.nd rfl (.inl rfl)) (fun _ _ _ _ _ => pts_nil) (fun _ _ _ _ _ => (pe_use dN hr4 rfl (pa_cons (pv 0) (pa_cons (pv 5) pa_nil)))))
      (pss_cons (ps_set (i := 3) sc__law_shared.nd rfl (Or.inl rfl) (pe_callB (call_repr_lst (monSh C D) (shB_all sR sT) hg hr6) (by rfl) B.repr PyProof.Rows.boot_repr (pa_cons (pv 2) pa_nil)))
      (pss_cons (ps_set (i := 4) sc__law_shared.nd rfl (Or.inr rfl) (pe_lst (pa_cons (pe_use dBP hr11 rfl (pa_cons (pv 2) pa_nil)) (pa_cons (pe_use dBP hr11 rfl (pa_cons (pv 2) pa_nil)) pa_nil))))
      (pss_cons (ps_expr (pe_bm PySem.F.plainAttrs_list PySem.F.slot_list_append PySem.F.type_list_append mt_append (pv 4) (pa_cons (pe_use dBS hr rfl (pa_cons (pe_lc rfl sc__law_shared.nd (pi_list (pv 1)) (blkOk_by (own := [("_law_a", 5)]) (by show blkC n__law_shared (defScope d__law_shared) _ _ = true; decide +kernel)) (fun _ _ _ _ _ => pg_name (i := 5) sc__law_shared.nd rfl (.inl rfl)) (fun _ _ _ _ _ => pts_nil) (fun _ _ _ _ _ => (pe_use dN hr4 rfl (pa_cons (pv 0) (pa_cons (pv 5) pa_nil))))) pa_nil)) pa_nil)))
      (pss_cons (ps_expr (pe_bm PySem.F.plainAttrs_list PySem.F.slot_list_append PySem.F.type_list_append mt_append (pv 4) (pa_cons (pe_use dBP hr11 rfl (pa_cons (pe_mt0 U.cl mP hr1 (pe_ix ix_list (pv 4) pe_int (fun _ _ => rfl))) pa_nil)) pa_nil)))
      (pss_cons (ps_if (PW.pt (pw_or (pt_cmpR op_ne (pe_callB (call_repr_lst (monSh C D) (shB_all sR sT) hg hr6) (by rfl) B.repr PyProof.Rows.boot_repr (pa_cons (pv 2) pa_nil)) (pv 3) (nomark _)) (pw_or1 (pt_not (pt_val (pe_callB (cr_all rfl) (by rfl) B.all PyProof.Rows.boot_all (pa_cons (pe_lc rfl sc__law_shared.nd (pi_list (pv 4)) (blkOk_by (own := [("_law_made", 6)]) (by show blkC n__law_shared (defScope d__law_shared) _ _ = true; decide +kernel)) (fun _ _ _ _ _ => pg_name (i := 6) sc__law_shared.nd rfl (.inl rfl)) (fun _ _ _ _ _ => pts_nil) (fun _ _ _ _ _ => (pe_cmpR (r := rEqI K D (spTEq K C D) E0) (op_eqI oE FE hr3 bE pass0) (pv 6) (pe_ix (r := rIxL K) ix_list (pv 4) pe_int (fun _ _ => rfl)) (nomark _)))) pa_nil))))))) (pss_one (ps_ret (pe_lst pa_nil))) pss_nil)
      (pss_cons (ps_expr (pe_bm0 PySem.F.plainAttrs_list PySem.F.slot_list_clear PySem.F.type_list_clear mt_clear (pv 2)))
      (pss_one (ps_ret (pe_slice sl_list (pv 4) po_none (po_some (pe_op op_add pe_int (pe_use dD hr1 rfl (pa_cons (pv 0) (pa_cons pe_int pa_nil)))))))))))))))), ?_⟩
    refine ⟨_, rfl, p, rfl, hp, fun ls ss H1 pss sps hex s1 hn1 => ?_⟩
    refine ⟨_, rfl, ls, ss, rfl, pss, sps, fun lp H2 pps s2 hn2 => ?_⟩
    have st2 := s1.sm s2
    have lw := pts_lws sps.lw
    have bt : BT 120 120 (ptsR ss) := fun x hx => pts_bd5 sps x hx
    have b400 : Bds 400 (ptsR ss) := bt.bds (by decide) (by decide)
    have l5 : (ptsR ss).length = 5 := by rw [pts_len, sps.len]
    have de := desc_pts sps.lw sps.nn (by rw [sps.len]; decide) (by rw [sps.len]; decide) hex
    have p5 : pad (ptsR ss) = ptsR ss := pad_five l5
    obtain ⟨qs, eq1, hq1⟩ := pps.ex
    refine ⟨lp, rfl, ⟨_, SqL.of eq1⟩, fun D1 hD1 => ?_⟩
    refine lc_nums eq1 hq1 st2.pot lw b400 (by omega) hD1 (fun q H' R h => ⟨rfl, _, rfl, _, rfl, h⟩) fun H3 acc s3 hD3 nms => ?_
    have st3 := st2.trans s3
    have la : acc.length = 5 := by rw [nms.1, l5]
    obtain ⟨tx, htx⟩ : ∃ tx : List Str, tx = List.zipWith nTxt acc (ptsR ss) := ⟨_, rfl⟩
    have ltx : tx.length = acc.length := by rw [htx, List.length_zipWith, la, l5]; rfl
    have shw_ : ∀ {X : Hp}, Nms C X acc (ptsR ss) → ∀ (i : Nat) x z, acc[i]? = some x → tx[i]? = some z → shD C D x z X := fun {X} nm i x z e1 e2 => by
      obtain ⟨b, eb, k⟩ := nm.getL e1
      rw [htx, List.getElem?_zipWith, e1, eb] at e2
      cases e2
      have := bt.bds (k := 1900) (by decide) (by decide) _ (List.mem_of_getElem? eb)
      exact (sh_num k this).1
    have stx : (listText tx).length ≤ sizeLine := by
      refine line _ (Nat.le_trans (lst_len5 (by omega) fun z hz => ?_) (by decide))
      obtain ⟨i, e⟩ := List.mem_iff_getElem?.mp hz
      rw [htx, List.getElem?_zipWith] at e
      cases c1 : acc[i]? with
      | none => rw [c1] at e; exact nomatch e
      | some x =>
        obtain ⟨b, eb, k⟩ := nms.getL c1
        rw [c1, eb] at e
        cases e
        have := bt.bds (k := 1900) (by decide) (by decide) _ (List.mem_of_getElem? eb)
        exact (sh_num (D := D) k this).2
    refine ⟨_, rfl, D1, acc, tx, rfl, SqL.of hD3, ltx, shw_ nms, stx, fun H4 s4 => ?_⟩
    have hD4 := s4 _ _ hD3
    have nm4 := Par.imp (S := fun x p => Nm C H4 x p.1 p.2) nms fun _ _ k => k.same s4
    have st4 := st3.sm s4
    refine ⟨_, rfl, D1, acc, _, rfl, hD4, nm4, de, fun x0 H5 t0 w0 s5 => ?_⟩
    rw [p5] at t0
    have hD5 := s5 _ _ hD4
    refine ⟨_, rfl, D1, acc, _, rfl, hD5, Par.imp nm4 fun _ _ k => k.same s5, de, fun x1 H6 t1 w1 s6 => ?_⟩
    rw [p5] at t1
    have st6 := (st4.sm s5).sm s6
    refine ⟨(by show 2 ≤ sizeLine; decide), fun g hg0 => ?_⟩
    have s7 := same_upd (o := .lst [V.ref x0, V.ref x1]) hg0
    have gp : g ≠ p := La.pot_ne st6.pot hg0
    have g00 : H g = none := st6.none gp hg0
    have D1p : D1 ≠ p := La.pot_ne st2.pot hD1
    have D100 : H D1 = none := st2.none D1p hD1
    have s67 := s6.trans s7
    have bg7 : Bg C D D1 g acc (ptsR ss) (upd H6 g (.lst [V.ref x0, V.ref x1])) [x0, x1] := by
      refine ⟨fun x hx => ?_, s67 _ _ hD5, Par.imp nm4 fun _ _ k => k.same (s5.trans s67), upd_same⟩
      rcases List.mem_cons.mp hx with rfl | hx
      · exact ⟨t0.same s67, (nw_nl w0 hD4).st (st4.sm s5).pot (Stp.of s67 (st4.sm s5).pot)⟩
      · rw [List.mem_singleton.mp hx]
        exact ⟨t1.same s7, (nw_nl w1 hD5).st st6.pot (Stp.of s7 st6.pot)⟩
    have st7 := st6.sm s7
    generalize upd H6 g (.lst [V.ref x0, V.ref x1]) = H7 at bg7 st7 s7 s67 ⊢
    have ps7 : Prs H7 ls ss := (((pss.same s2).st st2.pot s3).same (s4.trans (s5.trans s67)))
    obtain ⟨us, eu1, hu1⟩ := ps7.ex
    refine ⟨_, rfl, .inl ⟨rfl, _, SqL.of bg7.hg⟩, _, rfl, ls, rfl, ⟨_, SqL.of eu1⟩, fun D2 hD2 => ?_⟩
    refine lc_nums eu1 hu1 st7.pot sps.lw (fun x hx => ⟨(sps.bd x hx).1.mono (by decide), (sps.bd x hx).2.mono (by decide)⟩) (by rw [sps.len]; decide) hD2 (fun q H' R h => ⟨rfl, _, rfl, _, rfl, h⟩) fun H8 acc2 s8 hD8 nms2 => ?_
    have bg8 := bg7.st la st7.pot s8
    have st8 := st7.trans s8
    refine ⟨D2, acc2, ss, rfl, hD8, nms2, fun x hx => ⟨(sps.bd x hx).1.mono (by decide), (sps.bd x hx).2.mono (by decide)⟩, by rw [sps.len]; decide, by rw [sps.len]; decide, sps.nn, hex, fun x2 H9 t2 w2 s9 => ?_⟩
    rw [p5] at t2
    have st9 := st8.sm s9
    have bg9 := bg8.st la st8.pot (Stp.of s9 st8.pot)
    refine ⟨g, _, _, rfl, rfl, bg9.hg, (by show 2 < sizeLine; decide), ?_⟩
    have bgA := bg9.push la (by show 2 ≤ 3; decide) t2 (nw_nl w2 bg8.hd)
    have stA : Stp p H (upd H9 g (.lst ([x0, x1].map V.ref ++ [V.ref x2]))) := st9.upd g00 gp
    generalize upd H9 g (.lst ([x0, x1].map V.ref ++ [V.ref x2])) = HA at bgA stA ⊢
    obtain ⟨dx0, L0, r0, y0, _⟩ := id (bgA.ht x0 (List.mem_cons_self)).1.at_
    have no1 : (pf L0).lookup ("points" : Str) = none := pf_no L0 (by decide +kernel)
    refine ⟨_, rfl, .inl ⟨rfl, _, SqL.of bgA.hg⟩, _, rfl, g, _, _, _, rfl, rfl, SqL.of bgA.hg, rfl, x0, dx0, _, rfl, y0, no1, x0, _, rfl, (bgA.ht x0 (List.mem_cons_self)).1, fun gp' rp HB hgp hrp sB hgpn => ?_⟩
    have stB := stA.sm sB
    have bgB := bgA.st la stA.pot (Stp.of sB stA.pot)
    refine ⟨gp', _, _, rfl, hgp, hrp.nms, (bgA.ht x0 (List.mem_cons_self)).1.desc, fun x3 HC t3 w3 sC => ?_⟩
    rw [p5] at t3
    have stC := stB.sm sC
    have bgC := bgB.st la stB.pot (Stp.of sC stB.pot)
    refine ⟨g, _, _, rfl, rfl, bgC.hg, (by show 3 < sizeLine; decide), ?_⟩
    have bgD := bgC.push la (by show 3 ≤ 3; decide) t3 (nw_nl w3 bgB.hd)
    have stD : Stp p H (upd HC g (.lst (([x0, x1] ++ [x2]).map V.ref ++ [V.ref x3]))) := stC.upd g00 gp
    generalize upd HC g (.lst (([x0, x1] ++ [x2]).map V.ref ++ [V.ref x3])) = HD at bgD stD ⊢
    refine ⟨_, rfl, D1, acc, tx, rfl, SqL.of bgD.hd, ltx, shw_ bgD.nm, stx, fun HE sE => ⟨_, rfl, rfl, _, rfl, ?_⟩⟩
    rw [dec_self]
    have stE := stD.sm sE
    have bgE := bgD.st la stD.pot (Stp.of sE stD.pot)
    have t4 : ∀ x ∈ ([x0, x1] ++ [x2] ++ [x3] : List Addr), TabAt C D HE x (ptsR ss) := fun x hx => (bgE.ht x hx).1
    refine ⟨_, rfl, g, rfl, ⟨_, SqL.of bgE.hg⟩, fun D3 hD3 => ?_⟩
    refine lc_vals (walk_list (xs := ([x0, x1] ++ [x2] ++ [x3] : List Addr).map V.ref)) (rel_same hD3) ((List.replicate 4 true).map V.bl) rfl (by show 4 ≤ 100000; decide) (fun H' s => SqL.of (s _ _ bgE.hg)) ?_ ?_
    · rintro i v Ha Hb u hi hu sab _ ⟨rfl, hx⟩ R k
      have eu : u = .bl true := by
        rw [List.getElem?_map] at hu
        cases c : (List.replicate 4 true)[i]? with
        | none => rw [c] at hu; exact nomatch hu
        | some b =>
          rw [c] at hu
          cases hu
          rw [List.eq_of_mem_replicate (List.mem_of_getElem? c)]
      subst eu
      rw [List.getElem?_map] at hx
      cases c : ([x0, x1] ++ [x2] ++ [x3] : List Addr)[i]? with
      | none => rw [c] at hx; exact nomatch hx
      | some x =>
        rw [c] at hx
        cases hx
        have tx' := (t4 x (List.mem_of_getElem? c)).same sab
        have t0' := (t4 x0 List.mem_cons_self).same sab
        obtain ⟨dxx, Lx, rx, yx, _⟩ := id tx'.at_
        refine ⟨rfl, _, rfl, _, rfl, g, _, _, _, rfl, rfl, SqL.of (sab _ _ bgE.hg), rfl, x, dxx, _, .ref D, rfl, yx, ty_tab T U Z t0', E_.nf, x, _, .ref x0, rfl, tx', .inl ⟨x0, _, rfl, t0', fun H' s => ?_⟩⟩
        rw [dec_self]
        exact k _ s
    intro HF sF hDF
    refine ⟨D3, List.replicate 4 true, rfl, SqL.of hDF, _, rfl, ?_⟩
    rw [allT]
    refine iteF ?_
    have stF := stE.sm sF
    have bgF := bgE.st la stE.pot (Stp.of sF stE.pot)
    refine ⟨_, rfl, .inl ⟨rfl, _, SqL.of bgF.hd⟩, D1, acc, rfl, rfl, bgF.hd, ?_⟩
    have stG : Stp p H (upd HF D1 (.lst [])) := stF.upd D100 D1p
    have gD : g ≠ D1 := fun z => by
      have e := bgF.hd
      rw [← z, bgF.hg] at e
      injection e with e
      injection e with e
      rw [← e, List.length_map] at la
      exact absurd la (by show ¬ 4 = 5; decide)
    have t5 : ∀ x ∈ ([x0, x1] ++ [x2] ++ [x3] : List Addr), TabAt C D (upd HF D1 (.lst [])) x (ptsR ss) := fun x hx => tab_upd (bgF.ht x hx).1 bgF.hd (bgF.ht x hx).2.ne
    have hgG : upd HF D1 (.lst []) g = some (.lst (([x0, x1] ++ [x2] ++ [x3] : List Addr).map V.ref)) := by
      rw [upd_ne gD]
      exact bgF.hg
    generalize upd HF D1 (.lst []) = HG at stG t5 hgG ⊢
    refine ⟨_, rfl, _, rfl, p, _, rfl, stG.pot, by decide, bd_small (by decide) (by decide) (by decide), fun r HI r0' r1' sI => ⟨_, _, rfl, rfl, _, rfl, ?_⟩⟩
    obtain ⟨j, rfl⟩ : ∃ j : Nat, r = (j : Int) := ⟨r.toNat, by omega⟩
    have stI := stG.trans sI
    refine ⟨g, _, rfl, SqL.of (lst_st hgG (nt_ref _) stG.pot sI), fun c hc => ?_⟩
    obtain ⟨m, hm⟩ : ∃ m : Nat, m = 2 + j := ⟨_, rfl⟩
    have em : ((2 : Int) + ((j : Nat) : Int)) = ((m : Nat) : Int) := by omega
    rw [em, cut_to, ← List.map_take]
    have hml : (([x0, x1] ++ [x2] ++ [x3] : List Addr).take m).length = m := by
      rw [List.length_take]
      show min m 4 = m
      omega
    have sc := same_upd (o := .lst ((([x0, x1] ++ [x2] ++ [x3] : List Addr).take m).map V.ref)) hc
    refine q c (([x0, x1] ++ [x2] ++ [x3] : List Addr).take m) (ptsR ss) _ upd_same (by omega) (by omega) ⟨by rw [List.length_replicate], fun i x ps' e1 e2 => ?_⟩ bt (stI.sm sc)
    cases List.eq_of_mem_replicate (List.mem_of_getElem? e2)
    exact (tab_st (t5 x (List.mem_of_mem_take (List.mem_of_getElem? e1))) stG.pot sI).same sc
end
end Lb
/-! repr of a list with lists in it whose items show themselves by defs of their own. -/
namespace Ow
open PySem PySem.Spec PyProof.Rows L2
/-- ShB, where something is known of what stands around -/
def ShP (X : Cx) (n : Nat) (D : ShD) (GP : Around → Prop) : Prop :=
  ∀ (A : Around) (_ : GP A) (pins : List (Addr × Obj)) (s : Shared) (σ : L2.St) (H : Hp) (x : V) (u : Value) (t : Str) (b : Nat), Sub X n A → Inv X pins σ H s → RelV x u → D x t H → b + t.length ≤ sizeLine →
    wpAny (model X.prog X.w) A (pyReprUnder b u) (fun r s' => r = t ∧ LoopI X pins σ H s') X.xe s
theorem shP_of {X : Cx} {n : Nat} {D : ShD} {GP : Around → Prop} (h : ShB X n D) : ShP X n D GP := fun A _ => h A
theorem shP_or {X : Cx} {n : Nat} {D1 D2 : ShD} {GP : Around → Prop} (h1 : ShP X n D1 GP) (h2 : ShP X n D2 GP) : ShP X n (fun x t H => D1 x t H ∨ D2 x t H) GP := fun A ga pins s σ H x u t b sb I r d hb =>
  d.elim (fun d => h1 A ga pins s σ H x u t b sb I r d hb) fun d => h2 A ga pins s σ H x u t b sb I r d hb
/-- no list but the one at a is being shown -/
def Gd (a : Addr) (A : Around) : Prop := ∃ g, A.guards = some g ∧ ∀ c, a ≠ c → Clear g c
theorem gd_under {A : Around} {a : Addr} (hg : A.guards = some []) (args : List Value) (kw : List (Str × Value)) : Gd a (A.under (.builtin "list.__repr__.loop" ⟨.ref a :: args, kw⟩)) :=
  ⟨_, guards_under_guard (isGuard_list_loop _) hg, fun c h => (Clear.nil c).cons h⟩
section
variable {X : Cx} {n : Nat} {D : ShD}
theorem sh_loopG {GP : Around → Prop} (hD : MonS D) (hs : ShP X n D GP) {A : Around} {base : Nat} (sb : Sub X (n + 1) A) {a P : Addr} (gp : ∀ args kw, GP (A.under (.builtin "list.__repr__.loop" ⟨.ref a :: args, kw⟩))) {pins : List (Addr × Obj)} {σ : L2.St} {H0 : Hp} {xs : List V} {ts : List Str} {Q : VK}
    (hx : SqL X.K H0 a xs) (hlen : ts.length = xs.length) (hT : ∀ (i : Nat) x t, xs[i]? = some x → ts[i]? = some t → D x t H0) (pl : Place X pins P) (hz : base + (listText ts).length ≤ sizeLine)
    (q : ∀ H', Ext H0 H' → Q (.str (listText ts)) H') :
    ∀ (k i : Nat) (s : Shared) (H : Hp) (acc : Array Value) (c : Nat) (dn : List (Str × Tok)), xs.length - i = k → i ≤ xs.length → Ext H0 H → Inv X ((P, pObj acc c) :: pins) σ H s → acc.toList = strValues dn → dn.map (·.1) = ts.take i →
      codeAny (model X.prog X.w) A (.builtin "list.__repr__.loop" ⟨[.ref a, rawInt i, .ref P, rawInt ((base + piled (ts.take i) : Nat) : Int)], []⟩) (callEnd (EP X pins σ Q) X.xe) s := by
  have hp3 := piled_le_listText ts
  intro k
  induction k with
  | zero =>
    intro i s H acc c dn hk hi e I ha hd
    obtain ⟨its, r, ⟨oa, na, ga, _, _, da⟩, _⟩ := I.list (SqL.ext hx e)
    have gP : s.heap.get? P = some (pObj acc c) := ClX.pin_at I
    refine codeAny_builtin F.entry_list_repr_loop ?_
    show wpAny _ _ (Builtin.«list.__repr__.loop» ⟨[.ref a, .int (i : Nat) 0, .ref P, .int ((base + piled (ts.take i) : Nat) : Int) 0], []⟩) _ _ s
    rw [repr_loop_tree]
    refine wpAny_bind (wpAny_listItems ga da ?_)
    have none_ : its.toArray[(i : Int).toNat]? = none := by
      have := r.length
      simp
      omega
    simp only [none_]
    unfold reprEnd
    refine wpAny_bind (wpAny_listItems gP rfl ?_)
    rw [ha, repr_fold]
    refine wpAny_bind (wpAny_pure ?_)
    have all : dn.map (·.1) = ts := by rw [hd, show i = ts.length by omega, List.take_length]
    rw [all]
    refine wpAny_bind (wpAny_mkStr (wpAny_pure ?_) (show (listText ts).length ≤ sizeLine by omega))
    exact ⟨.str (listText ts), H, (ClX.unpin I).tok _, ⟨_, rfl⟩, q H e⟩
  | succ k ih =>
    intro i s H acc c dn hk hi e I ha hd
    have hlt : i < xs.length := by omega
    have hltT : i < ts.length := by omega
    obtain ⟨its, r, ⟨oa, na, ga, _, _, da⟩, _⟩ := I.list (SqL.ext hx e)
    have hl2 : i < its.length := by rw [← r.length]; exact hlt
    obtain ⟨u, hu, ru⟩ := r.get (List.getElem?_eq_getElem hlt)
    rw [List.getElem?_eq_getElem hl2] at hu
    cases hu
    have gP : s.heap.get? P = some (pObj acc c) := ClX.pin_at I
    have ht := List.getElem?_eq_getElem hltT
    have d := hD _ _ _ _ e (hT i _ _ (List.getElem?_eq_getElem hlt) ht)
    have hp1 := piled_take_succ ht
    have hp2 := piled_take_le ts (i + 1)
    have szT : ts[i].length ≤ sizeLine := by omega
    refine codeAny_builtin F.entry_list_repr_loop ?_
    show wpAny _ _ (Builtin.«list.__repr__.loop» ⟨[.ref a, .int (i : Nat) 0, .ref P, .int ((base + piled (ts.take i) : Nat) : Int) 0], []⟩) _ _ s
    rw [repr_loop_tree]
    refine wpAny_bind (wpAny_listItems ga da ?_)
    have some_ : its.toArray[(i : Int).toNat]? = some its[i] := by
      simp [hl2]
    simp only [some_]
    rw [Int.toNat_natCast]
    refine wpAny_bind (wpAny_holding (wpAny_mono (hs _ (gp _ _) _ s σ H _ _ _ (base + piled (ts.take i) + 1) (under_sub sb) I ru d (by omega)) (fun z s1 got => ?_) fun _ _ z => z))
    obtain ⟨rfl, H1, I1, e1⟩ := got
    refine wpAny_bind (wpAny_mkStr ?_ szT)
    refine wpAny_bind ?_
    show wpAny _ _ (updateSeq P _) _ _ _
    have gP1 : s1.heap.get? P = some (pObj acc c) := ClX.pin_at I1
    have hasz : acc.size ≤ sizeLine := by
      have e1 : acc.toList.length = acc.size := by simp
      have e2 : (strValues dn).length = dn.length := by simp [strValues]
      have e3 : dn.length = (ts.take i).length := by rw [← hd, List.length_map]
      have e4 : (ts.take i).length ≤ i := by rw [List.length_take]; omega
      have e5 : ∀ l : List Str, 2 * l.length ≤ piled l := by
        intro l
        induction l with
        | nil => exact Nat.le_refl 0
        | cons t l ih => rw [piled_cons, List.length_cons]; omega
      have e6 := e5 ts
      rw [ha] at e1
      omega
    refine wpAny_updateSeq gP1 rfl (wpAny_pure ⟨F.quiet_list_repr_loop _, ?_⟩) hasz
    have c1 : ((i : Int) + 1) = ((i + 1 : Nat) : Int) := by omega
    have c2 : base + piled (ts.take i) + (ts[i].length + 2) = base + piled (ts.take (i + 1)) := by omega
    rw [c1, c2]
    refine ih (i + 1) _ H1 (acc.push (.str ts[i] s1.toks)) ?c (dn ++ [(ts[i], s1.toks)]) (by omega) hlt (e.trans e1) ?inv ?t1 ?t2
    case t1 =>
      rw [Array.toList_push, ha]
      unfold strValues
      rw [List.map_append]
      rfl
    case t2 =>
      rw [List.map_append, hd, List.take_add_one, ht]
      rfl
    case inv =>
      refine place_step (I1.tok (s1.toks + 1)) pl ?_ ?_ ?_
      · exact fun b o hb eb => (Heap.get?_update_other _ _ (fun z : P = b => hb z.symm)).trans eb
      · refine Heap.get?_update_self _ gP1 ?_
        rfl
      · exact fun v z => by cases z
end
section
variable {X : Cx} {n : Nat} {D : Addr → ShD}
def rShLG (K : PySem.W.Frag) (D : Addr → ShD) : List V → Hp → VK → Prop := fun vs H Q => ∃ (a : Addr) (xs : List V) (ts : List Str), vs = [.ref a] ∧ SqL K H a xs ∧ ts.length = xs.length ∧ (∀ (i : Nat) x t, xs[i]? = some x → ts[i]? = some t → D a x t H) ∧ (listText ts).length ≤ sizeLine ∧
  ∀ H', Ext H H' → Q (.str (listText ts)) H'
theorem call_repr_lstG (hD : ∀ a : Addr, MonS (D a)) (hs : ∀ a : Addr, ShP X n (D a) (Gd a)) (hg : X.A.guards = some []) (hr : Room (n + 3) X.A) : CallR X (.builtin "repr") (rShLG X.K D) := by
  intro pins s σ H vs us Q I r hq
  obtain ⟨a, xs, ts, rfl, hx, hlen, hT, hz, q⟩ := hq
  obtain ⟨u, rfl, ru⟩ := vals1 r
  cases ru
  obtain ⟨its, rv, ⟨oa, na, ga, ca, _, da⟩, _⟩ := I.list hx
  have hu := hr.un
  have hTy : s.TypeIs (.ref a) "list" := ⟨oa, ga, ca⟩
  refine call_repr_slot (by omega) hTy F.slot_list_repr.toG ?_
  cases xs with
  | nil =>
    cases rv
    obtain rfl : ts = [] := List.length_eq_zero_iff.mp hlen
    refine call_list_repr_empty hTy ga da ⟨_, _, rfl, .str (listText []), H, I.tok _, ⟨s.toks, by rw [listText_nil]⟩, q H Ext.rfl'⟩
  | cons x xs =>
    cases rv with
    | cons rx rt =>
      rename_i u0 ut
      have sb : Sub X (n + 2) X.A.in1 := ⟨hr.in1, rfl⟩
      refine wpAny_call (codeAny_call_builtin F.slot_list_repr.plain F.entry_list_repr (F.slot_list_repr.check _ _ _ _ _ _ _ _ hTy (F.args_list_repr_1 _) ?_))
      refine wpAny_list_repr_head (A := X.A.in1.in1) (g := []) hg (fun v rest kw hm => absurd hm List.not_mem_nil) ga da ?_
      refine wpAny_bind (m := newList []) (wpAny_newObj_type ?_)
      refine wpAny_pure ⟨F.quiet_list_repr_loop _, ?_⟩
      have nP : H s.heap.objs.size = none := I.hok.fresh (Nat.le_refl _)
      have nL : s.heap.objs.size ≠ X.env.locals := Nat.ne_of_gt I.lt
      have pl : Place X pins s.heap.objs.size := ⟨.inr I.sz, fun y c ey z => ?_, fun p hp z => ?_⟩
      · have I1 : Inv X pins σ H { s with heap := s.heap.push (pObj #[] 0), toks := s.toks } := I.kept fun b o e => Heap.get?_push_of_some _ e
        refine codeAny_mono (sh_loopG (base := 0) (X := X) (pins := pins) (σ := σ) (Q := fun z H' => (∃ t, z = .str t) ∧ Q z H') (P := s.heap.objs.size) (hD a) (hs a) (sb.mono (by omega)) (fun args kw => gd_under hg args kw) hx hlen hT pl (by omega) (fun H' e => ⟨⟨_, rfl⟩, q H' e⟩) _ 0 _ H #[] 0 [] rfl (Nat.zero_le _) Ext.rfl' ?_ rfl (by simp)) fun r s' h => ?_
        · refine I1.pins_of fun p hp => ?_
          rcases List.mem_cons.mp hp with rfl | hp
          · exact ⟨Heap.get?_push_size _ rfl, nP, nL, I.nofs (Nat.le_refl _), fun v z => nomatch z⟩
          · exact I1.pin p (List.mem_append_right _ hp)
        · cases r with
          | error e => exact h
          | ok fl => cases fl with
            | ret u => 
              obtain ⟨v, H', I', rv, ⟨z, rfl⟩, qq⟩ := h
              obtain ⟨t, rfl⟩ := rv
              exact ⟨z, t, rfl, .str z, H', I', ⟨t, rfl⟩, qq⟩
            | next => exact h
            | brk => exact h
            | cont => exact h
      · obtain ⟨v, o, ho, _⟩ := I.cell y c ey
        rw [z] at ho
        exact absurd (Heap.lt_size ho) (Nat.lt_irrefl _)
      · have ho := (I.pin p hp).1
        rw [z] at ho
        exact absurd (Heap.lt_size ho) (Nat.lt_irrefl _)
end
/-- a list in it, other than it -/
def lstS (K : PySem.W.Frag) (D : ShD) (a : Addr) : ShD := fun x t H => ∃ (c : Addr) (xs : List V) (ts : List Str), x = .ref c ∧ a ≠ c ∧ SqL K H c xs ∧ 0 < xs.length ∧ ts.length = xs.length ∧ (∀ (i : Nat) y z, xs[i]? = some y → ts[i]? = some z → D y z H) ∧ t = listText ts
theorem mon_lst {K : PySem.W.Frag} {D : ShD} {a : Addr} (h : MonS D) : MonS (lstS K D a) := fun x t H H' e d => by
  obtain ⟨c, xs, ts, rfl, ne, hx, h0, hl, hT, rfl⟩ := d
  exact ⟨c, xs, ts, rfl, ne, SqL.ext hx e, h0, hl, fun i y z e1 e2 => h _ _ _ _ e (hT i y z e1 e2), rfl⟩
theorem shP_lst {X : Cx} {n : Nat} {D : ShD} (hD : MonS D) (hs : ShB X n D) (a : Addr) : ShP X (n + 3) (lstS X.K D a) (Gd a) := by
  intro A ga pins s σ H x u t b sb I r d hb
  obtain ⟨c, xs, ts, rfl, ne, hx, h0, hlen, hT, rfl⟩ := d
  cases r
  obtain ⟨its, rv, ⟨oa, na, ga', ca, _, da⟩, _⟩ := I.list hx
  obtain ⟨g, hg, cg⟩ := ga
  have hTy : s.TypeIs (.ref c) "list" := ⟨oa, ga', ca⟩
  have hu := sb.room.un
  refine wpAny_pyReprUnder_ref (by omega) ?_
  refine wpAny_pyReprObjUnder_twin (id := "list.__repr__") (twin := "list.__repr__.under") hTy F.slot_list_repr.toG (by rfl) (by omega) ?_
  refine call_twin_plain F.plain_list_repr_under F.entry_list_repr_under F.check_list_repr_under hTy F.slot_list_repr.toG (F.args_list_repr_1 _) ?_
  cases xs with
  | nil => exact absurd h0 (Nat.lt_irrefl 0)
  | cons x xs =>
    cases rv with
    | cons rx rt =>
      rename_i u0 ut
      refine wpAny_list_repr_head (A := A.in1) (g := g) hg (fun v rest kw hm => listSameRef_of_ne (cg c ne _ _ _ _ hm)) ga' da ?_
      refine wpAny_bind (m := newList []) (wpAny_newObj_type ?_)
      refine wpAny_pure ⟨F.quiet_list_repr_loop _, ?_⟩
      have nP : H s.heap.objs.size = none := I.hok.fresh (Nat.le_refl _)
      have nL : s.heap.objs.size ≠ X.env.locals := Nat.ne_of_gt I.lt
      have pl : Place X pins s.heap.objs.size := ⟨.inr I.sz, fun y c ey z => ?_, fun p hp z => ?_⟩
      · have I1 : Inv X pins σ H { s with heap := s.heap.push (pObj #[] 0), toks := s.toks } := I.kept fun b o e => Heap.get?_push_of_some _ e
        refine codeAny_mono (sh_loopG (base := b) (X := X) (pins := pins) (σ := σ) (GP := fun _ => True) (Q := fun z H' => z = .str (listText ts) ∧ Ext H H') (P := s.heap.objs.size) hD (shP_of hs) (sb.mono (by omega)) (fun _ _ => trivial) hx hlen hT pl hb (fun H' e => ⟨rfl, e⟩) _ 0 _ H #[] 0 [] rfl (Nat.zero_le _) Ext.rfl' ?_ rfl (by simp)) fun r s' h => ?_
        · refine I1.pins_of fun p hp => ?_
          rcases List.mem_cons.mp hp with rfl | hp
          · exact ⟨Heap.get?_push_size _ rfl, nP, nL, I.nofs (Nat.le_refl _), fun v z => nomatch z⟩
          · exact I1.pin p (List.mem_append_right _ hp)
        · cases r with
          | error e => exact h
          | ok fl => cases fl with
            | ret u =>
              obtain ⟨v, H', I', rv, rfl, ee⟩ := h
              obtain ⟨tk, rfl⟩ := rv
              exact ⟨⟨_, _, rfl⟩, _, _, rfl, rfl, H', I', ee⟩
            | next => exact h
            | brk => exact h
            | cont => exact h
      · obtain ⟨v, o, ho, _⟩ := I.cell y c ey
        rw [z] at ho
        exact absurd (Heap.lt_size ho) (Nat.lt_irrefl _)
      · have ho := (I.pin p hp).1
        rw [z] at ho
        exact absurd (Heap.lt_size ho) (Nat.lt_irrefl _)
end Ow
/-! Lists of different lengths are not equal. -/
namespace Ow
open PySem PySem.Calls PySem.Spec PyProof.Rows L2
section
variable {prog : Program} {w : World} {A : Around} {R : Result → Shared → Prop}
theorem two_len (l b : Addr) {items items2 : Array Value} {n n2 : Nat} {s : Shared} (g1 : s.heap.get? l = some { cls := .type "list", data := .seq items n }) (g2 : s.heap.get? b = some { cls := .type "list", data := .seq items2 n2 }) (hs : items.size ≠ items2.size)
    (fin : R (.ok (.ret (.bool false))) s) : wpAny (model prog w) A.in1 (Builtin.«list.__eq__» ⟨[.ref l, .ref b], []⟩) (FO prog w A R) (fun e s' => R (.error e) s') s := by
  obtain ⟨hp, g, d, tk, os⟩ := s
  have f3 := AutoSeq1.sub_list_list
  have hne : (items.size != items2.size) = true := by simp [hs]
  wp_walk using wpAny_loadPart' g1, wpAny_loadPart' g2
  exact fin
end
section
variable {X : Cx}
def rEqLn : R2 := fun x y H Q => ∃ (a c : Addr) (xs ys : List V), x = .ref a ∧ y = .ref c ∧ H a = some (.lst xs) ∧ H c = some (.lst ys) ∧ xs.length ≠ ys.length ∧ ∀ H', Ext H H' → Q (.bl false) H'
theorem op_eqLn (hr : Room 1 X.A) : OpR X (compareOp .Eq) rEqLn := by
  intro pins s σ H x y u v Q I rx ry hq
  obtain ⟨a, c, xs, ys, rfl, rfl, ha, hc, hl, q⟩ := hq
  cases rx
  cases ry
  obtain ⟨z, its, k, r, g⟩ := I.hok a _ ha
  obtain ⟨z2, its2, k2, r2, g2⟩ := I.hok c _ hc
  refine PySem.W.cmp_ofEq (wpAny_mono (wpAny_richCompare_same_room (op := .Eq) (Q := fun v s' => v = .bool false ∧ LoopI X pins σ H s') ⟨_, g, rfl⟩ ⟨_, g2, rfl⟩ PySem.F.slot_list_eq (GQ.call_here PySem.F.slot_list_eq ⟨_, g, rfl⟩ PySem.F.entry_list_eq (PySem.F.args_list_eq_2 _ _) ?_) (show X.A.units < cLine from hr.units0)) (fun r s' z => ?_) fun _ _ e => e)
  · exact two_len (R := wants (fun v s' => v ≠ .notImplemented ∧ v = .bool false ∧ LoopI X pins σ H s') X.xe) a c g g2 (by rw [List.size_toArray, List.size_toArray, ← r.length, ← r2.length]; exact hl) ⟨(fun x => nomatch x), rfl, H, I, Ext.rfl'⟩
  · obtain ⟨rfl, H', I', e⟩ := z
    exact ⟨.bl false, H', I', rfl, q H' e⟩
end
end Ow
/-! The law's own defs: one pot. -/
namespace Lb
open PySem PySem.Spec PyProof.Rows L2 Ow Pt Rm Ra La Tb
def shN (K : PySem.W.Frag) (C D : Addr) (a : Addr) : ShD := fun x t H => shD C D x t H ∨ lstS K (shD C D) a x t H
theorem monN {K : PySem.W.Frag} (C D a : Addr) : MonS (shN K C D a) := monS_or (monSh C D) (mon_lst (monSh C D))
theorem shN_of {X : Cx} {C D : Addr} (sR : ShX X.prog X.w X.K X.mg X.base C "__repr__" shw) (sT : ShT X.prog X.w X.K X.mg X.base C D) (a : Addr) : ShP X 6 (shN X.K C D a) (Gd a) :=
  shP_or (fun A _ pins s σ H x u t b sb I r d hb => shB_all sR sT A pins s σ H x u t b (sb.mono (by decide)) I r d hb) (shP_lst (monSh C D) (shB_all sR sT) a)
theorem over_no' (n d : Int) : (rf n d).lookup ("over" : Str) = none := rf_no n d (by decide +kernel) (by decide +kernel)
def sixF (k : Fr2) : List Fr2 := [plus k k, minus k k, times k k, (-k.1, k.2), over k k, sumP [k, k]]
theorem six_bd {k : Fr2} (l : Lw k.1 k.2) (k0 : 0 < k.1) (b1 : Bd 6 k.1) (b2 : Bd 6 k.2) : Bds 1900 (sixF k) := by
  have h2 := mul_ne l.pos l.pos
  have m1 := (b1.mul b2)
  have m2 := (b2.mul b2)
  have p : Bd 13 (plus k k).1 ∧ Bd 12 (plus k k).2 := ⟨bd_low1 h2 (m1.add m1), bd_low2 h2 m2⟩
  have z : plus (0, 1) k = k := by
    refine q_inj (lw_plus (lw_int 0) l) l ?_
    rw [q_plus (lw_int 0) l, q_zero]
    grind
  have s : sumP [k, k] = plus k k := by
    show plus (plus (0, 1) k) k = _
    rw [z]
  intro q h
  unfold sixF at h
  rcases List.mem_cons.mp h with rfl | h
  · exact ⟨p.1.mono (by decide), p.2.mono (by decide)⟩
  rcases List.mem_cons.mp h with rfl | h
  · exact ⟨(bd_low1 h2 (m1.sub m1)).mono (by decide), (bd_low2 h2 m2).mono (by decide)⟩
  rcases List.mem_cons.mp h with rfl | h
  · exact ⟨(bd_low1 h2 (b1.mul b1)).mono (by decide), (bd_low2 h2 m2).mono (by decide)⟩
  rcases List.mem_cons.mp h with rfl | h
  · exact ⟨b1.neg.mono (by decide), b2.mono (by decide)⟩
  rcases List.mem_cons.mp h with rfl | h
  · have h3 := mul_ne l.pos k0
    exact ⟨(bd_low1 h3 m1).mono (by decide), (bd_low2 h3 (b2.mul b1)).mono (by decide)⟩
  rcases List.mem_cons.mp h with rfl | h
  · rw [s]
    exact ⟨p.1.mono (by decide), p.2.mono (by decide)⟩
  exact nomatch h
theorem sm_of {C : Addr} {H : Hp} {v : V} {k : Fr2} (h : Nm C H v k.1 k.2) (b1 : Bd 6 k.1) (b2 : Bd 6 k.2) : Sm C H v k.1 k.2 := ⟨h.at_, h.lw, b1.mono (by decide), b2.mono (by decide)⟩
theorem sms2 {C : Addr} {H : Hp} {v : V} {k : Fr2} (h : Sm C H v k.1 k.2) : Sms C H [v, v] [k, k] := ⟨rfl, fun i x p e1 e2 => by
  rcases i with _ | _ | i
  · cases e1
    cases e2
    exact h
  · cases e1
    cases e2
    exact h
  · exact nomatch e1⟩
theorem lst_len6 {ts : List Str} (h5 : ts.length ≤ 6) (l : ∀ t ∈ ts, t.length ≤ 4000) : (listText ts).length ≤ 24014 := by
  rw [listText_eq_join, strLen_append, strLen_append, lb_len, rb_len]
  have a := join_len ", " 4000 _ l
  rw [len2] at a
  have : ts.length * (4000 + 2) ≤ 6 * (4000 + 2) := Nat.mul_le_mul_right _ h5
  omega
theorem bd6 {r : Int} (h0 : 0 ≤ r) (h : r < 50) : Bd 6 (1 + r) := by
  unfold Bd
  have : (2 : Nat) ^ 6 = 64 := by decide
  omega
/-- a ratio, a list of six, shown -/
def sixT (k : Fr2) : List Str := [shwP k, listText ((sixF k).map shwP)]
theorem six_len {k : Fr2} (b : Bds 1900 (sixF k)) (b1 : Bd 6 k.1) (b2 : Bd 6 k.2) : (listText (sixT k)).length ≤ sizeLine := by
  have a1 := shw_len (n := k.1) (d := k.2) (b1.mono (by decide)) (b2.mono (by decide))
  have a2 := lst_len6 (ts := (sixF k).map shwP) (by rw [List.length_map]; exact Nat.le_refl 6) fun t ht => by
    obtain ⟨q, hq, rfl⟩ := List.mem_map.mp ht
    exact shw_len (b q hq).1 (b q hq).2
  rw [listText_eq_join, strLen_append, strLen_append, lb_len, rb_len]
  have e : (Str.join ", " (sixT k)) = shwP k ++ ", " ++ listText ((sixF k).map shwP) := rfl
  rw [e, strLen_append, strLen_append, len2]
  have a1' : (shwP k).length ≤ 4000 := a1
  exact line _ (Nat.le_trans (show 1 + ((shwP k).length + 2 + (listText ((sixF k).map shwP)).length) + 1 ≤ 40000 by omega) (by decide))
theorem six_items {K : PySem.W.Frag} {C D z u l : Addr} {X : Hp} {ms : List Addr} {k : Fr2} (hz : RatAt C X z k.1 k.2) (b1 : Bd 6 k.1) (b2 : Bd 6 k.2) (b : Bds 1900 (sixF k)) (ne : u ≠ l) (hl : X l = some (.lst (ms.map V.ref))) (h : Par (fun a c => RatAt C X a c.1 c.2) ms (sixF k)) : ∀ (i : Nat) x t, ([V.ref z, V.ref l] : List V)[i]? = some x → (sixT k)[i]? = some t → shN K C D u x t X := fun i x t e1 e2 => by
  rcases i with _ | _ | i
  · cases e1
    cases e2
    exact .inl (.inr (.inl ⟨z, k.1, k.2, rfl, hz, b1.mono (by decide), b2.mono (by decide), rfl⟩))
  · cases e1
    cases e2
    have hm : ms.length = 6 := h.1
    refine .inr ⟨l, ms.map V.ref, (sixF k).map shwP, rfl, ne, SqL.of hl, by rw [List.length_map]; omega, by rw [List.length_map, List.length_map, hm]; rfl, fun j y s f1 f2 => ?_, rfl⟩
    rw [List.getElem?_map] at f1 f2
    cases c : ms[j]? with
    | none => rw [c] at f1; exact nomatch f1
    | some a =>
      rw [c] at f1
      cases f1
      obtain ⟨q, hq, r⟩ := h.getL c
      rw [hq] at f2
      cases f2
      have bb := b q (List.mem_of_getElem? hq)
      exact .inr (.inl ⟨a, q.1, q.2, rfl, r, bb.1, bb.2, rfl⟩)
  · exact nomatch e1
section
variable {P : Program} {w : World} {K : PySem.W.Frag} {mg : Str → Option Value} {base : Heap}
def spRi (_ : PySem.W.Frag) : Sp := fun vs H Q _ => ∃ p : Addr, vs = [.ref p] ∧ Pot H p ∧ ∀ H', Stp p H H' → Q (.bl true) H'
abbrev n__law_right : List Str := ["_law_pot_here", "_law_turn", "_law_bag", "_law_up", "_law_low_here", "_law_part", "_law_told", "_law_shown_here", "_law_again", "_law_made"]
theorem sc__law_right : FnScope n__law_right ["_law_pot_here"] (defScope d__law_right) := ⟨rfl, rfl, rfl, by decide +kernel, rfl, by decide +kernel, by decide +kernel⟩
theorem ok_right {f C D : Addr} {fd : FuncData} (F : FnP K "_law_right" "_law_right" d__law_right [] f fd) (B : Blt mg) (T : RT K mg C) (U : TC K mg D) (Z : TK K D) (E_ : TEq P w K mg base C D) (Q_ : EqX P w K mg base C) (M : RMk P w K mg base C) (sR : ShX P w K mg base C "__repr__" shw) (sT : ShT P w K mg base C D)
    (oA : OpX P w K mg base C .Add 5 (spBin plus C)) (oS : OpX P w K mg base C .Sub 6 (spBin minus C)) (oM : OpX P w K mg base C .Mult 5 (spBin times C)) (oN : OpN P w K mg base C 4 (spNeg C)) (mOv : Mtd P w K mg base 5 C "over" ["self", "other"] (spOver C)) (cTo : CMS P w K mg base 6 C "total" (spTot C))
    (dD : DDraw P w K mg base) (dSh : DfnG P w K mg base 13 "_law_shared" ["_law_pot_here"] (spSh C D)) (dLR : DfnG P w K mg base 13 "_law_lists_right" ["_law_pot_here", "_law_bag"] (spLR C D)) (dDR : DfnG P w K mg base 13 "_law_deeds_right" ["_law_pot_here", "_law_bag"] (spDR C D)) :
    FnG P w K mg base CX0 14 f fd ["_law_pot_here"] (spRi K) := by
  obtain ⟨fe, fed, oE, FE, bE⟩ := E_.ex
  obtain ⟨fq, fqd, oq, Fq, bq⟩ := id Q_.ex
  refine fnG_ok (k := 13) F sc__law_right (fun vs H Q E h => ?_) (fun cdv A outer s H vs Q E hr hg h => ?_)
  · obtain ⟨p, rfl, _⟩ := h
    rfl
  · obtain ⟨p, rfl, hp, q⟩ := h
    have hr1 := hr.mono (by decide : 1 ≤ 13)
    have hr2 := hr.mono (by decide : 2 ≤ 13)
    have hr3 := hr.mono (by decide : 3 ≤ 13)
    have hr4 := hr.mono (by decide : 4 ≤ 13)
    have hr5 := hr.mono (by decide : 5 ≤ 13)
    have hr6 := hr.mono (by decide : 6 ≤ 13)
    have hr9 := hr.mono (by decide : 9 ≤ 13)
    have hr13 := hr
    have eqRb : EqB (cxOf CX0 P w K mg base n__law_right "_law_right" (defScope d__law_right) f cdv A outer s H E).nox 1 (DR C) := eqB_own (ownR T Q_.nf) oq Fq bq pass0
    refine ⟨_, PSs.nox (pss_cons (ps_for PassesOwn.never rfl (pi_range1 rfl B.range (pa_cons pe_int pa_nil)) (pg_name (i := 1) sc__law_right.nd rfl (.inl rfl))
      (pss_cons (ps_set (i := 2) sc__law_right.nd rfl (Or.inr rfl) (pe_useG dSh hr13 hg rfl (pa_cons (pv 0) pa_nil)))
      (pss_cons (ps_if (PW.pt (pw_or (pt_cmpR (op_eqLn hr1) (pv 2) (pe_lst pa_nil) (nomark _)) (pw_or (pt_not (pt_val (pe_useG dLR hr13 hg rfl (pa_cons (pv 0) (pa_cons (pv 2) pa_nil))))) (pw_or1 (pt_not (pt_val (pe_useG dDR hr13 hg rfl (pa_cons (pv 0) (pa_cons (pv 2) pa_nil))))))))) (pss_one (ps_ret pe_bl)) pss_nil)
      (pss_one (ps_if (pt_not (pt_val (pe_callB (cr_all rfl) (by rfl) B.all PyProof.Rows.boot_all (pa_cons (pe_lc rfl sc__law_right.nd (pi_list (pv 2)) (blkOk_by (own := [("_law_made", 9)]) (by show blkC n__law_right (defScope d__law_right) _ _ = true; decide +kernel)) (fun _ _ _ _ _ => pg_name (i := 9) sc__law_right.nd rfl (.inl rfl)) (fun _ _ _ _ _ => pts_nil) (fun _ _ _ _ _ => (pe_and (pe_cmpR (r := rEqI K D (spTEq K C D) E0) (op_eqI oE FE hr3 bE pass0) (pv 9) (pe_ix (r := rIxL K) ix_list (pv 2) pe_int (fun _ _ => rfl)) (nomark _)) (pe_one (pe_cmpR (r := rEqI K D (spTEq K C D) E0) (op_eqI oE FE hr3 bE pass0) (pe_ix (r := rIxL K) ix_list (pv 2) pe_int (fun _ _ => rfl)) (pv 9) (nomark _)))))) pa_nil)))) (pss_one (ps_ret pe_bl)) pss_nil)))))
      (pss_cons (ps_par (i := 3) (j := 4) rfl sc__law_right.nd rfl rfl (by decide) rfl rfl (pa_cons (pe_op op_add pe_int (pe_use dD hr1 rfl (pa_cons (pv 0) (pa_cons pe_int pa_nil)))) (pa_cons (pe_op op_add pe_int (pe_use dD hr1 rfl (pa_cons (pv 0) (pa_cons pe_int pa_nil)))) pa_nil)) rfl)
      (pss_cons (ps_set (i := 5) sc__law_right.nd rfl (Or.inl rfl) (pe_rat2 M hr3 rfl T.mgC (pv 3) (pv 4)))
      (pss_cons (ps_set (i := 6) sc__law_right.nd rfl (Or.inl rfl) (pe_lst (pa_cons (pe_op (op_xx oA T.num hr5) (pv 5) (pv 5)) (pa_cons (pe_op (op_xx oS T.num hr6) (pv 5) (pv 5)) (pa_cons (pe_op (op_xx oM T.num hr5) (pv 5) (pv 5)) (pa_cons (pe_un (un_nm oN hr4) (pv 5)) (pa_cons (pe_mt T.cl mOv hr5 (pv 5) (pa_cons (pv 5) pa_nil)) (pa_cons (pe_cmR cTo hr6 (pe_glob (v := .ref C) rfl T.mgC rfl) (pa_cons (pv 5) (pa_cons (pv 5) pa_nil))) pa_nil))))))))
      (pss_cons (ps_set (i := 7) sc__law_right.nd rfl (Or.inl rfl) (pe_callB (call_repr_lstG (D := shN K C D) (fun a => monN C D a) (fun a => shN_of sR sT a) hg hr9) (by rfl) B.repr PyProof.Rows.boot_repr (pa_cons (pe_lst (pa_cons (pv 5) (pa_cons (pv 6) pa_nil))) pa_nil)))
      (pss_cons (ps_set (i := 8) sc__law_right.nd rfl (Or.inl rfl) (pe_lst (pa_cons (pe_op (op_xx oA T.num hr5) (pv 5) (pv 5)) (pa_cons (pe_op (op_xx oS T.num hr6) (pv 5) (pv 5)) (pa_cons (pe_op (op_xx oM T.num hr5) (pv 5) (pv 5)) (pa_cons (pe_un (un_nm oN hr4) (pv 5)) (pa_cons (pe_mt T.cl mOv hr5 (pv 5) (pa_cons (pv 5) pa_nil)) (pa_cons (pe_cmR cTo hr6 (pe_glob (v := .ref C) rfl T.mgC rfl) (pa_cons (pv 5) (pa_cons (pv 5) pa_nil))) pa_nil))))))))
      (pss_one (ps_ret (pe_and (pe_cmpR op_eq (pe_callB (call_repr_lstG (D := shN K C D) (fun a => monN C D a) (fun a => shN_of sR sT a) hg hr9) (by rfl) B.repr PyProof.Rows.boot_repr (pa_cons (pe_lst (pa_cons (pv 5) (pa_cons (pv 8) pa_nil))) pa_nil)) (pv 7) (nomark _)) (pe_and (pe_cmpR (op_eqLB (monR C) eqRb hr2) (pv 6) (pv 8) (nomark _)) (pe_one (pe_cmpR (op_eqI oq Fq hr1 bq pass0) (pv 5) (pe_rat2 M hr3 rfl T.mgC (pv 3) (pv 4)) (nomark _))))))))))))), ?_⟩
    refine ⟨4, rfl, by decide, by decide, ?_⟩
    refine for_it (walk_range (lo := 0) (n := (4 : Int).toNat)) (fun i σ H' => ∃ v1 v2 : Option V, σ = [some (.ref p), v1, v2, none, none, none, none, none, none, none] ∧ Stp p H H') ⟨_, _, rfl, Stp.refl hp⟩ (fun _ _ _ _ _ => trivial) ?_ ?_
    · rintro i v σ Ha Hb hi ⟨v1, v2, rfl, st⟩ ⟨rfl, rfl⟩
      refine ⟨_, rfl, p, rfl, st.pot, fun l ts ps H1 hl t1 t4 tt bt s1 => ?_⟩
      have st1 := st.trans s1
      have bw : Bw ps := ⟨120, 120, bt, by decide, by decide, by decide, by decide, by decide⟩
      refine ⟨_, rfl, (by show 0 ≤ sizeLine; decide), fun e he => ⟨l, e, _, _, rfl, rfl, same_upd he _ _ hl, upd_same, (by rw [List.length_map]; show ts.length ≠ 0; omega), fun H2 s2 => ⟨_, rfl, ?_⟩⟩⟩
      have s12 := (same_upd (o := .lst []) he).trans s2
      have st2 := st1.sm s12
      have tt2 := Par.imp (S := fun t ps => TabAt C D H2 t ps) tt fun _ _ k => k.same s12
      have hl2 := s12 _ _ hl
      refine ⟨_, rfl, _, rfl, p, l, ts, ps, rfl, st2.pot, hl2, t1, t4, tt2, bw, fun H3 s3 => ⟨_, rfl, ?_⟩⟩
      have hl3 := lst_st hl2 (nt_ref ts) st2.pot s3
      have tt3 := tabs_st tt2 st2.pot s3
      have st3 := st2.trans s3
      refine ⟨_, rfl, _, rfl, p, l, ts, ps, rfl, st3.pot, hl3, t1, t4, tt3, bt, fun H4 s4 => ⟨_, rfl, ?_⟩⟩
      refine iteF ?_
      have hl4 := lst_st hl3 (nt_ref ts) st3.pot s4
      have tt4 := tabs_st tt3 st3.pot s4
      have st4 := st3.trans s4
      have get : ∀ {j : Nat} {t : Addr} {X : Hp}, ts[j]? = some t → Same H4 X → TabAt C D X t ps := fun {j t X} e sx => by
        obtain ⟨ps2, ep, tb⟩ := tt4.getL e
        cases List.eq_of_mem_replicate (List.mem_of_getElem? ep)
        exact tb.same sx
      have h0 : 0 < ts.length := t1
      have e0 := List.getElem?_eq_getElem h0
      have at0 : atI (ts.map V.ref) 0 = some (V.ref ts[0]) := atI_nat (j := 0) (by rw [List.getElem?_map, e0]; rfl)
      refine ⟨_, rfl, l, rfl, ⟨_, SqL.of hl4⟩, fun D3 hD3 => ?_⟩
      refine lc_vals (walk_list (xs := ts.map V.ref)) (rel_same hD3) ((List.replicate ts.length true).map V.bl) (by rw [List.length_map, List.length_map, List.length_replicate]) (by rw [List.length_map]; omega) (fun H' s => SqL.of (s _ _ hl4)) ?_ ?_
      · rintro i v Hx Hy u hi hu sab _ ⟨rfl, hx⟩ R k
        have eu : u = .bl true := by
          rw [List.getElem?_map] at hu
          cases c : (List.replicate ts.length true)[i]? with
          | none => rw [c] at hu; exact nomatch hu
          | some b =>
            rw [c] at hu
            cases hu
            rw [List.eq_of_mem_replicate (List.mem_of_getElem? c)]
        subst eu
        rw [List.getElem?_map] at hx
        cases c : ts[i]? with
        | none => rw [c] at hx; exact nomatch hx
        | some x =>
          rw [c] at hx
          cases hx
          have tx := get c sab
          have t0 := get e0 sab
          obtain ⟨dxx, Lx, rx, yx, _⟩ := id tx.at_
          obtain ⟨dx0, L0, r0, y0, _⟩ := id t0.at_
          refine ⟨rfl, _, rfl, _, rfl, l, _, _, _, rfl, rfl, SqL.of (sab _ _ hl4), at0, x, dxx, _, .ref D, rfl, yx, ty_tab T U Z t0, E_.nf, x, _, .ref ts[0], rfl, tx, .inl ⟨ts[0], _, rfl, t0, fun H' s => ?_⟩⟩
          rw [dec_self]
          refine ⟨true, rfl, iteT ?_⟩
          have ss := sab.trans s
          refine ⟨_, rfl, l, _, _, _, rfl, rfl, SqL.of (ss _ _ hl4), at0, _, rfl, ts[0], dx0, _, .ref D, rfl, s _ _ y0, ty_tab T U Z (tx.same s), E_.nf, ts[0], _, .ref x, rfl, t0.same s, .inl ⟨x, _, rfl, tx.same s, fun H'' s' => ?_⟩⟩
          rw [dec_self]
          exact k _ (s.trans s')
      intro HF sF hDF
      refine ⟨D3, List.replicate ts.length true, rfl, SqL.of hDF, _, rfl, ?_⟩
      rw [allT]
      refine iteF ?_
      exact ⟨_, _, rfl, st4.sm sF⟩
    rintro σ H5 ⟨v1, v2, rfl, st5⟩
    refine ⟨_, rfl, p, _, rfl, st5.pot, by decide, bd_small (by decide) (by decide) (by decide), fun r H6 r0 r1 s6 => ⟨_, _, rfl, rfl, ?_⟩⟩
    refine ⟨_, rfl, p, _, rfl, (st5.trans s6).pot, by decide, bd_small (by decide) (by decide) (by decide), fun r2 H7 r20 r21 s7 => ⟨_, _, rfl, rfl, ?_⟩⟩
    have st7 := (st5.trans s6).trans s7
    obtain ⟨up, hup⟩ : ∃ up : Int, up = 1 + r := ⟨_, rfl⟩
    obtain ⟨lo, hlo⟩ : ∃ lo : Int, lo = 1 + r2 := ⟨_, rfl⟩
    have eu : (fun i j : Int => V.int (i + j)) 1 r = V.int up := by rw [hup]
    have el : (fun i j : Int => V.int (i + j)) 1 r2 = V.int lo := by rw [hlo]
    rw [eu, el]
    refine ⟨_, _, rfl, ?_⟩
    have lo0 : lo ≠ 0 := by omega
    have bu : Bd 6 up := hup ▸ bd6 r0 r1
    have bl : Bd 6 lo := hlo ▸ bd6 r20 r21
    obtain ⟨k, hk⟩ : ∃ k : Fr2, k = low up lo := ⟨_, rfl⟩
    have lk : Lw k.1 k.2 := hk ▸ low_lw _ lo0
    have bk1 : Bd 6 k.1 := hk ▸ bd_low1 lo0 bu
    have bk2 : Bd 6 k.2 := hk ▸ bd_low2 lo0 bl
    have k0 : 0 < k.1 := (q_pos lk).mpr (by
      rw [hk, q_low _ lo0, Rat.lt_div_iff (pos_q (show (0 : Int) < lo by omega))]
      have := pos_q (show (0 : Int) < up by omega)
      grind)
    have sb := six_bd lk k0 bk1 bk2
    refine ⟨_, rfl, _, rfl, ?_⟩
    refine rat_new lo0 (bl.mono (by decide)) fun z H8 hz s8 _ => ?_
    rw [← hk] at hz
    have st8 := st7.sm s8
    obtain ⟨dz, ez⟩ := id hz
    have nz : Nm C H8 (.ref z) k.1 k.2 := ⟨.inl ⟨z, rfl, hz⟩, lk, bk1.mono (by decide), bk2.mono (by decide)⟩
    refine ⟨_, rfl, _, rfl, z, dz, _, z, dz, _, rfl, (ez), rfl, (ez), z, .ref z, k.1, k.2, k.1, k.2, rfl, (nz), (nz), fun m0a K0a u0a s0a => ?_⟩
    refine ⟨_, rfl, _, rfl, z, dz, _, z, dz, _, rfl, (s0a _ _ ez), rfl, (s0a _ _ ez), z, .ref z, k.1, k.2, k.1, k.2, rfl, (nz.same s0a), (nz.same s0a), fun m1a K1a u1a s1a => ?_⟩
    have S1a := s0a.trans s1a
    refine ⟨_, rfl, _, rfl, z, dz, _, z, dz, _, rfl, (S1a _ _ ez), rfl, (S1a _ _ ez), z, .ref z, k.1, k.2, k.1, k.2, rfl, (nz.same S1a), (nz.same S1a), fun m2a K2a u2a s2a => ?_⟩
    have S2a := S1a.trans s2a
    refine ⟨_, rfl, z, dz, _, rfl, (S2a _ _ ez), z, k.1, k.2, rfl, (nz.same S2a), fun m3a K3a u3a s3a => ?_⟩
    have S3a := S2a.trans s3a
    refine ⟨_, rfl, z, dz, _, rfl, (S3a _ _ ez), over_no' _ _, _, rfl, z, .ref z, k.1, k.2, k.1, k.2, rfl, (nz.same S3a), (nz.same S3a), by omega, fun m4a K4a u4a s4a => ?_⟩
    have S4a := S3a.trans s4a
    refine ⟨rfl, _, rfl, _, rfl, [.ref z, .ref z], [k, k], rfl, (by show 2 ≤ 6; decide), sms2 (sm_of (nz.same S4a) bk1 bk2), fun m5a K5a u5a s5a => ?_⟩
    have S5a := S4a.trans s5a
    refine ⟨(by show 6 ≤ sizeLine; decide), fun la hla => ?_⟩
    have S6a := same_upd (o := .lst [V.ref m0a, V.ref m1a, V.ref m2a, V.ref m3a, V.ref m4a, V.ref m5a]) hla
    have SA := S5a.trans S6a
    have E4a := s5a.trans S6a
    have E3a := s4a.trans E4a
    have E2a := s3a.trans E3a
    have E1a := s2a.trans E2a
    have E0a := s1a.trans E1a
    have RRa : Par (fun a c => RatAt C (upd K5a la (.lst [V.ref m0a, V.ref m1a, V.ref m2a, V.ref m3a, V.ref m4a, V.ref m5a])) a c.1 c.2) [m0a, m1a, m2a, m3a, m4a, m5a] (sixF k) := Par.cons (u0a.same E0a) (Par.cons (u1a.same E1a) (Par.cons (u2a.same E2a) (Par.cons (u3a.same E3a) (Par.cons (u4a.same E4a) (Par.one (u5a.same S6a))))))
    have LLa : upd K5a la (.lst [V.ref m0a, V.ref m1a, V.ref m2a, V.ref m3a, V.ref m4a, V.ref m5a]) la = some (.lst ([m0a, m1a, m2a, m3a, m4a, m5a].map V.ref)) := upd_same
    generalize upd K5a la (.lst [V.ref m0a, V.ref m1a, V.ref m2a, V.ref m3a, V.ref m4a, V.ref m5a]) = H9 at SA RRa LLa ⊢
    refine ⟨_, rfl, _, rfl, (by show 2 ≤ sizeLine; decide), fun u hu => ?_⟩
    have su := same_upd (o := .lst [V.ref z, V.ref la]) hu
    have RRu := Par.imp (S := fun a c => RatAt C (upd H9 u (.lst [V.ref z, V.ref la])) a c.1 c.2) RRa fun _ _ h => h.same su
    refine ⟨u, _, sixT k, rfl, SqL.of upd_same, rfl, six_items ((hz.same SA).same su) bk1 bk2 sb (fun e => by rw [e, LLa] at hu; cases hu) (su _ _ LLa) RRu, six_len sb bk1 bk2, fun H10 s10 => ?_⟩
    have sA := (SA.trans su).trans s10
    have ez2 := sA _ _ ez
    have nz2 := nz.same sA
    refine ⟨_, rfl, _, rfl, z, dz, _, z, dz, _, rfl, (ez2), rfl, (ez2), z, .ref z, k.1, k.2, k.1, k.2, rfl, (nz2), (nz2), fun m0b K0b u0b s0b => ?_⟩
    refine ⟨_, rfl, _, rfl, z, dz, _, z, dz, _, rfl, (s0b _ _ ez2), rfl, (s0b _ _ ez2), z, .ref z, k.1, k.2, k.1, k.2, rfl, (nz2.same s0b), (nz2.same s0b), fun m1b K1b u1b s1b => ?_⟩
    have S1b := s0b.trans s1b
    refine ⟨_, rfl, _, rfl, z, dz, _, z, dz, _, rfl, (S1b _ _ ez2), rfl, (S1b _ _ ez2), z, .ref z, k.1, k.2, k.1, k.2, rfl, (nz2.same S1b), (nz2.same S1b), fun m2b K2b u2b s2b => ?_⟩
    have S2b := S1b.trans s2b
    refine ⟨_, rfl, z, dz, _, rfl, (S2b _ _ ez2), z, k.1, k.2, rfl, (nz2.same S2b), fun m3b K3b u3b s3b => ?_⟩
    have S3b := S2b.trans s3b
    refine ⟨_, rfl, z, dz, _, rfl, (S3b _ _ ez2), over_no' _ _, _, rfl, z, .ref z, k.1, k.2, k.1, k.2, rfl, (nz2.same S3b), (nz2.same S3b), by omega, fun m4b K4b u4b s4b => ?_⟩
    have S4b := S3b.trans s4b
    refine ⟨rfl, _, rfl, _, rfl, [.ref z, .ref z], [k, k], rfl, (by show 2 ≤ 6; decide), sms2 (sm_of (nz2.same S4b) bk1 bk2), fun m5b K5b u5b s5b => ?_⟩
    have S5b := S4b.trans s5b
    refine ⟨(by show 6 ≤ sizeLine; decide), fun lb hlb => ?_⟩
    have S6b := same_upd (o := .lst [V.ref m0b, V.ref m1b, V.ref m2b, V.ref m3b, V.ref m4b, V.ref m5b]) hlb
    have SB := S5b.trans S6b
    have E4b := s5b.trans S6b
    have E3b := s4b.trans E4b
    have E2b := s3b.trans E3b
    have E1b := s2b.trans E2b
    have E0b := s1b.trans E1b
    have RRb : Par (fun a c => RatAt C (upd K5b lb (.lst [V.ref m0b, V.ref m1b, V.ref m2b, V.ref m3b, V.ref m4b, V.ref m5b])) a c.1 c.2) [m0b, m1b, m2b, m3b, m4b, m5b] (sixF k) := Par.cons (u0b.same E0b) (Par.cons (u1b.same E1b) (Par.cons (u2b.same E2b) (Par.cons (u3b.same E3b) (Par.cons (u4b.same E4b) (Par.one (u5b.same S6b))))))
    have LLb : upd K5b lb (.lst [V.ref m0b, V.ref m1b, V.ref m2b, V.ref m3b, V.ref m4b, V.ref m5b]) lb = some (.lst ([m0b, m1b, m2b, m3b, m4b, m5b].map V.ref)) := upd_same
    generalize upd K5b lb (.lst [V.ref m0b, V.ref m1b, V.ref m2b, V.ref m3b, V.ref m4b, V.ref m5b]) = H11 at SB RRb LLb ⊢
    refine ⟨_, rfl, _, rfl, (by show 2 ≤ sizeLine; decide), fun u2 hu2 => ?_⟩
    have su2 := same_upd (o := .lst [V.ref z, V.ref lb]) hu2
    have RRv := Par.imp (S := fun a c => RatAt C (upd H11 u2 (.lst [V.ref z, V.ref lb])) a c.1 c.2) RRb fun _ _ h => h.same su2
    have hz11 : RatAt C H11 z k.1 k.2 := ⟨dz, SB _ _ ez2⟩
    refine ⟨u2, _, sixT k, rfl, SqL.of upd_same, rfl, six_items (hz11.same su2) bk1 bk2 sb (fun e => by rw [e, LLb] at hu2; cases hu2) (su2 _ _ LLb) RRv, six_len sb bk1 bk2, fun H12 s12 => ⟨_, rfl, rfl, ?_⟩⟩
    rw [dec_self]
    refine ⟨true, rfl, iteT ?_⟩
    have s912 : Same H9 H12 := (su.trans s10).trans (SB.trans (su2.trans s12))
    have s1112 := su2.trans s12
    have RA := Par.imp (S := fun a c => RatAt C H12 a c.1 c.2) RRa fun _ _ h => h.same s912
    have RB := Par.imp (S := fun a c => RatAt C H12 a c.1 c.2) RRb fun _ _ h => h.same s1112
    refine ⟨_, rfl, _, rfl, true, ⟨la, lb, _, _, fun _ => true, rfl, rfl, s912 _ _ LLa, s1112 _ _ LLb, rfl, fun i x y e1 e2 => ?_, rfl⟩, fun H13 s13 => ⟨true, rfl, iteT ?_⟩⟩
    · rw [List.getElem?_map] at e1 e2
      cases c1 : ([m0a, m1a, m2a, m3a, m4a, m5a] : List Addr)[i]? with
      | none => rw [c1] at e1; exact nomatch e1
      | some a => cases c2 : ([m0b, m1b, m2b, m3b, m4b, m5b] : List Addr)[i]? with
        | none => rw [c2] at e2; exact nomatch e2
        | some b =>
          rw [c1] at e1
          rw [c2] at e2
          cases e1
          cases e2
          obtain ⟨q1, f1, r1'⟩ := RA.getL c1
          obtain ⟨q2, f2, r2'⟩ := RB.getL c2
          rw [f1] at f2
          cases f2
          exact ⟨a, b, q1.1, q1.2, q1.1, q1.2, rfl, rfl, r1', r2', (dec_self (q1.1, q1.2)).symm⟩
    have sE : Same H8 H13 := sA.trans (SB.trans (s1112.trans s13))
    refine ⟨_, rfl, _, rfl, _, rfl, ?_⟩
    refine rat_new lo0 (bl.mono (by decide)) fun y H14 hy s14 _ => ?_
    rw [← hk] at hy
    obtain ⟨dy, ey⟩ := id hy
    have ez3 := s14 _ _ (sE _ _ ez)
    refine ⟨z, dz, _, .ref C, rfl, ez3, .base (.ins ey T.cl T.ca T.cg T.ct T.cm), Q_.nf, z, .ref y, k.1, k.2, rfl, ⟨dz, ez3⟩, .inl ⟨y, k.1, k.2, rfl, hy, ?_⟩⟩
    rw [dec_self]
    exact q _ (st8.sm (sE.trans s14))
end
end Lb
/-! The law itself. -/
namespace Lb
open PySem PySem.Spec PyProof.Rows L2 Ow Pt Rm Ra La Tb
section
variable {P : Program} {w : World} {K : PySem.W.Frag} {mg : Str → Option Value} {base : Heap}
def spLaw (K : PySem.W.Frag) : Sp := fun vs H Q _ => ∃ (a : Addr) (ns : List Int), vs = [.ref a] ∧ ns.length ≤ 63 ∧ SqL K H a (ns.map V.int) ∧ ∀ H', Q (.bl true) H'
abbrev n_law : List Str := ["_law_script", "_law_k"]
theorem sc_law : FnScope n_law ["_law_script"] (defScope d_law) := ⟨rfl, rfl, rfl, by decide +kernel, rfl, by decide +kernel, by decide +kernel⟩
theorem ok_law {f : Addr} {fd : FuncData} (F : FnP K "law" "law" d_law [] f fd) (B : Blt mg) (dPo : Dfn P w K mg base 1 "_law_pot" ["_law_script", "_law_k"] (spPot K)) (dRi : DfnG P w K mg base 14 "_law_right" ["_law_pot_here"] (spRi K)) :
    FnG P w K mg base CX0 15 f fd ["_law_script"] (spLaw K) := by
  refine fnG_ok (k := 14) F sc_law (fun vs H Q E h => ?_) (fun cdv A outer s H vs Q E hr hg h => ?_)
  · obtain ⟨a, ns, rfl, _⟩ := h
    rfl
  · obtain ⟨a, ns, rfl, hn, hs, q⟩ := h
    have hr1 := hr.mono (by decide : 1 ≤ 14)
    refine ⟨_, PSs.nox (pss_one (ps_ret (pe_callB (cr_all rfl) (by rfl) B.all PyProof.Rows.boot_all (pa_cons (pe_lc rfl sc_law.nd (pi_range1 rfl B.range (pa_cons (pe_callB (call_max2 rfl) (by rfl) B.max PyProof.Rows.boot_max (pa_cons pe_int (pa_cons (pe_callB (call_min2 rfl) (by rfl) B.min PyProof.Rows.boot_min (pa_cons (pe_callB (r := rLenS K) call_len_seq (by rfl) B.len PySem.boot_len (pa_cons (pv 0) pa_nil)) (pa_cons pe_int pa_nil))) pa_nil))) pa_nil)) (blkOk_by (own := [("_law_k", 1)]) (by show blkC n_law (defScope d_law) _ _ = true; decide +kernel)) (fun _ _ _ _ _ => pg_name (i := 1) sc_law.nd rfl (.inl rfl)) (fun _ _ _ _ _ => pts_nil) (fun _ _ _ _ _ => (pe_useG dRi hr hg rfl (pa_cons (pe_use dPo hr1 rfl (pa_cons (pv 0) (pa_cons (pv 1) pa_nil))) pa_nil)))) pa_nil)))), ?_⟩
    refine ⟨_, rfl, a, _, rfl, .inl hs, _, _, rfl, _, _, rfl, ?_⟩
    generalize hN : (ns.map V.int).length = n
    have hb : ∀ r : Int, r = (if (if (3 : Int) < (n : Int) then (3 : Int) else (n : Int)) > 1 then (if (3 : Int) < (n : Int) then (3 : Int) else (n : Int)) else 1) → 0 ≤ r ∧ r ≤ 3 := by
      intro r e
      subst e
      split <;> split <;> omega
    obtain ⟨r0, r3⟩ := hb _ rfl
    generalize (if (if (3 : Int) < (n : Int) then (3 : Int) else (n : Int)) > 1 then (if (3 : Int) < (n : Int) then (3 : Int) else (n : Int)) else 1) = r at r0 r3 ⊢
    refine ⟨r, rfl, Int.le_trans (by decide) r0, Int.lt_of_le_of_lt r3 (by decide), fun D0 hD => ?_⟩
    refine lc_range (lo := 0) (n := r.toNat) (fun i H' => Same H H' ∧ H' D0 = some (.lst ((List.replicate i true).map V.bl))) ⟨same_upd hD, upd_same⟩ ?_ ?_
    · rintro i H5 hi ⟨s5, hD5⟩
      refine ⟨rfl, tYes_at ?_⟩
      refine ⟨_, rfl, _, rfl, a, ns, _, rfl, SqL.ext hs s5, by omega, fun p x y hx hp => ?_⟩
      refine ⟨p, rfl, ⟨x, y, upd_same, hx⟩, fun H7 s7 => ?_⟩
      have nDp : D0 ≠ p := ne_of_none hD5 hp
      have hD7 := s7.keep D0 _ nDp (by rw [upd_ne nDp]; exact hD5)
      refine ⟨_, hD7, ?_, fun b o e => ?_, ?_⟩
      · rw [List.length_map, List.length_replicate]
        exact Nat.lt_of_le_of_lt (show i ≤ 1000 by omega) (by decide)
      · have e5 := s5 _ _ e
        have n1 : b ≠ p := ne_of_none e5 hp
        have n2 : b ≠ D0 := ne_of_none e hD
        rw [upd_ne n2]
        exact s7.keep b o n1 (by rw [upd_ne n1]; exact e5)
      · rw [upd_same, List.replicate_succ', List.map_append]
        rfl
    · rintro H' ⟨s5, hD5⟩
      refine ⟨D0, List.replicate r.toNat true, rfl, SqL.of hD5, ?_⟩
      rw [allT]
      exact q _
end
end Lb
namespace Hd
open PySem PySem.Spec PyProof.Rows L2 Ow Pt Rm Ra La
section
variable {P : Program} {w : World} {K : Fr} {h : Heap} {mg : Str → Option Value} {f : Addr}
theorem facts (X : K.In h) (G : h.Ns mainGlobals mg) (hfa : mg ("law" : Str) = some (.ref f)) (c : Says cs ds K) :
    ∃ fd : FuncData, (∀ (s : Shared) (v : Value), BindsTo s fd ⟨[v], []⟩ [("_law_script", v)]) ∧ ∀ base : Heap, K.In base → base.Ns mainGlobals mg → FnG P w K mg base CX0 15 f fd ["_law_script"] (Lb.spLaw K) := by
  obtain ⟨fd0, F0⟩ := c.dfn 0 rfl
  have F0 : FnP K "is_integer" "is_integer" sIsInt [] (He.ga K "is_integer") fd0 := F0
  obtain ⟨fd1, F1⟩ := c.dfn 1 rfl
  have F1 : FnP K "is_number" "is_number" sNumber [] (He.ga K "is_number") fd1 := F1
  obtain ⟨fd2, F2⟩ := c.dfn 2 rfl
  have F2 : FnP K "as_ratio" "as_ratio" sAsRatio [] (He.ga K "as_ratio") fd2 := F2
  obtain ⟨fd3, F3⟩ := c.dfn 3 rfl
  have F3 : FnP K "__init__" "Ratio.__init__" sInit [.int 1] (pac "Ratio" "__init__" K) fd3 := F3
  obtain ⟨fd4, F4⟩ := c.dfn 4 rfl
  have F4 : FnP K "top" "Ratio.top" sTop [] (getac "Ratio" "top" K) fd4 := F4
  obtain ⟨fd5, F5⟩ := c.dfn 5 rfl
  have F5 : FnP K "bottom" "Ratio.bottom" sBottom [] (getac "Ratio" "bottom" K) fd5 := F5
  obtain ⟨fd6, F6⟩ := c.dfn 6 rfl
  have F6 : FnP K "sign" "Ratio.sign" sSign [] (getac "Ratio" "sign" K) fd6 := F6
  obtain ⟨fd7, F7⟩ := c.dfn 7 rfl
  have F7 : FnP K "total" "Ratio.total" sTotal [] (cmac "Ratio" "total" K) fd7 := F7
  obtain ⟨fd8, F8⟩ := c.dfn 8 rfl
  have F8 : FnP K "__add__" "Ratio.__add__" sAdd [] (pac "Ratio" "__add__" K) fd8 := F8
  obtain ⟨fd9, F9⟩ := c.dfn 9 rfl
  have F9 : FnP K "__mul__" "Ratio.__mul__" sMul [] (pac "Ratio" "__mul__" K) fd9 := F9
  obtain ⟨fd10, F10⟩ := c.dfn 10 rfl
  have F10 : FnP K "over" "Ratio.over" sOver [] (pac "Ratio" "over" K) fd10 := F10
  obtain ⟨fd11, F11⟩ := c.dfn 11 rfl
  have F11 : FnP K "__sub__" "Ratio.__sub__" sSub [] (pac "Ratio" "__sub__" K) fd11 := F11
  obtain ⟨fd12, F12⟩ := c.dfn 12 rfl
  have F12 : FnP K "__neg__" "Ratio.__neg__" sNeg [] (pac "Ratio" "__neg__" K) fd12 := F12
  obtain ⟨fd13, F13⟩ := c.dfn 13 rfl
  have F13 : FnP K "is_below" "Ratio.is_below" sBelow [] (pac "Ratio" "is_below" K) fd13 := F13
  obtain ⟨fd14, F14⟩ := c.dfn 14 rfl
  have F14 : FnP K "__eq__" "Ratio.__eq__" sEq [] (pac "Ratio" "__eq__" K) fd14 := F14
  obtain ⟨fd15, F15⟩ := c.dfn 15 rfl
  have F15 : FnP K "__repr__" "Ratio.__repr__" sRepr [] (pac "Ratio" "__repr__" K) fd15 := F15
  obtain ⟨fd16, F16⟩ := c.dfn 16 rfl
  have F16 : FnP K "is_place" "is_place" d_is_place [] (He.ga K "is_place") fd16 := F16
  obtain ⟨fd17, F17⟩ := c.dfn 17 rfl
  have F17 : FnP K "without_divisor" "without_divisor" d_without_divisor [] (He.ga K "without_divisor") fd17 := F17
  obtain ⟨fd18, F18⟩ := c.dfn 18 rfl
  have F18 : FnP K "whole_numbers" "whole_numbers" d_whole_numbers [] (He.ga K "whole_numbers") fd18 := F18
  obtain ⟨fd19, F19⟩ := c.dfn 19 rfl
  have F19 : FnP K "check_table" "check_table" d_check_table [] (He.ga K "check_table") fd19 := F19
  obtain ⟨fd20, F20⟩ := c.dfn 20 rfl
  have F20 : FnP K "check_many" "check_many" d_check_many [] (He.ga K "check_many") fd20 := F20
  obtain ⟨fd21, F21⟩ := c.dfn 21 rfl
  have F21 : FnP K "check_points" "check_points" d_check_points [] (He.ga K "check_points") fd21 := F21
  obtain ⟨fd22, F22⟩ := c.dfn 22 rfl
  have F22 : FnP K "check_steps" "check_steps" d_check_steps [] (He.ga K "check_steps") fd22 := F22
  obtain ⟨fd23, F23⟩ := c.dfn 23 rfl
  have F23 : FnP K "__init__" "Table.__init__" d_Table___init__ [] (pac "Table" "__init__" K) fd23 := F23
  obtain ⟨fd24, F24⟩ := c.dfn 24 rfl
  have F24 : FnP K "of_steps" "Table.of_steps" d_Table_of_steps [] (cmac "Table" "of_steps" K) fd24 := F24
  obtain ⟨fd25, F25⟩ := c.dfn 25 rfl
  have F25 : FnP K "points" "Table.points" d_Table_points [] (pac "Table" "points" K) fd25 := F25
  obtain ⟨fd26, F26⟩ := c.dfn 26 rfl
  have F26 : FnP K "steps" "Table.steps" d_Table_steps [] (pac "Table" "steps" K) fd26 := F26
  obtain ⟨fd27, F27⟩ := c.dfn 27 rfl
  have F27 : FnP K "__getitem__" "Table.__getitem__" d_Table___getitem__ [] (pac "Table" "__getitem__" K) fd27 := F27
  obtain ⟨fd28, F28⟩ := c.dfn 28 rfl
  have F28 : FnP K "paid" "Table.paid" d_Table_paid [] (getac "Table" "paid" K) fd28 := F28
  obtain ⟨fd29, F29⟩ := c.dfn 29 rfl
  have F29 : FnP K "reduced" "Table.reduced" d_Table_reduced [] (pac "Table" "reduced" K) fd29 := F29
  obtain ⟨fd30, F30⟩ := c.dfn 30 rfl
  have F30 : FnP K "__add__" "Table.__add__" d_Table___add__ [] (pac "Table" "__add__" K) fd30 := F30
  obtain ⟨fd31, F31⟩ := c.dfn 31 rfl
  have F31 : FnP K "__mul__" "Table.__mul__" d_Table___mul__ [] (pac "Table" "__mul__" K) fd31 := F31
  obtain ⟨fd32, F32⟩ := c.dfn 32 rfl
  have F32 : FnP K "__rmul__" "Table.__rmul__" d_Table___rmul__ [] (pac "Table" "__rmul__" K) fd32 := F32
  obtain ⟨fd33, F33⟩ := c.dfn 33 rfl
  have F33 : FnP K "__eq__" "Table.__eq__" d_Table___eq__ [] (pac "Table" "__eq__" K) fd33 := F33
  obtain ⟨fd34, F34⟩ := c.dfn 34 rfl
  have F34 : FnP K "__repr__" "Table.__repr__" d_Table___repr__ [] (pac "Table" "__repr__" K) fd34 := F34
  obtain ⟨fd35, F35⟩ := c.dfn 35 rfl
  have F35 : FnP K "_law_pot" "_law_pot" sPot [] (He.ga K "_law_pot") fd35 := F35
  obtain ⟨fd36, F36⟩ := c.dfn 36 rfl
  have F36 : FnP K "_law_draw" "_law_draw" sDraw [] (He.ga K "_law_draw") fd36 := F36
  obtain ⟨fd37, F37⟩ := c.dfn 37 rfl
  have F37 : FnP K "_law_pick" "_law_pick" sPick [] (He.ga K "_law_pick") fd37 := F37
  obtain ⟨fd38, F38⟩ := c.dfn 38 rfl
  have F38 : FnP K "_law_common" "_law_common" sCommon [] (He.ga K "_law_common") fd38 := F38
  obtain ⟨fd39, F39⟩ := c.dfn 39 rfl
  have F39 : FnP K "_law_low" "_law_low" sLow [] (He.ga K "_law_low") fd39 := F39
  obtain ⟨fd40, F40⟩ := c.dfn 40 rfl
  have F40 : FnP K "_law_plus" "_law_plus" sPlus [] (He.ga K "_law_plus") fd40 := F40
  obtain ⟨fd41, F41⟩ := c.dfn 41 rfl
  have F41 : FnP K "_law_minus" "_law_minus" sMinus [] (He.ga K "_law_minus") fd41 := F41
  obtain ⟨fd42, F42⟩ := c.dfn 42 rfl
  have F42 : FnP K "_law_steps" "_law_steps" d__law_steps [] (He.ga K "_law_steps") fd42 := F42
  obtain ⟨fd43, F43⟩ := c.dfn 43 rfl
  have F43 : FnP K "_law_points" "_law_points" d__law_points [] (He.ga K "_law_points") fd43 := F43
  obtain ⟨fd44, F44⟩ := c.dfn 44 rfl
  have F44 : FnP K "_law_number" "_law_number" d__law_number [] (He.ga K "_law_number") fd44 := F44
  obtain ⟨fd45, F45⟩ := c.dfn 45 rfl
  have F45 : FnP K "_law_by_points" "_law_by_points" d__law_by_points [] (He.ga K "_law_by_points") fd45 := F45
  obtain ⟨fd46, F46⟩ := c.dfn 46 rfl
  have F46 : FnP K "_law_by_steps" "_law_by_steps" d__law_by_steps [] (He.ga K "_law_by_steps") fd46 := F46
  obtain ⟨fd47, F47⟩ := c.dfn 47 rfl
  have F47 : FnP K "_law_all" "_law_all" d__law_all [] (He.ga K "_law_all") fd47 := F47
  obtain ⟨fd48, F48⟩ := c.dfn 48 rfl
  have F48 : FnP K "_law_spoil" "_law_spoil" d__law_spoil [] (He.ga K "_law_spoil") fd48 := F48
  obtain ⟨fd49, F49⟩ := c.dfn 49 rfl
  have F49 : FnP K "_law_lists_right" "_law_lists_right" d__law_lists_right [] (He.ga K "_law_lists_right") fd49 := F49
  obtain ⟨fd50, F50⟩ := c.dfn 50 rfl
  have F50 : FnP K "_law_deeds_right" "_law_deeds_right" d__law_deeds_right [] (He.ga K "_law_deeds_right") fd50 := F50
  obtain ⟨fd51, F51⟩ := c.dfn 51 rfl
  have F51 : FnP K "_law_shared" "_law_shared" d__law_shared [] (He.ga K "_law_shared") fd51 := F51
  obtain ⟨fd52, F52⟩ := c.dfn 52 rfl
  have F52 : FnP K "_law_right" "_law_right" d__law_right [] (He.ga K "_law_right") fd52 := F52
  obtain ⟨fd53, F53⟩ := c.dfn 53 rfl
  have F53 : FnP K "law" "law" d_law [] (He.ga K "law") fd53 := F53
  have gl : ∀ x : Str, aGlo x K = true → mg x = some (.ref (He.ga K x)) := fun x e => He.glo_ok X G e
  have fr : ∀ x : Str, aFree x K = true → mg x = none := fun x e => He.free_ok X G e
  have e := hfa.symm.trans (gl "law" (c.ask 117 rfl))
  cases e
  have b0 : Binds K fd0 ["value"] [] := F0.bindsN fun _ _ _ _ _ _ us hl => match us, hl with | [_], _ => rfl
  have b1 : Binds K fd1 ["value"] [] := F1.bindsN fun _ _ _ _ _ _ us hl => match us, hl with | [_], _ => rfl
  have b2 : Binds K fd2 ["value"] [] := F2.bindsN fun _ _ _ _ _ _ us hl => match us, hl with | [_], _ => rfl
  have b4 : Binds K fd4 ["self"] [] := F4.bindsN fun _ _ _ _ _ _ us hl => match us, hl with | [_], _ => rfl
  have b5 : Binds K fd5 ["self"] [] := F5.bindsN fun _ _ _ _ _ _ us hl => match us, hl with | [_], _ => rfl
  have b6 : Binds K fd6 ["self"] [] := F6.bindsN fun _ _ _ _ _ _ us hl => match us, hl with | [_], _ => rfl
  have b8 : Binds K fd8 ["self", "other"] [] := F8.bindsN fun _ _ _ _ _ _ us hl => match us, hl with | [_, _], _ => rfl
  have b9 : Binds K fd9 ["self", "other"] [] := F9.bindsN fun _ _ _ _ _ _ us hl => match us, hl with | [_, _], _ => rfl
  have b10 : Binds K fd10 ["self", "other"] [] := F10.bindsN fun _ _ _ _ _ _ us hl => match us, hl with | [_, _], _ => rfl
  have b11 : Binds K fd11 ["self", "other"] [] := F11.bindsN fun _ _ _ _ _ _ us hl => match us, hl with | [_, _], _ => rfl
  have b12 : Binds K fd12 ["self"] [] := F12.bindsN fun _ _ _ _ _ _ us hl => match us, hl with | [_], _ => rfl
  have b13 : Binds K fd13 ["self", "other"] [] := F13.bindsN fun _ _ _ _ _ _ us hl => match us, hl with | [_, _], _ => rfl
  have b14 : Binds K fd14 ["self", "other"] [] := F14.bindsN fun _ _ _ _ _ _ us hl => match us, hl with | [_, _], _ => rfl
  have b15 : Binds K fd15 ["self"] [] := F15.bindsN fun _ _ _ _ _ _ us hl => match us, hl with | [_], _ => rfl
  have b16 : Binds K fd16 ["value"] [] := F16.bindsN fun _ _ _ _ _ _ us hl => match us, hl with | [_], _ => rfl
  have b17 : Binds K fd17 ["numbers"] [] := F17.bindsN fun _ _ _ _ _ _ us hl => match us, hl with | [_], _ => rfl
  have b18 : Binds K fd18 ["ratios"] [] := F18.bindsN fun _ _ _ _ _ _ us hl => match us, hl with | [_], _ => rfl
  have b19 : Binds K fd19 ["table"] [] := F19.bindsN fun _ _ _ _ _ _ us hl => match us, hl with | [_], _ => rfl
  have b20 : Binds K fd20 ["numbers"] [] := F20.bindsN fun _ _ _ _ _ _ us hl => match us, hl with | [_], _ => rfl
  have b21 : Binds K fd21 ["points"] [] := F21.bindsN fun _ _ _ _ _ _ us hl => match us, hl with | [_], _ => rfl
  have b22 : Binds K fd22 ["steps"] [] := F22.bindsN fun _ _ _ _ _ _ us hl => match us, hl with | [_], _ => rfl
  have b25 : Binds K fd25 ["self"] [] := F25.bindsN fun _ _ _ _ _ _ us hl => match us, hl with | [_], _ => rfl
  have b26 : Binds K fd26 ["self"] [] := F26.bindsN fun _ _ _ _ _ _ us hl => match us, hl with | [_], _ => rfl
  have b27 : Binds K fd27 ["self", "at"] [] := F27.bindsN fun _ _ _ _ _ _ us hl => match us, hl with | [_, _], _ => rfl
  have b28 : Binds K fd28 ["self"] [] := F28.bindsN fun _ _ _ _ _ _ us hl => match us, hl with | [_], _ => rfl
  have b29 : Binds K fd29 ["self"] [] := F29.bindsN fun _ _ _ _ _ _ us hl => match us, hl with | [_], _ => rfl
  have b30 : Binds K fd30 ["self", "other"] [] := F30.bindsN fun _ _ _ _ _ _ us hl => match us, hl with | [_, _], _ => rfl
  have b31 : Binds K fd31 ["self", "other"] [] := F31.bindsN fun _ _ _ _ _ _ us hl => match us, hl with | [_, _], _ => rfl
  have b32 : Binds K fd32 ["self", "other"] [] := F32.bindsN fun _ _ _ _ _ _ us hl => match us, hl with | [_, _], _ => rfl
  have b33 : Binds K fd33 ["self", "other"] [] := F33.bindsN fun _ _ _ _ _ _ us hl => match us, hl with | [_, _], _ => rfl
  have b34 : Binds K fd34 ["self"] [] := F34.bindsN fun _ _ _ _ _ _ us hl => match us, hl with | [_], _ => rfl
  have b35 : Binds K fd35 ["_law_script", "_law_k"] [] := F35.bindsN fun _ _ _ _ _ _ us hl => match us, hl with | [_, _], _ => rfl
  have b36 : Binds K fd36 ["_law_pot_here", "_law_many"] [] := F36.bindsN fun _ _ _ _ _ _ us hl => match us, hl with | [_, _], _ => rfl
  have b37 : Binds K fd37 ["_law_pot_here", "_law_some"] [] := F37.bindsN fun _ _ _ _ _ _ us hl => match us, hl with | [_, _], _ => rfl
  have b38 : Binds K fd38 ["_law_one", "_law_two"] [] := F38.bindsN fun _ _ _ _ _ _ us hl => match us, hl with | [_, _], _ => rfl
  have b39 : Binds K fd39 ["_law_up", "_law_low_here"] [] := F39.bindsN fun _ _ _ _ _ _ us hl => match us, hl with | [_, _], _ => rfl
  have b40 : Binds K fd40 ["_law_a", "_law_b"] [] := F40.bindsN fun _ _ _ _ _ _ us hl => match us, hl with | [_, _], _ => rfl
  have b41 : Binds K fd41 ["_law_a", "_law_b"] [] := F41.bindsN fun _ _ _ _ _ _ us hl => match us, hl with | [_, _], _ => rfl
  have b42 : Binds K fd42 ["_law_pot_here"] [] := F42.bindsN fun _ _ _ _ _ _ us hl => match us, hl with | [_], _ => rfl
  have b43 : Binds K fd43 ["_law_steps_here"] [] := F43.bindsN fun _ _ _ _ _ _ us hl => match us, hl with | [_], _ => rfl
  have b44 : Binds K fd44 ["_law_pot_here", "_law_a"] [] := F44.bindsN fun _ _ _ _ _ _ us hl => match us, hl with | [_, _], _ => rfl
  have b45 : Binds K fd45 ["_law_row"] [] := F45.bindsN fun _ _ _ _ _ _ us hl => match us, hl with | [_], _ => rfl
  have b46 : Binds K fd46 ["_law_row"] [] := F46.bindsN fun _ _ _ _ _ _ us hl => match us, hl with | [_], _ => rfl
  have b47 : Binds K fd47 ["_law_made"] [] := F47.bindsN fun _ _ _ _ _ _ us hl => match us, hl with | [_], _ => rfl
  have b48 : Binds K fd48 ["_law_pot_here", "_law_row"] [] := F48.bindsN fun _ _ _ _ _ _ us hl => match us, hl with | [_, _], _ => rfl
  have b49 : Binds K fd49 ["_law_pot_here", "_law_bag"] [] := F49.bindsN fun _ _ _ _ _ _ us hl => match us, hl with | [_, _], _ => rfl
  have b50 : Binds K fd50 ["_law_pot_here", "_law_bag"] [] := F50.bindsN fun _ _ _ _ _ _ us hl => match us, hl with | [_, _], _ => rfl
  have b51 : Binds K fd51 ["_law_pot_here"] [] := F51.bindsN fun _ _ _ _ _ _ us hl => match us, hl with | [_], _ => rfl
  have b52 : Binds K fd52 ["_law_pot_here"] [] := F52.bindsN fun _ _ _ _ _ _ us hl => match us, hl with | [_], _ => rfl
  have bL := FunD.bindsA (ps := ["_law_script"]) F53 fun _ _ _ _ _ _ us hl => match us, hl with | [_], _ => rfl
  refine ⟨fd53, fun s v => bL s [v] rfl, fun base kin _ => ?_⟩

  let C : Addr := He.ga K "Ratio"
  let D : Addr := He.ga K "Table"
  have T : RT K mg C := ⟨He.cls_ok (c.ask 0 rfl), He.noat_ok (c.ask 1 rfl), He.noat_ok (c.ask 2 rfl), (gl "Ratio" (c.ask 3 rfl)), num_of (c.ask 4 rfl) (c.ask 5 rfl) (c.ask 6 rfl), He.eqO_ok (c.ask 7 rfl), He.eqO_ok (c.ask 8 rfl), of_decide_eq_true (c.ask 9 rfl),
    mro_of (c.ask 10 rfl), (kit_of' (c.ask 11 rfl)), (kit_of' (c.ask 12 rfl)), (fr "isinstance" (c.ask 13 rfl)), (fr "int" (c.ask 14 rfl)), (fr "bool" (c.ask 15 rfl)), (fr "str" (c.ask 16 rfl)), PySem.W.mg_of X G (He.eqO_ok (c.ask 17 rfl))⟩
  have L : LT mg := ⟨(fr "len" (c.ask 18 rfl)), (fr "abs" (c.ask 19 rfl)), (fr "max" (c.ask 20 rfl)), (fr "min" (c.ask 21 rfl)), (fr "int" (c.ask 14 rfl)), (fr "divmod" (c.ask 22 rfl)), (fr "range" (c.ask 23 rfl)), (fr "all" (c.ask 24 rfl)), (fr "zip" (c.ask 25 rfl)), (fr "repr" (c.ask 26 rfl)), (fr "str" (c.ask 16 rfl)), (fr "isinstance" (c.ask 13 rfl))⟩
  have B : Tb.Blt mg := ⟨(fr "len" (c.ask 18 rfl)), (fr "list" (c.ask 27 rfl)), (fr "tuple" (c.ask 28 rfl)), (fr "str" (c.ask 16 rfl)), (fr "int" (c.ask 14 rfl)), (fr "bool" (c.ask 15 rfl)), (fr "isinstance" (c.ask 13 rfl)), (fr "all" (c.ask 24 rfl)), (fr "any" (c.ask 29 rfl)), (fr "enumerate" (c.ask 30 rfl)), (fr "range" (c.ask 23 rfl)), (fr "min" (c.ask 21 rfl)), (fr "max" (c.ask 20 rfl)), (fr "abs" (c.ask 19 rfl)), (fr "divmod" (c.ask 22 rfl)), (fr "repr" (c.ask 26 rfl)), (fr "zip" (c.ask 25 rfl))⟩
  have KT1 : Ra.KT K mg C := ⟨(kit_of' (c.ask 31 rfl)), (kit_of' (c.ask 32 rfl)), (kit_of' (c.ask 33 rfl)), (kit_of' (c.ask 34 rfl)), (fr "len" (c.ask 18 rfl)), (fr "all" (c.ask 24 rfl))⟩
  have U : Tb.TC K mg D := ⟨He.cls_ok (c.ask 35 rfl), He.noat_ok (c.ask 36 rfl), (gl "Table" (c.ask 37 rfl)), He.int_ok X G (c.ask 38 rfl)⟩
  have Z : Tb.TK K D := ⟨He.eqO_ok (c.ask 39 rfl), mro_of (c.ask 40 rfl), (kit_of' (c.ask 41 rfl))⟩
  have nD : Num K D := num_of (c.ask 42 rfl) (c.ask 43 rfl) (c.ask 44 rfl)
  have hlcm : mg ("lcm" : Str) = some (.builtin "math.lcm") := PySem.W.mg_of X G (He.eqO_ok (c.ask 45 rfl))
  have CD : D ≠ C := ne_of_ask (c.ask 46 rfl)
  have dInt : Dfn P w K mg base 1 "is_integer" ["value"] (spInt K) := ⟨⟨_, fd0, ok_isint F0 T, (gl "is_integer" (c.ask 47 rfl)), F0.kp, b0⟩⟩
  have iN : FnOk P w K mg base CX0 2 (pac "Ratio" "__init__" K) fd3 ["self", "top", "bottom"] (spInit C) := ok_init F3 T dInt
  have M : RMk P w K mg base C := by
    obtain ⟨ds2, hv2, hb2⟩ := F3.binds1 (ps := ["self", "top", "bottom"]) 3 1 (by simp) rfl fun T kV doc pm an cdv ct us its h1 h2 => match us, h1, its, h2 with | [_, _, _], _, [_], _ => ⟨_, rfl, rfl⟩
    cases hv2
    obtain ⟨ds1, hv1, hb1⟩ := F3.binds1 (ps := ["self", "top", "bottom"]) 2 0 (by simp) rfl fun T kV doc pm an cdv ct us its h1 h2 => match us, h1, its, h2 with | [_, _], _, [_], _ => ⟨_, rfl, rfl⟩
    obtain ⟨its2, kb2⟩ := F3.kbindsD (ps := ["self", "top", "bottom"]) 1 ["bottom", "top"] mix (by simp) mix_ok fun T kV doc pm an cdv ct us its ws h1 h2 h3 => match us, h1, its, h2, ws, h3 with | [_], _, [_], _, [_, _], _ => ⟨_, rfl, rfl⟩
    exact ⟨⟨(pac "Ratio" "__init__" K), fd3, He.mkr_ok (c.ask 48 rfl), iN, hb2, ⟨ds1, hv1, hb1⟩, _, _, kb2, fun _ _ _ => rfl⟩⟩
  have dAs : Dfn P w K mg base 4 "as_ratio" ["value"] (spAs C) := ⟨⟨_, fd2, ok_as F2 T M, (gl "as_ratio" (c.ask 49 rfl)), F2.kp, b2⟩⟩
  have pT : Ra.Prp P w K mg base C "top" (spTop C) := ⟨⟨_, _, fd4, prp_of (c.ask 50 rfl), ok_top F4 T, b4⟩⟩
  have pB : Ra.Prp P w K mg base C "bottom" (spBottom C) := ⟨⟨_, _, fd5, prp_of (c.ask 51 rfl), ok_bottom F5 T, b5⟩⟩
  have pS : Ra.Prp P w K mg base C "sign" (spSign C) := ⟨⟨_, _, fd6, prp_of (c.ask 52 rfl), ok_sign F6 T, b6⟩⟩
  have oA : OpX P w K mg base C .Add 5 (spBin plus C) := ⟨⟨_, fd8, op_of (c.ask 53 rfl), ok_add F8 T M dAs pT pB, b8⟩, ⟨_, (op_of (x := "__radd__") (c.ask 54 rfl)).at_, .inr ⟨_, rfl⟩⟩, int_of (x := "__add__") (c.ask 55 rfl), int_of (x := "__radd__") (c.ask 56 rfl)⟩
  have oN : OpN P w K mg base C 4 (spNeg C) := ⟨⟨_, fd12, op_of (c.ask 57 rfl), ok_neg F12 T M, b12⟩⟩
  have oS : OpX P w K mg base C .Sub 6 (spBin minus C) := ⟨⟨_, fd11, op_of (c.ask 58 rfl), ok_sub F11 T oA oN dAs, b11⟩, ⟨_, (op_of (x := "__rsub__") (c.ask 59 rfl)).at_, .inr ⟨_, rfl⟩⟩, int_of (x := "__sub__") (c.ask 60 rfl), int_of (x := "__rsub__") (c.ask 61 rfl)⟩
  have oM : OpX P w K mg base C .Mult 5 (spBin times C) := ⟨⟨_, fd9, op_of (c.ask 62 rfl), ok_mul F9 T M dAs pT pB, b9⟩, ⟨_, (op_of (x := "__rmul__") (c.ask 63 rfl)).at_, .inr ⟨_, rfl⟩⟩, int_of (x := "__mul__") (c.ask 64 rfl), int_of (x := "__rmul__") (c.ask 65 rfl)⟩
  have mOv : Mtd P w K mg base 5 C "over" ["self", "other"] (spOver C) := ⟨⟨_, _, He.meth_ok (c.ask 66 rfl), ok_over F10 T M dAs pT pB pS, b10⟩⟩
  have sR : ShX P w K mg base C "__repr__" shw := ⟨⟨_, fd15, op_of (c.ask 67 rfl), ok_repr F15 T, b15⟩⟩
  have dNu : Dfn P w K mg base 2 "is_number" ["value"] (spKnd K C isN) := ⟨⟨_, fd1, ok_number F1 KT1 T dInt, (gl "is_number" (c.ask 68 rfl)), F1.kp, b1⟩⟩
  have mB : Mtd P w K mg base 7 C "is_below" ["self", "other"] (spBelow C) := ⟨⟨_, _, He.meth_ok (c.ask 69 rfl), ok_below F13 T oS pS, b13⟩⟩
  have Q_ : EqX P w K mg base C := ⟨⟨_, _, op_of (c.ask 70 rfl), ok_eqv F14 T, b14⟩, He.eqO_ok (c.ask 71 rfl), (c.ask 72 rfl)⟩
  have cTo : CMS P w K mg base 6 C "total" (spTot C) := ⟨⟨_, _, _, rdc_of (c.ask 73 rfl), cm_of (c.ask 74 rfl), ok_total F7 T M oA⟩⟩
  have dPl : Dfn P w K mg base 2 "is_place" ["value"] (Tb.spPlace K) := ⟨⟨_, fd16, Tb.ok_is_place F16 U.places dInt, (gl "is_place" (c.ask 75 rfl)), F16.kp, b16⟩⟩
  have dMa : Dfn P w K mg base 1 "check_many" ["numbers"] (Tb.spMany K) := ⟨⟨_, fd20, Tb.ok_check_many F20 B U.places, (gl "check_many" (c.ask 76 rfl)), F20.kp, b20⟩⟩
  have dCP : Dfn P w K mg base 8 "check_points" ["points"] (Tb.spCheck K C) := ⟨⟨_, fd21, Tb.ok_check_points F21 B T dMa dNu dAs pS mB, (gl "check_points" (c.ask 77 rfl)), F21.kp, b21⟩⟩
  have dCS : Dfn P w K mg base 8 "check_steps" ["steps"] (Tb.spSteps K C) := ⟨⟨_, fd22, Tb.ok_check_steps F22 B T dMa dNu dAs pS, (gl "check_steps" (c.ask 78 rfl)), F22.kp, b22⟩⟩
  have tM : Tb.TMk P w K mg base C D := ⟨⟨_, He.mkr_ok (c.ask 79 rfl), Tb.ok_Table_init F23 B T U M dAs dCP⟩⟩
  have cO : CMS P w K mg base 11 D "of_steps" (Tb.spOS C D) := ⟨⟨_, _, _, rdc_of (c.ask 80 rfl), cm_of (c.ask 81 rfl), Tb.ok_of_steps F24 B T tM dCS cTo⟩⟩
  have mP : Mtd P w K mg base 1 D "points" ["self"] (Tb.spPts C D) := ⟨⟨_, _, He.meth_ok (c.ask 82 rfl), Tb.ok_points F25 B U, b25⟩⟩
  have mS : Mtd P w K mg base 7 D "steps" ["self"] (Tb.spStp C D) := ⟨⟨_, _, He.meth_ok (c.ask 83 rfl), Tb.ok_steps F26 B T U M oS, b26⟩⟩
  have iX : Opr P w K mg base 3 D "__getitem__" ["self", "at"] (Tb.spIx C D) := ⟨⟨_, _, op_of (c.ask 84 rfl), Tb.ok_item F27 U dPl, b27⟩⟩
  have hfX : ∀ f, OpOf K D "__getitem__" f → PySem.W.fnIn K f = true := fni_of (c.ask 84 rfl) (c.ask 85 rfl)
  have pPd : Tb.Prp P w K mg base 3 D "paid" (Tb.spPaid C D) := ⟨⟨_, _, fd28, prp_of (c.ask 86 rfl), Tb.ok_paid F28 B T U pS, b28⟩⟩
  have E_ : Lb.TEq P w K mg base C D := ⟨⟨_, _, op_of (c.ask 87 rfl), Tb.ok_teq F33 B T U Z Q_, b33⟩, (c.ask 88 rfl)⟩
  have sT : Lb.ShT P w K mg base C D := ⟨⟨_, _, op_of (c.ask 89 rfl), Tb.ok_trepr F34 B T U pS sR, b34⟩⟩
  have dWD : Dfn P w K mg base 1 "without_divisor" ["numbers"] Tb.spWD := ⟨⟨_, fd17, Tb.ok_wd F17 B T, (gl "without_divisor" (c.ask 90 rfl)), F17.kp, b17⟩⟩
  have dCT : Dfn P w K mg base 1 "check_table" ["table"] (Tb.spCT C D) := ⟨⟨_, fd19, Tb.ok_check_table F19 B T U Z, (gl "check_table" (c.ask 91 rfl)), F19.kp, b19⟩⟩
  have dWN : Dfn P w K mg base 3 "whole_numbers" ["ratios"] (Tb.spWN C) := ⟨⟨_, fd18, Tb.ok_whole_numbers F18 B T hlcm pT pB dWD (D := D), (gl "whole_numbers" (c.ask 92 rfl)), F18.kp, b18⟩⟩
  have mRd : Mtd P w K mg base 11 D "reduced" ["self"] (Tb.spRed C D) := ⟨⟨_, _, He.meth_ok (c.ask 93 rfl), Tb.ok_reduced F29 B T U tM dWN, b29⟩⟩
  have aT : OpX P w K mg base D .Add 11 (Tb.spAdd C D) := ⟨⟨_, fd30, op_of (c.ask 94 rfl), Tb.ok_tadd F30 B T U tM oA mP dCT, b30⟩, ⟨none, He.noat_ok (c.ask 95 rfl), .inl rfl⟩, int_of (x := "__add__") (c.ask 55 rfl), int_of (x := "__radd__") (c.ask 56 rfl)⟩
  have mT : OpX P w K mg base D .Mult 11 (Tb.spMulT C D) := ⟨⟨_, fd31, op_of (c.ask 96 rfl), Tb.ok_tmul F31 B T U tM oM dNu dAs pS, b31⟩, ⟨_, (op_of (x := "__rmul__") (c.ask 97 rfl)).at_, .inr ⟨_, rfl⟩⟩, int_of (x := "__mul__") (c.ask 64 rfl), int_of (x := "__rmul__") (c.ask 65 rfl)⟩
  have yT : OpY P w K mg base D .Mult 12 (Tb.spRmT C D) := ⟨⟨_, op_of (x := "__mul__") (c.ask 96 rfl)⟩, ⟨_, fd32, op_of (x := "__rmul__") (c.ask 97 rfl), Tb.ok_trmul F32 nD mT, b32⟩⟩
  have dPo : Dfn P w K mg base 1 "_law_pot" ["_law_script", "_law_k"] (spPot K) := ⟨⟨_, fd35, ok_pot F35 L, (gl "_law_pot" (c.ask 98 rfl)), F35.kp, b35⟩⟩
  have dD : Dfn P w K mg base 1 "_law_draw" ["_law_pot_here", "_law_many"] spDraw := ⟨⟨_, fd36, ok_draw F36 L, (gl "_law_draw" (c.ask 99 rfl)), F36.kp, b36⟩⟩
  have dP : Dfn P w K mg base 2 "_law_pick" ["_law_pot_here", "_law_some"] spPick := ⟨⟨_, fd37, ok_pick F37 L dD, (gl "_law_pick" (c.ask 100 rfl)), F37.kp, b37⟩⟩
  have dCom : Dfn P w K mg base 1 "_law_common" ["_law_one", "_law_two"] spCommon := ⟨⟨_, fd38, ok_common F38 L, (gl "_law_common" (c.ask 101 rfl)), F38.kp, b38⟩⟩
  have dLow : Dfn P w K mg base 2 "_law_low" ["_law_up", "_law_low_here"] spLow := ⟨⟨_, fd39, ok_low F39 dCom, (gl "_law_low" (c.ask 102 rfl)), F39.kp, b39⟩⟩
  have dPlus : Dfn P w K mg base 3 "_law_plus" ["_law_a", "_law_b"] (spP2 plus) := ⟨⟨_, fd40, ok_plus F40 dLow, (gl "_law_plus" (c.ask 103 rfl)), F40.kp, b40⟩⟩
  have dM : Dfn P w K mg base 3 "_law_minus" ["_law_a", "_law_b"] (spP2 minus) := ⟨⟨_, fd41, ok_minus F41 dLow, (gl "_law_minus" (c.ask 104 rfl)), F41.kp, b41⟩⟩
  have dSt : Dfn P w K mg base 4 "_law_steps" ["_law_pot_here"] (Lb.spSteps K) := ⟨⟨_, fd42, Lb.ok_steps F42 B dD dP dLow, (gl "_law_steps" (c.ask 105 rfl)), F42.kp, b42⟩⟩
  have dPt : Dfn P w K mg base 4 "_law_points" ["_law_steps_here"] Lb.spPoints := ⟨⟨_, fd43, Lb.ok_points F43 dPlus, (gl "_law_points" (c.ask 106 rfl)), F43.kp, b43⟩⟩
  have dN : Dfn P w K mg base 4 "_law_number" ["_law_pot_here", "_law_a"] (Lb.spNum C) := ⟨⟨_, fd44, Lb.ok_number F44 T M dD dP, (gl "_law_number" (c.ask 107 rfl)), F44.kp, b44⟩⟩
  have dBP : Dfn P w K mg base 11 "_law_by_points" ["_law_row"] (Lb.spBP C D) := ⟨⟨_, fd45, Lb.ok_by_points F45 B U tM, (gl "_law_by_points" (c.ask 108 rfl)), F45.kp, b45⟩⟩
  have dBS : Dfn P w K mg base 12 "_law_by_steps" ["_law_row"] (Lb.spBS C D) := ⟨⟨_, fd46, Lb.ok_by_steps F46 B U cO, (gl "_law_by_steps" (c.ask 109 rfl)), F46.kp, b46⟩⟩
  have dAll : DfnG P w K mg base 12 "_law_all" ["_law_made"] (Lb.spAll C D) := ⟨⟨_, fd47, Lb.ok_all F47 B T U sR sT mP mS mRd pPd iX hfX, (gl "_law_all" (c.ask 110 rfl)), F47.kp, b47⟩⟩
  have dSp : Dfn P w K mg base 4 "_law_spoil" ["_law_pot_here", "_law_row"] Lb.spSpl := ⟨⟨_, fd48, Lb.ok_spoil F48 B T M dD, (gl "_law_spoil" (c.ask 111 rfl)), F48.kp, b48⟩⟩
  have dLR : DfnG P w K mg base 13 "_law_lists_right" ["_law_pot_here", "_law_bag"] (Lb.spLR C D) := ⟨⟨_, fd49, Lb.ok_lists F49 B T U Z E_ mP mS dAll dSp, (gl "_law_lists_right" (c.ask 112 rfl)), F49.kp, b49⟩⟩
  have dDR : DfnG P w K mg base 13 "_law_deeds_right" ["_law_pot_here", "_law_bag"] (Lb.spDR C D) := ⟨⟨_, fd50, Lb.ok_deeds F50 B T U Z E_ M sR sT pT pB pS nD aT mT yT (op_of (x := "__mul__") (c.ask 62 rfl)).at_ (op_of (x := "__rmul__") (c.ask 63 rfl)).at_ (.inr ⟨_, rfl⟩) CD (sub_of (c.ask 113 rfl)) mP mS mRd dD dP dAll dSp, (gl "_law_deeds_right" (c.ask 114 rfl)), F50.kp, b50⟩⟩
  have dSh : DfnG P w K mg base 13 "_law_shared" ["_law_pot_here"] (Lb.spSh C D) := ⟨⟨_, fd51, Lb.ok_shared F51 B T U Z E_ sR sT mP dD dSt dPt dN dBP dBS, (gl "_law_shared" (c.ask 115 rfl)), F51.kp, b51⟩⟩
  have dRi : DfnG P w K mg base 14 "_law_right" ["_law_pot_here"] (Lb.spRi K) := ⟨⟨_, fd52, Lb.ok_right F52 B T U Z E_ Q_ M sR sT oA oS oM oN mOv cTo dD dSh dLR dDR, (gl "_law_right" (c.ask 116 rfl)), F52.kp, b52⟩⟩
  exact Lb.ok_law F53 B dPo dRi
end
end Hd
open PySem PySem.W PySem.Calls PyProof.Rows
theorem PySem.Challenge.cw_anypoints_k18_tables_and_ratios_share_no_holds : PySem.Challenge.rw_anypoints_k18_tables_and_ratios_share_no.Holds := by
  w_on; o_law
  refine HandSHeadRun.head_imp (r := Hd.ORow) (q := Hd.qv) (H := Hd.hk) (ob := Hd.ob) (M := 30000) (loose := Hd.loose) (d := HandSHeadRun.topDef Hd.ORow.prog 47) (kwd := []) Hd.ob_eq Hd.run
    (by kernel_rfl) (by kernel_rfl) (by kernel_rfl) (by rfl) (by first | assumption | decide +kernel) (by decide +kernel) ⟨rfl, rfl, rfl, rfl, rfl, by decide +kernel⟩ ?hw ?hc
  case hw => w_witness2
  case hc =>
    refine Ow.walk_ofG (l := PySem.Challenge.rw_anypoints_k18_tables_and_ratios_share_no) (n := 63) (k := 15) (x := "_law_script") (CX := L2.CX0) rfl (by decide) (by kernel_rfl) ⟨rfl, by decide, by decide⟩ ?F (fun _ _ _ _ z => z)
    intro w mg fa h Y G hmg0
    obtain ⟨K, KX, c⟩ := Y
    have hmg : mg ("law" : PySem.Str) = some (.ref fa) := by
      have e : (HandSHeadRun.topDef Hd.ORow.prog 47).name = ("law" : PySem.Str) := by kernel_rfl
      rw [← e]
      exact hmg0
    obtain ⟨fd, hb, hF⟩ := Hd.facts (P := (PySem.Challenge.rw_anypoints_k18_tables_and_ratios_share_no).prog) (w := w) KX G hmg c
    exact ⟨K, fd, Lb.spLaw K, KX, hb, fun H a ns hl _ hS => ⟨a, ns, rfl, hl, hS, fun _ => rfl⟩, hF⟩
