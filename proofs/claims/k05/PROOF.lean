import PyProof.Rows.All
import Wide.All
import OpenK.AllK
import Wide.FinOn
import HandS.ForMost
import HandS.Wide
import HandS.Gcd
import HandS.Property
import HandS.MakeKwOnly
import HandS.IsInst
import HandS.OwnEq
import HandS.Evl
import KE.KOpsOwn
import KE.KMathG
import PyProof.InstNe
import PyProof.ReprRoads
import HandS.Lambda
import HandS.WideBits
import PyProof.Rows.PlainNe
import HandS.RaiseMore
import Flt.RightSqrt
import HandS.ExcOwn
import HandS.TryMany
import HandS.WordsExc
import HandS.TryOnly
import HandS.Strs
import HandS.SetBool
import HandS.Zip
import PyProof.EqKinds
import KE.KEqDict
import HandS.EndTab
import KE.KNestM
import HandS.TupAny
import HandS.Style
import HandS.EndBits
import PySem.Challenge.RW_pieceround_k05_errors_of_numbers
set_option Elab.async false
set_option exponentiation.threshold 20000
set_option linter.all false
set_option maxHeartbeats 4000000
set_option maxRecDepth 100000
namespace My
open PySem PySem.Spec PyProof.Rows L2

theorem cmpBack_of {P : Value → Shared → Prop} {z : V} {w : Value} {s : Shared} (r : RelV z w) (h : P w s) : PySem.W.CmpBack P w s := by
  cases z with
  | non => cases r; exact h
  | bl _ => cases r; exact h
  | int _ => obtain ⟨t, rfl⟩ := r; exact h
  | str _ => obtain ⟨t, rfl⟩ := r; exact h
  | byt _ => obtain ⟨t, rfl⟩ := r; exact h
  | flt _ => obtain ⟨t, rfl⟩ := r; exact h
  | ref _ => cases r; exact h
  | ty _ => cases r; exact h

/-- the class at C has the def at f as its operator -/
structure OwnOp (K : PySem.W.Frag) (C : Addr) (op : Operator) (f : Addr) : Prop where
  sf : PySem.W.selfFirst K C = true
  at_ : PySem.W.findIn K (.ref C) (PySem.dunder op.info.2) = some (some (.ref f))
  fn : PySem.W.isFn K (.ref f) = true
  rr : PySem.W.findIn K (.ref C) (dunderR op.info.2) = some none
  i1 : ∃ fo, PySem.W.findIn K (.type "int") (PySem.dunder op.info.2) = some fo
  i2 : ∃ ro, PySem.W.findIn K (.type "int") (dunderR op.info.2) = some ro
  sub : PySem.W.subIn K (.type "int") (.ref C) = some false

/-- x op y, x an instance, y an instance or an int -/
def rOwn (C : Addr) (sp : Sp) (E : XK) : R2 := fun x y H Q => ∃ a dx fs, x = .ref a ∧ H a = some (.ins C dx fs) ∧ ((∃ i, y = .int i) ∨ ∃ b dy gs, y = .ref b ∧ H b = some (.ins C dy gs)) ∧ sp [.ref a, y] H Q E

section
variable {X : Cx} {CX : CXT} {k : Nat} {f C : Addr} {fd : FuncData} {ps : List Str} {sp : Sp} {E : XK} {op : Operator}
theorem op_own (W : OwnOp X.K C op f) (F : FnOk X.prog X.w X.K X.mg X.base CX k f fd ps sp) (hr : Room k X.A) (hb : Binds X.K fd ps []) (hx : Passes CX X E) : OpR X (binaryOp op) (rOwn C sp E) := by
  intro pins s σ H x y v u Q I rx ry hq
  obtain ⟨a, dx, fs, rfl, ea, hy, hsp⟩ := hq
  cases rx
  obtain ⟨mA, O, _⟩ := ins_get I.hok ea
  obtain ⟨od, J, _⟩ := O.look
  obtain ⟨m, hF⟩ := I.fr
  have hcall : wpAny (model X.prog X.w) X.A (call (.ref f) [.ref a, u]) (PySem.W.CmpBack (EP X pins σ Q)) X.xe s := by
    refine wpAny_mono (run_fn (us := [.ref a, u]) (vs := [.ref a, y]) (dvs := []) (ds := []) F hr hb .nil hx I (.cons rfl (.cons ry .nil)) hsp) (fun w s' hw => ?_) fun _ _ e => e
    obtain ⟨z, H', I', rz, q⟩ := hw
    exact cmpBack_of rz ⟨z, H', I', rz, q⟩
  rcases hy with ⟨i, rfl⟩ | ⟨b, dy, gs, rfl, eb⟩
  · obtain ⟨t, rfl⟩ := ry
    obtain ⟨fo, h1⟩ := W.i1
    obtain ⟨ro, h2⟩ := W.i2
    exact PySem.W.ksp_binT (T := "int") hF I.ok.mod.kin J (by rfl) W.sf W.at_ W.fn W.rr (.inl rfl) h1 h2 W.sub hcall
  · cases ry
    obtain ⟨mB, O', _⟩ := ins_get I.hok eb
    obtain ⟨od', J', _⟩ := O'.look
    exact PySem.W.binop_K hF I.ok.mod.kin J J'.type W.sf W.at_ W.fn hcall

/-- -x -/
def rOwnU (C : Addr) (sp : Sp) (E : XK) : V → Hp → VK → Prop := fun x H Q => ∃ a dx fs, x = .ref a ∧ H a = some (.ins C dx fs) ∧ sp [.ref a] H Q E
theorem un_ownNeg (hs : PySem.W.findIn X.K (.ref C) "__neg__" = some (some (.ref f))) (hf : PySem.W.isFn X.K (.ref f) = true) (F : FnOk X.prog X.w X.K X.mg X.base CX k f fd ps sp) (hr : Room k X.A) (hb : Binds X.K fd ps []) (hx : Passes CX X E) : UnR X (unaryOp .USub) (rOwnU C sp E) := by
  intro pins s σ H x v Q I rx hq
  obtain ⟨a, dx, fs, rfl, ea, hsp⟩ := hq
  cases rx
  obtain ⟨mA, O, _⟩ := ins_get I.hok ea
  obtain ⟨od, J, _⟩ := O.look
  obtain ⟨m, hF⟩ := I.fr
  exact PySem.W.ksp_neg hF I.ok.mod.kin J hs hf (run_fn (us := [.ref a]) (vs := [.ref a]) (dvs := []) (ds := []) F hr hb .nil hx I (.cons rfl .nil) hsp)

/-- x == y of two instances, by the class's own def, whatever the answer -/
def rOwnEq (C : Addr) (sp : Sp) (E : XK) : R2 := fun x y H Q => ∃ a dx fs b dy gs, x = .ref a ∧ H a = some (.ins C dx fs) ∧ y = .ref b ∧ H b = some (.ins C dy gs) ∧ sp [.ref a, .ref b] H Q E
theorem op_ownEq (hs : PySem.W.findIn X.K (.ref C) "__eq__" = some (some (.ref f))) (hf : PySem.W.isFn X.K (.ref f) = true) (F : FnOk X.prog X.w X.K X.mg X.base CX k f fd ps sp) (hr : Room k X.A) (hb : Binds X.K fd ps []) (hx : Passes CX X E) : OpR X (compareOp .Eq) (rOwnEq C sp E) := by
  intro pins s σ H x y v u Q I rx ry hq
  obtain ⟨a, dx, fs, b, dy, gs, rfl, ea, rfl, eb, hsp⟩ := hq
  cases rx
  cases ry
  obtain ⟨mA, O, _⟩ := ins_get I.hok ea
  obtain ⟨od, J, _⟩ := O.look
  obtain ⟨mB, O', _⟩ := ins_get I.hok eb
  obtain ⟨od', J', _⟩ := O'.look
  obtain ⟨m, hF⟩ := I.fr
  show wpAny (model X.prog X.w) X.A (richCompare .Eq (.ref a) (.ref b)) (EP X pins σ Q) X.xe s
  refine PySem.W.cmp_K (op := .Eq) (tb := .ref C) hr.units0 hF I.ok.mod.kin J J'.type (by simp [PySem.W.notFirst]) hs hf ?_
  refine wpAny_mono (run_fn (us := [.ref a, .ref b]) (vs := [.ref a, .ref b]) (dvs := []) (ds := []) F hr hb .nil hx I (.cons rfl (.cons rfl .nil)) hsp) (fun w s' hw => ?_) fun _ _ e => e
  obtain ⟨z, H', I', rz, q⟩ := hw
  exact cmpBack_of rz ⟨z, H', I', rz, q⟩
end

/-! ### math -/
theorem args_gcd3 (a b c : Value) : argsOk "math.gcd" ⟨[a, b, c], []⟩ := by unfold argsOk; kernel_rfl
theorem run_gcd3 (a : Int) (t : Tok) (b : Int) (u : Tok) (c : Int) (w : Tok) :
    Gives (Builtin.«math.gcd» ⟨[.int a t, .int b u, .int c w], []⟩) (.int ((((((Nat.gcd 0 a.natAbs).gcd b.natAbs).gcd c.natAbs) : Nat) : Int))) :=
  .of_wp fun M A E s Q h => by obtain ⟨hp, g, d, tk, os⟩ := s; wp_walk; exact ⟨_, rfl, h⟩
def rGcd3 : List V → Hp → VK → Prop := fun vs H Q => ∃ a b c : Int, vs = [.int a, .int b, .int c] ∧ Q (.int ((Nat.gcd (Nat.gcd a.natAbs b.natAbs) c.natAbs : Nat) : Int)) H
def rSqrt : List V → Hp → VK → Prop := fun vs H Q => ∃ a : Int, vs = [.int a] ∧ 0 ≤ a ∧ a.toNat < 2 ^ 13000 ∧ Q (.int ((Float64.isqrt a.toNat : Nat) : Int)) H
section
variable {X : Cx}
theorem cr_gcd3 : CallR X (.builtin "math.gcd") rGcd3 := by
  intro pins s σ H vs us Q I r h
  obtain ⟨a, b, c, rfl, q⟩ := h
  cases r with
  | cons r1 r => cases r with
    | cons r2 r => cases r with
      | cons r3 r =>
        cases r
        obtain ⟨t1, rfl⟩ := r1
        obtain ⟨t2, rfl⟩ := r2
        obtain ⟨t3, rfl⟩ := r3
        have g := run_gcd3 a t1 b t2 c t3
        rw [Nat.gcd_zero_left] at g
        exact call_function_meets PySem.W.MGF.kind_gcd PySem.W.MGF.plain_gcd PySem.W.MGF.entry_gcd (args_gcd3 _ _ _) g.meets ⟨.int _, H, I.tok _, ⟨_, rfl⟩, q⟩
theorem cr_isqrt : CallR X (.builtin "math.isqrt") rSqrt := by
  intro pins s σ H vs us Q I r h
  obtain ⟨a, rfl, h0, h1, q⟩ := h
  cases r with
  | cons r1 r =>
    cases r
    obtain ⟨t1, rfl⟩ := r1
    have hl : a.toNat.log2 < 13000 := PySem.Flt.log2_lt_of (by decide) h1
    have g := PySem.W.mg_run_isqrt a t1 (by omega) (by omega) (by omega)
    exact call_function_meets PySem.W.MGF.kind_isqrt PySem.W.MGF.plain_isqrt PySem.W.MGF.entry_isqrt (PySem.W.MGF.args_isqrt _) g.meets ⟨.int _, H, I.tok _, ⟨_, rfl⟩, q⟩
end

/-! ### repr of data -/
section
variable {X : Cx}
def rRepr (K : PySem.W.Frag) : List V → Hp → VK → Prop := fun vs H Q => ∃ v d, vs = [v] ∧ (∃ a, v = .ref a) ∧ Dp K H v d ∧ d.showable = true ∧ d.hasDict = false ∧ d.depth < 20 ∧ d.shown.length ≤ sizeLine ∧ Q (.str d.shown) H
theorem cr_repr {k : Nat} (hr : Room k X.A) (hg : X.A.guards = some []) : CallR X (.builtin "repr") (rRepr X.K) := by
  intro pins s σ H vs us Q I r h
  obtain ⟨v, d, rfl, ⟨a, rfl⟩, hd, hs, hn, hdp, hz, q⟩ := h
  cases r with
  | cons r1 r =>
    cases r
    cases r1
    obtain ⟨as, hrd⟩ := Dp.reads I d (.ref a) (.ref a) hd rfl
    refine repr_of_reads' hrd hs (fun z => by rw [hn] at z; cases z) hg (by have := hr.un; omega) (fun _ _ e => e) (fun h' u tk hk => ?_) hz
    exact ⟨.str d.shown, H, I.kept hk, ⟨_, rfl⟩, q⟩
end
end My
namespace My
open PySem PySem.Spec PyProof.Rows L2

/-! ### a def's promise where no builtin's repr is under way -/
structure FnG (P : Program) (w : World) (K : PySem.W.Frag) (mg : Str → Option Value) (base : Heap) (CX : CXT) (k : Nat) (f : Addr) (fd : FuncData) (ps : List Str) (sp : Sp) : Prop where
  size : ∀ vs H Q E, sp vs H Q E → vs.length = ps.length
  go : ∀ (A : Around) (outer : List Env) (s : Shared) (H : Hp) (args : Args) (us : List Value) (vs : List V) (Q : VK) (E : XK), A.guards = some [] → Room k A → Env0 P w K mg base A outer s H → BindsTo s fd args (ps.zip us) → Vals vs us → sp vs H Q E →
    codeAny (model P w) A (.call (.ref f) args) (CR CX outer P w H s Q E) s
theorem FnG.mono {P : Program} {w : World} {K : PySem.W.Frag} {mg : Str → Option Value} {base : Heap} {CX : CXT} {j k : Nat} {f : Addr} {fd : FuncData} {ps : List Str} {sp : Sp} (F : FnG P w K mg base CX j f fd ps sp) (h : j ≤ k) : FnG P w K mg base CX k f fd ps sp :=
  ⟨F.size, fun A outer s H args us vs Q E g hr => F.go A outer s H args us vs Q E g (hr.mono h)⟩
section
variable {P : Program} {w : World} {K : PySem.W.Frag} {mg : Str → Option Value} {base : Heap}
theorem okG {x qual : Str} {st : Stmt} {f : Addr} {fd : FuncData} {N ps : List Str} {k : Nat} {sp : Sp} (F : Fun K x qual st f fd) (S : FnScope N ps (defScope st)) (len : ∀ vs H Q E, sp vs H Q E → vs.length = ps.length)
    (hbody : ∀ (cdv : Value) (A : Around) (outer : List Env) (s : Shared) (H : Hp) (vs : List V) (Q : VK) (E : XK), (A.deeper (envOfC qual (defScope st) s.heap.objs.size f cdv)).guards = some [] → Room k (A.deeper (envOfC qual (defScope st) s.heap.objs.size f cdv)) → sp vs H Q E →
      ∃ t, PSs (cxOf CX0 P w K mg base N qual (defScope st) f cdv A outer s H E).nox (defBody st) t ∧ t { nx := fun _ H' => Q .non H', rt := Q } (start N vs) H) : FnG P w K mg base CX0 (k + 1) f fd ps sp := by
  obtain ⟨oc, od, kV, doc, pm, an, cdv, ct, osl, e1, lk, hcd⟩ := F.ex
  subst e1
  refine ⟨len, fun A outer s H args us vs Q E g hr e0 hb r hsp => LamX.run_ofS lk hcd S hr e0 hb r (len _ _ _ _ hsp) fun hr' => ?_⟩
  obtain ⟨t, h, q⟩ := hbody cdv A outer s H vs Q E g hr' hsp
  exact ⟨t, h.nox, q⟩
end
section
variable {X : Cx} {CX : CXT} {k : Nat} {f : Addr} {fd : FuncData} {ps : List Str} {sp : Sp} {E : XK} {x : Str} {p pos : Pos} {e : Expr} {es : List Expr} {t : TA}
theorem callG (F : FnG X.prog X.w X.K X.mg X.base CX k f fd ps sp) (g : X.A.guards = some []) (hr : Room k X.A) (hg : Gl X x) (hm : X.mg x = some (.ref f)) (hk : PySem.W.keepIn X.K (.ref f) = true) (hb : Binds X.K fd ps []) (hx : Passes CX X E)
    (ha : PA X (e :: es) t) (hdb : (x == ("__debug__" : Str)) = false := by decide) (he : starEach (e :: es) X.env = (false, eval e X.env) :: starEach es X.env := by rfl) (hpl : (backTo pos (starEach es X.env)).any (·.1) = false := by rfl) :
    PE X (.Call (.Name x p) (e :: es) [] pos) (tCall sp [] E t) := by
  refine ⟨fun pins s σ H Q I h => wpAny_Call_Name_kw (ld_glob I hg hm (PySem.W.callWith_K (h₀ := X.base) I.ok.mod.kin hk (thn (ha.run pos pins s σ H _ I h) fun us s1 hh => ?_) he hpl) hdb)⟩
  obtain ⟨vs, H1, I1, r, q⟩ := hh
  refine ⟨I1.kIn, ?_⟩
  have q0 : sp vs H1 Q E := by
    have z := q
    rw [List.append_nil] at z
    exact z
  have hl : us.length = ps.length := by rw [← r.length]; exact F.size _ _ _ _ q0
  have bd : BindsTo s1 fd ⟨us, []⟩ (ps.zip us) := by
    have z := hb s1 us I1.kIn (by rw [List.append_nil]; exact hl)
    rw [List.append_nil] at z
    exact z
  refine wpAny_call (codeAny_mono (F.go X.A X.stack s1 H1 ⟨us, []⟩ us vs Q E g hr I1.env0 bd r q0) fun r2 s2 hq => ?_)
  match r2, hq with
  | .error er, hq => exact hx pins σ H1 s1 er s2 I1 hq
  | .ok (.ret u), hq => exact I1.after hq
end
/-- the law's own head, from such a promise -/
theorem lawG {P : Program} {w : World} {K : PySem.W.Frag} {mg mb : Str → Option Value} {k : Nat} {fa a : Addr} {fd : FuncData} {x : Str} {sp : Sp} {z : Shared} {vs : List Value} {ns : List Int}
    (KX : K.In z.heap) (hns : z.heap.Ns mainGlobals mg) (hb : z.heap.Ns builtinsNs mb) (hbb : ∀ x : Str, x ≠ "__name__" → mb x = bootBuiltins x) (hlim : z.heap.NoLimit) (hg : z.gens = #[])
    (ha : z.heap.get? a = some { cls := .type "list", data := .seq vs.toArray }) (hi : IntsAre vs ns) (hl : ns.length ≤ sizeLine) (hr : Room k callerA)
    (F : ∀ base : Heap, K.In base → base.Ns mainGlobals mg → FnG P w K mg base CX0 k fa fd [x] sp) (hbind : ∀ (s : Shared) (u : Value), BindsTo s fd ⟨[u], []⟩ [(x, u)])
    (hsp : ∀ H : Hp, Only H → SqL K H a (ns.map V.int) → sp [.ref a] H (fun v _ => v = .bl true) fun _ _ _ => False) :
    codeAny (model P w) callerA (.call (.ref fa) ⟨[.ref a], []⟩) (fun r s' => r = .ok (.ret (.bool true)) ∧ OldK z.heap s'.heap ∧ s'.os = z.os ∧ AllBare s'.gens) z := by
  have run : ∀ H : Hp, Only H → SqL K H a (ns.map V.int) → HOk P w H z.heap → (∀ b, H b ≠ none → b = a ∧ K.lookup a = none) →
      codeAny (model P w) callerA (.call (.ref fa) ⟨[.ref a], []⟩) (fun r s' => r = .ok (.ret (.bool true)) ∧ OldK z.heap s'.heap ∧ s'.os = z.os ∧ AllBare s'.gens) z := by
    intro H hO hS hok hA
    have free : ∀ {b : Addr}, b ≠ a → H b = none := fun {b} hb => Classical.byContradiction fun q => hb (hA b q).1
    have nsOk : ∀ {b : Addr} {m : Str → Option Value}, z.heap.Ns b m → (hidT z.heap H).Ns b m := fun {b m} hn => by
      obtain ⟨o, es, ep, e, d, r⟩ := hn
      refine ⟨o, es, ep, hidT_get e (free fun q => ?_), d, r⟩
      rw [q, ha] at e
      have d2 : Data.seq vs.toArray = Data.dict es ep := by
        rw [← d, ← Option.some.inj e]
      cases d2
    have kin : K.In (hidT z.heap H) := fun b o e => hidT_get (KX b o e) (Classical.byContradiction fun q => by
      obtain ⟨e1, e2⟩ := hA b q
      rw [e1, e2] at e
      cases e)
    have md : Mod K mg (hidT z.heap H) := ⟨kin, nsOk hns, ⟨mb, nsOk hb, hbb⟩, let ⟨mc, h1, h2⟩ := hlim; ⟨mc, nsOk h1, h2⟩⟩
    have en : Env0 P w K mg (hidT z.heap H) callerA [] z H := ⟨rfl, md, fun b o e => of_hidT e, Nat.le_of_eq (hidT_size _ _), trivial, fun b hb => absurd hb List.not_mem_nil, hok, .of_eq hg⟩
    have fin := (F _ kin (nsOk hns)).go callerA [] z H ⟨[.ref a], []⟩ [.ref a] [.ref a] _ _ rfl hr en (hbind z (.ref a)) (.cons rfl .nil) (hsp H hO hS)
    refine codeAny_mono fin fun r s' h => ?_
    match r, h with
    | .error e, h => exact absurd h id
    | .ok (.ret u), h =>
      obtain ⟨v, H', os, bare, un, hok', r', q⟩ := h
      have q' : v = .bl true := q
      rw [q'] at r'
      have ru : u = Value.bool true := r'
      refine ⟨by rw [ru], OldK.of_keep fun b o e => ?_, os, bare⟩
      rcases hO b with y | ⟨ob, xs, y⟩
      · exact un.keep b o e y List.not_mem_nil List.not_mem_nil
      · obtain ⟨e2, _⟩ := hok' b _ (un.frzs b ob _ y)
        obtain ⟨e1, _⟩ := hok b _ y
        rw [e] at e1
        rw [Option.some.inj e1]
        exact e2
  have rv := vals_ints hi
  by_cases hk : K.lookup a = none
  · refine run (fun b => if b = a then some (.frz { cls := .type "list", data := .seq vs.toArray } (.lst (ns.map V.int))) else none) (fun b => ?_) (.inl (.inr ⟨_, if_pos rfl⟩)) (fun b u y => ?_) fun b y => ?_
    · by_cases hb : b = a
      · exact .inr ⟨_, _, if_pos hb⟩
      · exact .inl (if_neg hb)
    · by_cases q : b = a
      · rw [q] at y ⊢
        have y2 := (if_pos rfl).symm.trans y
        rw [← Option.some.inj y2]
        exact ⟨ha, by rw [List.length_map]; exact hl, vs, _, rv, ha⟩
      · cases (if_neg q).symm.trans y
    · by_cases q : b = a
      · exact ⟨q, hk⟩
      · exact absurd (if_neg q) y
  · obtain ⟨o, ho⟩ := Option.ne_none_iff_exists'.mp hk
    have e := KX a o ho
    rw [ha] at e
    cases e
    exact run (fun _ => none) (fun _ => .inl rfl) (.inr ⟨_, vs.toArray, _, ho, rfl, rfl, rfl, by rw [List.size_toArray, hi.length]; exact hl, by simpa using rv⟩) (fun b u y => nomatch y) fun b y => absurd rfl y
theorem walkG {l : PySem.W.OpenLaw} {n k : Nat} {q : Program} {loose : List Str} {XP : (Str → Option Value) → Heap → Prop} {YP : World → Heap → Prop} {d : DefRec} {K : Params → PySem.W.Frag} {sp : PySem.W.Frag → Sp} {x : Str}
    (hn : l.most = some n) (hn2 : n ≤ sizeLine) (hdf : d.params.defaults = []) (hr : Room k callerA)
    (hY : ∀ (w : World) (h : Heap), YP w h → (K w.params).In h)
    (F : ∀ (w : World) (mg : Str → Option Value) (fa : Addr) (h : Heap), (K w.params).In h → h.Ns mainGlobals mg → mg d.name = some (.ref fa) →
      ∃ fd : FuncData, (∀ (s : Shared) (u : Value), BindsTo s fd ⟨[u], []⟩ [(x, u)]) ∧ ∀ base : Heap, (K w.params).In base → base.Ns mainGlobals mg → FnG l.prog w (K w.params) mg base CX0 k fa fd [x] (sp (K w.params)))
    (hsp : ∀ (K : PySem.W.Frag) (H : Hp) (a : Addr) (ns : List Int), ns.length ≤ n → Only H → SqL K H a (ns.map V.int) → sp K [.ref a] H (fun v _ => v = .bl true) fun _ _ _ => False) :
    PySem.W.WalkO q loose XP YP l.row.toRowW d [] (fun f vs => PySem.call f vs) := by
  refine Att.attach_call hn hdf fun w s₀ z mg mb fa o pm cd doc a vs ns G Y ho hd hcd hmg hobj hints hlen hg => ?_
  have KX := hY w _ Y
  have ⟨fd, hb, hF⟩ := F w mg fa _ KX G.T.g hmg
  exact lawG KX G.T.g G.T.b G.T.builtins G.T.nolimit hg hobj hints (Nat.le_trans hlen hn2) hr hF hb fun H hO hS => hsp (K w.params) H a ns hlen hO hS

/-! ### a list of three ints that is told by its kind alone: the dice -/
def DiceO (a : Addr) : HO := .ext fun h => ∃ (l s c : Int) (t1 t2 t3 : Tok) (n : Nat), h.get? a = some { cls := .type "list", data := .seq #[.int l t1, .int s t2, .int c t3] n }
def d3 (l s c : Int) : HO := .lst [.int l, .int s, .int c]
section
variable {X : Cx} {pins : List (Addr × Obj)} {σ : L2.St} {H : Hp} {s : Shared} {a : Addr} {o : HO}
theorem recast (I : Inv X pins σ H s) (hm : Mut (H a)) (ex : ∃ u, s.heap.get? a = some u) (new : ObjOk X.prog X.w (upd H a o) s.heap a o) : Inv X pins σ (upd H a o) s := by
  obtain ⟨hp, g, d, t, os⟩ := s
  exact I.write (h' := hp) (t' := t) (x := a) (e := a) hm (.inl rfl) (fun _ _ _ e => e) ex new
theorem dice_ok {P : Program} {w : World} {H : Hp} {h : Heap} {l s c : Int} {t1 t2 t3 : Tok} {n : Nat} (e : h.get? a = some { cls := .type "list", data := .seq #[.int l t1, .int s t2, .int c t3] n }) : ObjOk P w H h a (DiceO a) :=
  ⟨⟨l, s, c, t1, t2, t3, n, e⟩, ⟨_, e⟩, fun h1 h2 ⟨l, s, c, t1, t2, t3, n, q⟩ k => ⟨l, s, c, t1, t2, t3, n, k _ q⟩⟩
theorem dice_open (I : Inv X pins σ H s) (e : H a = some (DiceO a)) : ∃ l z c, Inv X pins σ (upd H a (d3 l z c)) s := by
  have x : ObjOk X.prog X.w H s.heap a (.ext fun h => ∃ (l s c : Int) (t1 t2 t3 : Tok) (n : Nat), h.get? a = some { cls := .type "list", data := .seq #[.int l t1, .int s t2, .int c t3] n }) := I.hok a _ e
  obtain ⟨l, z, c, t1, t2, t3, n, q⟩ := x.1
  exact ⟨l, z, c, recast I (by rw [e]; exact True.intro) ⟨_, q⟩ ⟨by show 3 ≤ sizeLine; decide, [.int l t1, .int z t2, .int c t3], n, .cons ⟨_, rfl⟩ (.cons ⟨_, rfl⟩ (.cons ⟨_, rfl⟩ .nil)), q⟩⟩
theorem dice_close {l z c : Int} (I : Inv X pins σ H s) (e : H a = some (d3 l z c)) : Inv X pins σ (upd H a (DiceO a)) s := by
  obtain ⟨_, its, n, r, q⟩ := (show ObjOk X.prog X.w H s.heap a (.lst [.int l, .int z, .int c]) from I.hok a _ e)
  refine recast I (by rw [e]; exact True.intro) ⟨_, q⟩ ?_
  cases r with
  | cons r1 r => cases r with
    | cons r2 r => cases r with
      | cons r3 r =>
        cases r
        obtain ⟨t1, rfl⟩ := r1
        obtain ⟨t2, rfl⟩ := r2
        obtain ⟨t3, rfl⟩ := r3
        exact dice_ok q
end
/-- the body may see the dice (the slot i) as a list; it leaves them as dice -/
def tDice (i : Nat) (t : TS) : TS := fun D σ H => ∃ a, σ[i]? = some (some (.ref a)) ∧ H a = some (DiceO a) ∧ ∀ l z c, t
  { nx := fun σ' H' => (∃ l z c, H' a = some (d3 l z c)) ∧ D.nx σ' (upd H' a (DiceO a)), rt := fun v H' => (∃ l z c, H' a = some (d3 l z c)) ∧ D.rt v (upd H' a (DiceO a)),
    bk := fun σ' H' => (∃ l z c, H' a = some (d3 l z c)) ∧ D.bk σ' (upd H' a (DiceO a)), ct := fun σ' H' => (∃ l z c, H' a = some (d3 l z c)) ∧ D.ct σ' (upd H' a (DiceO a)) } σ (upd H a (d3 l z c))
theorem pss_dice {X : Cx} {i : Nat} {body : List Stmt} {t : TS} (h : PSs X body t) : PSs X body (tDice i t) := by
  refine ⟨fun pins s σ H D I hq => ?_⟩
  obtain ⟨a, _, e, q⟩ := hq
  obtain ⟨l, z, c, I1⟩ := dice_open I e
  refine wpAny_mono (h.run pins s σ _ _ I1 (q l z c)) (fun f s' hs => ?_) fun _ _ e => e
  match f, hs with
  | .next, hs => obtain ⟨σ', H', J, ⟨l, z, c, e⟩, w⟩ := hs; exact ⟨σ', _, dice_close J e, w⟩
  | .brk, hs => obtain ⟨σ', H', J, ⟨l, z, c, e⟩, w⟩ := hs; exact ⟨σ', _, dice_close J e, w⟩
  | .cont, hs => obtain ⟨σ', H', J, ⟨l, z, c, e⟩, w⟩ := hs; exact ⟨σ', _, dice_close J e, w⟩
  | .ret u, hs => obtain ⟨v, σ', H', J, r, ⟨l, z, c, e⟩, w⟩ := hs; exact ⟨v, σ', _, dice_close J e, r, w⟩
/-- the body hands back new dice -/
def tDiced (t : TS) : TS := fun D σ H => t { nx := D.nx, rt := fun v H' => ∃ a l z c, v = .ref a ∧ H' a = some (d3 l z c) ∧ D.rt v (upd H' a (DiceO a)), bk := D.bk, ct := D.ct } σ H
theorem pss_diced {X : Cx} {body : List Stmt} {t : TS} (h : PSs X body t) : PSs X body (tDiced t) := by
  refine ⟨fun pins s σ H D I hq => wpAny_mono (h.run pins s σ H _ I hq) (fun f s' hs => ?_) fun _ _ e => e⟩
  match f, hs with
  | .next, hs => exact hs
  | .brk, hs => exact hs
  | .cont, hs => exact hs
  | .ret u, hs => obtain ⟨v, σ', H', J, r, a, l, z, c, ev, e, w⟩ := hs; exact ⟨v, σ', _, dice_close J e, r, w⟩
end My
namespace My
open PySem PySem.Spec PyProof.Rows L2

/-- a def of the module, by its name, with its promise -/
structure FnAt (P : Program) (w : World) (K : PySem.W.Frag) (mg : Str → Option Value) (base : Heap) (k : Nat) (x : Str) (ps : List Str) (sp : Sp) : Prop where
  ex : ∃ (f : Addr) (fd : FuncData), mg x = some (.ref f) ∧ PySem.W.keepIn K (.ref f) = true ∧ Binds K fd ps [] ∧ FnOk P w K mg base CX0 k f fd ps sp
structure FgAt (P : Program) (w : World) (K : PySem.W.Frag) (mg : Str → Option Value) (base : Heap) (k : Nat) (x : Str) (ps : List Str) (sp : Sp) : Prop where
  ex : ∃ (f : Addr) (fd : FuncData), mg x = some (.ref f) ∧ PySem.W.keepIn K (.ref f) = true ∧ Binds K fd ps [] ∧ FnG P w K mg base CX0 k f fd ps sp
/-- a def of the module, by its name, with its text -/
structure DefAt (K : PySem.W.Frag) (mg : Str → Option Value) (x : Str) (st : Stmt) : Prop where
  ex : ∃ (f : Addr) (fd : FuncData), mg x = some (.ref f) ∧ Fun K x x st f fd
section
variable {X : Cx} {k j : Nat} {ps : List Str} {sp : Sp} {x : Str} {p pos : Pos} {e : Expr} {es : List Expr} {t : TA}
theorem callA (F : FnAt X.prog X.w X.K X.mg X.base k x ps sp) (hr : Room k X.A) (hg : Gl X x) (ha : PA X (e :: es) t) (hdb : (x == ("__debug__" : Str)) = false := by decide)
    (he : starEach (e :: es) X.env = (false, eval e X.env) :: starEach es X.env := by rfl) (hpl : (backTo pos (starEach es X.env)).any (·.1) = false := by rfl) : PE X (.Call (.Name x p) (e :: es) [] pos) (tCall sp [] E0 t) := by
  obtain ⟨f, fd, hm, hk, hb, G⟩ := F.ex
  exact pe_call G hr hg hm hk hb .nil pass0 ha hdb he hpl
theorem callB (F : FgAt X.prog X.w X.K X.mg X.base k x ps sp) (gd : X.A.guards = some []) (hr : Room k X.A) (hg : Gl X x) (ha : PA X (e :: es) t) (hdb : (x == ("__debug__" : Str)) = false := by decide)
    (he : starEach (e :: es) X.env = (false, eval e X.env) :: starEach es X.env := by rfl) (hpl : (backTo pos (starEach es X.env)).any (·.1) = false := by rfl) : PE X (.Call (.Name x p) (e :: es) [] pos) (tCall sp [] E0 t) := by
  obtain ⟨f, fd, hm, hk, hb, G⟩ := F.ex
  exact callG G gd hr hg hm hk hb pass0 ha hdb he hpl
end
section
variable {P : Program} {w : World} {K : PySem.W.Frag} {mg : Str → Option Value} {base : Heap}
theorem fnAt {x : Str} {st : Stmt} {N ps : List Str} {k : Nat} {sp : Sp} (D : DefAt K mg x st) (S : FnScope N ps (defScope st))
    (hbind : ∀ (kV doc pm : Value) (an : Option Addr) (cdv ct : Value) (us : List Value), us.length = ps.length → bindArgs (PySem.W.fnOf x x (defArgs st) (defBody st) (defScope st) .none kV doc pm an cdv ct) ⟨us, []⟩ = pure (ps.zip us))
    (len : ∀ vs H Q E, sp vs H Q E → vs.length = ps.length)
    (hbody : ∀ (f : Addr) (cdv : Value) (A : Around) (outer : List Env) (s : Shared) (H : Hp) (vs : List V) (Q : VK) (E : XK), Room k (A.deeper (envOfC x (defScope st) s.heap.objs.size f cdv)) → sp vs H Q E →
      ∃ t, PSs (cxOf CX0 P w K mg base N x (defScope st) f cdv A outer s H E).nox (defBody st) t ∧ t { nx := fun _ H' => Q .non H', rt := Q } (start N vs) H) : FnAt P w K mg base (k + 1) x ps sp := by
  obtain ⟨f, fd, hm, F⟩ := D.ex
  exact ⟨f, fd, hm, F.kp, F.binds hbind, F.ok S len fun cdv A outer s H vs Q E hr h => hbody f cdv A outer s H vs Q E hr h⟩
theorem fgAt {x : Str} {st : Stmt} {N ps : List Str} {k : Nat} {sp : Sp} (D : DefAt K mg x st) (S : FnScope N ps (defScope st))
    (hbind : ∀ (kV doc pm : Value) (an : Option Addr) (cdv ct : Value) (us : List Value), us.length = ps.length → bindArgs (PySem.W.fnOf x x (defArgs st) (defBody st) (defScope st) .none kV doc pm an cdv ct) ⟨us, []⟩ = pure (ps.zip us))
    (len : ∀ vs H Q E, sp vs H Q E → vs.length = ps.length)
    (hbody : ∀ (f : Addr) (cdv : Value) (A : Around) (outer : List Env) (s : Shared) (H : Hp) (vs : List V) (Q : VK) (E : XK), (A.deeper (envOfC x (defScope st) s.heap.objs.size f cdv)).guards = some [] → Room k (A.deeper (envOfC x (defScope st) s.heap.objs.size f cdv)) → sp vs H Q E →
      ∃ t, PSs (cxOf CX0 P w K mg base N x (defScope st) f cdv A outer s H E).nox (defBody st) t ∧ t { nx := fun _ H' => Q .non H', rt := Q } (start N vs) H) : FgAt P w K mg base (k + 1) x ps sp := by
  obtain ⟨f, fd, hm, F⟩ := D.ex
  exact ⟨f, fd, hm, F.kp, F.binds hbind, okG F S len fun cdv A outer s H vs Q E gd hr h => hbody f cdv A outer s H vs Q E gd hr h⟩
end
/-- the built-in names that are free -/
structure Bn (mg : Str → Option Value) : Prop where
  b_len : mg "len" = none
  b_int : mg "int" = none
  b_bool : mg "bool" = none
  b_str : mg "str" = none
  b_list : mg "list" = none
  b_tuple : mg "tuple" = none
  b_max : mg "max" = none
  b_abs : mg "abs" = none
  b_min : mg "min" = none
  b_range : mg "range" = none
  b_repr : mg "repr" = none
  b_isinstance : mg "isinstance" = none
  b_all : mg "all" = none
  b_set : mg "set" = none
  b_sum : mg "sum" = none
  b_any : mg "any" = none
  b_sorted : mg "sorted" = none
  b_zip : mg "zip" = none
  b_enumerate : mg "enumerate" = none
  b_dict : mg "dict" = none
  b_reversed : mg "reversed" = none
  b_divmod : mg "divmod" = none
  b_ord : mg "ord" = none
theorem hu64 {A : Around} {k : Nat} (hr : Room k A) : A.units + 64 < cLine := hr.units

/-! ### whole numbers of any size, divided by any divisor but 0 of at most 9000 bits -/
def CDivX (_ j : Int) : Prop := j ≠ 0 ∧ j.natAbs.log2 < 9000
section
variable {X : Cx}
theorem op_fdivX : OpR X (binaryOp .FloorDiv) (rI CDivX fun i j => .int (i.fdiv j)) := opI fun i j _ _ _ _ _ hc q => floordiv_int hc.1 q (.inl (PyProof.noPylong_of_log2 hc.2))
end
/-- at most n bits -/
def Sz (n : Nat) (i : Int) : Prop := i.natAbs < 2 ^ n
theorem Sz.mono {n m : Nat} {i : Int} (h : Sz n i) (l : n ≤ m) : Sz m i := Nat.lt_of_lt_of_le h (Nat.pow_le_pow_right (by decide) l)
theorem Sz.mul {n m : Nat} {i j : Int} (h : Sz n i) (g : Sz m j) : Sz (n + m) (i * j) := wide_lt h g
theorem Sz.neg {n : Nat} {i : Int} (h : Sz n i) : Sz n (-i) := by unfold Sz; rw [Int.natAbs_neg]; exact h
theorem Sz.add {n : Nat} {i j : Int} (h : Sz n i) (g : Sz n j) : Sz (n + 1) (i + j) := by
  unfold Sz at *
  have e : 2 ^ (n + 1) = 2 ^ n + 2 ^ n := by rw [Nat.pow_succ]; omega
  have := Int.natAbs_add_le i j
  omega
theorem Sz.sub {n : Nat} {i j : Int} (h : Sz n i) (g : Sz n j) : Sz (n + 1) (i - j) := by
  rw [Int.sub_eq_add_neg]
  exact h.add g.neg
theorem Sz.ofLt {n : Nat} {i b : Int} (h : i.natAbs ≤ b.natAbs) (g : Sz n b) : Sz n i := Nat.lt_of_le_of_lt h g
theorem Sz.log {n : Nat} {i : Int} (h : Sz n i) (h0 : 0 < n) : i.natAbs.log2 < n := PySem.Flt.log2_lt_of h0 h
theorem Sz.cmul {n m : Nat} {i j : Int} (h : Sz n i) (g : Sz m j) (hn : 0 < n) (hm : 0 < m) (l : n + m ≤ 1000000) : CMulW i j := wide_mul h g hn hm l
theorem Sz.cdiv {n : Nat} {i j : Int} (h0 : j ≠ 0) (h : Sz n j) (hn : 0 < n) (l : n ≤ 9000) : CDivX i j := ⟨h0, Nat.lt_of_lt_of_le (h.log hn) l⟩
/-- a number of the law's own head -/
theorem ext_refl (H : Hp) : Ext H H := fun _ _ h => h
theorem ext_new {H H1 : Hp} {p : Addr} {o : HO} (e : Ext H H1) (h : H1 p = none) : Ext H (upd H1 p o) := Ext.upd' e h
theorem ext_none {H H1 : Hp} {p : Addr} (e : Ext H H1) (h : H1 p = none) : H p = none := by
  cases q : H p with
  | none => rfl
  | some o => rw [e p o q] at h; cases h
/-- a new object changed: what stood before stands -/
theorem ext_mut {H H1 : Hp} {p : Addr} {o : HO} (e : Ext H H1) (h : H p = none) : Ext H (upd H1 p o) := fun a u q => by
  rw [upd_ne (ne_of_none q h)]
  exact e a u q
end My
namespace My
open PySem PySem.Spec PyProof.Rows L2
theorem len_ok {n : Nat} (h : n ≤ 1000) : n ≤ sizeLine := Nat.le_trans h (by decide)
theorem len_lt {n : Nat} (h : n ≤ 1000) : n < sizeLine := Nat.lt_of_le_of_lt h (by decide)
end My
namespace My
open PySem PySem.Spec PyProof.Rows L2
section
variable {K : PySem.W.Frag} {a D : Addr} {xs : List V} {te : TE} {vs : List Nat} {σ : L2.St} {H1 : Hp} {j : Nat}
theorem take_next {α : Type} {l : List α} {i : Nat} {x : α} (h : l[i]? = some x) : l.take (i + 1) = l.take i ++ [x] := by
  rw [List.take_succ, h]
  rfl
/-- what a comprehension without a test has made behind i turns -/
def Made (H1 : Hp) (D : Addr) (f : Nat → V → V) (xs : List V) (i : Nat) (H' : Hp) : Prop := H1 D = none ∧ Ext H1 H' ∧ H' D = some (.lst ((xs.take i).mapIdx f))
theorem made_turn {f : Nat → V → V} {i : Nat} {x : V} {H' : Hp} {σ2 : L2.St} (hz : xs.length ≤ 1000000) (hi : xs[i]? = some x) (p : Made H1 D f xs i H') (he : ∀ Q' : VK, (∀ H'', Ext H' H'' → Q' (f i x) H'') → te σ2 H' Q') :
    tYes σ2 H' fun b H3 => if b = true then te σ2 H3 fun y H4 => ∃ acc, H4 D = some (.lst acc) ∧ acc.length < sizeLine ∧ Made H1 D f xs (i + 1) (upd H4 D (.lst (acc ++ [y]))) else Made H1 D f xs (i + 1) H3 := by
  obtain ⟨p1, p2, p3⟩ := p
  unfold tYes
  dsimp only
  rw [if_pos rfl]
  refine he _ fun H'' e => ⟨_, e _ _ p3, ?_, p1, ext_mut (p2.trans e) p1, ?_⟩
  · rw [List.length_mapIdx, List.length_take]
    exact Nat.lt_of_le_of_lt (Nat.le_trans (Nat.min_le_right _ _) hz) (by decide)
  · have hl : i < xs.length := (List.getElem?_eq_some_iff.mp hi).1
    rw [upd_same, take_next hi, List.mapIdx_append]
    have e1 : (xs.take i).length = i := by rw [List.length_take]; omega
    simp [e1]
abbrev Block (J : It) (g : TG) (tt : TT) (te : TE) (vs : List Nat) (σ : L2.St) (H1 : Hp) (D : Addr) (Qd : Hp → Prop) : Prop := ∃ W : Nat → Nat → Hp → Prop, (∃ m, W 0 m (upd H1 D (.lst []))) ∧ ∀ i m H, W i m H →
  (J.stop i H ∧ Qd H) ∨ (J.go i H ∧ ∃ Nx : Hp → Prop, (∀ H', Nx H' → ∃ m', m' < m ∧ W (i + 1) m' H') ∧ ∀ x H', J.yld i H x H' → g x (wipe σ vs) H' fun σ2 H2 => wipe σ2 vs = wipe σ vs ∧ tt σ2 H2 fun b H3 =>
    if b = true then te σ2 H3 fun y H4 => ∃ acc, H4 D = some (.lst acc) ∧ acc.length < sizeLine ∧ Nx (upd H4 D (.lst (acc ++ [y]))) else Nx H3)
theorem map_list {Qd : Hp → Prop} (f : Nat → V → V) (hx : SqL K H1 a xs) (hD : H1 D = none) (hz : xs.length ≤ 1000000) (hw : ∀ x, wipe ((wipe σ vs).set j (some x)) vs = wipe σ vs)
    (he : ∀ i x H', xs[i]? = some x → Ext H1 H' → ∀ Q' : VK, (∀ H'', Ext H' H'' → Q' (f i x) H'') → te ((wipe σ vs).set j (some x)) H' Q') (hd : ∀ H', Ext H1 H' → H' D = some (.lst (xs.mapIdx f)) → Qd H') :
    Block (Itl K a) (gName j) tYes te vs σ H1 D Qd :=
  lc_list (xs := xs) (Made H1 D f xs) ⟨hD, ext_new (ext_refl H1) hD, upd_same⟩ (fun i H' _ p => hx.ext p.2.1) (fun i x H' hi p => ⟨hw x, made_turn hz hi p (he i x H' hi p.2.1)⟩) fun H' p => hd H' p.2.1 (by have q := p.2.2; rw [List.take_length] at q; exact q)
theorem map_tup {Qd : Hp → Prop} (f : Nat → V → V) (hx : SqT K H1 a xs) (hD : H1 D = none) (hz : xs.length ≤ 1000000) (hw : ∀ x, wipe ((wipe σ vs).set j (some x)) vs = wipe σ vs)
    (he : ∀ i x H', xs[i]? = some x → Ext H1 H' → ∀ Q' : VK, (∀ H'', Ext H' H'' → Q' (f i x) H'') → te ((wipe σ vs).set j (some x)) H' Q') (hd : ∀ H', Ext H1 H' → H' D = some (.lst (xs.mapIdx f)) → Qd H') :
    Block (Itt K a) (gName j) tYes te vs σ H1 D Qd :=
  lc_tup (xs := xs) (Made H1 D f xs) ⟨hD, ext_new (ext_refl H1) hD, upd_same⟩ (fun i H' _ p => hx.ext p.2.1) (fun i x H' hi p => ⟨hw x, made_turn hz hi p (he i x H' hi p.2.1)⟩) fun H' p => hd H' p.2.1 (by have q := p.2.2; rw [List.take_length] at q; exact q)
end
end My
namespace My
open PySem PySem.Spec PyProof.Rows L2
def top (i : Nat) : Stmt := PySem.Challenge.pw_pieceround_k05_errors_of_numbers.main.body.getD i (.Pass ⟨0, 0, 0, 0⟩)
abbrev s_dice : Stmt := top 30
abbrev s_roll : Stmt := top 31
abbrev s_pick : Stmt := top 32

local macro_rules | `(tactic| walk_at "side") => `(tactic| first | assumption | decide | exact Or.inl ⟨by decide, by decide⟩ | exact Or.inr ⟨by decide, by decide⟩ | exact ⟨by decide, by decide, by decide⟩ | omega | (unfold CMulW; decide +kernel) | (dsimp only; first | assumption | omega | decide +kernel) | exact len_ok (Nat.le_of_ble_eq_true rfl) | fail "side")
local macro_rules | `(tactic| walk_at "rd") => `(tactic| first
  | refine ⟨_, _, _, _, rfl, rfl, SqL.of upd_same, atI_nat (j := 0) rfl, ?_⟩ | refine ⟨_, _, _, _, rfl, rfl, SqL.of upd_same, atI_nat (j := 1) rfl, ?_⟩ | refine ⟨_, _, _, _, rfl, rfl, SqL.of upd_same, atI_nat (j := 2) rfl, ?_⟩
  | refine ⟨_, _, _, _, rfl, rfl, upd_same, rfl, ?_⟩
  | refine ⟨_, _, rfl, rfl, ?_⟩ | refine ⟨_, rfl, ?_⟩ | refine ⟨_, _, rfl, ?_⟩ | refine Or.inl ⟨_, rfl, ?_⟩ | refine Or.inr ⟨_, rfl, ?_⟩ | refine ⟨(by walk_at "side"), ?_⟩ | fail "rd")
def spDice (K : PySem.W.Frag) : Sp := fun vs H Q _ => ∃ (a : Addr) (i : Int) (ns : List Int), vs = [.ref a, .int i] ∧ SqL K H a (ns.map V.int) ∧ 0 ≤ i ∧ i < 1000 ∧
  ∀ p H', H p = none → Ext H H' → H' p = some (DiceO p) → Q (.ref p) H'
def spRoll : Sp := fun vs H Q _ => ∃ (a : Addr) (n : Int), vs = [.ref a, .int n] ∧ H a = some (DiceO a) ∧ 0 < n ∧ Sz 9000 n ∧ ∀ r : Int, 0 ≤ r → r < n → Q (.int r) H
def spPick (K : PySem.W.Frag) : Sp := fun vs H Q _ => ∃ (a b : Addr) (xs : List V), vs = [.ref a, .ref b] ∧ H a = some (DiceO a) ∧ SqL K H b xs ∧ xs ≠ [] ∧ xs.length ≤ 1000000 ∧ ∀ x, x ∈ xs → Q x H

section
variable {P : Program} {w : World} {K : PySem.W.Frag} {mg : Str → Option Value} {base : Heap}
theorem sc_dice : FnScope ["_law_script", "_law_spot", "_law_cell", "_law_left"] ["_law_script", "_law_spot"] (defScope s_dice) := ⟨rfl, rfl, rfl, by decide +kernel, rfl, by decide +kernel, by decide +kernel⟩
theorem ok_dice (T : Bn mg) (D : DefAt K mg "_law_dice" s_dice) : FnAt P w K mg base 1 "_law_dice" ["_law_script", "_law_spot"] (spDice K) := by
  refine fnAt D sc_dice (fun _ _ _ _ _ _ us hl => match us, hl with | [_, _], _ => rfl) (fun vs H Q E h => ?_) fun f cdv A outer s H vs Q E hr h => ?_
  · obtain ⟨a, i, ns, rfl, _⟩ := h
    rfl
  obtain ⟨a, i, ns, rfl, hS, h0, h1, k⟩ := h
  refine ⟨_, pss_diced (pss_cons (ps_set (i := 2) sc_dice.nd rfl (Or.inl rfl) (pe_ifExp (pt_cmpR op_lt (pv 1) (pe_callB call_len_seq (by rfl) T.b_len (by decide +kernel) (pa_cons (pv 0) pa_nil)) (nomark _)) (pe_callTy call_int1 (by rfl) T.b_int (by decide +kernel) (pa_cons (pe_ix ix_list (pv 0) (pv 1) (fun _ _ => rfl)) pa_nil)) (pe_op op_add (pe_op op_mul pe_int (pv 1)) pe_int)))
    (pss_cons (ps_set (i := 3) sc_dice.nd rfl (Or.inl rfl) (pe_op op_modN (pe_callB (call_max2 rfl) (by rfl) T.b_max (by decide +kernel) (pa_cons pe_int (pa_cons (pe_op op_sub (pe_callB call_abs (by rfl) T.b_abs (by decide +kernel) (pa_cons (pv 2) pa_nil)) (pe_op op_pow pe_int pe_int)) pa_nil))) (pe_op op_mulW (pe_op op_pow pe_int pe_int) (pe_op op_pow pe_int pe_int))))
    (pss_one (ps_ret (pe_lst (pa_cons (pv 3) (pa_cons (pe_op op_add (pe_op op_add (pe_op op_add (pe_op op_mul (pe_op op_modN (pe_callB call_abs (by rfl) T.b_abs (by decide +kernel) (pa_cons (pv 2) pa_nil)) pe_int) pe_int) (pe_op op_mul pe_int (pv 1))) (pe_op op_mul pe_int (pe_callTy call_int1 (by rfl) T.b_int (by decide +kernel) (pa_cons (pe_cmpR op_lt (pv 2) pe_int (nomark _)) pa_nil)))) pe_int) (pa_cons pe_int pa_nil)))))))), ?_⟩
  refine ⟨_, rfl, _, rfl, a, _, rfl, .inl hS, _, _, rfl, rfl, _, rfl, ite2 (fun hlt => ?a) (fun hge => ?b)⟩
  case' a =>
    have hj : i < (ns.length : Int) := by
      have z := of_decide_eq_true hlt
      rw [List.length_map] at z
      exact z
    obtain ⟨j, rfl⟩ : ∃ j : Nat, i = (j : Int) := ⟨i.toNat, by omega⟩
    obtain ⟨c, hc⟩ : ∃ c, ns[j]? = some c := ⟨ns[j], List.getElem?_eq_getElem (by omega)⟩
    refine ⟨_, rfl, _, rfl, a, _, _, V.int c, rfl, rfl, hS, atI_nat (by rw [List.getElem?_map, hc]; rfl), .inl ⟨_, rfl, ?_⟩⟩
  case' b => 
    repeat' (walk_at "rd")
  all_goals
    repeat' (walk_at "rd")
    intro p hp
    exact ⟨p, _, _, _, rfl, upd_same, k p _ hp (ext_mut (ext_new (ext_refl H) hp) hp) upd_same⟩

theorem fmod_in {i n : Int} (h : 0 < n) : 0 ≤ i.fmod n ∧ i.fmod n < n := by
  rw [Int.fmod_eq_emod_of_nonneg _ (by omega)]
  exact ⟨Int.emod_nonneg _ (by omega), Int.emod_lt_of_pos _ h⟩
theorem sc_roll : FnScope ["_law_dice_here", "_law_total", "_law_found", "_law_one", "_law_two"] ["_law_dice_here", "_law_total"] (defScope s_roll) := ⟨rfl, rfl, rfl, by decide +kernel, rfl, by decide +kernel, by decide +kernel⟩
theorem ok_roll (T : Bn mg) (D : DefAt K mg "_law_roll" s_roll) : FnAt P w K mg base 1 "_law_roll" ["_law_dice_here", "_law_total"] spRoll := by
  refine fnAt D sc_roll (fun _ _ _ _ _ _ us hl => match us, hl with | [_, _], _ => rfl) (fun vs H Q E h => ?_) fun f cdv A outer s H vs Q E hr h => ?_
  · obtain ⟨a, i, rfl, _⟩ := h
    rfl
  obtain ⟨a, n, rfl, ha, h0, hz, k⟩ := h
  have n0 : n ≠ 0 := by omega
  have hd : CDivX 0 n := ⟨n0, hz.log (by decide)⟩
  have h64 : ∀ x : Int, -(2 ^ 64) < x.fmod 2305843009213693951 ∧ x.fmod 2305843009213693951 < 2 ^ 64 := fun x => by
    have := fmod_in (i := x) (n := 2305843009213693951) (by decide)
    omega
  have h64' : ∀ x : Int, -(2 ^ 64) < x.fmod 2305843009213693921 ∧ x.fmod 2305843009213693921 < 2 ^ 64 := fun x => by
    have := fmod_in (i := x) (n := 2305843009213693921) (by decide)
    omega
  refine ⟨_, pss_dice (i := 0) (pss_cons (ps_if (pt_cmpR op_gt (pe_ix ix_list (pv 0) pe_int (fun _ _ => rfl)) pe_int (nomark _)) (pss_cons (ps_set (i := 2) sc_roll.nd rfl (Or.inl rfl) (pe_op op_modN (pe_callTy call_int1 (by rfl) T.b_int (by decide +kernel) (pa_cons (pe_ix ix_list (pv 0) pe_int (fun _ _ => rfl)) pa_nil)) (pv 1)))
    (pss_cons (ps_asg (pe_op op_fdivX (pe_ix ix_list (pv 0) pe_int (fun _ _ => rfl)) (pv 1)) (pg_sub (pv 0) pe_int set_list))
    (pss_one (ps_ret (pv 2))))) pss_nil)
    (pss_cons (ps_asg (pe_op op_add (pe_ix ix_list (pv 0) pe_int (fun _ _ => rfl)) pe_int) (pg_sub (pv 0) pe_int set_list))
    (pss_cons (ps_set (i := 3) sc_roll.nd rfl (Or.inl rfl) (pe_op op_modN (pe_callTy call_int1 (by rfl) T.b_int (by decide +kernel) (pa_cons (pe_op op_add (pe_ix ix_list (pv 0) pe_int (fun _ _ => rfl)) (pe_op op_mul pe_int (pe_ix ix_list (pv 0) pe_int (fun _ _ => rfl)))) pa_nil)) pe_int))
    (pss_cons (ps_set (i := 4) sc_roll.nd rfl (Or.inl rfl) (pe_op op_add (pe_op op_mul (pe_op op_modN (pe_callTy call_int1 (by rfl) T.b_int (by decide +kernel) (pa_cons (pe_op op_add (pe_op op_mul (pv 3) (pv 3)) (pe_op op_mul pe_int (pe_ix ix_list (pv 0) pe_int (fun _ _ => rfl)))) pa_nil)) pe_int) pe_int) (pv 3)))
    (pss_one (ps_ret (pe_op op_modN (pe_callTy call_int1 (by rfl) T.b_int (by decide +kernel) (pa_cons (pe_op op_fdivX (pv 4) pe_int) pa_nil)) (pv 1)))))))), ?_⟩
  refine ⟨a, rfl, ha, fun l z c => ?_⟩
  have back : ∀ o, upd (upd (upd H a (d3 l z c)) a o) a (DiceO a) = H := fun o => by
    rw [upd_upd, upd_upd]
    funext b
    by_cases hb : b = a
    · rw [hb, upd_same, ha]
    · rw [upd_ne hb]
  repeat' (walk_at "rd")
  refine ite2 (fun h1 => ?_) (fun h2 => ?_)
  · have hdl : CDivX l n := hd
    repeat' (walk_at "rd")
    exact ⟨⟨_, _, _, upd_same⟩, (by
      show Q _ (upd (upd (upd H a _) a _) a _)
      rw [back]
      exact k _ (fmod_in h0).1 (fmod_in h0).2)⟩
  · repeat' (first | walk_at "rd" | refine ⟨.inl (h64 _), ?_⟩  | refine ⟨.inl (h64' _), ?_⟩ | refine ⟨(show CDivX _ 65536 from ⟨by decide, by decide +kernel⟩), ?_⟩ | fail)
    exact ⟨⟨_, _, _, upd_same⟩, (by
      show Q _ (upd (upd (upd H a _) a _) a _)
      rw [back]
      exact k _ (fmod_in h0).1 (fmod_in h0).2)⟩
theorem sc_pick : FnScope ["_law_dice_here", "_law_items"] ["_law_dice_here", "_law_items"] (defScope s_pick) := ⟨rfl, rfl, rfl, by decide +kernel, rfl, by decide +kernel, by decide +kernel⟩
theorem ok_pick (T : Bn mg) (D : DefAt K mg "_law_pick" s_pick) (F__law_roll : FnAt P w K mg base 1 "_law_roll" ["_law_dice_here", "_law_total"] spRoll) : FnAt P w K mg base 2 "_law_pick" ["_law_dice_here", "_law_items"] (spPick K) := by
  refine fnAt D sc_pick (fun _ _ _ _ _ _ us hl => match us, hl with | [_, _], _ => rfl) (fun vs H Q E h => ?_) fun f cdv A outer s H vs Q E hr h => ?_
  · obtain ⟨a, b, xs, rfl, _⟩ := h
    rfl
  obtain ⟨a, b, xs, rfl, ha, hb, hne, hl, k⟩ := h
  have hp : 0 < xs.length := List.length_pos_iff.mpr hne
  refine ⟨_, pss_one (ps_ret (pe_ix ix_list (pv 1) (callA F__law_roll (hr.mono (by decide)) rfl (pa_cons (pv 0) (pa_cons (pe_callB call_len_seq (by rfl) T.b_len (by decide +kernel) (pa_cons (pv 1) pa_nil)) pa_nil))) (fun _ _ => rfl))), ?_⟩
  refine ⟨_, rfl, _, rfl, _, rfl, b, xs, rfl, .inl hb, a, _, rfl, ha, by omega, ?_, fun r h0 h1 => ?_⟩
  · exact Nat.lt_of_le_of_lt (show ((xs.length : Int)).natAbs ≤ 1000000 by omega) (by decide +kernel)
  obtain ⟨j, rfl⟩ : ∃ j : Nat, r = (j : Int) := ⟨r.toNat, by omega⟩
  have hj : j < xs.length := by omega
  exact ⟨b, xs, _, xs[j], rfl, rfl, hb, atI_nat (List.getElem?_eq_getElem hj), k _ (List.getElem_mem hj)⟩
end
end My
namespace My
open PySem PySem.Spec PyProof.Rows L2
local macro_rules | `(tactic| walk_at "side") => `(tactic| first | assumption | decide | exact Or.inl ⟨by decide, by decide⟩ | exact Or.inr ⟨by decide, by decide⟩ | exact ⟨by decide, by decide, by decide⟩ | omega | (unfold CMulW; decide +kernel) | (dsimp only; first | assumption | omega | decide +kernel) | exact len_ok (Nat.le_of_ble_eq_true rfl) | fail "side")
local macro_rules | `(tactic| walk_at "rd") => `(tactic| first
  | refine ⟨_, _, _, _, rfl, rfl, SqL.of upd_same, atI_nat (j := 0) rfl, ?_⟩ | refine ⟨_, _, _, _, rfl, rfl, SqL.of upd_same, atI_nat (j := 1) rfl, ?_⟩ | refine ⟨_, _, _, _, rfl, rfl, SqL.of upd_same, atI_nat (j := 2) rfl, ?_⟩
  | refine ⟨_, _, _, _, rfl, rfl, upd_same, rfl, ?_⟩
  | refine ⟨_, _, rfl, rfl, ?_⟩ | refine ⟨_, rfl, ?_⟩ | refine ⟨_, _, rfl, ?_⟩ | refine Or.inl ⟨_, rfl, ?_⟩ | refine Or.inr ⟨_, rfl, ?_⟩ | refine ⟨(by walk_at "side"), ?_⟩ | fail "rd")
/-! ### numbers -/
structure Nm where
  t : Int
  p : Int
  r : Int
  b : Int
  deriving DecidableEq
def nf (n : Nm) : List (Str × V) := [("_top", .int n.t), ("_part", .int n.p), ("_root", .int n.r), ("_bottom", .int n.b)]
theorem nf_top (n : Nm) : (nf n).lookup ("_top" : Str) = some (.int n.t) := rfl
theorem nf_part (n : Nm) : (nf n).lookup ("_part" : Str) = some (.int n.p) := rfl
theorem nf_root (n : Nm) : (nf n).lookup ("_root" : Str) = some (.int n.r) := rfl
theorem nf_bottom (n : Nm) : (nf n).lookup ("_bottom" : Str) = some (.int n.b) := rfl
def NumAt (C : Addr) (H : Hp) (a : Addr) (n : Nm) : Prop := ∃ dx, H a = some (.ins C dx (nf n))
theorem NumAt.ext {C : Addr} {H H' : Hp} {a : Addr} {n : Nm} (h : NumAt C H a n) (e : Ext H H') : NumAt C H' a n := let ⟨dx, q⟩ := h; ⟨dx, e _ _ q⟩
def squares : List Int := [4, 9, 25, 49, 121, 169, 289, 361, 529, 841, 961]
def rootOk (r : Int) : Bool := (decide (2 ≤ r) && decide (r ≤ 999)) && squares.all fun q => !decide (r.fmod q = 0)
def validN (t p r b : Int) : Bool := if b = 0 then false else if r = 0 then decide (p = 0) else rootOk r
def com (t p b : Int) : Int := ((Nat.gcd (Nat.gcd b.natAbs p.natAbs) t.natAbs : Nat) : Int)
def coms (t p b : Int) : Int := if b < 0 then -com t p b else com t p b
def lst (t p r b : Int) : Nm := ⟨t.fdiv (coms t p b), p.fdiv (coms t p b), if p = 0 then 0 else r, b.fdiv (coms t p b)⟩
/-! ### the class as the top has made it -/
structure PropT (K : PySem.W.Frag) (C : Addr) (x : Str) (qual : Str) (st : Stmt) : Prop where
  ex : ∃ (p g : Addr) (fd : FuncData), PropOf K C x p g ∧ Fun K x qual st g fd
structure MethT (K : PySem.W.Frag) (C : Addr) (x : Str) (qual : Str) (st : Stmt) : Prop where
  ex : ∃ (f : Addr) (fd : FuncData), Meth K C x f ∧ PySem.W.isFn K (.ref f) = true ∧ Fun K x qual st f fd
structure OpT (K : PySem.W.Frag) (C : Addr) (op : Operator) (x qual : Str) (st : Stmt) : Prop where
  ex : ∃ (f : Addr) (fd : FuncData), OwnOp K C op f ∧ Fun K x qual st f fd
structure SpT (K : PySem.W.Frag) (C : Addr) (x qual : Str) (st : Stmt) : Prop where
  ex : ∃ (f : Addr) (fd : FuncData), PySem.W.findIn K (.ref C) x = some (some (.ref f)) ∧ PySem.W.isFn K (.ref f) = true ∧ Fun K x qual st f fd
/-- the promises of these -/
structure PropAt (P : Program) (w : World) (K : PySem.W.Frag) (mg : Str → Option Value) (base : Heap) (k : Nat) (C : Addr) (x : Str) (sp : Sp) : Prop where
  ex : ∃ (p g : Addr) (fd : FuncData), PropOf K C x p g ∧ Binds K fd ["self"] [] ∧ FnOk P w K mg base CX0 k g fd ["self"] sp
structure MethAt (P : Program) (w : World) (K : PySem.W.Frag) (mg : Str → Option Value) (base : Heap) (k : Nat) (C : Addr) (x : Str) (ps : List Str) (sp : Sp) : Prop where
  ex : ∃ (f : Addr) (fd : FuncData), Meth K C x f ∧ Binds K fd ps [] ∧ FnOk P w K mg base CX0 k f fd ps sp
structure OpAt (P : Program) (w : World) (K : PySem.W.Frag) (mg : Str → Option Value) (base : Heap) (k : Nat) (C : Addr) (op : Operator) (sp : Sp) : Prop where
  ex : ∃ (f : Addr) (fd : FuncData), OwnOp K C op f ∧ Binds K fd ["self", "other"] [] ∧ FnOk P w K mg base CX0 k f fd ["self", "other"] sp
structure SpAt (P : Program) (w : World) (K : PySem.W.Frag) (mg : Str → Option Value) (base : Heap) (k : Nat) (C : Addr) (x : Str) (ps : List Str) (sp : Sp) : Prop where
  ex : ∃ (f : Addr) (fd : FuncData), PySem.W.findIn K (.ref C) x = some (some (.ref f)) ∧ PySem.W.isFn K (.ref f) = true ∧ Binds K fd ps [] ∧ FnOk P w K mg base CX0 k f fd ps sp
section
variable {X : Cx} {k n : Nat} {C : Addr} {x : Str} {ps : List Str} {sp : Sp} {p pos apos : Pos} {e o : Expr} {es : List Expr} {t : TA} {ta to : TE}
theorem propA (F : PropAt X.prog X.w X.K X.mg X.base k C x sp) (c : Cls X.K C) (hr : Room (k + 1) X.A) (he : PE X e ta) (hab : attributeBase e x X.env (eval e X.env) = eval e X.env := by rfl) : PE X (.Attribute e x pos) (tProp C sp [] E0 ta) := by
  obtain ⟨q, g, fd, hp, hb, G⟩ := F.ex
  exact pe_prop he c hp G hr hb .nil pass0 hab
theorem opA {op : Operator} (F : OpAt X.prog X.w X.K X.mg X.base k C op sp) (hr : Room k X.A) : OpR X (binaryOp op) (rOwn C sp E0) := by
  obtain ⟨f, fd, W, hb, G⟩ := F.ex
  exact op_own W G hr hb pass0
theorem negA (F : SpAt X.prog X.w X.K X.mg X.base k C "__neg__" ["self"] sp) (hr : Room k X.A) : UnR X (unaryOp .USub) (rOwnU C sp E0) := by
  obtain ⟨f, fd, hs, hf, hb, G⟩ := F.ex
  exact un_ownNeg hs hf G hr hb pass0
theorem eqA (F : SpAt X.prog X.w X.K X.mg X.base k C "__eq__" ["self", "other"] sp) (hr : Room k X.A) : OpR X (compareOp .Eq) (rOwnEq C sp E0) := by
  obtain ⟨f, fd, hs, hf, hb, G⟩ := F.ex
  exact op_ownEq hs hf G hr hb pass0
end
section
variable {P : Program} {w : World} {K : PySem.W.Frag} {mg : Str → Option Value} {base : Heap} {C : Addr}
theorem propAt {x qual : Str} {st : Stmt} {N : List Str} {k : Nat} {sp : Sp} (D : PropT K C x qual st) (S : FnScope N ["self"] (defScope st))
    (hbind : ∀ (kV doc pm : Value) (an : Option Addr) (cdv ct : Value) (us : List Value), us.length = 1 → bindArgs (PySem.W.fnOf x qual (defArgs st) (defBody st) (defScope st) .none kV doc pm an cdv ct) ⟨us, []⟩ = pure ((["self"] : List Str).zip us))
    (len : ∀ vs H Q E, sp vs H Q E → vs.length = 1)
    (hbody : ∀ (f : Addr) (cdv : Value) (A : Around) (outer : List Env) (s : Shared) (H : Hp) (vs : List V) (Q : VK) (E : XK), Room k (A.deeper (envOfC qual (defScope st) s.heap.objs.size f cdv)) → sp vs H Q E →
      ∃ t, PSs (cxOf CX0 P w K mg base N qual (defScope st) f cdv A outer s H E).nox (defBody st) t ∧ t { nx := fun _ H' => Q .non H', rt := Q } (start N vs) H) : PropAt P w K mg base (k + 1) C x sp := by
  obtain ⟨p, g, fd, hp, F⟩ := D.ex
  exact ⟨p, g, fd, hp, F.binds hbind, F.ok S len fun cdv A outer s H vs Q E hr h => hbody g cdv A outer s H vs Q E hr h⟩
theorem spAt {x qual : Str} {st : Stmt} {N ps : List Str} {k : Nat} {sp : Sp} (D : SpT K C x qual st) (S : FnScope N ps (defScope st))
    (hbind : ∀ (kV doc pm : Value) (an : Option Addr) (cdv ct : Value) (us : List Value), us.length = ps.length → bindArgs (PySem.W.fnOf x qual (defArgs st) (defBody st) (defScope st) .none kV doc pm an cdv ct) ⟨us, []⟩ = pure (ps.zip us))
    (len : ∀ vs H Q E, sp vs H Q E → vs.length = ps.length)
    (hbody : ∀ (f : Addr) (cdv : Value) (A : Around) (outer : List Env) (s : Shared) (H : Hp) (vs : List V) (Q : VK) (E : XK), Room k (A.deeper (envOfC qual (defScope st) s.heap.objs.size f cdv)) → sp vs H Q E →
      ∃ t, PSs (cxOf CX0 P w K mg base N qual (defScope st) f cdv A outer s H E).nox (defBody st) t ∧ t { nx := fun _ H' => Q .non H', rt := Q } (start N vs) H) : SpAt P w K mg base (k + 1) C x ps sp := by
  obtain ⟨f, fd, hs, hf, F⟩ := D.ex
  exact ⟨f, fd, hs, hf, F.binds hbind, F.ok S len fun cdv A outer s H vs Q E hr h => hbody f cdv A outer s H vs Q E hr h⟩
theorem opAt {op : Operator} {x qual : Str} {st : Stmt} {N : List Str} {k : Nat} {sp : Sp} (D : OpT K C op x qual st) (S : FnScope N ["self", "other"] (defScope st))
    (hbind : ∀ (kV doc pm : Value) (an : Option Addr) (cdv ct : Value) (us : List Value), us.length = 2 → bindArgs (PySem.W.fnOf x qual (defArgs st) (defBody st) (defScope st) .none kV doc pm an cdv ct) ⟨us, []⟩ = pure ((["self", "other"] : List Str).zip us))
    (len : ∀ vs H Q E, sp vs H Q E → vs.length = 2)
    (hbody : ∀ (f : Addr) (cdv : Value) (A : Around) (outer : List Env) (s : Shared) (H : Hp) (vs : List V) (Q : VK) (E : XK), Room k (A.deeper (envOfC qual (defScope st) s.heap.objs.size f cdv)) → sp vs H Q E →
      ∃ t, PSs (cxOf CX0 P w K mg base N qual (defScope st) f cdv A outer s H E).nox (defBody st) t ∧ t { nx := fun _ H' => Q .non H', rt := Q } (start N vs) H) : OpAt P w K mg base (k + 1) C op sp := by
  obtain ⟨f, fd, hs, F⟩ := D.ex
  exact ⟨f, fd, hs, F.binds hbind, F.ok S len fun cdv A outer s H vs Q E hr h => hbody f cdv A outer s H vs Q E hr h⟩
theorem methAt {x qual : Str} {st : Stmt} {N ps : List Str} {k : Nat} {sp : Sp} (D : MethT K C x qual st) (S : FnScope N ps (defScope st))
    (hbind : ∀ (kV doc pm : Value) (an : Option Addr) (cdv ct : Value) (us : List Value), us.length = ps.length → bindArgs (PySem.W.fnOf x qual (defArgs st) (defBody st) (defScope st) .none kV doc pm an cdv ct) ⟨us, []⟩ = pure (ps.zip us))
    (len : ∀ vs H Q E, sp vs H Q E → vs.length = ps.length)
    (hbody : ∀ (f : Addr) (cdv : Value) (A : Around) (outer : List Env) (s : Shared) (H : Hp) (vs : List V) (Q : VK) (E : XK), Room k (A.deeper (envOfC qual (defScope st) s.heap.objs.size f cdv)) → sp vs H Q E →
      ∃ t, PSs (cxOf CX0 P w K mg base N qual (defScope st) f cdv A outer s H E).nox (defBody st) t ∧ t { nx := fun _ H' => Q .non H', rt := Q } (start N vs) H) : MethAt P w K mg base (k + 1) C x ps sp := by
  obtain ⟨f, fd, hs, hf, F⟩ := D.ex
  exact ⟨f, fd, hs, F.binds hbind, F.ok S len fun cdv A outer s H vs Q E hr h => hbody f cdv A outer s H vs Q E hr h⟩

/-! ### is_any_integer, _are_valid -/
abbrev s_isint : Stmt := top 8
abbrev s_valid : Stmt := top 15
theorem sc_valid : FnScope ["top", "part", "root", "bottom", "value", "square"] ["top", "part", "root", "bottom"] (defScope s_valid) := ⟨rfl, rfl, rfl, by decide +kernel, rfl, by decide +kernel, by decide +kernel⟩
/-- its kind is told; ints are ints -/
def spIsInt : Sp := fun vs H Q _ => ∃ i : Int, vs = [.int i] ∧ Q (.bl true) H
theorem sc_isint : FnScope ["value"] ["value"] (defScope s_isint) := ⟨rfl, rfl, rfl, by decide +kernel, rfl, by decide +kernel, by decide +kernel⟩
theorem kit_int : kitB "int" "int" = some true := by decide +kernel
theorem kit_intbool : kitB "int" "bool" = some false := by decide +kernel
theorem ok_isint (T : Bn mg) (D : DefAt K mg "is_any_integer" s_isint) : FnAt P w K mg base 1 "is_any_integer" ["value"] spIsInt := by
  refine fnAt D sc_isint (fun _ _ _ _ _ _ us hl => match us, hl with | [_], _ => rfl) (fun vs H Q E h => ?_) fun f cdv A outer s H vs Q E hr h => ?_
  · obtain ⟨i, rfl, _⟩ := h
    rfl
  obtain ⟨i, rfl, k⟩ := h
  refine ⟨_, (pss_one (ps_ret (pe_and (pe_callB call_isi (by rfl) T.b_isinstance (by decide +kernel) (pa_cons (pv 0) (pa_cons (pe_bltn (v := .ty "int") (by rfl) T.b_int (by decide +kernel) rfl) pa_nil))) (pe_one (pe_not (pe_callB call_isi (by rfl) T.b_isinstance (by decide +kernel) (pa_cons (pv 0) (pa_cons (pe_bltn (v := .ty "bool") (by rfl) T.b_bool (by decide +kernel) rfl) pa_nil)))))))), ?_⟩
  refine ⟨_, rfl, _, _, _, _, true, rfl, .ty _, .base (.int _), kit_ty kit_int, _, rfl, ?_⟩
  refine iteT ?_
  refine ⟨_, rfl, _, _, _, _, false, rfl, .ty _, .base (.int _), kit_ty kit_intbool, _, rfl, ?_⟩
  exact k

def spValid : Sp := fun vs H Q _ => ∃ t p r b : Int, vs = [.int t, .int p, .int r, .int b] ∧ ∀ H', Ext H H' → Q (.bl (validN t p r b)) H'
/-- the module's constants -/
structure NumK (K : PySem.W.Frag) (mg : Str → Option Value) : Prop where
  g_MAX_ROOT : ∃ t, mg "MAX_ROOT" = some (.int 999 t)
  g_SQ : ∃ q : Addr, mg "PRIME_SQUARES" = some (.ref q) ∧ ∀ H : Hp, SqT K H q (squares.map V.int)
theorem ok_valid (T : Bn mg) (N : NumK K mg) (D : DefAt K mg "_are_valid" s_valid) (F_is_any_integer : FnAt P w K mg base 1 "is_any_integer" ["value"] spIsInt) : FnAt P w K mg base 2 "_are_valid" ["top", "part", "root", "bottom"] spValid := by
  refine fnAt D sc_valid (fun _ _ _ _ _ _ us hl => match us, hl with | [_, _, _, _], _ => rfl) (fun vs H Q E h => ?_) fun f cdv A outer s H vs Q E hr h => ?_
  · obtain ⟨t, p, r, b, rfl, _⟩ := h
    rfl
  obtain ⟨t, p, r, b, rfl, k⟩ := h
  obtain ⟨tk, g1⟩ := N.g_MAX_ROOT
  obtain ⟨sq, g2, g3⟩ := N.g_SQ
  refine ⟨_, (pss_cons (ps_if (pt_not (pt_val (pe_callB (cr_all rfl) (by rfl) T.b_all (by decide +kernel) (pa_cons (pe_lc (own := [("value", 4)]) (g := gName 4) (tt := tYes) rfl sc_valid.nd (pi_tup (pe_tup (pa_cons (pv 0) (pa_cons (pv 1) (pa_cons (pv 2) (pa_cons (pv 3) pa_nil)))))) (blkOk_by (N := ["top", "part", "root", "bottom", "value", "square"]) (sc := defScope s_valid) (by decide +kernel)) (fun _ _ _ _ _ => pg_name (i := 4) sc_valid.nd rfl (Or.inl rfl)) (fun _ _ _ _ _ => pts_nil) (fun _ _ _ _ _ => (callA F_is_any_integer (hr.mono (by decide)) rfl (pa_cons (pv 4) pa_nil)))) pa_nil)))) (pss_one (ps_ret pe_bl)) pss_nil)
    (pss_cons (ps_if (pt_cmpR op_eq (pv 3) pe_int (nomark _)) (pss_one (ps_ret pe_bl)) pss_nil)
    (pss_cons (ps_if (pt_cmpR op_eq (pv 2) pe_int (nomark _)) (pss_one (ps_ret (pe_cmpR op_eq (pv 1) pe_int (nomark _)))) pss_nil)
    (pss_one (ps_ret (pe_and (pe_chain op_le op_le pe_int (pv 2) (pe_glob (v := .int 999) rfl g1 ⟨_, rfl⟩)) (pe_one (pe_callB (cr_all rfl) (by rfl) T.b_all (by decide +kernel) (pa_cons (pe_lc (own := [("square", 5)]) (g := gName 5) (tt := tYes) rfl sc_valid.nd (pi_tup (pe_glob (v := .ref sq) rfl g2 rfl)) (blkOk_by (N := ["top", "part", "root", "bottom", "value", "square"]) (sc := defScope s_valid) (by decide +kernel)) (fun _ _ _ _ _ => pg_name (i := 5) sc_valid.nd rfl (Or.inl rfl)) (fun _ _ _ _ _ => pts_nil) (fun _ _ _ _ _ => (pe_cmpR op_ne (pe_op op_modN (pv 2) (pv 5)) pe_int (nomark _)))) pa_nil))))))))), ?_⟩
  refine ⟨_, rfl, _, rfl, _, rfl, _, rfl, len_ok (Nat.le_of_ble_eq_true rfl), fun q hq => ?_⟩
  refine ⟨q, rfl, ⟨_, SqT.of upd_same⟩, fun D hD => map_tup (xs := [.int t, .int p, .int r, .int b]) (fun _ _ => .bl true) (SqT.of upd_same) hD (Nat.le_of_ble_eq_true rfl) (fun _ => rfl) (fun i x H' hi e Q' k' => ?_) fun H' e hl => ?_⟩
  · refine ⟨x, rfl, ?_⟩
    have hx : ∃ z : Int, x = .int z := by
      match i, hi with
      | 0, hi => exact ⟨_, (Option.some.inj hi).symm⟩
      | 1, hi => exact ⟨_, (Option.some.inj hi).symm⟩
      | 2, hi => exact ⟨_, (Option.some.inj hi).symm⟩
      | 3, hi => exact ⟨_, (Option.some.inj hi).symm⟩
      | i + 4, hi => simp at hi
    obtain ⟨z, rfl⟩ := hx
    exact ⟨z, rfl, k' H' (ext_refl _)⟩
  have e0 : Ext H H' := (ext_new (ext_refl H) hq).trans e
  refine ⟨D, [true, true, true, true], rfl, SqL.of hl, _, rfl, ?_⟩
  refine iteF ?_
  refine ⟨_, rfl, rfl, _, rfl, ite2 (fun hb => ?_) (fun hb => ?_)⟩
  · have hb' : b = 0 := V.int.inj (of_decide_eq_true hb)
    have ev : validN t p r b = false := by unfold validN; rw [if_pos hb']
    exact ev ▸ k H' e0
  have nb : ¬ b = 0 := fun z => hb (decide_eq_true (by rw [z]))
  refine ⟨_, rfl, rfl, _, rfl, ite2 (fun hb => ?_) (fun hb => ?_)⟩
  · have hr' : r = 0 := V.int.inj (of_decide_eq_true hb)
    have ev : validN t p r b = decide (V.int p = V.int 0) := by
      unfold validN
      rw [if_neg nb, if_pos hr']
      exact decide_eq_decide.mpr ⟨fun z => by rw [z], fun z => V.int.inj z⟩
    refine ⟨_, rfl, rfl, ?_⟩
    exact ev ▸ k H' e0
  have nr : ¬ r = 0 := fun z => hb (decide_eq_true (by rw [z]))
  have ev : validN t p r b = rootOk r := by unfold validN; rw [if_neg nb, if_neg nr]
  rw [ev] at k
  refine ⟨_, rfl, _, _, rfl, rfl, _, rfl, ite2 (fun h2 => ?_) (fun h2 => ?_)⟩
  · refine ⟨_, _, rfl, rfl, _, rfl, ite2 (fun h9 => ?_) (fun h9 => ?_)⟩
    · refine ⟨sq, rfl, ⟨_, g3 _⟩, fun D2 hD2 => map_tup (xs := squares.map V.int) (fun _ x => match x with | .int q => .bl (!decide (r.fmod q = 0)) | _ => .non) (g3 _) hD2 (by decide) (fun _ => rfl) (fun i x H2 hi e2 Q' k' => ?_) fun H2 e2 hl2 => ?_⟩
      · rw [List.getElem?_map] at hi
        cases hq : squares[i]? with
        | none => rw [hq] at hi; cases hi
        | some z =>
          rw [hq] at hi
          cases (Option.some.inj hi)
          have hz : z ≠ 0 := by
            have hm := List.mem_of_getElem? hq
            intro z0
            rw [z0] at hm
            exact absurd hm (by decide)
          refine ⟨_, rfl, _, rfl, _, _, rfl, rfl, hz, rfl, ?_⟩
          have e5 : (!decide (V.int (r.fmod z) = V.int 0)) = !decide (r.fmod z = 0) := congrArg (!·) (decide_eq_decide.mpr ⟨fun z => V.int.inj z, fun z => by rw [z]⟩)
          show Q' (.bl (!decide (V.int (r.fmod z) = V.int 0))) _
          rw [e5]
          exact k' H2 (ext_refl _)
      · refine ⟨D2, squares.map (fun q => !decide (r.fmod q = 0)), rfl, SqL.of ?_, ?_⟩
        · rw [hl2]
          rfl
        · have e6 : (squares.map (fun q => !decide (r.fmod q = 0))).all id = rootOk r := by
            unfold rootOk
            rw [h2, h9, List.all_map]
            rfl
          show Q (.bl ((squares.map (fun q => !decide (r.fmod q = 0))).all id)) H2
          rw [e6]
          exact k H2 (e0.trans e2)
    · have e7 : rootOk r = false := by unfold rootOk; rw [decide_eq_false (fun z => h9 (decide_eq_true z)), Bool.and_false]; rfl
      exact e7 ▸ k H' e0
  · have e7 : rootOk r = false := by unfold rootOk; rw [decide_eq_false (fun z => h2 (decide_eq_true z))]; rfl
    refine ⟨_, rfl, iteF ?_⟩
    exact e7 ▸ k H' e0
end
end My
namespace My
open PySem PySem.Spec PyProof.Rows L2
local macro_rules | `(tactic| walk_at "side") => `(tactic| first | assumption | decide | exact Or.inl ⟨by decide, by decide⟩ | exact Or.inr ⟨by decide, by decide⟩ | exact ⟨by decide, by decide, by decide⟩ | omega | (unfold CMulW; decide +kernel) | (dsimp only; first | assumption | omega | decide +kernel) | exact len_ok (Nat.le_of_ble_eq_true rfl) | fail "side")
local macro_rules | `(tactic| walk_at "rd") => `(tactic| first
  | refine ⟨_, _, _, _, rfl, rfl, SqL.of upd_same, atI_nat (j := 0) rfl, ?_⟩ | refine ⟨_, _, _, _, rfl, rfl, SqL.of upd_same, atI_nat (j := 1) rfl, ?_⟩ | refine ⟨_, _, _, _, rfl, rfl, SqL.of upd_same, atI_nat (j := 2) rfl, ?_⟩
  | refine ⟨_, _, _, _, rfl, rfl, upd_same, rfl, ?_⟩
  | refine ⟨_, _, rfl, rfl, ?_⟩ | refine ⟨_, rfl, ?_⟩ | refine ⟨_, _, rfl, ?_⟩ | refine Or.inl ⟨_, rfl, ?_⟩ | refine Or.inr ⟨_, rfl, ?_⟩ | refine ⟨(by walk_at "side"), ?_⟩ | fail "rd")

abbrev s_ninit : Stmt := inClass (top 13) 0
theorem sc_ninit : FnScope ["self", "top", "part", "root", "bottom", "common"] ["self", "top", "part", "root", "bottom"] (defScope s_ninit) := ⟨rfl, rfl, rfl, by decide +kernel, rfl, by decide +kernel, by decide +kernel⟩
abbrev s_ntop : Stmt := inClass (top 13) 2
theorem sc_ntop : FnScope ["self"] ["self"] (defScope s_ntop) := ⟨rfl, rfl, rfl, by decide +kernel, rfl, by decide +kernel, by decide +kernel⟩
abbrev s_npart : Stmt := inClass (top 13) 3
theorem sc_npart : FnScope ["self"] ["self"] (defScope s_npart) := ⟨rfl, rfl, rfl, by decide +kernel, rfl, by decide +kernel, by decide +kernel⟩
abbrev s_nroot : Stmt := inClass (top 13) 4
theorem sc_nroot : FnScope ["self"] ["self"] (defScope s_nroot) := ⟨rfl, rfl, rfl, by decide +kernel, rfl, by decide +kernel, by decide +kernel⟩
abbrev s_nbottom : Stmt := inClass (top 13) 5
theorem sc_nbottom : FnScope ["self"] ["self"] (defScope s_nbottom) := ⟨rfl, rfl, rfl, by decide +kernel, rfl, by decide +kernel, by decide +kernel⟩
/-- the class Number as the top has made it -/
structure NumT (K : PySem.W.Frag) (mg : Str → Option Value) (C : Addr) : Prop where
  g : mg "Number" = some (.ref C)
  cl : Cls K C
  nT : NoAttr K C "_top"
  nP : NoAttr K C "_part"
  nR : NoAttr K C "_root"
  nB : NoAttr K C "_bottom"
  ini : ∃ f fd, Mk K C f ∧ FunD K "__init__" "Number.__init__" (defArgs s_ninit) (defBody s_ninit) (defScope s_ninit) [.int 0] [("root", .int 0), ("bottom", .int 1)] f fd
  m_gcd : mg "gcd" = some (.builtin "math.gcd")
/-- arguments of a number: right, and not too long -/
structure NV (t p r b : Int) : Prop where
  ok : validN t p r b = true
  zb : Sz 9000 b
theorem NV.b0 {t p r b : Int} (h : NV t p r b) : b ≠ 0 := fun z => by
  have := h.ok
  unfold validN at this
  rw [if_pos z] at this
  cases this
def spInit (C : Addr) : Sp := fun vs H Q _ => ∃ (x dx : Addr) (t p r b : Int), vs = [.ref x, .int t, .int p, .int r, .int b] ∧ H x = some (.ins C dx []) ∧ NV t p r b ∧
  ∀ H', (∀ a o, H a = some o → a ≠ x → H' a = some o) → H' x = some (.ins C dx (nf (lst t p r b))) → Q .non H'
structure InitAt (P : Program) (w : World) (K : PySem.W.Frag) (mg : Str → Option Value) (base : Heap) (k : Nat) (C : Addr) (sp : Sp) : Prop where
  ex : ∃ (f : Addr) (fd : FuncData), Mk K C f ∧ FnOk P w K mg base CX0 k f fd ["self", "top", "part", "root", "bottom"] sp ∧
    (∃ g, KBn K fd ["self", "top", "part", "root", "bottom"] 3 ["root", "bottom"] g (fun vs zs => vs ++ zs)) ∧
    (∃ g, KBn K fd ["self", "top", "part", "root", "bottom"] 2 ["bottom"] g (fun vs zs => vs ++ (.int 0 :: .int 0 :: zs))) ∧
    (∃ ds, Vals [.int 0, .int 0, .int 1] ds ∧ Binds K fd ["self", "top", "part", "root", "bottom"] ds) ∧
    ∃ g, KBn K fd ["self", "top", "part", "root", "bottom"] 3 ["root"] g (fun vs zs => vs ++ (zs ++ [.int 1]))
theorem com_pos {t p b : Int} (h : b ≠ 0) : 0 < com t p b := by
  unfold com
  have h1 : 0 < Nat.gcd b.natAbs p.natAbs := Nat.gcd_pos_of_pos_left _ (by omega)
  have h2 : 0 < Nat.gcd (Nat.gcd b.natAbs p.natAbs) t.natAbs := Nat.gcd_pos_of_pos_left _ h1
  omega
theorem com_le {t p b : Int} (h : b ≠ 0) : (com t p b).natAbs ≤ b.natAbs := by
  unfold com
  rw [Int.natAbs_natCast]
  exact Nat.le_trans (Nat.le_of_dvd (Nat.gcd_pos_of_pos_left _ (by omega)) (Nat.gcd_dvd_left _ _)) (Nat.le_of_dvd (by omega) (Nat.gcd_dvd_left _ _))
theorem coms_abs {t p b : Int} : (coms t p b).natAbs = (com t p b).natAbs := by
  unfold coms
  split
  · rw [Int.natAbs_neg]
  · rfl
theorem coms_ne {t p b : Int} (h : b ≠ 0) : coms t p b ≠ 0 := fun z => by
  have := com_pos (t := t) (p := p) h
  have e := coms_abs (t := t) (p := p) (b := b)
  rw [z] at e
  omega
theorem NV.div {t p r b : Int} (h : NV t p r b) (i : Int) : CDivX i (coms t p b) :=
  Sz.cdiv (coms_ne h.b0) (Sz.ofLt (by rw [coms_abs]; exact com_le h.b0) h.zb) (by decide) (by decide)
section
variable {P : Program} {w : World} {K : PySem.W.Frag} {mg : Str → Option Value} {base : Heap} {C : Addr}
theorem ok_init (T : Bn mg) (NC : NumT K mg C) (F__are_valid : FnAt P w K mg base 2 "_are_valid" ["top", "part", "root", "bottom"] spValid) : InitAt P w K mg base 3 C (spInit C) := by
  obtain ⟨f, fd, M, F⟩ := NC.ini
  refine ⟨f, fd, M, F.ok sc_ninit (fun vs H Q E h => ?_) (fun cdv A outer s H vs Q E hr h => ?_), ?_, ?_, ?_, ?_⟩
  · obtain ⟨x, dx, t, p, r, b, rfl, _⟩ := h
    rfl
  · obtain ⟨x, dx, t, p, r, b, rfl, hx, hv, k⟩ := h
    refine ⟨_, PSs.nox (pss_cons (ps_if (pt_not (pt_val (callA F__are_valid (hr.mono (by decide)) rfl (pa_cons (pv 1) (pa_cons (pv 2) (pa_cons (pv 3) (pa_cons (pv 4) pa_nil))))))) (pss_one ps_never) pss_nil)
    (pss_cons (ps_set (i := 5) sc_ninit.nd rfl (Or.inl rfl) (pe_callBfun cr_gcd3 (by rfl) NC.m_gcd (pa_cons (pv 4) (pa_cons (pv 2) (pa_cons (pv 1) pa_nil)))))
    (Evl.pss_cut (ps_if (pt_cmpR op_lt (pv 4) pe_int (nomark _)) (pss_one (ps_set (i := 5) sc_ninit.nd rfl (Or.inl rfl) (pe_un un_neg (pv 5)))) pss_nil)
    (pss_cons (ps_fld (pv 0) (pe_op op_fdivX (pv 1) (pv 5)) rfl)
    (pss_cons (ps_fld (pv 0) (pe_op op_fdivX (pv 2) (pv 5)) rfl)
    (pss_cons (ps_fld (pv 0) (pe_ifExp (pt_cmpR op_ne (pv 2) pe_int (nomark _)) (pv 3) pe_int) rfl)
    (pss_one (ps_fld (pv 0) (pe_op op_fdivX (pv 4) (pv 5)) rfl)))))))), ?_⟩
    refine ⟨_, rfl, _, rfl, _, rfl, _, rfl, t, p, r, b, rfl, fun H1 e1 => ?_⟩
    rw [hv.ok]
    refine ⟨_, rfl, iteF ?_⟩
    refine ⟨_, rfl, _, rfl, _, rfl, _, _, _, rfl, ?_⟩
    refine ⟨fun σ' H' => σ' = [some (.ref x), some (.int t), some (.int p), some (.int r), some (.int b), some (.int (coms t p b))] ∧ H' = H1, ⟨_, rfl, _, _, rfl, rfl, _, rfl, ite2 (fun hb => ?_) (fun hb => ?_)⟩, ?_⟩
    · refine ⟨_, rfl, _, rfl, ?_, rfl⟩
      have e : coms t p b = -com t p b := if_pos (of_decide_eq_true hb)
      rw [e]
      rfl
    · refine ⟨?_, rfl⟩
      have e : coms t p b = com t p b := if_neg (fun z => hb (decide_eq_true z))
      rw [e]
      rfl
    rintro σ' H' ⟨rfl, rfl⟩
    have hx1 : H' x = some (.ins C dx []) := e1 _ _ hx
    refine ⟨_, rfl, _, rfl, _, _, rfl, rfl, hv.div _, _, rfl, x, C, dx, _, rfl, hx1, NC.cl, NC.nT, (by show 0 < 1000; decide), ?_⟩
    refine ⟨_, rfl, _, rfl, _, _, rfl, rfl, hv.div _, _, rfl, x, C, dx, _, rfl, upd_same, NC.cl, NC.nP, (by show 1 < 1000; decide), ?_⟩
    refine ⟨_, rfl, rfl, _, rfl, ?_⟩
    refine ite2 (fun hp => ?a) (fun hp => ?b)
    case' a =>
      have el : lst t p r b = ⟨t.fdiv (coms t p b), p.fdiv (coms t p b), r, b.fdiv (coms t p b)⟩ := by
        unfold lst
        rw [if_neg (fun z => by rw [z] at hp; exact absurd hp (by decide))]
      refine ⟨_, rfl, _, rfl, x, C, dx, _, rfl, upd_same, NC.cl, NC.nR, (by show 2 < 1000; decide), ?_⟩
    case' b =>
      have el : lst t p r b = ⟨t.fdiv (coms t p b), p.fdiv (coms t p b), 0, b.fdiv (coms t p b)⟩ := by
        unfold lst
        rw [if_pos (Classical.byContradiction fun z => hp (by rw [decide_eq_false (fun y => z (V.int.inj y))]; rfl))]
      refine ⟨_, rfl, x, C, dx, _, rfl, upd_same, NC.cl, NC.nR, (by show 2 < 1000; decide), ?_⟩
    all_goals
      refine ⟨_, rfl, _, rfl, _, _, rfl, rfl, hv.div _, _, rfl, x, C, dx, _, rfl, upd_same, NC.cl, NC.nB, (by show 3 < 1000; decide), ?_⟩
      rw [el] at k
      exact k _ (fun a o e hne => by rw [upd_ne hne, upd_ne hne, upd_ne hne, upd_ne hne]; exact e1 _ _ e) upd_same
  · obtain ⟨its, mv, hb⟩ := F.kbinds 3 ["root", "bottom"] [] (fun us its mv ws => us ++ ws) (by simp) (by simp) (fun q hq => by cases hq) (fun r1 _ _ r2 => r1.append r2) (fun T D doc pm an cdv ct us its mv ws h1 h2 h3 h4 =>
      match us, its, mv, ws, h1, h2, h3, h4 with | [_, _, _], [_], [], [_, _], _, _, _, _ => ⟨_, rfl, (by show _ = pure _; first | (with_unfolding_all rfl) | kernel_rfl)⟩)
    exact ⟨_, hb⟩
  · obtain ⟨its, mv, hb⟩ := F.kbinds 2 ["bottom"] [("root", .int 0)] (fun us its mv ws => us ++ (its ++ (mv ++ ws))) (by simp) (by simp) (fun q hq => by simp at hq; simp [hq]) (fun r1 r2 r3 r4 => r1.append (r2.append (r3.append r4))) (fun T D doc pm an cdv ct us its mv ws h1 h2 h3 h4 =>
      match us, its, mv, ws, h1, h2, h3, h4 with | [_, _], [_], [_], [_], _, _, _, _ => ⟨_, rfl, ⟨_, _, _, _, _, _, rfl, rfl, (by show _ = pure _; first | (with_unfolding_all rfl) | kernel_rfl)⟩⟩)
    exact ⟨_, hb⟩
  · exact F.binds 2 0 (by simp) rfl (fun T D doc pm an cdv ct us its ks h1 h2 h3 =>
      match us, its, ks, h1, h2, h3 with | [_, _], [_], [_, _], _, _, _ => ⟨_, rfl, ⟨_, _, _, _, _, _, rfl, rfl, ⟨_, _, _, _, _, _, rfl, rfl, rfl⟩⟩⟩) (by simp)
  · obtain ⟨its, mv, hb⟩ := F.kbinds 3 ["root"] [("bottom", .int 1)] (fun us its mv ws => us ++ (ws ++ mv)) (by simp) (by simp) (fun q hq => by simp at hq; simp [hq]) (fun r1 _ r3 r4 => r1.append (r4.append r3)) (fun T D doc pm an cdv ct us its mv ws h1 h2 h3 h4 =>
      match us, its, mv, ws, h1, h2, h3, h4 with | [_, _, _], [_], [_], [_], _, _, _, _ => ⟨_, rfl, ⟨_, _, _, _, _, _, rfl, rfl, (by show _ = pure _; first | (with_unfolding_all rfl) | kernel_rfl)⟩⟩)
    exact ⟨_, hb⟩
end
end My
namespace My
open PySem
/-! ### least forms: plain arithmetic -/
theorem com_dt {t p b : Int} : com t p b ∣ t := by
  unfold com
  exact Int.natAbs_dvd_natAbs.mp (by rw [Int.natAbs_natCast]; exact Nat.gcd_dvd_right _ _)
theorem com_dp {t p b : Int} : com t p b ∣ p := by
  unfold com
  exact Int.natAbs_dvd_natAbs.mp (by rw [Int.natAbs_natCast]; exact Nat.dvd_trans (Nat.gcd_dvd_left _ _) (Nat.gcd_dvd_right _ _))
theorem com_db {t p b : Int} : com t p b ∣ b := by
  unfold com
  exact Int.natAbs_dvd_natAbs.mp (by rw [Int.natAbs_natCast]; exact Nat.dvd_trans (Nat.gcd_dvd_left _ _) (Nat.gcd_dvd_left _ _))
theorem coms_dvd {t p b x : Int} (h : com t p b ∣ x) : coms t p b ∣ x := by
  unfold coms
  split
  · exact Int.neg_dvd.mpr h
  · exact h
theorem fdiv_of_dvd {x c : Int} (h : c ∣ x) : x.fdiv c * c = x := by
  rw [Int.fdiv_eq_ediv_of_dvd h]
  exact Int.ediv_mul_cancel h
/-- what lst divides by, and its four parts -/
structure LstIs (t p r b c : Int) (n : Nm) : Prop where
  c0 : c ≠ 0
  ht : n.t * c = t
  hp : n.p * c = p
  hb : n.b * c = b
  hr : n.r = if p = 0 then 0 else r
  b1 : 1 ≤ n.b
  cop : com n.t n.p n.b = 1
theorem abs_mul_right {a b : Int} : (a * b).natAbs = a.natAbs * b.natAbs := Int.natAbs_mul a b
theorem lst_is {t p r b : Int} (h : b ≠ 0) : LstIs t p r b (coms t p b) (lst t p r b) := by
  have c0 := coms_ne (t := t) (p := p) h
  have ht : (lst t p r b).t * coms t p b = t := fdiv_of_dvd (coms_dvd com_dt)
  have hp : (lst t p r b).p * coms t p b = p := fdiv_of_dvd (coms_dvd com_dp)
  have hb : (lst t p r b).b * coms t p b = b := fdiv_of_dvd (coms_dvd com_db)
  refine ⟨c0, ht, hp, hb, rfl, ?_, ?_⟩
  · have hc := com_pos (t := t) (p := p) h
    have hs : coms t p b = if b < 0 then -com t p b else com t p b := rfl
    generalize (lst t p r b).b = x at *
    generalize hcc : coms t p b = c at *
    by_cases hneg : b < 0
    · rw [if_pos hneg] at hs
      have : c < 0 := by omega
      refine Classical.byContradiction fun hx => ?_
      have hx' : x ≤ 0 := by omega
      have := Int.mul_nonneg_of_nonpos_of_nonpos hx' (by omega : c ≤ 0)
      omega
    · rw [if_neg hneg] at hs
      refine Classical.byContradiction fun hx => ?_
      have hx' : x ≤ 0 := by omega
      have := Int.mul_nonpos_of_nonpos_of_nonneg hx' (by omega : 0 ≤ c)
      omega
  · have e : (coms t p b).natAbs = Nat.gcd (Nat.gcd b.natAbs p.natAbs) t.natAbs := by
      rw [coms_abs]
      unfold com
      rw [Int.natAbs_natCast]
    have et : t.natAbs = (lst t p r b).t.natAbs * (coms t p b).natAbs := by rw [← abs_mul_right, ht]
    have ep : p.natAbs = (lst t p r b).p.natAbs * (coms t p b).natAbs := by rw [← abs_mul_right, hp]
    have eb : b.natAbs = (lst t p r b).b.natAbs * (coms t p b).natAbs := by rw [← abs_mul_right, hb]
    have e2 : Nat.gcd (Nat.gcd b.natAbs p.natAbs) t.natAbs = Nat.gcd (Nat.gcd (lst t p r b).b.natAbs (lst t p r b).p.natAbs) (lst t p r b).t.natAbs * (coms t p b).natAbs := by
      conv => lhs; rw [et, ep, eb]
      rw [Nat.gcd_mul_right, Nat.gcd_mul_right]
    rw [← e] at e2
    have hc : 0 < (coms t p b).natAbs := by omega
    have e3 : Nat.gcd (Nat.gcd (lst t p r b).b.natAbs (lst t p r b).p.natAbs) (lst t p r b).t.natAbs = 1 := by
      have : 1 * (coms t p b).natAbs = Nat.gcd (Nat.gcd (lst t p r b).b.natAbs (lst t p r b).p.natAbs) (lst t p r b).t.natAbs * (coms t p b).natAbs := by rw [Nat.one_mul]; exact e2
      exact (Nat.eq_of_mul_eq_mul_right hc this).symm
    unfold com
    rw [e3]
    rfl
/-- equal ratios, both least: equal -/
theorem least_eq {t p b t' p' b' : Int} (h1 : 1 ≤ b) (h1' : 1 ≤ b') (c : com t p b = 1) (c' : com t' p' b' = 1) (et : t * b' = t' * b) (ep : p * b' = p' * b) : b = b' ∧ t = t' ∧ p = p' := by
  have key : ∀ {t p b t' p' b' : Int}, com t p b = 1 → t * b' = t' * b → p * b' = p' * b → b.natAbs ∣ b'.natAbs := by
    intro t p b t' p' b' c et ep
    have d1 : b.natAbs ∣ b'.natAbs * b.natAbs := Nat.dvd_mul_left _ _
    have d2 : b.natAbs ∣ b'.natAbs * p.natAbs := by
      rw [Nat.mul_comm, ← abs_mul_right, ep, abs_mul_right]
      exact Nat.dvd_mul_left _ _
    have d3 : b.natAbs ∣ b'.natAbs * t.natAbs := by
      rw [Nat.mul_comm, ← abs_mul_right, et, abs_mul_right]
      exact Nat.dvd_mul_left _ _
    have d4 := Nat.dvd_gcd d1 d2
    rw [Nat.gcd_mul_left] at d4
    have d5 := Nat.dvd_gcd d4 d3
    rw [Nat.gcd_mul_left] at d5
    have e : Nat.gcd (Nat.gcd b.natAbs p.natAbs) t.natAbs = 1 := by
      unfold com at c
      omega
    rw [e, Nat.mul_one] at d5
    exact d5
  have a1 := key c et ep
  have a2 := key (t := t') (p := p') (b := b') (t' := t) (p' := p) (b' := b) c' et.symm ep.symm
  have a3 := Nat.dvd_antisymm a1 a2
  have eb : b = b' := by omega
  subst eb
  have hb : b ≠ 0 := by omega
  exact ⟨rfl, Int.eq_of_mul_eq_mul_right hb et, Int.eq_of_mul_eq_mul_right hb ep⟩
theorem lst_eq {t p r b t' p' r' b' : Int} (h : b ≠ 0) (h' : b' ≠ 0) (et : t * b' = t' * b) (ep : p * b' = p' * b) (er : (if p = 0 then 0 else r) = if p' = 0 then 0 else r') : lst t p r b = lst t' p' r' b' := by
  have A := lst_is (t := t) (p := p) (r := r) h
  have B := lst_is (t := t') (p := p') (r := r') h'
  generalize lst t p r b = n at *
  generalize lst t' p' r' b' = m at *
  generalize coms t p b = c at *
  generalize coms t' p' b' = d at *
  have hcd : c * d ≠ 0 := Int.mul_ne_zero A.c0 B.c0
  have e1 : n.t * m.b = m.t * n.b := by
    refine Int.eq_of_mul_eq_mul_right hcd ?_
    have := A.ht; have := A.hb; have := B.ht; have := B.hb
    grind
  have e2 : n.p * m.b = m.p * n.b := by
    refine Int.eq_of_mul_eq_mul_right hcd ?_
    have := A.hp; have := A.hb; have := B.hp; have := B.hb
    grind
  obtain ⟨x1, x2, x3⟩ := least_eq A.b1 B.b1 A.cop B.cop e1 e2
  have x4 : n.r = m.r := by rw [A.hr, B.hr, er]
  cases n; cases m
  simp only at x1 x2 x3 x4
  rw [x1, x2, x3, x4]
/-- a number as it is kept: least, of at most k bits -/
structure Good (k : Nat) (n : Nm) : Prop where
  t : Sz k n.t
  p : Sz k n.p
  b : Sz k n.b
  b1 : 1 ≤ n.b
  cop : com n.t n.p n.b = 1
  rt : n.r = 0 ∧ n.p = 0 ∨ n.p ≠ 0 ∧ rootOk n.r = true
theorem Good.mono {k m : Nat} {n : Nm} (h : Good k n) (l : k ≤ m) : Good m n := ⟨h.t.mono l, h.p.mono l, h.b.mono l, h.b1, h.cop, h.rt⟩
theorem lst_self {k : Nat} {n : Nm} (h : Good k n) : lst n.t n.p n.r n.b = n := by
  have hb : n.b ≠ 0 := by have := h.b1; omega
  have A := lst_is (t := n.t) (p := n.p) (r := n.r) hb
  generalize lst n.t n.p n.r n.b = m at *
  generalize coms n.t n.p n.b = c at *
  obtain ⟨x1, x2, x3⟩ := least_eq A.b1 h.b1 A.cop h.cop (by have := A.ht; have := A.hb; grind) (by have := A.hp; have := A.hb; grind)
  have x4 : m.r = n.r := by
    rw [A.hr]
    rcases h.rt with ⟨a, b⟩ | ⟨a, b⟩
    · rw [if_pos b, a]
    · rw [if_neg a]
  cases n; cases m
  simp only at x1 x2 x3 x4
  rw [x1, x2, x3, x4]
theorem rootOk_ge {r : Int} (h : rootOk r = true) : 2 ≤ r ∧ r ≤ 999 := by
  unfold rootOk at h
  simp only [Bool.and_eq_true, decide_eq_true_eq] at h
  exact h.1
theorem sz_of_dvd {k : Nat} {x c y : Int} (h : x * c = y) (c0 : c ≠ 0) (hy : Sz k y) : Sz k x := by
  refine Sz.ofLt ?_ hy
  rw [← h, Int.natAbs_mul]
  exact Nat.le_mul_of_pos_right _ (by omega)
theorem lst_good {k : Nat} {t p r b : Int} (h : validN t p r b = true) (zt : Sz k t) (zp : Sz k p) (zb : Sz k b) : Good k (lst t p r b) := by
  have hb : b ≠ 0 := fun z => by unfold validN at h; rw [if_pos z] at h; cases h
  have A := lst_is (t := t) (p := p) (r := r) hb
  refine ⟨sz_of_dvd A.ht A.c0 zt, sz_of_dvd A.hp A.c0 zp, sz_of_dvd A.hb A.c0 zb, A.b1, A.cop, ?_⟩
  by_cases hp : p = 0
  · left
    refine ⟨by rw [A.hr, if_pos hp], ?_⟩
    exact (Int.mul_eq_zero.mp (A.hp.trans hp)).resolve_right A.c0
  · right
    refine ⟨fun z => hp (by rw [← A.hp, z, Int.zero_mul]), ?_⟩
    rw [A.hr, if_neg hp]
    unfold validN at h
    rw [if_neg hb] at h
    by_cases hr : r = 0
    · rw [if_pos hr] at h
      exact absurd (of_decide_eq_true h) hp
    · rw [if_neg hr] at h
      exact h
end My
namespace My
open PySem PySem.Spec PyProof.Rows L2
local macro_rules | `(tactic| walk_at "side") => `(tactic| first | assumption | decide | exact Or.inl ⟨by decide, by decide⟩ | exact Or.inr ⟨by decide, by decide⟩ | exact ⟨by decide, by decide, by decide⟩ | omega | (unfold CMulW; decide +kernel) | (dsimp only; first | assumption | omega | decide +kernel) | exact len_ok (Nat.le_of_ble_eq_true rfl) | fail "side")
local macro_rules | `(tactic| walk_at "rd") => `(tactic| first
  | refine ⟨_, _, _, _, rfl, rfl, SqL.of upd_same, atI_nat (j := 0) rfl, ?_⟩ | refine ⟨_, _, _, _, rfl, rfl, SqL.of upd_same, atI_nat (j := 1) rfl, ?_⟩ | refine ⟨_, _, _, _, rfl, rfl, SqL.of upd_same, atI_nat (j := 2) rfl, ?_⟩
  | refine ⟨_, _, _, _, rfl, rfl, upd_same, rfl, ?_⟩
  | refine ⟨_, _, rfl, rfl, ?_⟩ | refine ⟨_, rfl, ?_⟩ | refine ⟨_, _, rfl, ?_⟩ | refine Or.inl ⟨_, rfl, ?_⟩ | refine Or.inr ⟨_, rfl, ?_⟩ | refine ⟨(by walk_at "side"), ?_⟩ | fail "rd")

/-- what isinstance finds of the class -/
structure NumI (K : PySem.W.Frag) (C : Addr) : Prop where
  kInt : PySem.W.kitOne K (.ref C) (.type "int") = some false
  kNum : PySem.W.kitOne K (.ref C) (.ref C) = some true
  ha : PySem.W.findIn K (.ref C) "__class__" = some (some (.builtin "object.__class__"))
  hn : PySem.W.specialIn K (.builtin "object.__class__") "__get__" = some (some (.builtin "getset_descriptor.__get__"))
  htk : PySem.W.takesIn K (.builtin "object.__class__") = some true
  hm : PySem.W.mroIn K C (.type "object") = some true
theorem NumAt.ty {K : PySem.W.Frag} {H : Hp} {C a : Addr} {n : Nm} (h : NumAt C H a n) (c : Cls K C) (I : NumI K C) : TyX K H (.ref a) (.ref C) := let ⟨dx, e⟩ := h; .base (.ins e c I.ha I.hn I.htk I.hm)
theorem prop_use {C a : Addr} {H : Hp} {n : Nm} {sp : Sp} {Q : VK} {E : XK} (h : NumAt C H a n) (q : sp [.ref a] H Q E) : ∃ a' dx fs, V.ref a = .ref a' ∧ H a' = some (.ins C dx fs) ∧ sp (.ref a' :: []) H Q E := let ⟨dx, e⟩ := h; ⟨a, dx, _, rfl, e, q⟩
theorem mk4_use {C : Addr} {H2 : Hp} {Q : VK} {t p r b : Int} (hv : NV t p r b) (k : ∀ x H3, H2 x = none → Ext H2 H3 → NumAt C H3 x (lst t p r b) → Q (.ref x) H3) : ([V.int t, V.int p] : List V).length = 2 ∧ ([V.int r, V.int b] : List V).length = 2 ∧
    ∀ x dx, H2 x = none → H2 dx = none → dx ≠ x → spInit C ((fun vs zs => vs ++ zs) (V.ref x :: [V.int t, V.int p]) [V.int r, V.int b]) (upd (upd H2 dx (.own x)) x (.ins C dx [])) (fun v H3 => v = .non ∧ Q (.ref x) H3) E0 :=
  ⟨rfl, rfl, fun x dx hx hdx hne => ⟨x, dx, t, p, r, b, rfl, upd_same, hv, fun H' keep hn => ⟨rfl, k x H' hx (fun a o e => keep a o (by rw [upd_ne (ne_of_none e hx), upd_ne (ne_of_none e hdx)]; exact e) (ne_of_none e hx)) ⟨dx, hn⟩⟩⟩⟩
theorem mk2_use {C : Addr} {H2 : Hp} {Q : VK} {t b : Int} (hv : NV t 0 0 b) (k : ∀ x H3, H2 x = none → Ext H2 H3 → NumAt C H3 x (lst t 0 0 b) → Q (.ref x) H3) : ([V.int t] : List V).length = 1 ∧ ([V.int b] : List V).length = 1 ∧
    ∀ x dx, H2 x = none → H2 dx = none → dx ≠ x → spInit C ((fun vs zs => vs ++ (.int 0 :: .int 0 :: zs)) (V.ref x :: [V.int t]) [V.int b]) (upd (upd H2 dx (.own x)) x (.ins C dx [])) (fun v H3 => v = .non ∧ Q (.ref x) H3) E0 :=
  ⟨rfl, rfl, fun x dx hx hdx hne => ⟨x, dx, t, 0, 0, b, rfl, upd_same, hv, fun H' keep hn => ⟨rfl, k x H' hx (fun a o e => keep a o (by rw [upd_ne (ne_of_none e hx), upd_ne (ne_of_none e hdx)]; exact e) (ne_of_none e hx)) ⟨dx, hn⟩⟩⟩⟩
theorem mk1_use {C : Addr} {H2 : Hp} {Q : VK} {t : Int} (k : ∀ x H3, H2 x = none → Ext H2 H3 → NumAt C H3 x (lst t 0 0 1) → Q (.ref x) H3) : 
    ∀ x dx, H2 x = none → H2 dx = none → dx ≠ x → spInit C (V.ref x :: ([V.int t] ++ [.int 0, .int 0, .int 1])) (upd (upd H2 dx (.own x)) x (.ins C dx [])) (fun v H3 => v = .non ∧ Q (.ref x) H3) E0 :=
  fun x dx hx hdx hne => ⟨x, dx, t, 0, 0, 1, rfl, upd_same, ⟨rfl, by show (1 : Int).natAbs < 2 ^ 9000; decide +kernel⟩, fun H' keep hn => ⟨rfl, k x H' hx (fun a o e => keep a o (by rw [upd_ne (ne_of_none e hx), upd_ne (ne_of_none e hdx)]; exact e) (ne_of_none e hx)) ⟨dx, hn⟩⟩⟩
section
variable {X : Cx} {k : Nat} {C : Addr} {p pos : Pos} {e : Expr} {es : List Expr} {kws : List Keyword} {t tk : TA}
theorem mk4A (F : InitAt X.prog X.w X.K X.mg X.base k C (spInit C)) (g : X.mg "Number" = some (.ref C)) (hr : Room (k + 1) X.A) (hg : Gl X "Number") (ha : PA X (e :: es) t) (hkw : PK X kws tk)
    (hall : (backToKw pos (keywordEach kws X.env)).all (·.1.isSome) = true := by rfl) (hks : (backToKw pos (keywordEach kws X.env)).filterMap (·.1) = (["root", "bottom"] : List Str) := by rfl)
    (he : starEach (e :: es) X.env = (false, eval e X.env) :: starEach es X.env := by rfl) (hpl : ((backTo pos (starEach (e :: es) X.env)).any (·.1) || (backToKw pos (keywordEach kws X.env)).any (·.1.isNone)) = false := by rfl) :
    PE X (.Call (.Name "Number" p) (e :: es) kws pos) (tMakeK C 2 2 (spInit C) (fun vs zs => vs ++ zs) E0 t tk) := by
  obtain ⟨f, fd, M, G, ⟨g4, h4⟩, _, _⟩ := F.ex
  exact pe_makeK (n := 2) M G hr hg g h4 pass0 ha hkw hall hks (by decide) he hpl
theorem mk2A (F : InitAt X.prog X.w X.K X.mg X.base k C (spInit C)) (g : X.mg "Number" = some (.ref C)) (hr : Room (k + 1) X.A) (hg : Gl X "Number") (ha : PA X (e :: es) t) (hkw : PK X kws tk)
    (hall : (backToKw pos (keywordEach kws X.env)).all (·.1.isSome) = true := by rfl) (hks : (backToKw pos (keywordEach kws X.env)).filterMap (·.1) = (["bottom"] : List Str) := by rfl)
    (he : starEach (e :: es) X.env = (false, eval e X.env) :: starEach es X.env := by rfl) (hpl : ((backTo pos (starEach (e :: es) X.env)).any (·.1) || (backToKw pos (keywordEach kws X.env)).any (·.1.isNone)) = false := by rfl) :
    PE X (.Call (.Name "Number" p) (e :: es) kws pos) (tMakeK C 1 1 (spInit C) (fun vs zs => vs ++ (.int 0 :: .int 0 :: zs)) E0 t tk) := by
  obtain ⟨f, fd, M, G, _, ⟨g4, h4⟩, _⟩ := F.ex
  exact pe_makeK (n := 1) M G hr hg g h4 pass0 ha hkw hall hks (by decide) he hpl
theorem mkRA (F : InitAt X.prog X.w X.K X.mg X.base k C (spInit C)) (g : X.mg "Number" = some (.ref C)) (hr : Room (k + 1) X.A) (hg : Gl X "Number") (ha : PA X (e :: es) t) (hkw : PK X kws tk)
    (hall : (backToKw pos (keywordEach kws X.env)).all (·.1.isSome) = true := by rfl) (hks : (backToKw pos (keywordEach kws X.env)).filterMap (·.1) = (["root"] : List Str) := by rfl)
    (he : starEach (e :: es) X.env = (false, eval e X.env) :: starEach es X.env := by rfl) (hpl : ((backTo pos (starEach (e :: es) X.env)).any (·.1) || (backToKw pos (keywordEach kws X.env)).any (·.1.isNone)) = false := by rfl) :
    PE X (.Call (.Name "Number" p) (e :: es) kws pos) (tMakeK C 2 1 (spInit C) (fun vs zs => vs ++ (zs ++ [.int 1])) E0 t tk) := by
  obtain ⟨f, fd, M, G, _, _, _, g4, h4⟩ := F.ex
  exact pe_makeK (n := 2) M G hr hg g h4 pass0 ha hkw hall hks (by decide) he hpl
theorem mk1A (F : InitAt X.prog X.w X.K X.mg X.base k C (spInit C)) (g : X.mg "Number" = some (.ref C)) (hr : Room (k + 1) X.A) (hg : Gl X "Number") (ha : PA X (e :: es) t)
    (he : starEach (e :: es) X.env = (false, eval e X.env) :: starEach es X.env := by rfl) (hpl : (backTo pos (starEach es X.env)).any (·.1) = false := by rfl) :
    PE X (.Call (.Name "Number" p) (e :: es) [] pos) (tMake C (spInit C) [.int 0, .int 0, .int 1] E0 t) := by
  obtain ⟨f, fd, M, G, _, _, ⟨ds, hd, hb⟩, _⟩ := F.ex
  exact pe_make M G hr hg g hb hd pass0 ha (by decide) he hpl
end
/-! ### the promises -/
def spProp (C : Addr) (g : Nm → V) : Sp := fun vs H Q _ => ∃ a n, vs = [.ref a] ∧ NumAt C H a n ∧ Q (g n) H
/-- what stands for a number: one, or an int -/
def Opd (C : Addr) (H : Hp) (v : V) (n : Nm) : Prop := (∃ a, v = .ref a ∧ NumAt C H a n) ∨ (∃ i, v = .int i ∧ n = ⟨i, 0, 0, 1⟩)
theorem Opd.ext {C : Addr} {H H' : Hp} {v : V} {n : Nm} (h : Opd C H v n) (e : Ext H H') : Opd C H' v n := by
  rcases h with ⟨a, rfl, h⟩ | ⟨i, rfl, rfl⟩
  · exact .inl ⟨a, rfl, h.ext e⟩
  · exact .inr ⟨i, rfl, rfl⟩
def spIsInt2 (C : Addr) : Sp := fun vs H Q _ => (∃ i : Int, vs = [.int i] ∧ Q (.bl true) H) ∨ ∃ a n, vs = [.ref a] ∧ NumAt C H a n ∧ Q (.bl false) H
def spOpd (C : Addr) : Sp := fun vs H Q _ => ∃ v n, vs = [v] ∧ Opd C H v n ∧ ∀ a H', Ext H H' → NumAt C H' a n → Q (.ref a) H'
def spSgI : Sp := fun vs H Q _ => ∃ i, vs = [.int i] ∧ Q (.int (if i = 0 then 0 else if 0 < i then 1 else -1)) H
def sgI (i : Int) : Int := if i = 0 then 0 else if 0 < i then 1 else -1
def sgn (t p r : Int) : Int := if sgI t = sgI p ∨ sgI p = 0 then sgI t else if p * p * r < t * t then sgI t else sgI p
def spSgn : Sp := fun vs H Q _ => ∃ t p r, vs = [.int t, .int p, .int r] ∧ Sz 5000 t ∧ Sz 5000 p ∧ Sz 10 r ∧ ∀ H', Ext H H' → Q (.int (sgn t p r)) H'
def flr (p r : Int) : Int := if 0 ≤ p then ((Float64.isqrt (p * p * r).toNat : Nat) : Int) else -((Float64.isqrt (p * p * r).toNat : Nat) : Int) - 1
def spFlr : Sp := fun vs H Q _ => ∃ p r, vs = [.int p, .int r] ∧ Sz 5000 p ∧ 0 ≤ r ∧ Sz 10 r ∧ ∀ H', Ext H H' → Q (.int (flr p r)) H'
theorem Sz.lt64 {n : Nat} {i : Int} (h : Sz n i) (l : n ≤ 64) : -(2 ^ 64) < i ∧ i < 2 ^ 64 := by
  have := h.mono l
  unfold Sz at this
  omega
section
variable {P : Program} {w : World} {K : PySem.W.Frag} {mg : Str → Option Value} {base : Heap} {C : Addr}
theorem ok_ntop (D : PropT K C "top" "Number.top" s_ntop) (NC : NumT K mg C) : PropAt P w K mg base 1 C "top" (spProp C fun n => .int n.t) := by
  refine propAt D sc_ntop (fun _ _ _ _ _ _ us hl => match us, hl with | [_], _ => rfl) (fun vs H Q E h => ?_) fun f cdv A outer s H vs Q E hr h => ?_
  · obtain ⟨a, n, rfl, _⟩ := h
    rfl
  obtain ⟨a, n, rfl, ⟨dx, e⟩, k⟩ := h
  exact ⟨_, (pss_one (ps_ret (pe_fld (pv 0) rfl))), _, rfl, a, C, dx, _, _, rfl, e, NC.cl, NC.nT, nf_top n, k⟩
theorem ok_npart (D : PropT K C "part" "Number.part" s_npart) (NC : NumT K mg C) : PropAt P w K mg base 1 C "part" (spProp C fun n => .int n.p) := by
  refine propAt D sc_npart (fun _ _ _ _ _ _ us hl => match us, hl with | [_], _ => rfl) (fun vs H Q E h => ?_) fun f cdv A outer s H vs Q E hr h => ?_
  · obtain ⟨a, n, rfl, _⟩ := h
    rfl
  obtain ⟨a, n, rfl, ⟨dx, e⟩, k⟩ := h
  exact ⟨_, (pss_one (ps_ret (pe_fld (pv 0) rfl))), _, rfl, a, C, dx, _, _, rfl, e, NC.cl, NC.nP, nf_part n, k⟩
theorem ok_nroot (D : PropT K C "root" "Number.root" s_nroot) (NC : NumT K mg C) : PropAt P w K mg base 1 C "root" (spProp C fun n => .int n.r) := by
  refine propAt D sc_nroot (fun _ _ _ _ _ _ us hl => match us, hl with | [_], _ => rfl) (fun vs H Q E h => ?_) fun f cdv A outer s H vs Q E hr h => ?_
  · obtain ⟨a, n, rfl, _⟩ := h
    rfl
  obtain ⟨a, n, rfl, ⟨dx, e⟩, k⟩ := h
  exact ⟨_, (pss_one (ps_ret (pe_fld (pv 0) rfl))), _, rfl, a, C, dx, _, _, rfl, e, NC.cl, NC.nR, nf_root n, k⟩
theorem ok_nbottom (D : PropT K C "bottom" "Number.bottom" s_nbottom) (NC : NumT K mg C) : PropAt P w K mg base 1 C "bottom" (spProp C fun n => .int n.b) := by
  refine propAt D sc_nbottom (fun _ _ _ _ _ _ us hl => match us, hl with | [_], _ => rfl) (fun vs H Q E h => ?_) fun f cdv A outer s H vs Q E hr h => ?_
  · obtain ⟨a, n, rfl, _⟩ := h
    rfl
  obtain ⟨a, n, rfl, ⟨dx, e⟩, k⟩ := h
  exact ⟨_, (pss_one (ps_ret (pe_fld (pv 0) rfl))), _, rfl, a, C, dx, _, _, rfl, e, NC.cl, NC.nB, nf_bottom n, k⟩
theorem kit_intint {K : PySem.W.Frag} : PySem.W.kitOne K (.type "int") (.type "int") = some true := kit_ty kit_int
theorem ok_isint2 (T : Bn mg) (NC : NumT K mg C) (NI : NumI K C) (D : DefAt K mg "is_any_integer" s_isint) : FnAt P w K mg base 1 "is_any_integer" ["value"] (spIsInt2 C) := by
  refine fnAt D sc_isint (fun _ _ _ _ _ _ us hl => match us, hl with | [_], _ => rfl) (fun vs H Q E h => ?_) fun f cdv A outer s H vs Q E hr h => ?_
  · rcases h with ⟨i, rfl, _⟩ | ⟨a, n, rfl, _⟩ <;> rfl
  refine ⟨_, (pss_one (ps_ret (pe_and (pe_callB call_isi (by rfl) T.b_isinstance (by decide +kernel) (pa_cons (pv 0) (pa_cons (pe_bltn (v := .ty "int") (by rfl) T.b_int (by decide +kernel) rfl) pa_nil))) (pe_one (pe_not (pe_callB call_isi (by rfl) T.b_isinstance (by decide +kernel) (pa_cons (pv 0) (pa_cons (pe_bltn (v := .ty "bool") (by rfl) T.b_bool (by decide +kernel) rfl) pa_nil)))))))), ?_⟩
  rcases h with ⟨i, rfl, k⟩ | ⟨a, n, rfl, hn, k⟩
  · refine ⟨_, rfl, _, _, _, _, true, rfl, .ty _, .base (.int _), kit_ty kit_int, _, rfl, iteT ?_⟩
    exact ⟨_, rfl, _, _, _, _, false, rfl, .ty _, .base (.int _), kit_ty kit_intbool, _, rfl, k⟩
  · exact ⟨_, rfl, _, _, _, _, false, rfl, .ty _, hn.ty NC.cl NI, NI.kInt, _, rfl, iteF k⟩
abbrev s_sgi : Stmt := top 22
theorem sc_sgi : FnScope ["value"] ["value"] (defScope s_sgi) := ⟨rfl, rfl, rfl, by decide +kernel, rfl, by decide +kernel, by decide +kernel⟩
abbrev s_sgn : Stmt := top 23
theorem sc_sgn : FnScope ["top", "part", "root", "above", "beside"] ["top", "part", "root"] (defScope s_sgn) := ⟨rfl, rfl, rfl, by decide +kernel, rfl, by decide +kernel, by decide +kernel⟩
theorem ok_sgi (T : Bn mg) (D : DefAt K mg "_sign_of_integer" s_sgi) : FnAt P w K mg base 1 "_sign_of_integer" ["value"] spSgI := by
  refine fnAt D sc_sgi (fun _ _ _ _ _ _ us hl => match us, hl with | [_], _ => rfl) (fun vs H Q E h => ?_) fun f cdv A outer s H vs Q E hr h => ?_
  · obtain ⟨i, rfl, _⟩ := h
    rfl
  obtain ⟨i, rfl, k⟩ := h
  refine ⟨_, (pss_cons (ps_if (pt_cmpR op_eq (pv 0) pe_int (nomark _)) (pss_one (ps_ret pe_int)) pss_nil)
    (pss_one (ps_ret (pe_ifExp (pt_cmpR op_gt (pv 0) pe_int (nomark _)) pe_int (pe_un un_neg pe_int))))), ?_⟩
  refine ⟨_, rfl, rfl, _, rfl, ite2 (fun h0 => ?_) (fun h0 => ?_)⟩
  · have e : i = 0 := V.int.inj (of_decide_eq_true h0)
    rw [if_pos e] at k
    exact k
  · have e : ¬ i = 0 := fun z => h0 (by rw [z]; rfl)
    rw [if_neg e] at k
    refine ⟨_, rfl, _, _, rfl, rfl, _, rfl, ite2 (fun h1 => ?_) (fun h1 => ?_)⟩
    · rw [if_pos (of_decide_eq_true h1)] at k
      exact k
    · rw [if_neg (fun z => h1 (decide_eq_true z))] at k
      exact ⟨_, rfl, k⟩
theorem sgI_cases (i : Int) : sgI i = 0 ∨ sgI i = 1 ∨ sgI i = -1 := by
  unfold sgI
  split
  · exact .inl rfl
  · split
    · exact .inr (.inl rfl)
    · exact .inr (.inr rfl)
theorem ok_sgn (T : Bn mg) (D : DefAt K mg "sign_of_sum" s_sgn) (F__sign_of_integer : FnAt P w K mg base 1 "_sign_of_integer" ["value"] spSgI) : FnAt P w K mg base 2 "sign_of_sum" ["top", "part", "root"] spSgn := by
  refine fnAt D sc_sgn (fun _ _ _ _ _ _ us hl => match us, hl with | [_, _, _], _ => rfl) (fun vs H Q E h => ?_) fun f cdv A outer s H vs Q E hr h => ?_
  · obtain ⟨t, p, r, rfl, _⟩ := h
    rfl
  obtain ⟨t, p, r, rfl, zt, zp, zr, k⟩ := h
  have k0 := k H (ext_refl H)
  refine ⟨_, (pss_cons (ps_par (i := 3) (j := 4) rfl sc_sgn.nd rfl rfl (by decide) rfl rfl (pa_cons (callA F__sign_of_integer (hr.mono (by decide)) rfl (pa_cons (pv 0) pa_nil)) (pa_cons (callA F__sign_of_integer (hr.mono (by decide)) rfl (pa_cons (pv 1) pa_nil)) pa_nil)) (by rfl))
    (pss_cons (ps_if (PW.pt (pw_or (pt_cmpR op_eq (pv 3) (pv 4) (nomark _)) (pw_or1 (pt_cmpR op_eq (pv 4) pe_int (nomark _))))) (pss_one (ps_ret (pv 3))) pss_nil)
    (pss_one (ps_ret (pe_ifExp (pt_cmpR op_gt (pe_op op_mulW (pv 0) (pv 0)) (pe_op op_mulW (pe_op op_mulW (pv 1) (pv 1)) (pv 2)) (nomark _)) (pv 3) (pv 4)))))), ?_⟩
  refine ⟨_, rfl, t, rfl, _, rfl, p, rfl, _, _, rfl, ?_⟩
  have e1 : ∀ a b : Int, decide (V.int a = V.int b) = decide (a = b) := fun a b => decide_eq_decide.mpr ⟨fun z => V.int.inj z, fun z => by rw [z]⟩
  refine ⟨_, rfl, _, rfl, rfl, _, rfl, ite2 (fun h0 => ?_) (fun h0 => ?_)⟩
  · have h0' : sgI t = sgI p := V.int.inj (of_decide_eq_true h0)
    refine iteT ⟨_, rfl, ?_⟩
    have e : sgn t p r = sgI t := if_pos (.inl h0')
    rw [e] at k0
    exact k0
  · refine ⟨_, rfl, rfl, _, rfl, ite2 (fun h1 => ?_) (fun h1 => ?_)⟩
    · have h1' : sgI p = 0 := V.int.inj (of_decide_eq_true h1)
      refine ⟨_, rfl, ?_⟩
      have e : sgn t p r = sgI t := if_pos (.inr h1')
      rw [e] at k0
      exact k0
    · have hn : ¬ (sgI t = sgI p ∨ sgI p = 0) := fun z => z.elim (fun z => h0 (decide_eq_true (congrArg V.int z))) (fun z => h1 (decide_eq_true (congrArg V.int z)))
      refine ⟨_, rfl, _, rfl, _, _, rfl, rfl, zt.cmul zt (by decide) (by decide) (by decide), _, rfl, _, rfl, _, _, rfl, rfl, zp.cmul zp (by decide) (by decide) (by decide), _, rfl, _, _, rfl, rfl, (zp.mul zp).cmul zr (by decide) (by decide) (by decide), _, _, rfl, rfl, _, rfl, ite2 (fun h2 => ?_) (fun h2 => ?_)⟩
      · have e : sgn t p r = sgI t := by
          unfold sgn
          rw [if_neg hn, if_pos (of_decide_eq_true h2)]
        rw [e] at k0
        exact ⟨_, rfl, k0⟩
      · have e : sgn t p r = sgI p := by
          unfold sgn
          rw [if_neg hn, if_neg (fun z => h2 (decide_eq_true z))]
        rw [e] at k0
        exact ⟨_, rfl, k0⟩
end
end My
namespace My
open PySem
/-! ### the operations, as plain functions -/
def rt1 (n m : Nm) : Int := if m.r > n.r then m.r else n.r
def normA (n : Nm) : Int := n.t * n.t - n.p * n.p * n.r
def mirN (n : Nm) : Nm := lst n.t (-n.p) n.r n.b
def negN (n : Nm) : Nm := lst (-n.t) (-n.p) n.r n.b
def normN (n : Nm) : Nm := lst (normA n) 0 0 (n.b * n.b)
def addN (n m : Nm) : Nm := lst (n.t * m.b + m.t * n.b) (n.p * m.b + m.p * n.b) (rt1 n m) (n.b * m.b)
def subN (n m : Nm) : Nm := lst (n.t * m.b - m.t * n.b) (n.p * m.b - m.p * n.b) (rt1 n m) (n.b * m.b)
def mulN (n m : Nm) : Nm := lst (n.t * m.t + n.p * m.p * rt1 n m) (n.t * m.p + n.p * m.t) (rt1 n m) (n.b * m.b)
def overN (n m : Nm) : Nm := lst ((n.t * m.t - n.p * m.p * rt1 n m) * m.b) ((n.p * m.t - n.t * m.p) * m.b) (rt1 n m) (n.b * normA m)
def OneRoot (n m : Nm) : Prop := n.r = 0 ∨ m.r = 0 ∨ n.r = m.r
theorem Good.r0 {k : Nat} {n : Nm} (h : Good k n) : 0 ≤ n.r ∧ n.r ≤ 999 := by
  rcases h.rt with ⟨a, _⟩ | ⟨_, a⟩
  · omega
  · have := rootOk_ge a; omega
theorem Good.zr {k : Nat} {n : Nm} (h : Good k n) : Sz 10 n.r := by
  have := h.r0
  unfold Sz
  omega
theorem Good.b0 {k : Nat} {n : Nm} (h : Good k n) : n.b ≠ 0 := by have := h.b1; omega
theorem rt1_is {k : Nat} {n m : Nm} (h : Good k n) (g : Good k m) : (rt1 n m = 0 ∧ n.p = 0 ∧ m.p = 0) ∨ rootOk (rt1 n m) = true := by
  unfold rt1
  rcases h.rt with ⟨a, b⟩ | ⟨a, b⟩
  · rcases g.rt with ⟨c, d⟩ | ⟨c, d⟩
    · left; rw [a, c]; exact ⟨rfl, b, d⟩
    · right
      have := rootOk_ge d
      rw [if_pos (by omega)]
      exact d
  · right
    rcases g.rt with ⟨c, d⟩ | ⟨c, d⟩
    · have := rootOk_ge b
      rw [if_neg (by omega)]
      exact b
    · split
      · exact d
      · exact b
theorem rt1_zr {k : Nat} {n m : Nm} (h : Good k n) (g : Good k m) : Sz 10 (rt1 n m) := by
  unfold rt1
  split
  · exact g.zr
  · exact h.zr
theorem valid_of {t p r b : Int} (hb : b ≠ 0) (h : (r = 0 ∧ p = 0) ∨ rootOk r = true) : validN t p r b = true := by
  unfold validN
  rw [if_neg hb]
  rcases h with ⟨a, b⟩ | h
  · rw [if_pos a, b]; rfl
  · have := rootOk_ge h
    rw [if_neg (by omega)]
    exact h
theorem Good.valid {k : Nat} {n : Nm} (h : Good k n) (t p : Int) (hp : n.p = 0 → p = 0) : validN t p n.r n.b = true := valid_of h.b0 (by
  rcases h.rt with ⟨a, b⟩ | ⟨a, b⟩
  · exact .inl ⟨a, hp b⟩
  · exact .inr b)
/-- no square is a root -/
theorem root_nosq : ∀ r : Nat, r < 1000 → rootOk (r : Int) = true → ∀ s : Nat, s < 32 → s * s ≠ r := by decide +kernel
theorem sq_root {t p r : Int} (hr : rootOk r = true) (h : t * t = p * p * r) : t = 0 ∧ p = 0 := by
  have hg := rootOk_ge hr
  by_cases hp : p = 0
  · refine ⟨?_, hp⟩
    rw [hp, Int.zero_mul, Int.zero_mul] at h
    exact (Int.mul_eq_zero.mp h).elim id id
  exfalso
  obtain ⟨s, rfl⟩ : ∃ s : Nat, r = (s : Int) := ⟨r.toNat, by omega⟩
  have e : t.natAbs * t.natAbs = p.natAbs * p.natAbs * s := by
    have := congrArg Int.natAbs h
    rw [Int.natAbs_mul, Int.natAbs_mul, Int.natAbs_mul, Int.natAbs_natCast] at this
    exact this
  have hpp : 0 < p.natAbs := by omega
  generalize t.natAbs = a at *
  generalize p.natAbs = b at *
  have hg0 : 0 < Nat.gcd a b := Nat.gcd_pos_of_pos_right _ hpp
  obtain ⟨a', ha⟩ := Nat.gcd_dvd_left a b
  obtain ⟨b', hb⟩ := Nat.gcd_dvd_right a b
  have hc : Nat.gcd a' b' = 1 := by
    have key : Nat.gcd (Nat.gcd a b * a') (Nat.gcd a b * b') = Nat.gcd a b * Nat.gcd a' b' := Nat.gcd_mul_left _ _ _
    rw [← ha, ← hb] at key
    have : Nat.gcd a b * 1 = Nat.gcd a b * Nat.gcd a' b' := by rw [Nat.mul_one]; exact key
    exact (Nat.eq_of_mul_eq_mul_left hg0 this).symm
  generalize Nat.gcd a b = g at *
  have e2 : a' * a' = b' * b' * s := by
    have : (g * g) * (a' * a') = (g * g) * (b' * b' * s) := by
      have e' := e
      rw [ha, hb] at e'
      grind
    exact Nat.eq_of_mul_eq_mul_left (Nat.mul_pos hg0 hg0) this
  have d1 : b' ∣ a' * a' := by rw [e2, Nat.mul_assoc]; exact Nat.dvd_mul_right _ _
  have cop : Nat.Coprime b' a' := by
    show Nat.gcd b' a' = 1
    rw [Nat.gcd_comm]
    exact hc
  have d2 : b' ∣ a' := cop.dvd_of_dvd_mul_left d1
  have d3 : b' ∣ 1 := by
    rw [← hc]
    exact Nat.dvd_gcd d2 (Nat.dvd_refl _)
  have b1 : b' = 1 := Nat.dvd_one.mp d3
  rw [b1] at e2
  have hs : s < 1000 := by omega
  have ha32 : a' < 32 := by
    refine Classical.byContradiction fun z => ?_
    have z' : 32 ≤ a' := by omega
    have := Nat.mul_le_mul z' z'
    omega
  exact root_nosq s hs hr a' ha32 (by omega)
theorem normA_ne {k : Nat} {n : Nm} (h : Good k n) (hn : ¬ (n.t = 0 ∧ n.p = 0)) : normA n ≠ 0 := fun z => by
  unfold normA at z
  have e : n.t * n.t = n.p * n.p * n.r := by omega
  rcases h.rt with ⟨a, b⟩ | ⟨a, b⟩
  · refine hn ⟨?_, b⟩
    rw [b, Int.zero_mul, Int.zero_mul] at e
    exact (Int.mul_eq_zero.mp e).elim id id
  · exact hn (sq_root b e)
theorem sq_nonneg (p : Int) : 0 ≤ p * p := by
  rcases Int.le_total 0 p with z | z
  · exact Int.mul_nonneg z z
  · exact Int.mul_nonneg_of_nonpos_of_nonpos z z
theorem sgI_zero {i : Int} : sgI i = 0 ↔ i = 0 := by
  unfold sgI
  constructor
  · intro h
    split at h
    · assumption
    · split at h <;> omega
  · intro h
    rw [if_pos h]
theorem sgn_ne {t p r : Int} (hr : 0 ≤ r) (hn : ¬ (t = 0 ∧ p = 0)) : sgn t p r ≠ 0 := by
  unfold sgn
  split
  · rename_i h
    intro z
    have t0 := sgI_zero.mp z
    rcases h with h | h
    · rw [z] at h
      exact hn ⟨t0, sgI_zero.mp h.symm⟩
    · exact hn ⟨t0, sgI_zero.mp h⟩
  · rename_i h
    split
    · rename_i h2
      intro z
      have t0 := sgI_zero.mp z
      rw [t0] at h2
      have := Int.mul_nonneg (sq_nonneg p) hr
      omega
    · intro z
      exact h (.inr z)
end My
namespace My
open PySem PySem.Spec PyProof.Rows L2
local macro_rules | `(tactic| walk_at "side") => `(tactic| first | assumption | decide | exact Or.inl ⟨by decide, by decide⟩ | exact Or.inr ⟨by decide, by decide⟩ | exact ⟨by decide, by decide, by decide⟩ | omega | (unfold CMulW; decide +kernel) | (dsimp only; first | assumption | omega | decide +kernel) | exact len_ok (Nat.le_of_ble_eq_true rfl) | fail "side")
local macro_rules | `(tactic| walk_at "rd") => `(tactic| first
  | refine ⟨_, _, _, _, rfl, rfl, SqL.of upd_same, atI_nat (j := 0) rfl, ?_⟩ | refine ⟨_, _, _, _, rfl, rfl, SqL.of upd_same, atI_nat (j := 1) rfl, ?_⟩ | refine ⟨_, _, _, _, rfl, rfl, SqL.of upd_same, atI_nat (j := 2) rfl, ?_⟩
  | refine ⟨_, _, _, _, rfl, rfl, upd_same, rfl, ?_⟩
  | refine ⟨_, _, rfl, rfl, ?_⟩ | refine ⟨_, rfl, ?_⟩ | refine ⟨_, _, rfl, ?_⟩ | refine Or.inl ⟨_, rfl, ?_⟩ | refine Or.inr ⟨_, rfl, ?_⟩ | refine ⟨(by walk_at "side"), ?_⟩ | fail "rd")

abbrev s_nsign : Stmt := inClass (top 13) 6
theorem sc_nsign : FnScope ["self"] ["self"] (defScope s_nsign) := ⟨rfl, rfl, rfl, by decide +kernel, rfl, by decide +kernel, by decide +kernel⟩
abbrev s_nadd : Stmt := inClass (top 13) 10
theorem sc_nadd : FnScope ["self", "other", "number", "root", "top", "part"] ["self", "other"] (defScope s_nadd) := ⟨rfl, rfl, rfl, by decide +kernel, rfl, by decide +kernel, by decide +kernel⟩
abbrev s_nsub : Stmt := inClass (top 13) 11
theorem sc_nsub : FnScope ["self", "other", "number", "root", "top", "part"] ["self", "other"] (defScope s_nsub) := ⟨rfl, rfl, rfl, by decide +kernel, rfl, by decide +kernel, by decide +kernel⟩
abbrev s_nmul : Stmt := inClass (top 13) 12
theorem sc_nmul : FnScope ["self", "other", "number", "root", "top", "part"] ["self", "other"] (defScope s_nmul) := ⟨rfl, rfl, rfl, by decide +kernel, rfl, by decide +kernel, by decide +kernel⟩
abbrev s_nover : Stmt := inClass (top 13) 14
theorem sc_nover : FnScope ["self", "other", "number", "root", "top", "part"] ["self", "other"] (defScope s_nover) := ⟨rfl, rfl, rfl, by decide +kernel, rfl, by decide +kernel, by decide +kernel⟩
abbrev s_neq : Stmt := inClass (top 13) 16
theorem sc_neq : FnScope ["self", "other"] ["self", "other"] (defScope s_neq) := ⟨rfl, rfl, rfl, by decide +kernel, rfl, by decide +kernel, by decide +kernel⟩
abbrev s_asnum : Stmt := top 16
theorem sc_asnum : FnScope ["value"] ["value"] (defScope s_asnum) := ⟨rfl, rfl, rfl, by decide +kernel, rfl, by decide +kernel, by decide +kernel⟩
abbrev s_operand : Stmt := top 17
theorem sc_operand : FnScope ["value", "number"] ["value"] (defScope s_operand) := ⟨rfl, rfl, rfl, by decide +kernel, rfl, by decide +kernel, by decide +kernel⟩
abbrev s_argument : Stmt := top 18
theorem sc_argument : FnScope ["value", "number"] ["value"] (defScope s_argument) := ⟨rfl, rfl, rfl, by decide +kernel, rfl, by decide +kernel, by decide +kernel⟩
abbrev s_croot : Stmt := top 19
theorem sc_croot : FnScope ["one", "other"] ["one", "other"] (defScope s_croot) := ⟨rfl, rfl, rfl, by decide +kernel, rfl, by decide +kernel, by decide +kernel⟩
abbrev s_diff : Stmt := top 20
theorem sc_diff : FnScope ["one", "other", "top", "part"] ["one", "other"] (defScope s_diff) := ⟨rfl, rfl, rfl, by decide +kernel, rfl, by decide +kernel, by decide +kernel⟩
abbrev s_norma : Stmt := top 21
theorem sc_norma : FnScope ["number"] ["number"] (defScope s_norma) := ⟨rfl, rfl, rfl, by decide +kernel, rfl, by decide +kernel, by decide +kernel⟩
def spPropE (C : Addr) (k : Nat) (g : Nm → V) : Sp := fun vs H Q _ => ∃ a n, vs = [.ref a] ∧ NumAt C H a n ∧ Good k n ∧ ∀ H', Ext H H' → Q (g n) H'
def spPropN (C : Addr) (k : Nat) (g : Nm → Nm) : Sp := fun vs H Q _ => ∃ a n, vs = [.ref a] ∧ NumAt C H a n ∧ Good k n ∧ ∀ x H', Ext H H' → NumAt C H' x (g n) → Q (.ref x) H'
def spBin (C : Addr) (g : Nm → Nm → Nm) : Sp := fun vs H Q _ => ∃ a v n m, vs = [.ref a, v] ∧ NumAt C H a n ∧ Opd C H v m ∧ Good 2000 n ∧ Good 2000 m ∧ OneRoot n m ∧ ∀ x H', Ext H H' → NumAt C H' x (g n m) → Q (.ref x) H'
def spOver (C : Addr) : Sp := fun vs H Q _ => ∃ a v n m, vs = [.ref a, v] ∧ NumAt C H a n ∧ Opd C H v m ∧ Good 2000 n ∧ Good 2000 m ∧ OneRoot n m ∧ ¬ (m.t = 0 ∧ m.p = 0) ∧ ∀ x H', Ext H H' → NumAt C H' x (overN n m) → Q (.ref x) H'
def spCRoot (C : Addr) : Sp := fun vs H Q _ => ∃ a b n m, vs = [.ref a, .ref b] ∧ NumAt C H a n ∧ NumAt C H b m ∧ OneRoot n m ∧ Q (.int (rt1 n m)) H
def spNormA (C : Addr) : Sp := fun vs H Q _ => ∃ a n, vs = [.ref a] ∧ NumAt C H a n ∧ Good 2000 n ∧ Q (.int (normA n)) H
def spDiff (C : Addr) : Sp := fun vs H Q _ => ∃ a b n m, vs = [.ref a, .ref b] ∧ NumAt C H a n ∧ NumAt C H b m ∧ Good 2000 n ∧ Good 2000 m ∧ ∀ q H', Ext H H' → H' q = some (.tup [.int (n.t * m.b - m.t * n.b), .int (n.p * m.b - m.p * n.b)]) → Q (.ref q) H'
def spEqN (C : Addr) : Sp := fun vs H Q _ => ∃ a b n m, vs = [.ref a, .ref b] ∧ NumAt C H a n ∧ NumAt C H b m ∧ Q (.bl (decide (n = m))) H
section
variable {P : Program} {w : World} {K : PySem.W.Frag} {mg : Str → Option Value} {base : Heap} {C : Addr}
theorem ok_nsign (D : PropT K C "sign" "Number.sign" s_nsign) (NC : NumT K mg C) (F__sign_of : FnAt P w K mg base 2 "sign_of_sum" ["top", "part", "root"] spSgn) : PropAt P w K mg base 3 C "sign" (spPropE C 5000 fun n => .int (sgn n.t n.p n.r)) := by
  refine propAt D sc_nsign (fun _ _ _ _ _ _ us hl => match us, hl with | [_], _ => rfl) (fun vs H Q E h => ?_) fun f cdv A outer s H vs Q E hr h => ?_
  · obtain ⟨a, n, rfl, _⟩ := h
    rfl
  obtain ⟨a, n, rfl, ⟨dx, e⟩, g, k⟩ := h
  exact ⟨_, (pss_one (ps_ret (callA F__sign_of (hr.mono (by decide)) rfl (pa_cons (pe_fld (pv 0) rfl) (pa_cons (pe_fld (pv 0) rfl) (pa_cons (pe_fld (pv 0) rfl) pa_nil)))))), _, rfl, a, C, dx, _, _, rfl, e, NC.cl, NC.nT, nf_top n, _, rfl, a, C, dx, _, _, rfl, e, NC.cl, NC.nP, nf_part n, _, rfl, a, C, dx, _, _, rfl, e, NC.cl, NC.nR, nf_root n, n.t, n.p, n.r, rfl, g.t, g.p, g.zr, k⟩
theorem ok_norma (D : DefAt K mg "_norm_above" s_norma) (NC : NumT K mg C) (F_top : PropAt P w K mg base 1 C "top" (spProp C fun n => .int n.t)) (F_part : PropAt P w K mg base 1 C "part" (spProp C fun n => .int n.p)) (F_root : PropAt P w K mg base 1 C "root" (spProp C fun n => .int n.r)) :
    FnAt P w K mg base 3 "_norm_above" ["number"] (spNormA C) := by
  refine fnAt D sc_norma (fun _ _ _ _ _ _ us hl => match us, hl with | [_], _ => rfl) (fun vs H Q E h => ?_) fun f cdv A outer s H vs Q E hr h => ?_
  · obtain ⟨a, n, rfl, _⟩ := h
    rfl
  obtain ⟨a, n, rfl, hn, g, k⟩ := h
  have pu : ∀ {gg : Nm → V} {Q : VK}, Q (gg n) H → ∃ a' dx fs, V.ref a = .ref a' ∧ H a' = some (.ins C dx fs) ∧ spProp C gg (.ref a' :: []) H Q E0 := fun q => prop_use hn ⟨a, n, rfl, hn, q⟩
  refine ⟨_, (pss_one (ps_ret (pe_op op_sub (pe_op op_mulW (propA F_top NC.cl (hr.mono (by decide)) (pv 0)) (propA F_top NC.cl (hr.mono (by decide)) (pv 0))) (pe_op op_mulW (pe_op op_mulW (propA F_part NC.cl (hr.mono (by decide)) (pv 0)) (propA F_part NC.cl (hr.mono (by decide)) (pv 0))) (propA F_root NC.cl (hr.mono (by decide)) (pv 0)))))), _, rfl, pu ⟨_, rfl, pu ⟨_, _, rfl, rfl, g.t.cmul g.t (by decide) (by decide) (by decide), ?_⟩⟩⟩
  refine ⟨_, rfl, pu ⟨_, rfl, pu ⟨_, _, rfl, rfl, g.p.cmul g.p (by decide) (by decide) (by decide), _, rfl, pu ?_⟩⟩⟩
  exact ⟨_, _, rfl, rfl, (g.p.mul g.p).cmul g.zr (by decide) (by decide) (by decide), _, _, rfl, rfl, k⟩
theorem ok_asnum (T : Bn mg) (D : DefAt K mg "_as_number" s_asnum) (NC : NumT K mg C) (NI : NumI K C) (F_init : InitAt P w K mg base 3 C (spInit C)) (F_is_any_integer : FnAt P w K mg base 1 "is_any_integer" ["value"] (spIsInt2 C)) : FnAt P w K mg base 5 "_as_number" ["value"] (spOpd C) := by
  refine fnAt D sc_asnum (fun _ _ _ _ _ _ us hl => match us, hl with | [_], _ => rfl) (fun vs H Q E h => ?_) fun f cdv A outer s H vs Q E hr h => ?_
  · obtain ⟨v, n, rfl, _⟩ := h
    rfl
  obtain ⟨v, n, rfl, h, k⟩ := h
  refine ⟨_, (pss_cons (ps_if (pt_val (callA F_is_any_integer (hr.mono (by decide)) rfl (pa_cons (pv 0) pa_nil))) (pss_one (ps_ret (mk1A F_init NC.g (hr.mono (by decide)) rfl (pa_cons (pv 0) pa_nil)))) pss_nil)
    (pss_one (ps_ret (pe_ifExp (pt_val (pe_callB call_isi (by rfl) T.b_isinstance (by decide +kernel) (pa_cons (pv 0) (pa_cons (pe_glob (v := .ref C) rfl NC.g rfl) pa_nil)))) (pv 0) pe_non)))), ?_⟩
  rcases h with ⟨a, rfl, hn⟩ | ⟨i, rfl, rfl⟩
  · refine ⟨_, rfl, .inr ⟨a, n, rfl, hn, _, rfl, iteF ?_⟩⟩
    exact ⟨_, rfl, _, _, _, _, true, rfl, .own C, hn.ty NC.cl NI, NI.kNum, _, rfl, iteT ⟨_, rfl, k a H (ext_refl H) hn⟩⟩
  · refine ⟨_, rfl, .inl ⟨i, rfl, _, rfl, iteT ⟨_, rfl, mk1_use fun x H3 hx ex hn => ?_⟩⟩⟩
    have el : lst i 0 0 1 = ⟨i, 0, 0, 1⟩ := by
      have c1 : coms i 0 1 = 1 := by
        unfold coms com
        rw [if_neg (by decide)]
        simp
      unfold lst
      rw [c1]
      simp
    rw [el] at hn
    exact k x H3 ex hn
theorem ok_operand (T : Bn mg) (D : DefAt K mg "_operand" s_operand) (F__as_number : FnAt P w K mg base 5 "_as_number" ["value"] (spOpd C)) : FnAt P w K mg base 6 "_operand" ["value"] (spOpd C) := by
  refine fnAt D sc_operand (fun _ _ _ _ _ _ us hl => match us, hl with | [_], _ => rfl) (fun vs H Q E h => ?_) fun f cdv A outer s H vs Q E hr h => ?_
  · obtain ⟨v, n, rfl, _⟩ := h
    rfl
  obtain ⟨v, n, rfl, h, k⟩ := h
  exact ⟨_, (pss_cons (ps_set (i := 1) sc_operand.nd rfl (Or.inl rfl) (callA F__as_number (hr.mono (by decide)) rfl (pa_cons (pv 0) pa_nil)))
    (pss_cons (ps_if (pt_cmpR op_isN (pv 1) pe_non (nomark _)) (pss_one ps_never) pss_nil)
    (pss_one (ps_ret (pv 1))))), _, rfl, v, n, rfl, h, fun x H1 e1 hn => ⟨_, rfl, rfl, _, rfl, iteF ⟨_, rfl, k x H1 e1 hn⟩⟩⟩
theorem ok_argument (T : Bn mg) (D : DefAt K mg "_argument" s_argument) (F__as_number : FnAt P w K mg base 5 "_as_number" ["value"] (spOpd C)) : FnAt P w K mg base 6 "_argument" ["value"] (spOpd C) := by
  refine fnAt D sc_argument (fun _ _ _ _ _ _ us hl => match us, hl with | [_], _ => rfl) (fun vs H Q E h => ?_) fun f cdv A outer s H vs Q E hr h => ?_
  · obtain ⟨v, n, rfl, _⟩ := h
    rfl
  obtain ⟨v, n, rfl, h, k⟩ := h
  exact ⟨_, (pss_cons (ps_set (i := 1) sc_argument.nd rfl (Or.inl rfl) (callA F__as_number (hr.mono (by decide)) rfl (pa_cons (pv 0) pa_nil)))
    (pss_cons (ps_if (pt_cmpR op_isN (pv 1) pe_non (nomark _)) (pss_one ps_never) pss_nil)
    (pss_one (ps_ret (pv 1))))), _, rfl, v, n, rfl, h, fun x H1 e1 hn => ⟨_, rfl, rfl, _, rfl, iteF ⟨_, rfl, k x H1 e1 hn⟩⟩⟩
theorem e_int (a b : Int) : decide (V.int a = V.int b) = decide (a = b) := decide_eq_decide.mpr ⟨fun z => V.int.inj z, fun z => by rw [z]⟩
theorem ok_croot (T : Bn mg) (D : DefAt K mg "_common_root" s_croot) (NC : NumT K mg C) (F_root : PropAt P w K mg base 1 C "root" (spProp C fun n => .int n.r)) : FnAt P w K mg base 3 "_common_root" ["one", "other"] (spCRoot C) := by
  refine fnAt D sc_croot (fun _ _ _ _ _ _ us hl => match us, hl with | [_, _], _ => rfl) (fun vs H Q E h => ?_) fun f cdv A outer s H vs Q E hr h => ?_
  · obtain ⟨a, b, n, m, rfl, _⟩ := h
    rfl
  obtain ⟨a, b, n, m, rfl, hn, hm, h1, k⟩ := h
  have pu : ∀ {gg : Nm → V} {Q : VK}, Q (gg n) H → ∃ a' dx fs, V.ref a = .ref a' ∧ H a' = some (.ins C dx fs) ∧ spProp C gg (.ref a' :: []) H Q E0 := fun q => prop_use hn ⟨a, n, rfl, hn, q⟩
  have pv_ : ∀ {gg : Nm → V} {Q : VK}, Q (gg m) H → ∃ a' dx fs, V.ref b = .ref a' ∧ H a' = some (.ins C dx fs) ∧ spProp C gg (.ref a' :: []) H Q E0 := fun q => prop_use hm ⟨b, m, rfl, hm, q⟩
  refine ⟨_, Evl.pss_cut (ps_if (PW.pt (pw_and (pt_cmpR op_ne (propA F_root NC.cl (hr.mono (by decide)) (pv 0)) pe_int (nomark _)) (pw_and (pt_cmpR op_ne (propA F_root NC.cl (hr.mono (by decide)) (pv 1)) pe_int (nomark _)) (pw_and1 (pt_cmpR op_ne (propA F_root NC.cl (hr.mono (by decide)) (pv 0)) (propA F_root NC.cl (hr.mono (by decide)) (pv 1)) (nomark _)))))) (pss_one ps_never) pss_nil) (pss_one (ps_ret (pe_callB (call_max2 rfl) (by rfl) T.b_max (by decide +kernel) (pa_cons (propA F_root NC.cl (hr.mono (by decide)) (pv 0)) (pa_cons (propA F_root NC.cl (hr.mono (by decide)) (pv 1)) pa_nil))))), fun σ' H' => σ' = [some (.ref a), some (.ref b)] ∧ H' = H, ?_, ?_⟩
  · refine ⟨_, rfl, pu ⟨rfl, _, rfl, ite2 (fun c1 => ?_) (fun c1 => ?_)⟩⟩
    · refine ⟨_, rfl, pv_ ⟨rfl, _, rfl, ite2 (fun c2 => ?_) (fun c2 => ?_)⟩⟩
      · refine ⟨_, rfl, pu ⟨_, rfl, pv_ ⟨rfl, _, rfl, ?_⟩⟩⟩
        rcases h1 with z | z | z
        · rw [z] at c1; exact absurd c1 (by decide)
        · rw [z] at c2; exact absurd c2 (by decide)
        · rw [z]
          simp only [decide_true, Bool.not_true]
          exact iteF ⟨rfl, rfl⟩
      · exact iteF ⟨rfl, rfl⟩
    · exact iteF ⟨rfl, rfl⟩
  · rintro σ' H' ⟨rfl, rfl⟩
    exact ⟨_, rfl, pu ⟨_, rfl, pv_ ⟨_, _, rfl, k⟩⟩⟩
end
end My
namespace My
open PySem PySem.Spec PyProof.Rows L2
local macro_rules | `(tactic| walk_at "side") => `(tactic| first | assumption | decide | exact Or.inl ⟨by decide, by decide⟩ | exact Or.inr ⟨by decide, by decide⟩ | exact ⟨by decide, by decide, by decide⟩ | omega | (unfold CMulW; decide +kernel) | (dsimp only; first | assumption | omega | decide +kernel) | exact len_ok (Nat.le_of_ble_eq_true rfl) | fail "side")
local macro_rules | `(tactic| walk_at "rd") => `(tactic| first
  | refine ⟨_, _, _, _, rfl, rfl, SqL.of upd_same, atI_nat (j := 0) rfl, ?_⟩ | refine ⟨_, _, _, _, rfl, rfl, SqL.of upd_same, atI_nat (j := 1) rfl, ?_⟩ | refine ⟨_, _, _, _, rfl, rfl, SqL.of upd_same, atI_nat (j := 2) rfl, ?_⟩
  | refine ⟨_, _, _, _, rfl, rfl, upd_same, rfl, ?_⟩
  | refine ⟨_, _, rfl, rfl, ?_⟩ | refine ⟨_, rfl, ?_⟩ | refine ⟨_, _, rfl, ?_⟩ | refine Or.inl ⟨_, rfl, ?_⟩ | refine Or.inr ⟨_, rfl, ?_⟩ | refine ⟨(by walk_at "side"), ?_⟩ | fail "rd")

theorem rt1_valid {k : Nat} {n m : Nm} {t p b : Int} (g : Good k n) (g' : Good k m) (hb : b ≠ 0) (hp : n.p = 0 → m.p = 0 → p = 0) : validN t p (rt1 n m) b = true :=
  valid_of hb ((rt1_is g g').elim (fun z => .inl ⟨z.1, hp z.2.1 z.2.2⟩) .inr)
section
variable {P : Program} {w : World} {K : PySem.W.Frag} {mg : Str → Option Value} {base : Heap} {C : Addr}
theorem pu {C a : Addr} {H : Hp} {n : Nm} {gg : Nm → V} {Q : VK} (hn : NumAt C H a n) (q : Q (gg n) H) : ∃ a' dx fs, V.ref a = .ref a' ∧ H a' = some (.ins C dx fs) ∧ spProp C gg (.ref a' :: []) H Q E0 := prop_use hn ⟨a, n, rfl, hn, q⟩
theorem ok_diff (D : DefAt K mg "_difference_above" s_diff) (NC : NumT K mg C) (F_top : PropAt P w K mg base 1 C "top" (spProp C fun n => .int n.t)) (F_part : PropAt P w K mg base 1 C "part" (spProp C fun n => .int n.p)) (F_bottom : PropAt P w K mg base 1 C "bottom" (spProp C fun n => .int n.b)) :
    FnAt P w K mg base 3 "_difference_above" ["one", "other"] (spDiff C) := by
  refine fnAt D sc_diff (fun _ _ _ _ _ _ us hl => match us, hl with | [_, _], _ => rfl) (fun vs H Q E h => ?_) fun f cdv A outer s H vs Q E hr h => ?_
  · obtain ⟨a, b, n, m, rfl, _⟩ := h
    rfl
  obtain ⟨a, b, n, m, rfl, hn, hm, g, g', k⟩ := h
  refine ⟨_, (pss_cons (ps_set (i := 2) sc_diff.nd rfl (Or.inl rfl) (pe_op op_sub (pe_op op_mulW (propA F_top NC.cl (hr.mono (by decide)) (pv 0)) (propA F_bottom NC.cl (hr.mono (by decide)) (pv 1))) (pe_op op_mulW (propA F_top NC.cl (hr.mono (by decide)) (pv 1)) (propA F_bottom NC.cl (hr.mono (by decide)) (pv 0)))))
    (pss_cons (ps_set (i := 3) sc_diff.nd rfl (Or.inl rfl) (pe_op op_sub (pe_op op_mulW (propA F_part NC.cl (hr.mono (by decide)) (pv 0)) (propA F_bottom NC.cl (hr.mono (by decide)) (pv 1))) (pe_op op_mulW (propA F_part NC.cl (hr.mono (by decide)) (pv 1)) (propA F_bottom NC.cl (hr.mono (by decide)) (pv 0)))))
    (pss_one (ps_ret (pe_tup (pa_cons (pv 2) (pa_cons (pv 3) pa_nil))))))), ?_⟩
  refine ⟨_, rfl, pu hn ⟨_, rfl, pu hm ⟨_, _, rfl, rfl, g.t.cmul g'.b (by decide) (by decide) (by decide), _, rfl, pu hm ⟨_, rfl, pu hn ⟨_, _, rfl, rfl, g'.t.cmul g.b (by decide) (by decide) (by decide), _, _, rfl, rfl, ?_⟩⟩⟩⟩⟩
  refine ⟨_, rfl, pu hn ⟨_, rfl, pu hm ⟨_, _, rfl, rfl, g.p.cmul g'.b (by decide) (by decide) (by decide), _, rfl, pu hm ⟨_, rfl, pu hn ⟨_, _, rfl, rfl, g'.p.cmul g.b (by decide) (by decide) (by decide), _, _, rfl, rfl, ?_⟩⟩⟩⟩⟩
  exact ⟨_, rfl, _, rfl, len_ok (Nat.le_of_ble_eq_true rfl), fun q hq => k q _ (ext_new (ext_refl H) hq) upd_same⟩
theorem ok_nadd (D : OpT K C .Add "__add__" "Number.__add__" s_nadd) (NC : NumT K mg C) (F_init : InitAt P w K mg base 3 C (spInit C)) (F__operand : FnAt P w K mg base 6 "_operand" ["value"] (spOpd C)) (F__common_root : FnAt P w K mg base 3 "_common_root" ["one", "other"] (spCRoot C))
    (F_top : PropAt P w K mg base 1 C "top" (spProp C fun n => .int n.t)) (F_part : PropAt P w K mg base 1 C "part" (spProp C fun n => .int n.p)) (F_bottom : PropAt P w K mg base 1 C "bottom" (spProp C fun n => .int n.b)) : OpAt P w K mg base 7 C .Add (spBin C addN) := by
  refine opAt D sc_nadd (fun _ _ _ _ _ _ us hl => match us, hl with | [_, _], _ => rfl) (fun vs H Q E h => ?_) fun f cdv A outer s H vs Q E hr h => ?_
  · obtain ⟨a, v, n, m, rfl, _⟩ := h
    rfl
  obtain ⟨a, v, n, m, rfl, hn, hv, g, g', h1, k⟩ := h
  refine ⟨_, (pss_cons (ps_set (i := 2) sc_nadd.nd rfl (Or.inl rfl) (callA F__operand (hr.mono (by decide)) rfl (pa_cons (pv 1) pa_nil)))
    (pss_cons (ps_set (i := 3) sc_nadd.nd rfl (Or.inl rfl) (callA F__common_root (hr.mono (by decide)) rfl (pa_cons (pv 0) (pa_cons (pv 2) pa_nil))))
    (pss_cons (ps_set (i := 4) sc_nadd.nd rfl (Or.inl rfl) (pe_op op_add (pe_op op_mulW (pe_fld (pv 0) rfl) (propA F_bottom NC.cl (hr.mono (by decide)) (pv 2))) (pe_op op_mulW (propA F_top NC.cl (hr.mono (by decide)) (pv 2)) (pe_fld (pv 0) rfl))))
    (pss_cons (ps_set (i := 5) sc_nadd.nd rfl (Or.inl rfl) (pe_op op_add (pe_op op_mulW (pe_fld (pv 0) rfl) (propA F_bottom NC.cl (hr.mono (by decide)) (pv 2))) (pe_op op_mulW (propA F_part NC.cl (hr.mono (by decide)) (pv 2)) (pe_fld (pv 0) rfl))))
    (pss_one (ps_ret (mk4A F_init NC.g (hr.mono (by decide)) rfl (pa_cons (pv 4) (pa_cons (pv 5) pa_nil)) (pk_cons (pv 3) (pk_cons (pe_op op_mulW (pe_fld (pv 0) rfl) (propA F_bottom NC.cl (hr.mono (by decide)) (pv 2))) pk_nil))))))))), _, rfl, v, m, rfl, hv, fun b H1 e1 hm => ?_⟩
  have hn1 := hn.ext e1
  have hn2 := hn1
  obtain ⟨dx, q⟩ := hn2
  refine ⟨_, rfl, _, rfl, a, b, n, m, rfl, hn1, hm, h1, ?_⟩
  refine ⟨_, rfl, a, C, dx, _, _, rfl, q, NC.cl, NC.nT, nf_top n, _, rfl, pu hm ⟨_, _, rfl, rfl, g.t.cmul g'.b (by decide) (by decide) (by decide), _, rfl, pu hm ⟨_, rfl, a, C, dx, _, _, rfl, q, NC.cl, NC.nB, nf_bottom n, _, _, rfl, rfl, g'.t.cmul g.b (by decide) (by decide) (by decide), _, _, rfl, rfl, ?_⟩⟩⟩
  refine ⟨_, rfl, a, C, dx, _, _, rfl, q, NC.cl, NC.nP, nf_part n, _, rfl, pu hm ⟨_, _, rfl, rfl, g.p.cmul g'.b (by decide) (by decide) (by decide), _, rfl, pu hm ⟨_, rfl, a, C, dx, _, _, rfl, q, NC.cl, NC.nB, nf_bottom n, _, _, rfl, rfl, g'.p.cmul g.b (by decide) (by decide) (by decide), _, _, rfl, rfl, ?_⟩⟩⟩
  refine ⟨_, rfl, _, rfl, _, rfl, _, rfl, a, C, dx, _, _, rfl, q, NC.cl, NC.nB, nf_bottom n, _, rfl, pu hm ⟨_, _, rfl, rfl, g.b.cmul g'.b (by decide) (by decide) (by decide), ?_⟩⟩
  exact mk4_use ⟨rt1_valid g g' (Int.mul_ne_zero g.b0 g'.b0) (fun x y => by rw [x, y]; simp), (g.b.mul g'.b).mono (by decide)⟩ fun x H3 hx ex hz => k x H3 (e1.trans ex) hz
theorem ok_nsub (D : OpT K C .Sub "__sub__" "Number.__sub__" s_nsub) (NC : NumT K mg C) (F_init : InitAt P w K mg base 3 C (spInit C)) (F__operand : FnAt P w K mg base 6 "_operand" ["value"] (spOpd C)) (F__common_root : FnAt P w K mg base 3 "_common_root" ["one", "other"] (spCRoot C))
    (F__difference_above : FnAt P w K mg base 3 "_difference_above" ["one", "other"] (spDiff C)) (F_bottom : PropAt P w K mg base 1 C "bottom" (spProp C fun n => .int n.b)) : OpAt P w K mg base 7 C .Sub (spBin C subN) := by
  refine opAt D sc_nsub (fun _ _ _ _ _ _ us hl => match us, hl with | [_, _], _ => rfl) (fun vs H Q E h => ?_) fun f cdv A outer s H vs Q E hr h => ?_
  · obtain ⟨a, v, n, m, rfl, _⟩ := h
    rfl
  obtain ⟨a, v, n, m, rfl, hn, hv, g, g', h1, k⟩ := h
  refine ⟨_, (pss_cons (ps_set (i := 2) sc_nsub.nd rfl (Or.inl rfl) (callA F__operand (hr.mono (by decide)) rfl (pa_cons (pv 1) pa_nil)))
    (pss_cons (ps_set (i := 3) sc_nsub.nd rfl (Or.inl rfl) (callA F__common_root (hr.mono (by decide)) rfl (pa_cons (pv 0) (pa_cons (pv 2) pa_nil))))
    (pss_cons (ps_asg (callA F__difference_above (hr.mono (by decide)) rfl (pa_cons (pv 0) (pa_cons (pv 2) pa_nil))) (pg_tup (by rfl) (pgs_cons (pg_name (i := 4) sc_nsub.nd rfl (Or.inl rfl)) (pgs_cons (pg_name (i := 5) sc_nsub.nd rfl (Or.inl rfl)) pgs_nil))))
    (pss_one (ps_ret (mk4A F_init NC.g (hr.mono (by decide)) rfl (pa_cons (pv 4) (pa_cons (pv 5) pa_nil)) (pk_cons (pv 3) (pk_cons (pe_op op_mulW (pe_fld (pv 0) rfl) (propA F_bottom NC.cl (hr.mono (by decide)) (pv 2))) pk_nil)))))))), _, rfl, v, m, rfl, hv, fun b H1 e1 hm => ?_⟩
  have hn1 := hn.ext e1
  refine ⟨_, rfl, _, rfl, a, b, n, m, rfl, hn1, hm, h1, ?_⟩
  refine ⟨_, rfl, _, rfl, a, b, n, m, rfl, hn1, hm, g, g', fun q H2 e2 hq => ?_⟩
  have hm2 := hm.ext e2
  obtain ⟨dx, hq2⟩ := hn1.ext e2
  refine ⟨q, _, rfl, SqT.of hq, rfl, _, _, rfl, _, _, rfl, rfl, ?_⟩
  refine ⟨_, rfl, _, rfl, _, rfl, _, rfl, a, C, dx, _, _, rfl, hq2, NC.cl, NC.nB, nf_bottom n, _, rfl, pu hm2 ⟨_, _, rfl, rfl, g.b.cmul g'.b (by decide) (by decide) (by decide), ?_⟩⟩
  exact mk4_use ⟨rt1_valid g g' (Int.mul_ne_zero g.b0 g'.b0) (fun x y => by rw [x, y]; simp), (g.b.mul g'.b).mono (by decide)⟩ fun x H3 hx ex hz => k x H3 ((e1.trans e2).trans ex) hz
theorem ok_nmul (D : OpT K C .Mult "__mul__" "Number.__mul__" s_nmul) (NC : NumT K mg C) (F_init : InitAt P w K mg base 3 C (spInit C)) (F__operand : FnAt P w K mg base 6 "_operand" ["value"] (spOpd C)) (F__common_root : FnAt P w K mg base 3 "_common_root" ["one", "other"] (spCRoot C))
    (F_top : PropAt P w K mg base 1 C "top" (spProp C fun n => .int n.t)) (F_part : PropAt P w K mg base 1 C "part" (spProp C fun n => .int n.p)) (F_bottom : PropAt P w K mg base 1 C "bottom" (spProp C fun n => .int n.b)) : OpAt P w K mg base 7 C .Mult (spBin C mulN) := by
  refine opAt D sc_nmul (fun _ _ _ _ _ _ us hl => match us, hl with | [_, _], _ => rfl) (fun vs H Q E h => ?_) fun f cdv A outer s H vs Q E hr h => ?_
  · obtain ⟨a, v, n, m, rfl, _⟩ := h
    rfl
  obtain ⟨a, v, n, m, rfl, hn, hv, g, g', h1, k⟩ := h
  refine ⟨_, (pss_cons (ps_set (i := 2) sc_nmul.nd rfl (Or.inl rfl) (callA F__operand (hr.mono (by decide)) rfl (pa_cons (pv 1) pa_nil)))
    (pss_cons (ps_set (i := 3) sc_nmul.nd rfl (Or.inl rfl) (callA F__common_root (hr.mono (by decide)) rfl (pa_cons (pv 0) (pa_cons (pv 2) pa_nil))))
    (pss_cons (ps_set (i := 4) sc_nmul.nd rfl (Or.inl rfl) (pe_op op_add (pe_op op_mulW (pe_fld (pv 0) rfl) (propA F_top NC.cl (hr.mono (by decide)) (pv 2))) (pe_op op_mulW (pe_op op_mulW (pe_fld (pv 0) rfl) (propA F_part NC.cl (hr.mono (by decide)) (pv 2))) (pv 3))))
    (pss_cons (ps_set (i := 5) sc_nmul.nd rfl (Or.inl rfl) (pe_op op_add (pe_op op_mulW (pe_fld (pv 0) rfl) (propA F_part NC.cl (hr.mono (by decide)) (pv 2))) (pe_op op_mulW (pe_fld (pv 0) rfl) (propA F_top NC.cl (hr.mono (by decide)) (pv 2)))))
    (pss_one (ps_ret (mk4A F_init NC.g (hr.mono (by decide)) rfl (pa_cons (pv 4) (pa_cons (pv 5) pa_nil)) (pk_cons (pv 3) (pk_cons (pe_op op_mulW (pe_fld (pv 0) rfl) (propA F_bottom NC.cl (hr.mono (by decide)) (pv 2))) pk_nil))))))))), _, rfl, v, m, rfl, hv, fun b H1 e1 hm => ?_⟩
  have hn1 := hn.ext e1
  have hn2 := hn1
  obtain ⟨dx, q⟩ := hn2
  have zr := rt1_zr g g'
  refine ⟨_, rfl, _, rfl, a, b, n, m, rfl, hn1, hm, h1, ?_⟩
  refine ⟨_, rfl, a, C, dx, _, _, rfl, q, NC.cl, NC.nT, nf_top n, _, rfl, pu hm ⟨_, _, rfl, rfl, g.t.cmul g'.t (by decide) (by decide) (by decide), _, rfl, a, C, dx, _, _, rfl, q, NC.cl, NC.nP, nf_part n, _, rfl, pu hm ⟨_, _, rfl, rfl, g.p.cmul g'.p (by decide) (by decide) (by decide), _, rfl, _, _, rfl, rfl, (g.p.mul g'.p).cmul zr (by decide) (by decide) (by decide), _, _, rfl, rfl, ?_⟩⟩⟩
  refine ⟨_, rfl, a, C, dx, _, _, rfl, q, NC.cl, NC.nT, nf_top n, _, rfl, pu hm ⟨_, _, rfl, rfl, g.t.cmul g'.p (by decide) (by decide) (by decide), _, rfl, a, C, dx, _, _, rfl, q, NC.cl, NC.nP, nf_part n, _, rfl, pu hm ⟨_, _, rfl, rfl, g.p.cmul g'.t (by decide) (by decide) (by decide), _, _, rfl, rfl, ?_⟩⟩⟩
  refine ⟨_, rfl, _, rfl, _, rfl, _, rfl, a, C, dx, _, _, rfl, q, NC.cl, NC.nB, nf_bottom n, _, rfl, pu hm ⟨_, _, rfl, rfl, g.b.cmul g'.b (by decide) (by decide) (by decide), ?_⟩⟩
  exact mk4_use ⟨rt1_valid g g' (Int.mul_ne_zero g.b0 g'.b0) (fun x y => by rw [x, y]; simp), (g.b.mul g'.b).mono (by decide)⟩ fun x H3 hx ex hz => k x H3 (e1.trans ex) hz
theorem ok_nover (D : MethT K C "over" "Number.over" s_nover) (NC : NumT K mg C) (F_init : InitAt P w K mg base 3 C (spInit C)) (F__argument : FnAt P w K mg base 6 "_argument" ["value"] (spOpd C)) (F__common_root : FnAt P w K mg base 3 "_common_root" ["one", "other"] (spCRoot C))
    (F_sign : PropAt P w K mg base 3 C "sign" (spPropE C 5000 fun n => .int (sgn n.t n.p n.r))) (F__norm_above : FnAt P w K mg base 3 "_norm_above" ["number"] (spNormA C))
    (F_top : PropAt P w K mg base 1 C "top" (spProp C fun n => .int n.t)) (F_part : PropAt P w K mg base 1 C "part" (spProp C fun n => .int n.p)) (F_bottom : PropAt P w K mg base 1 C "bottom" (spProp C fun n => .int n.b)) : MethAt P w K mg base 7 C "over" ["self", "other"] (spOver C) := by
  refine methAt D sc_nover (fun _ _ _ _ _ _ us hl => match us, hl with | [_, _], _ => rfl) (fun vs H Q E h => ?_) fun f cdv A outer s H vs Q E hr h => ?_
  · obtain ⟨a, v, n, m, rfl, _⟩ := h
    rfl
  obtain ⟨a, v, n, m, rfl, hn, hv, g, g', h1, h0, k⟩ := h
  refine ⟨_, (pss_cons (ps_set (i := 2) sc_nover.nd rfl (Or.inl rfl) (callA F__argument (hr.mono (by decide)) rfl (pa_cons (pv 1) pa_nil)))
    (pss_cons (ps_set (i := 3) sc_nover.nd rfl (Or.inl rfl) (callA F__common_root (hr.mono (by decide)) rfl (pa_cons (pv 0) (pa_cons (pv 2) pa_nil))))
    (pss_cons (ps_if (pt_cmpR op_eq (propA F_sign NC.cl (hr.mono (by decide)) (pv 2)) pe_int (nomark _)) (pss_one ps_never) pss_nil)
    (pss_cons (ps_set (i := 4) sc_nover.nd rfl (Or.inl rfl) (pe_op op_mulW (pe_op op_sub (pe_op op_mulW (pe_fld (pv 0) rfl) (propA F_top NC.cl (hr.mono (by decide)) (pv 2))) (pe_op op_mulW (pe_op op_mulW (pe_fld (pv 0) rfl) (propA F_part NC.cl (hr.mono (by decide)) (pv 2))) (pv 3))) (propA F_bottom NC.cl (hr.mono (by decide)) (pv 2))))
    (pss_cons (ps_set (i := 5) sc_nover.nd rfl (Or.inl rfl) (pe_op op_mulW (pe_op op_sub (pe_op op_mulW (pe_fld (pv 0) rfl) (propA F_top NC.cl (hr.mono (by decide)) (pv 2))) (pe_op op_mulW (pe_fld (pv 0) rfl) (propA F_part NC.cl (hr.mono (by decide)) (pv 2)))) (propA F_bottom NC.cl (hr.mono (by decide)) (pv 2))))
    (pss_one (ps_ret (mk4A F_init NC.g (hr.mono (by decide)) rfl (pa_cons (pv 4) (pa_cons (pv 5) pa_nil)) (pk_cons (pv 3) (pk_cons (pe_op op_mulW (pe_fld (pv 0) rfl) (callA F__norm_above (hr.mono (by decide)) rfl (pa_cons (pv 2) pa_nil))) pk_nil)))))))))), _, rfl, v, m, rfl, hv, fun b H1 e1 hm => ?_⟩
  refine ⟨_, rfl, _, rfl, a, b, n, m, rfl, hn.ext e1, hm, h1, ?_⟩
  refine ⟨_, rfl, prop_use hm ⟨b, m, rfl, hm, g'.mono (by decide), fun H2 e2 => ⟨rfl, _, rfl, ?_⟩⟩⟩
  have s0 : decide (V.int (sgn m.t m.p m.r) = V.int 0) = false := by
    rw [e_int]
    exact decide_eq_false (sgn_ne g'.r0.1 h0)
  rw [s0]
  refine iteF ?_
  have hm := hm.ext e2
  obtain ⟨dx, q⟩ := (hn.ext e1).ext e2
  have zr := rt1_zr g g'
  have na := normA_ne g' h0
  have zn : Sz 4011 (normA m) := (((g'.t.mul g'.t).mono (by decide)).sub ((g'.p.mul g'.p).mul g'.zr) : Sz (4010 + 1) _)
  refine ⟨_, rfl, a, C, dx, _, _, rfl, q, NC.cl, NC.nT, nf_top n, _, rfl, pu hm ⟨_, _, rfl, rfl, g.t.cmul g'.t (by decide) (by decide) (by decide), _, rfl, a, C, dx, _, _, rfl, q, NC.cl, NC.nP, nf_part n, _, rfl, pu hm ⟨_, _, rfl, rfl, g.p.cmul g'.p (by decide) (by decide) (by decide), _, rfl, _, _, rfl, rfl, (g.p.mul g'.p).cmul zr (by decide) (by decide) (by decide), _, _, rfl, rfl, ?_⟩⟩⟩
  refine ⟨_, rfl, pu hm ⟨_, _, rfl, rfl, ((((g.t.mul g'.t).mono (by decide)).sub ((g.p.mul g'.p).mul zr)) : Sz (4010 + 1) _).cmul g'.b (by decide) (by decide) (by decide), ?_⟩⟩
  refine ⟨_, rfl, a, C, dx, _, _, rfl, q, NC.cl, NC.nP, nf_part n, _, rfl, pu hm ⟨_, _, rfl, rfl, g.p.cmul g'.t (by decide) (by decide) (by decide), _, rfl, a, C, dx, _, _, rfl, q, NC.cl, NC.nT, nf_top n, _, rfl, pu hm ⟨_, _, rfl, rfl, g.t.cmul g'.p (by decide) (by decide) (by decide), _, _, rfl, rfl, ?_⟩⟩⟩
  refine ⟨_, rfl, pu hm ⟨_, _, rfl, rfl, ((g.p.mul g'.t).sub (g.t.mul g'.p)).cmul g'.b (by decide) (by decide) (by decide), ?_⟩⟩
  refine ⟨_, rfl, _, rfl, _, rfl, _, rfl, a, C, dx, _, _, rfl, q, NC.cl, NC.nB, nf_bottom n, _, rfl, b, m, rfl, hm, g', _, _, rfl, rfl, g.b.cmul zn (by decide) (by decide) (by decide), ?_⟩
  exact mk4_use ⟨rt1_valid g g' (Int.mul_ne_zero g.b0 na) (fun x y => by rw [x, y]; simp), (g.b.mul zn).mono (by decide)⟩ fun x H3 hx ex hz => k x H3 ((e1.trans e2).trans ex) hz
theorem ok_neq (T : Bn mg) (D : SpT K C "__eq__" "Number.__eq__" s_neq) (NC : NumT K mg C) (NI : NumI K C) : SpAt P w K mg base 1 C "__eq__" ["self", "other"] (spEqN C) := by
  refine spAt D sc_neq (fun _ _ _ _ _ _ us hl => match us, hl with | [_, _], _ => rfl) (fun vs H Q E h => ?_) fun f cdv A outer s H vs Q E hr h => ?_
  · obtain ⟨a, b, n, m, rfl, _⟩ := h
    rfl
  obtain ⟨a, b, n, m, rfl, hn, hm, k⟩ := h
  obtain ⟨dx, q⟩ := id hn
  obtain ⟨dy, q'⟩ := id hm
  have ne : ∀ {x y : Int}, n ≠ m → True := fun _ => True.intro
  refine ⟨_, (pss_one (ps_ret (pe_and (pe_callB call_isi (by rfl) T.b_isinstance (by decide +kernel) (pa_cons (pv 1) (pa_cons (pe_glob (v := .ref C) rfl NC.g rfl) pa_nil))) (pe_and (pe_cmpR op_eq (pe_fld (pv 0) rfl) (pe_fld (pv 1) rfl) (nomark _)) (pe_and (pe_cmpR op_eq (pe_fld (pv 0) rfl) (pe_fld (pv 1) rfl) (nomark _)) (pe_and (pe_cmpR op_eq (pe_fld (pv 0) rfl) (pe_fld (pv 1) rfl) (nomark _)) (pe_one (pe_cmpR op_eq (pe_fld (pv 0) rfl) (pe_fld (pv 1) rfl) (nomark _))))))))), _, rfl, _, _, _, _, true, rfl, .own C, hm.ty NC.cl NI, NI.kNum, _, rfl, iteT ?_⟩
  refine ⟨_, rfl, a, C, dx, _, _, rfl, q, NC.cl, NC.nT, nf_top n, _, rfl, b, C, dy, _, _, rfl, q', NC.cl, NC.nT, nf_top m, rfl, _, rfl, ?_⟩
  rw [e_int]
  refine ite2 (fun c1 => ?_) (fun c1 => ?_)
  · refine ⟨_, rfl, a, C, dx, _, _, rfl, q, NC.cl, NC.nP, nf_part n, _, rfl, b, C, dy, _, _, rfl, q', NC.cl, NC.nP, nf_part m, rfl, _, rfl, ?_⟩
    rw [e_int]
    refine ite2 (fun c2 => ?_) (fun c2 => ?_)
    · refine ⟨_, rfl, a, C, dx, _, _, rfl, q, NC.cl, NC.nR, nf_root n, _, rfl, b, C, dy, _, _, rfl, q', NC.cl, NC.nR, nf_root m, rfl, _, rfl, ?_⟩
      rw [e_int]
      refine ite2 (fun c3 => ?_) (fun c3 => ?_)
      · refine ⟨_, rfl, a, C, dx, _, _, rfl, q, NC.cl, NC.nB, nf_bottom n, _, rfl, b, C, dy, _, _, rfl, q', NC.cl, NC.nB, nf_bottom m, rfl, ?_⟩
        have e : decide (n = m) = decide (V.int n.b = V.int m.b) := by
          rw [e_int]
          refine decide_eq_decide.mpr ⟨fun z => by rw [z], fun z => ?_⟩
          have x1 := of_decide_eq_true c1
          have x2 := of_decide_eq_true c2
          have x3 := of_decide_eq_true c3
          cases n; cases m
          simp only at x1 x2 x3 z
          rw [x1, x2, x3, z]
        rw [e] at k
        exact k
      · have e : decide (n = m) = false := decide_eq_false fun z => c3 (by rw [z]; exact decide_eq_true rfl)
        rw [e] at k
        exact k
    · have e : decide (n = m) = false := decide_eq_false fun z => c2 (by rw [z]; exact decide_eq_true rfl)
      rw [e] at k
      exact k
  · have e : decide (n = m) = false := decide_eq_false fun z => c1 (by rw [z]; exact decide_eq_true rfl)
    rw [e] at k
    exact k
end
end My
namespace My
open PySem PySem.Spec PyProof.Rows L2
/-- the class has the def at f as __eq__ and no __ne__ -/
structure NeK (K : PySem.W.Frag) (C f : Addr) : Prop where
  cls : ∃ nm q N bs hdct sn sub ab col dd k0 k1 k2 k3 k5 newId, K.lookup C = some (excClassObj nm q C N bs [.type "object"] hdct sn sub ab col dd k0 k1 k2 k3 k5 newId) ∧ PySem.W.nsOkIn K N = true ∧
    PySem.W.nsIn K N "__eq__" = some (some (.ref f)) ∧ PySem.W.nsIn K N "__ne__" = some none
  fn : ∃ od fd sl, K.lookup f = some ⟨.type "function", od, .func fd, sl⟩
theorem ty_eq : ∃ y, typeLookup (.type "object") ("__eq__" : Str) = pure y := ⟨some (.builtin "object.__eq__"), by kernel_rfl⟩
theorem ns_some {K : PySem.W.Frag} {h : Heap} {N : Addr} {mg : Str → Option Value} {n : Str} {v : Value} (X : K.In h) (G : h.Ns N mg) (e : PySem.W.nsIn K N n = some (some v)) : mg n = some v := by
  obtain ⟨o, es, ep, ho, hd, _, hf⟩ := G
  cases q : K.lookup N with
  | none => unfold PySem.W.nsIn at e; rw [q] at e; cases e
  | some on =>
    have z := X _ _ q
    rw [ho] at z
    cases z
    obtain ⟨cl, od, dt, sl⟩ := o
    dsimp only at hd
    subst hd
    unfold PySem.W.nsIn at e
    rw [q] at e
    dsimp only at e
    cases he : es.toList.find? (·.key.isStr n) with
    | none => rw [he] at e; dsimp only at e; split at e <;> cases e
    | some en =>
      rw [he] at e
      cases e
      rw [← hf]
      unfold nsFind findBy
      rw [← Array.find?_toList, he]
      rfl
section
variable {X : Cx} {CX : CXT} {k : Nat} {f C : Addr} {fd : FuncData} {ps : List Str} {sp : Sp} {E : XK}
def rOwnNe (C : Addr) (sp : Sp) (E : XK) : R2 := fun x y H Q => ∃ a dx fs b dy gs, x = .ref a ∧ H a = some (.ins C dx fs) ∧ y = .ref b ∧ H b = some (.ins C dy gs) ∧ sp [.ref a, .ref b] H (fun v H' => ∃ c, v = .bl c ∧ Q (.bl (!c)) H') E
theorem op_ownNe (T : NeK X.K C f) (F : FnOk X.prog X.w X.K X.mg X.base CX k f fd ps sp) (hr : Room (k + 1) X.A) (hb : Binds X.K fd ps []) (hx : Passes CX X E) : OpR X (compareOp .NotEq) (rOwnNe C sp E) := by
  intro pins s σ H x y v u Q I rx ry hq
  obtain ⟨a, dx, fs, b, dy, gs, rfl, ea, rfl, eb, hsp⟩ := hq
  cases rx
  cases ry
  obtain ⟨mA, O, _⟩ := ins_get I.hok ea
  obtain ⟨od, J, _⟩ := O.look
  obtain ⟨mB, O', _⟩ := ins_get I.hok eb
  obtain ⟨od', J', _⟩ := O'.look
  obtain ⟨nm, q, N, bs, hdct, sn, sub, ab, col, dd, k0, k1, k2, k3, k5, nid, hC, hok, heq, hne⟩ := T.cls
  obtain ⟨ofd, fdd, sl, hf⟩ := T.fn
  obtain ⟨yv, hy⟩ := ty_eq
  have X0 := I.kIn
  have hns : s.heap.Ns N (s.heap.nsMap N) := .of_isNs (PySem.W.isNs_of_in X0 hok)
  have Y : s.heap.OwnEqNoNe a C f "object" [.type "object"] :=
    ⟨_, _, nm, q, N, bs, hdct, sn, sub, ab, col, dd, k0, k1, k2, k3, k5, nid, _, yv, J.at_, J.cls, X0 _ _ hC, hns, ns_some X0 hns heq, X0 _ _ hf, rfl, PySem.F.mro_object, hy, PySem.W.ns_none_of X0 hns hne⟩
  obtain ⟨hp, g, d, t, os⟩ := s
  have fr : FnOk X.prog X.w X.K X.mg X.base CX k f fd ps sp := F
  refine compareOp_ne_ownEq PySem.F.cmp_object Y J'.at_ J'.cls (by have := hr.un; omega) ?_
  refine wpAny_call ?_
  have hl : ([Value.ref a, Value.ref b] : List Value).length = ps.length := by
    have := F.len _ _ _ _ hsp
    exact this
  have bd : BindsTo ⟨hp, g, d, t, os⟩ fd ⟨[.ref a, .ref b], []⟩ (ps.zip [.ref a, .ref b]) := by
    have z := hb ⟨hp, g, d, t, os⟩ [.ref a, .ref b] I.kIn (by rw [List.append_nil]; exact hl)
    rw [List.append_nil] at z
    exact z
  refine codeAny_mono (F.run X.A.in1 X.stack ⟨hp, g, d, t, os⟩ H ⟨[.ref a, .ref b], []⟩ [.ref a, .ref b] [.ref a, .ref b] _ E hr.in1 I.env0.in1 bd (.cons rfl (.cons rfl .nil)) hsp) fun r2 s2 hq => ?_
  match r2, hq with
  | .error er, hq => exact hx pins σ H _ er s2 I hq
  | .ok (.ret u), hq =>
    obtain ⟨z, H', I', rz, c, ez, q⟩ := I.after hq
    subst ez
    cases rz
    exact ⟨c, rfl, .bl (!c), H', I', rfl, q⟩
end
end My
namespace My
open PySem PySem.Spec PyProof.Rows L2
section
variable {prog : Program} {w : World} {A : Around} {E : Value → Shared → Prop} {h : Heap} {g : Array GenState} {d : Drawn} {t : Nat} {os : OsState} {C x f : Addr} {B : String} {bm : List Value} {v tb : Value} {K : PySem.W.Frag}
theorem neA_entry (X : h.OwnEqNoNe x C f B bm) (hu : A.units < cLine) {Q : Fin → Shared → Prop}
    (hcall : wpAny (model prog w) A (call (.ref f) [.ref x, v]) (fun v s' => ∃ b, v = .bool b ∧ Q (.done (.ret (.bool (!b)))) s') E ⟨h, g, d, t, os⟩) :
    wpAny (model prog w) A (Builtin.«object.__ne__» ⟨[.ref x, v], []⟩) Q E ⟨h, g, d, t, os⟩ := by
  unfold Builtin.«object.__ne__»
  repeat (first
    | with_reducible refine wpAny_cRoomFor hu ?_
    | (refine wpAny_bind (m := callSpecialIfBound? (.ref x) (Str.ofString "__eq__") [v])
        (wpAny_callSpecialIfBound?_own X.ownEq (wpAny_mono hcall (fun r s' hr => by
          obtain ⟨b, rfl, hq⟩ := hr
          repeat (first | exact hq | exact wpAny_pure hq | exact wpAny_truthy_bool hq | (refine wpAny_bind (m := truthy (.bool _)) (wpAny_truthy_bool ?_)) | wp_step)) fun _ _ e => e)))
    | wp_step)
theorem neA_try (FB : CmpFacts B bm) (X : h.OwnEqNoNe x C f B bm) (hu : A.units + 1 < cLine) {Q : Option Value → Shared → Prop}
    (hcall : wpAny (model prog w) A.in1 (call (.ref f) [.ref x, v]) (fun v s' => ∃ b, v = .bool b ∧ Q (some (.bool (!b))) s') E ⟨h, g, d, t, os⟩) :
    wpAny (model prog w) A (tryCompare (.ref x) "__ne__" v) Q E ⟨h, g, d, t, os⟩ := by
  obtain ⟨o, of, nm, q, N, bs, hdct, sn, sub, ab, col, dd, k0, k1, k2, k3, k5, newId, mN, yv, hx, hc, hC, hn, _, _, _, _, _, hne⟩ := id X
  simp only [tryCompare]
  refine wpAny_bind (wpAny_callSpecialIfBound?_inst hx hc hC hn hne FB.mro FB.ne (wpAny_call (codeAny_call_builtin FB.ne.plain F.cmpEntry_ne
    (wpAny_check_slot_inst F.cmpKind_ne F.cmpSplit_ne (F.cmpArgs_ne _ _) FB.hasObject hx hc hC
      (neA_entry (A := A.in1) X hu (wpAny_mono hcall (fun v s' hv => ?_) fun _ _ e => e))))))
  obtain ⟨b, rfl, hq⟩ := hv
  first | exact ⟨b, rfl, wpAny_pure hq⟩ | exact ⟨b, rfl, wpAny_pure (wpAny_pure hq)⟩ | exact ⟨b, rfl, hq⟩
theorem neA_cmp (FB : CmpFacts B bm) (X : h.OwnEqNoNe x C f B bm) (KX : K.In h) (hb : PySem.W.Looks (model prog w) h (typeOf v) tb) (hn : PySem.W.notFirst K C tb = true) (hu : A.units + 1 < cLine) {Q : Value → Shared → Prop}
    (hcall : wpAny (model prog w) A.in1 (call (.ref f) [.ref x, v]) (fun v s' => ∃ b, v = .bool b ∧ Q (.bool (!b)) s') E ⟨h, g, d, t, os⟩) :
    wpAny (model prog w) A (compareOp .NotEq (.ref x) v) Q E ⟨h, g, d, t, os⟩ := by
  have X' := X
  obtain ⟨o, of, nm, q, N, bs, hdct, sn, sub, ab, col, dd, k0, k1, k2, k3, k5, newId, mN, yv, hx, hc, _⟩ := X'
  unfold compareOp
  show wpAny (model prog w) A (richCompare .NotEq (.ref x) v) Q E _
  unfold richCompare
  simp only [oneThing_ref]
  refine wpAny_holding ?_
  refine wpAny_bind (wpAny_cRoomFor (Nat.lt_of_succ_lt hu) ?_)
  rw [cmpInfo_NotEq]
  dsimp only
  refine wpAny_bind (wpAny_typeOf_ref hx ?_)
  rw [hc]
  refine wpAny_bind (hb.here ?_)
  have fin : wpAny (model prog w) A (tryCompare (.ref x) "__ne__" v) (fun r s' => ∃ b, r = some (.bool b) ∧ Q (.bool b) s') E ⟨h, g, d, t, os⟩ := neA_try FB X hu (wpAny_mono hcall (fun v s' hv => by
    obtain ⟨b, rfl, hq⟩ := hv
    exact ⟨b, rfl, _, rfl, hq⟩) fun _ _ e => e)
  split
  · rename_i q
    have e : PySem.W.subIn K tb (.ref C) = some false := by
      rcases Bool.or_eq_true_iff.mp hn with e | e
      · rw [beq_iff_eq.mp e] at q; simp at q
      · exact beq_iff_eq.mp e
    refine wpAny_bind ((PySem.W.looks_subIn KX e).here ?_)
    simp only [Bool.false_eq_true, if_false]
    refine wpAny_bind (wpAny_mono fin (fun r s' z => ?_) fun _ _ e => e)
    obtain ⟨b, rfl, hq⟩ := z
    exact wpAny_pure hq
  · refine wpAny_bind (wpAny_pure ?_)
    simp only [Bool.false_eq_true, if_false]
    refine wpAny_bind (wpAny_mono fin (fun r s' z => ?_) fun _ _ e => e)
    obtain ⟨b, rfl, hq⟩ := z
    exact wpAny_pure hq
end
section
variable {X : Cx} {CX : CXT} {k : Nat} {f C : Addr} {fd : FuncData} {ps : List Str} {sp : Sp} {E : XK}
/-- x == y, x an instance, y of any kind that does not go first -/
def rOwnEqA (K : PySem.W.Frag) (C : Addr) (sp : Sp) (E : XK) : R2 := fun x y H Q => ∃ a dx fs t, x = .ref a ∧ H a = some (.ins C dx fs) ∧ TyX K H y t ∧ PySem.W.notFirst K C t = true ∧ sp [.ref a, y] H Q E
theorem op_ownEqA (hs : PySem.W.findIn X.K (.ref C) "__eq__" = some (some (.ref f))) (hf : PySem.W.isFn X.K (.ref f) = true) (F : FnOk X.prog X.w X.K X.mg X.base CX k f fd ps sp) (hr : Room k X.A) (hb : Binds X.K fd ps []) (hx : Passes CX X E) : OpR X (compareOp .Eq) (rOwnEqA X.K C sp E) := by
  intro pins s σ H x y v u Q I rx ry hq
  obtain ⟨a, dx, fs, t, rfl, ea, ty, hn, hsp⟩ := hq
  cases rx
  obtain ⟨mA, O, _⟩ := ins_get I.hok ea
  obtain ⟨od, J, _⟩ := O.look
  obtain ⟨P, Z, p, _⟩ := kit_of I ry ty
  obtain ⟨m, hF⟩ := I.fr
  show wpAny (model X.prog X.w) X.A (richCompare .Eq (.ref a) u) (EP X pins σ Q) X.xe s
  refine PySem.W.cmp_K (op := .Eq) (tb := t) hr.units0 hF I.ok.mod.kin J (Z.ty _ _ I.kIn p) hn hs hf ?_
  refine wpAny_mono (run_fn (us := [.ref a, u]) (vs := [.ref a, y]) (dvs := []) (ds := []) F hr hb .nil hx I (.cons rfl (.cons ry .nil)) hsp) (fun w s' hw => ?_) fun _ _ e => e
  obtain ⟨z, H', I', rz, q⟩ := hw
  exact cmpBack_of rz ⟨z, H', I', rz, q⟩
def rOwnNeA (K : PySem.W.Frag) (C : Addr) (sp : Sp) (E : XK) : R2 := fun x y H Q => ∃ a dx fs t, x = .ref a ∧ H a = some (.ins C dx fs) ∧ TyX K H y t ∧ PySem.W.notFirst K C t = true ∧ sp [.ref a, y] H (fun v H' => ∃ c, v = .bl c ∧ Q (.bl (!c)) H') E
theorem op_ownNeA (T : NeK X.K C f) (F : FnOk X.prog X.w X.K X.mg X.base CX k f fd ps sp) (hr : Room (k + 1) X.A) (hb : Binds X.K fd ps []) (hx : Passes CX X E) : OpR X (compareOp .NotEq) (rOwnNeA X.K C sp E) := by
  intro pins s σ H x y v u Q I rx ry hq
  obtain ⟨a, dx, fs, ty, rfl, ea, tyx, hnf, hsp⟩ := hq
  cases rx
  obtain ⟨mA, O, _⟩ := ins_get I.hok ea
  obtain ⟨od, J, _⟩ := O.look
  obtain ⟨P, Z, p, _⟩ := kit_of I ry tyx
  obtain ⟨nm, q, N, bs, hdct, sn, sub, ab, col, dd, k0, k1, k2, k3, k5, nid, hC, hok, heq, hne⟩ := T.cls
  obtain ⟨ofd, fdd, sl, hf⟩ := T.fn
  obtain ⟨yv, hy⟩ := ty_eq
  have X0 := I.kIn
  have hns : s.heap.Ns N (s.heap.nsMap N) := .of_isNs (PySem.W.isNs_of_in X0 hok)
  have Y : s.heap.OwnEqNoNe a C f "object" [.type "object"] :=
    ⟨_, _, nm, q, N, bs, hdct, sn, sub, ab, col, dd, k0, k1, k2, k3, k5, nid, _, yv, J.at_, J.cls, X0 _ _ hC, hns, ns_some X0 hns heq, X0 _ _ hf, rfl, PySem.F.mro_object, hy, PySem.W.ns_none_of X0 hns hne⟩
  have Lk := Z.ty (model X.prog X.w) s.heap I.kIn p
  obtain ⟨hp, g, d, t, os⟩ := s
  refine neA_cmp PySem.F.cmp_object Y X0 Lk hnf (by have := hr.un; omega) ?_
  refine wpAny_call ?_
  have hl : ([Value.ref a, u] : List Value).length = ps.length := by
    have := F.len _ _ _ _ hsp
    exact this
  have bd : BindsTo ⟨hp, g, d, t, os⟩ fd ⟨[.ref a, u], []⟩ (ps.zip [.ref a, u]) := by
    have z := hb ⟨hp, g, d, t, os⟩ [.ref a, u] I.kIn (by rw [List.append_nil]; exact hl)
    rw [List.append_nil] at z
    exact z
  refine codeAny_mono (F.run X.A.in1 X.stack ⟨hp, g, d, t, os⟩ H ⟨[.ref a, u], []⟩ [.ref a, u] [.ref a, y] _ E hr.in1 I.env0.in1 bd (.cons rfl (.cons ry .nil)) hsp) fun r2 s2 hq => ?_
  match r2, hq with
  | .error er, hq => exact hx pins σ H _ er s2 I hq
  | .ok (.ret u), hq =>
    obtain ⟨z, H', I', rz, c, ez, q⟩ := I.after hq
    subst ez
    cases rz
    exact ⟨c, rfl, .bl (!c), H', I', rfl, q⟩
end
end My
namespace My
open PySem PySem.Spec PyProof.Rows L2
section
variable {K : PySem.W.Frag} {a D : Addr} {xs : List V} {te : TE} {vs : List Nat} {σ : L2.St} {H1 : Hp} {j : Nat}
/-- what is said of the list D survives, when only D changes -/
def Keeps (D : Addr) (Pv : List V → Hp → Prop) : Prop := ∀ acc H H', Pv acc H → (∃ l, H D = some (.lst l)) → (∀ a u, H a = some u → a ≠ D → H' a = some u) → Pv acc H'
def MadeP (H1 : Hp) (D : Addr) (Pv : List V → Hp → Prop) (i : Nat) (H' : Hp) : Prop := H1 D = none ∧ Ext H1 H' ∧ ∃ acc, H' D = some (.lst acc) ∧ acc.length = i ∧ Pv acc H'
theorem madeP_turn {Pv : List V → Hp → Prop} {i : Nat} {H' : Hp} {σ2 : L2.St} (hz : i ≤ 1000000) (kp : Keeps D Pv) (p : MadeP H1 D Pv i H')
    (he : ∀ acc, acc.length = i → Pv acc H' → Ext H1 H' → ∀ Q' : VK, (∀ y H'', Ext H' H'' → Pv (acc ++ [y]) H'' → Q' y H'') → te σ2 H' Q') :
    tYes σ2 H' fun b H3 => if b = true then te σ2 H3 fun y H4 => ∃ acc, H4 D = some (.lst acc) ∧ acc.length < sizeLine ∧ MadeP H1 D Pv (i + 1) (upd H4 D (.lst (acc ++ [y]))) else MadeP H1 D Pv (i + 1) H3 := by
  obtain ⟨p1, p2, acc, p3, p4, p5⟩ := p
  unfold tYes
  dsimp only
  rw [if_pos rfl]
  refine he acc p4 p5 p2 _ fun y H'' e pv => ⟨acc, e _ _ p3, ?_, p1, ext_mut (p2.trans e) p1, acc ++ [y], upd_same, by simp [p4], ?_⟩
  · rw [p4]
    exact Nat.lt_of_le_of_lt hz (by decide)
  · exact kp _ _ _ pv ⟨_, e _ _ p3⟩ fun a u q ne => by rw [upd_ne ne]; exact q
theorem made_range {Qd : Hp → Prop} {n : Nat} (Pv : List V → Hp → Prop) (kp : Keeps D Pv) (hD : H1 D = none) (hz : n ≤ 1000000) (hw : ∀ x, wipe ((wipe σ vs).set j (some x)) vs = wipe σ vs) (h0 : ∀ H, Pv [] H)
    (he : ∀ i H' acc, i < n → Ext H1 H' → acc.length = i → Pv acc H' → ∀ Q' : VK, (∀ y H'', Ext H' H'' → Pv (acc ++ [y]) H'' → Q' y H'') → te ((wipe σ vs).set j (some (.int (0 + i)))) H' Q')
    (hd : ∀ H' acc, Ext H1 H' → H' D = some (.lst acc) → acc.length = n → Pv acc H' → Qd H') :
    Block (Itr 0 n) (gName j) tYes te vs σ H1 D Qd :=
  lc_range (MadeP H1 D Pv) ⟨hD, ext_new (ext_refl H1) hD, [], upd_same, rfl, h0 _⟩ (fun i H' hi p => ⟨hw _, madeP_turn (by omega) kp p fun acc hl pv e Q' k => he i H' acc hi e hl pv Q' k⟩) fun H' ⟨_, e, acc, q, hl, pv⟩ => hd H' acc e q hl pv
theorem made_list {Qd : Hp → Prop} (Pv : List V → Hp → Prop) (kp : Keeps D Pv) (hx : SqL K H1 a xs) (hD : H1 D = none) (hz : xs.length ≤ 1000000) (hw : ∀ x, wipe ((wipe σ vs).set j (some x)) vs = wipe σ vs) (h0 : ∀ H, Pv [] H)
    (he : ∀ i x H' acc, xs[i]? = some x → Ext H1 H' → acc.length = i → Pv acc H' → ∀ Q' : VK, (∀ y H'', Ext H' H'' → Pv (acc ++ [y]) H'' → Q' y H'') → te ((wipe σ vs).set j (some x)) H' Q')
    (hd : ∀ H' acc, Ext H1 H' → H' D = some (.lst acc) → acc.length = xs.length → Pv acc H' → Qd H') :
    Block (Itl K a) (gName j) tYes te vs σ H1 D Qd :=
  lc_list (xs := xs) (MadeP H1 D Pv) ⟨hD, ext_new (ext_refl H1) hD, [], upd_same, rfl, h0 _⟩ (fun i H' _ p => hx.ext p.2.1)
    (fun i x H' hi p => ⟨hw _, madeP_turn (Nat.le_trans (Nat.le_of_lt (List.getElem?_eq_some_iff.mp hi).1) hz) kp p fun acc hl pv e Q' k => he i x H' acc hi e hl pv Q' k⟩) fun H' ⟨_, e, acc, q, hl, pv⟩ => hd H' acc e q hl pv
end
end My
namespace My
open PySem
/-! ### the law's sign -/
theorem sgI_pos {i : Int} (h : 0 < i) : sgI i = 1 := by unfold sgI; rw [if_neg (by omega), if_pos h]
theorem sgI_neg {i : Int} (h : i < 0) : sgI i = -1 := by unfold sgI; rw [if_neg (by omega), if_neg (by omega)]
theorem sgI_z : sgI 0 = 0 := rfl
theorem sgn_y0 {x r : Int} : sgn x 0 r = sgI x := if_pos (.inr rfl)
theorem sgn_x0 {y r : Int} (hr : 0 ≤ r) : sgn 0 y r = sgI y := by
  by_cases hy : y = 0
  · rw [hy]; exact sgn_y0
  · unfold sgn
    have : sgI y ≠ 0 := fun z => hy (sgI_zero.mp z)
    have h0 : 0 ≤ y * y * r := Int.mul_nonneg (sq_nonneg y) hr
    rw [if_neg (by rw [sgI_z]; rintro (h | h) <;> omega), if_neg (by omega)]
theorem sgn_same {x y r : Int} (hx : x ≠ 0) (hy : y ≠ 0) (h : (0 < x) ↔ (0 < y)) : sgn x y r = sgI x := by
  have e : sgI x = sgI y := by
    by_cases hp : 0 < x
    · rw [sgI_pos hp, sgI_pos (h.mp hp)]
    · have : ¬ 0 < y := fun z => hp (h.mpr z)
      rw [sgI_neg (by omega), sgI_neg (by omega)]
  exact if_pos (.inl e)
theorem sgn_diff {x y r : Int} (hx : x ≠ 0) (hy : y ≠ 0) (h : ¬ ((0 < x) ↔ (0 < y))) : sgn x y r = if y * y * r < x * x then sgI x else sgI y := by
  have e : sgI x ≠ sgI y := by
    by_cases hp : 0 < x
    · have : ¬ 0 < y := fun z => h ⟨fun _ => z, fun _ => hp⟩
      rw [sgI_pos hp, sgI_neg (by omega)]; decide
    · have : 0 < y := Classical.byContradiction fun z => h ⟨fun q => absurd q hp, fun q => absurd q z⟩
      rw [sgI_neg (by omega), sgI_pos this]; decide
  have : sgI y ≠ 0 := fun z => hy (sgI_zero.mp z)
  unfold sgn
  rw [if_neg (by rintro (h | h); exact e h; exact this h)]
/-! ### Euclid, with a count of turns -/
structure Euc (i : Nat) (g P : Nat) (a b : Nat) : Prop where
  g : Nat.gcd a b = g
  or : i = 0 ∨ b < a
  m : a * b * 2 ^ i ≤ P
theorem Euc.step {i g P a b : Nat} (h : Euc i g P a b) (h0 : a * b * 2 ≤ P) (hb : b ≠ 0) : Euc (i + 1) g P b (a % b) := by
  have hlt := Nat.mod_lt a (Nat.pos_of_ne_zero hb)
  refine ⟨?_, .inr hlt, ?_⟩
  · rw [← h.g, Nat.gcd_comm a b, Nat.gcd_rec b a, Nat.gcd_comm]
  · by_cases hab : b ≤ a
    · have e := Nat.div_add_mod a b
      have hq : 1 ≤ a / b := Nat.div_pos hab (Nat.pos_of_ne_zero hb)
      have h2 : 2 * (a % b) ≤ a := by
        have : b * 1 ≤ b * (a / b) := Nat.mul_le_mul_left _ hq
        omega
      have h3 : b * (2 * (a % b)) ≤ b * a := Nat.mul_le_mul_left _ h2
      have h4 : b * (a % b) * 2 ^ (i + 1) ≤ a * b * 2 ^ i := by
        have : b * (2 * (a % b)) * 2 ^ i ≤ b * a * 2 ^ i := Nat.mul_le_mul_right _ h3
        rw [Nat.pow_succ]
        calc b * (a % b) * (2 ^ i * 2) = b * (2 * (a % b)) * 2 ^ i := by grind
          _ ≤ b * a * 2 ^ i := this
          _ = a * b * 2 ^ i := by rw [Nat.mul_comm b a]
      exact Nat.le_trans h4 h.m
    · rcases h.or with z | z
      · rw [Nat.mod_eq_of_lt (by omega), z, Nat.mul_comm b a]
        exact h0
      · omega
theorem Euc.start {a b P : Nat} (h : a * b ≤ P) : Euc 0 (Nat.gcd a b) P a b := ⟨rfl, .inl rfl, by omega⟩
theorem Euc.stop {i g P a b : Nat} (h : Euc i g P a b) (hi : 0 < i) (hP : P < 2 ^ i) : b = 0 := by
  refine Classical.byContradiction fun z => ?_
  have ha : 1 ≤ a := by rcases h.or with q | q <;> omega
  have : 1 * 1 ≤ a * b := Nat.mul_le_mul ha (by omega)
  have h2 : 1 * 2 ^ i ≤ a * b * 2 ^ i := Nat.mul_le_mul_right _ (by omega)
  have := h.m
  omega
theorem Euc.res {i g P a : Nat} (h : Euc i g P a 0) : a = g := by rw [← h.g, Nat.gcd_zero_right]
/-! ### the floor -/
theorem isq (n : Int) (h : 0 ≤ n) : ∃ s : Int, ((Float64.isqrt n.toNat : Nat) : Int) = s ∧ 0 ≤ s ∧ s * s ≤ n ∧ n < (s + 1) * (s + 1) := by
  obtain ⟨h1, h2⟩ := PySem.Float64.isqrt_spec n.toNat
  refine ⟨_, rfl, by omega, ?_, ?_⟩
  · have : ((Float64.isqrt n.toNat * Float64.isqrt n.toNat : Nat) : Int) ≤ (n.toNat : Int) := by exact_mod_cast h1
    rw [Int.natCast_mul] at this
    omega
  · have : (n.toNat : Int) < (((Float64.isqrt n.toNat + 1) * (Float64.isqrt n.toNat + 1) : Nat) : Int) := by exact_mod_cast h2
    rw [Int.natCast_mul] at this
    simp only [Int.natCast_add, Int.natCast_one] at this
    omega
theorem sq_le {a b : Int} (h0 : 0 ≤ a) (h : a ≤ b) : a * a ≤ b * b := Int.mul_le_mul h h h0 (by omega)
theorem sgn_flr {x p r : Int} (hr : 0 ≤ r) (hp0 : p ≠ 0 → 0 < r) : 0 ≤ sgn x p r ↔ 0 ≤ x + flr p r := by
  have hn : 0 ≤ p * p * r := Int.mul_nonneg (sq_nonneg p) hr
  obtain ⟨s, es, s0, s1, s2⟩ := isq (p * p * r) hn
  unfold flr
  rw [es]
  by_cases hp : p = 0
  · subst hp
    rw [sgn_y0, if_pos (by decide)]
    have : s = 0 := by
      refine Classical.byContradiction fun z => ?_
      have := sq_le (a := 1) (b := s) (by decide) (by omega)
      simp at s1
      omega
    subst this
    rcases Int.lt_trichotomy x 0 with z | z | z
    · rw [sgI_neg z]; omega
    · rw [z, sgI_z]; omega
    · rw [sgI_pos z]; omega
  by_cases hx : x = 0
  · subst hx
    rw [sgn_x0 hr]
    by_cases h : 0 ≤ p
    · rw [sgI_pos (by omega), if_pos h]; omega
    · rw [sgI_neg (by omega), if_neg h]; omega
  by_cases h : 0 < p
  · rw [if_pos (by omega)]
    by_cases h' : 0 < x
    · rw [sgn_same hx hp ⟨fun _ => h, fun _ => h'⟩, sgI_pos h']; omega
    · rw [sgn_diff hx hp (fun z => h' (z.mpr h)), sgI_neg (by omega), sgI_pos h]
      by_cases hlt : p * p * r < x * x
      · rw [if_pos hlt]
        have : ¬ -x ≤ s := fun z => by
          have := sq_le (a := -x) (b := s) (by omega) z
          have e : -x * -x = x * x := by grind
          omega
        omega
      · rw [if_neg hlt]
        have : ¬ s + 1 ≤ -x := fun z => by
          have := sq_le (a := s + 1) (b := -x) (by omega) z
          have e : -x * -x = x * x := by grind
          omega
        omega
  · rw [if_neg (by omega)]
    by_cases h' : 0 < x
    · rw [sgn_diff hx hp (fun z => h (z.mp h')), sgI_pos h', sgI_neg (by omega)]
      by_cases hlt : p * p * r < x * x
      · rw [if_pos hlt]
        have : ¬ x ≤ s := fun z => by
          have := sq_le (a := x) (b := s) (by omega) z
          omega
        omega
      · rw [if_neg hlt]
        have : ¬ s + 1 ≤ x := fun z => by
          have := sq_le (a := s + 1) (b := x) (by omega) z
          omega
        omega
    · rw [sgn_same hx hp ⟨fun z => absurd z h', fun z => absurd z h⟩, sgI_neg (by omega)]; omega
end My
namespace My
open PySem
theorem com_abs {t p b t' p' b' : Int} (ht : t.natAbs = t'.natAbs) (hp : p.natAbs = p'.natAbs) (hb : b.natAbs = b'.natAbs) : com t p b = com t' p' b' := by unfold com; rw [ht, hp, hb]
theorem Good.flip {k : Nat} {n : Nm} (h : Good k n) : Good k ⟨-n.t, -n.p, n.r, n.b⟩ :=
  ⟨h.t.neg, h.p.neg, h.b, h.b1, by rw [← h.cop]; exact com_abs (Int.natAbs_neg _) (Int.natAbs_neg _) rfl, by
    rcases h.rt with ⟨a, b⟩ | ⟨a, b⟩
    · exact .inl ⟨a, by rw [show (-n.p) = 0 by omega]⟩
    · exact .inr ⟨show -n.p ≠ 0 by omega, b⟩⟩
theorem Good.mir {k : Nat} {n : Nm} (h : Good k n) : Good k ⟨n.t, -n.p, n.r, n.b⟩ :=
  ⟨h.t, h.p.neg, h.b, h.b1, by rw [← h.cop]; exact com_abs rfl (Int.natAbs_neg _) rfl, by
    rcases h.rt with ⟨a, b⟩ | ⟨a, b⟩
    · exact .inl ⟨a, by rw [show (-n.p) = 0 by omega]⟩
    · exact .inr ⟨show -n.p ≠ 0 by omega, b⟩⟩
theorem negN_eq {k : Nat} {n : Nm} (h : Good k n) : negN n = ⟨-n.t, -n.p, n.r, n.b⟩ := lst_self h.flip
theorem mirN_eq {k : Nat} {n : Nm} (h : Good k n) : mirN n = ⟨n.t, -n.p, n.r, n.b⟩ := lst_self h.mir
theorem Good.rpos {k : Nat} {n : Nm} (h : Good k n) : n.p ≠ 0 → 0 < n.r := fun hp => by
  rcases h.rt with ⟨a, b⟩ | ⟨a, b⟩
  · exact absurd b hp
  · have := rootOk_ge b; omega
theorem fdiv_bounds {F b : Int} (hb : 1 ≤ b) : F.fdiv b * b ≤ F ∧ F < F.fdiv b * b + b := by
  have e := Int.fmod_def F b
  have h1 : 0 ≤ F.fmod b := by rw [Int.fmod_eq_emod_of_nonneg _ (by omega)]; exact Int.emod_nonneg _ (by omega)
  have h2 : F.fmod b < b := by rw [Int.fmod_eq_emod_of_nonneg _ (by omega)]; exact Int.emod_lt_of_pos _ (by omega)
  have e2 : b * F.fdiv b = F.fdiv b * b := Int.mul_comm _ _
  omega
theorem flr_sz {p r : Int} {k : Nat} (hp : Sz k p) (hr0 : 0 ≤ r) (hr : Sz 10 r) : Sz (2 * k + 11) (flr p r) := by
  have hn : 0 ≤ p * p * r := Int.mul_nonneg (sq_nonneg p) hr0
  obtain ⟨s, es, s0, s1, s2⟩ := isq (p * p * r) hn
  have z := (hp.mul hp).mul hr
  unfold flr
  rw [es]
  have zs : s ≤ p * p * r := by
    by_cases h : s = 0
    · omega
    · have : s * 1 ≤ s * s := Int.mul_le_mul_of_nonneg_left (by omega) s0
      omega
  have zf : Sz (k + k + 10) s := by
    unfold Sz at *
    omega
  have z2 : Sz (k + k + 10 + 1) s ∧ Sz (k + k + 10 + 1) (-s - 1) := by
    constructor
    · exact zf.mono (by omega)
    · refine Sz.sub zf.neg ?_
      unfold Sz
      exact Nat.one_lt_two_pow (by omega)
  have e : 2 * k + 11 = k + k + 10 + 1 := by omega
  rw [e]
  split
  · exact z2.1
  · exact z2.2
theorem fdiv_sz {F b : Int} {k : Nat} (hb : 1 ≤ b) (h : Sz k F) : Sz k (F.fdiv b) := by
  obtain ⟨h1, h2⟩ := fdiv_bounds (F := F) hb
  generalize F.fdiv b = q at *
  refine Sz.ofLt ?_ h
  by_cases hq : 0 ≤ q
  · have : q * 1 ≤ q * b := Int.mul_le_mul_of_nonneg_left hb hq
    omega
  · have : (q + 1) * b ≤ (q + 1) * 1 := Int.mul_le_mul_of_nonpos_left (by omega) hb
    have e : (q + 1) * b = q * b + b := by grind
    omega
/-- the floor is right -/
theorem floor_ge {k : Nat} {n : Nm} (h : Good k n) : 0 ≤ sgn (n.t - (n.t + flr n.p n.r).fdiv n.b * n.b) n.p n.r := by
  rw [sgn_flr h.r0.1 h.rpos]
  have := (fdiv_bounds (F := n.t + flr n.p n.r) h.b1).1
  omega
theorem floor_lt {k : Nat} {n : Nm} (h : Good k n) : sgn (n.t - (n.t + flr n.p n.r).fdiv n.b * n.b - n.b) n.p n.r < 0 := by
  have a : ¬ 0 ≤ sgn (n.t - (n.t + flr n.p n.r).fdiv n.b * n.b - n.b) n.p n.r := by
    rw [sgn_flr h.r0.1 h.rpos]
    have := (fdiv_bounds (F := n.t + flr n.p n.r) h.b1).2
    omega
  omega
end My
namespace My
open PySem
def addL (n m : Nm) (r : Int) : Nm := lst (n.t * m.b + m.t * n.b) (n.p * m.b + m.p * n.b) r (n.b * m.b)
def mulL (n m : Nm) (r : Int) : Nm := lst (n.t * m.t + n.p * m.p * r) (n.t * m.p + n.p * m.t) r (n.b * m.b)
/-- a number of the root r -/
def Rt (r : Int) (n : Nm) : Prop := n.r = if n.p = 0 then 0 else r
theorem lst_root {t p r r' b : Int} (h : p ≠ 0 → r = r') : lst t p r b = lst t p r' b := by
  unfold lst
  by_cases hp : p = 0
  · rw [if_pos hp, if_pos hp]
  · rw [h hp]
theorem lst_eqr {t p r b t' p' b' : Int} (h : b ≠ 0) (h' : b' ≠ 0) (et : t * b' = t' * b) (ep : p * b' = p' * b) : lst t p r b = lst t' p' r b' := by
  refine lst_eq h h' et ep ?_
  by_cases hp : p = 0
  · have : p' = 0 := by
      rw [hp, Int.zero_mul] at ep
      exact (Int.mul_eq_zero.mp ep.symm).resolve_right h
    rw [if_pos hp, if_pos this]
  · have : p' ≠ 0 := fun z => by
      rw [z, Int.zero_mul] at ep
      exact ((Int.mul_eq_zero.mp ep).elim hp h')
    rw [if_neg hp, if_neg this]
theorem lst_own {k : Nat} {n : Nm} {r : Int} (h : Good k n) (g : Rt r n) : lst n.t n.p r n.b = n := by
  refine Eq.trans (lst_root fun hp => ?_) (lst_self h)
  unfold Rt at g
  rw [g, if_neg hp]
theorem rt_lst {t p r R b : Int} (hb : b ≠ 0) (h : p ≠ 0 → R = r) : Rt r (lst t p R b) := by
  have A := lst_is (t := t) (p := p) (r := R) hb
  unfold Rt
  rw [A.hr]
  by_cases hp : p = 0
  · have : (lst t p R b).p = 0 := (Int.mul_eq_zero.mp (A.hp.trans hp)).resolve_right A.c0
    rw [if_pos hp, if_pos this]
  · have : (lst t p R b).p ≠ 0 := fun z => by
      have := A.hp
      rw [z, Int.zero_mul] at this
      exact hp this.symm
    rw [if_neg hp, if_neg this, h hp]
section
variable {r : Int} {n m l : Nm}
theorem rt1_of (h0 : 0 ≤ r) (h : Rt r n) (g : Rt r m) : (n.p ≠ 0 ∨ m.p ≠ 0) → rt1 n m = r := fun c => by
  unfold rt1
  unfold Rt at h g
  rw [h, g]
  by_cases a : n.p = 0 <;> by_cases b : m.p = 0
  · exact absurd c (by rw [a, b]; simp)
  · rw [if_pos a, if_neg b]; split <;> omega
  · rw [if_neg a, if_pos b]; split <;> omega
  · rw [if_neg a, if_neg b]; split <;> omega
theorem rt_one (h : Rt r n) (g : Rt r m) : OneRoot n m := by
  unfold OneRoot
  unfold Rt at h g
  by_cases a : n.p = 0
  · rw [if_pos a] at h; exact .inl h
  · by_cases b : m.p = 0
    · rw [if_pos b] at g; exact .inr (.inl g)
    · rw [if_neg a] at h; rw [if_neg b] at g; exact .inr (.inr (h.trans g.symm))
def subL (n m : Nm) (r : Int) : Nm := lst (n.t * m.b - m.t * n.b) (n.p * m.b - m.p * n.b) r (n.b * m.b)
def overL (n m : Nm) (r : Int) : Nm := lst ((n.t * m.t - n.p * m.p * r) * m.b) ((n.p * m.t - n.t * m.p) * m.b) r (n.b * (m.t * m.t - m.p * m.p * r))
theorem pp_or {x y a b : Int} (h : a * x + b * y ≠ 0) : a ≠ 0 ∨ b ≠ 0 := by
  refine Classical.byContradiction fun z => h ?_
  have a0 : a = 0 := Classical.byContradiction fun q => z (.inl q)
  have b0 : b = 0 := Classical.byContradiction fun q => z (.inr q)
  rw [a0, b0]; simp
theorem addN_L (h0 : 0 ≤ r) (h : Rt r n) (g : Rt r m) : addN n m = addL n m r := lst_root fun hp => rt1_of h0 h g (pp_or hp)
theorem subN_L (h0 : 0 ≤ r) (h : Rt r n) (g : Rt r m) : subN n m = subL n m r := lst_root fun hp => rt1_of h0 h g (by
  have : n.p * m.b + m.p * (-n.b) ≠ 0 := fun z => hp (by grind)
  exact pp_or this)
theorem pq_root (h0 : 0 ≤ r) (h : Rt r n) (g : Rt r m) : n.p * m.p * rt1 n m = n.p * m.p * r := by
  by_cases a : n.p = 0
  · rw [a]; simp
  · rw [rt1_of h0 h g (.inl a)]
theorem mulN_L (h0 : 0 ≤ r) (h : Rt r n) (g : Rt r m) : mulN n m = mulL n m r := by
  unfold mulN mulL
  rw [pq_root h0 h g]
  exact lst_root fun hp => rt1_of h0 h g (by
    have : m.p * n.t + n.p * m.t ≠ 0 := fun z => hp (by grind)
    exact (pp_or this).symm)
theorem normA_L (h : Rt r n) : normA n = n.t * n.t - n.p * n.p * r := by
  unfold normA
  unfold Rt at h
  by_cases a : n.p = 0
  · rw [a]; simp
  · rw [h, if_neg a]
theorem overN_L (h0 : 0 ≤ r) (h : Rt r n) (g : Rt r m) : overN n m = overL n m r := by
  unfold overN overL
  rw [pq_root h0 h g, normA_L g]
  exact lst_root fun hp => rt1_of h0 h g (by
    have : n.p * (m.t * m.b) + m.p * (-(n.t * m.b)) ≠ 0 := fun z => hp (by grind)
    exact pp_or this)
theorem neg_sub : addL n ⟨-m.t, -m.p, m.r, m.b⟩ r = subL n m r := by
  unfold addL subL
  have e1 : n.t * m.b + -m.t * n.b = n.t * m.b - m.t * n.b := by grind
  have e2 : n.p * m.b + -m.p * n.b = n.p * m.b - m.p * n.b := by grind
  rw [e1, e2]
theorem sub_add {k k' : Nat} (hn : Good k n) (hm : Good k' m) (h : Rt r n) : addL (subL n m r) m r = n := by
  refine Eq.trans ?_ (lst_own hn h)
  have A := lst_is (t := n.t * m.b - m.t * n.b) (p := n.p * m.b - m.p * n.b) (r := r) (b := n.b * m.b) (Int.mul_ne_zero hn.b0 hm.b0)
  unfold addL
  have hx : (subL n m r) = lst (n.t * m.b - m.t * n.b) (n.p * m.b - m.p * n.b) r (n.b * m.b) := rfl
  rw [← hx] at A
  generalize subL n m r = x at *
  generalize coms _ _ _ = c at *
  have xb : x.b ≠ 0 := by have := A.b1; omega
  refine lst_eqr (Int.mul_ne_zero xb hm.b0) hn.b0 ?_ ?_
  · refine Int.eq_of_mul_eq_mul_right A.c0 ?_
    have := A.ht; have := A.hb
    grind
  · refine Int.eq_of_mul_eq_mul_right A.c0 ?_
    have := A.hp; have := A.hb
    grind
theorem over_mul {k k' : Nat} (hn : Good k n) (hm : Good k' m) (h : Rt r n) (g : Rt r m) (h0 : ¬ (m.t = 0 ∧ m.p = 0)) : mulL (overL n m r) m r = n := by
  refine Eq.trans ?_ (lst_own hn h)
  have nz : m.t * m.t - m.p * m.p * r ≠ 0 := by rw [← normA_L g]; exact normA_ne hm h0
  have A := lst_is (t := (n.t * m.t - n.p * m.p * r) * m.b) (p := (n.p * m.t - n.t * m.p) * m.b) (r := r) (b := n.b * (m.t * m.t - m.p * m.p * r)) (Int.mul_ne_zero hn.b0 nz)
  unfold mulL
  have hx : (overL n m r) = lst ((n.t * m.t - n.p * m.p * r) * m.b) ((n.p * m.t - n.t * m.p) * m.b) r (n.b * (m.t * m.t - m.p * m.p * r)) := rfl
  rw [← hx] at A
  generalize overL n m r = x at *
  generalize coms _ _ _ = c at *
  have xb : x.b ≠ 0 := by have := A.b1; omega
  have e1 := A.ht
  have e2 := A.hp
  have e3 := A.hb
  refine lst_eqr (Int.mul_ne_zero xb hm.b0) hn.b0 ?_ ?_
  · refine Int.eq_of_mul_eq_mul_right A.c0 ?_
    have z : (x.t * m.t + x.p * m.p * r) * n.b * c = ((x.t * c) * m.t + (x.p * c) * m.p * r) * n.b := by grind
    have z2 : n.t * (x.b * m.b) * c = n.t * (x.b * c) * m.b := by grind
    rw [z, z2, e1, e2, e3]
    grind
  · refine Int.eq_of_mul_eq_mul_right A.c0 ?_
    have z : (x.t * m.p + x.p * m.t) * n.b * c = ((x.t * c) * m.p + (x.p * c) * m.t) * n.b := by grind
    have z2 : n.p * (x.b * m.b) * c = n.p * (x.b * c) * m.b := by grind
    rw [z, z2, e1, e2, e3]
    grind
theorem mul_comm' : mulL n m r = mulL m n r := by
  unfold mulL
  have e1 : n.t * m.t + n.p * m.p * r = m.t * n.t + m.p * n.p * r := by grind
  have e2 : n.t * m.p + n.p * m.t = m.t * n.p + m.p * n.t := by grind
  rw [e1, e2, Int.mul_comm n.b m.b]
theorem lstx {t p b : Int} (hb : b ≠ 0) : ∃ c, LstIs t p r b c (lst t p r b) := ⟨_, lst_is hb⟩
theorem mul_add' (hn : n.b ≠ 0) (hm : m.b ≠ 0) (hl : l.b ≠ 0) : mulL (addL n m r) l r = addL (mulL n l r) (mulL m l r) r := by
  obtain ⟨c, A⟩ := lstx (r := r) (t := n.t * m.b + m.t * n.b) (p := n.p * m.b + m.p * n.b) (Int.mul_ne_zero hn hm)
  obtain ⟨d, B⟩ := lstx (r := r) (t := n.t * l.t + n.p * l.p * r) (p := n.t * l.p + n.p * l.t) (Int.mul_ne_zero hn hl)
  obtain ⟨e, D⟩ := lstx (r := r) (t := m.t * l.t + m.p * l.p * r) (p := m.t * l.p + m.p * l.t) (Int.mul_ne_zero hm hl)
  have ex : addL n m r = lst (n.t * m.b + m.t * n.b) (n.p * m.b + m.p * n.b) r (n.b * m.b) := rfl
  have ey : mulL n l r = lst (n.t * l.t + n.p * l.p * r) (n.t * l.p + n.p * l.t) r (n.b * l.b) := rfl
  have ez : mulL m l r = lst (m.t * l.t + m.p * l.p * r) (m.t * l.p + m.p * l.t) r (m.b * l.b) := rfl
  rw [← ex] at A; rw [← ey] at B; rw [← ez] at D
  generalize addL n m r = x at *
  generalize mulL n l r = y at *
  generalize mulL m l r = z at *
  have xb : x.b ≠ 0 := by have := A.b1; omega
  have yb : y.b ≠ 0 := by have := B.b1; omega
  have zb : z.b ≠ 0 := by have := D.b1; omega
  have a1 := A.ht; have a2 := A.hp; have a3 := A.hb
  have b1 := B.ht; have b2 := B.hp; have b3 := B.hb
  have d1 := D.ht; have d2 := D.hp; have d3 := D.hb
  unfold mulL addL
  refine lst_eqr (Int.mul_ne_zero xb hl) (Int.mul_ne_zero yb zb) ?_ ?_
  · refine Int.eq_of_mul_eq_mul_right (Int.mul_ne_zero A.c0 (Int.mul_ne_zero B.c0 D.c0)) ?_
    have z1 : (x.t * l.t + x.p * l.p * r) * (y.b * z.b) * (c * (d * e)) = ((x.t * c) * l.t + (x.p * c) * l.p * r) * ((y.b * d) * (z.b * e)) := by grind
    have z2 : (y.t * z.b + z.t * y.b) * (x.b * l.b) * (c * (d * e)) = ((y.t * d) * (z.b * e) + (z.t * e) * (y.b * d)) * ((x.b * c) * l.b) := by grind
    rw [z1, z2, a1, a2, a3, b1, b3, d1, d3]
    grind
  · refine Int.eq_of_mul_eq_mul_right (Int.mul_ne_zero A.c0 (Int.mul_ne_zero B.c0 D.c0)) ?_
    have z1 : (x.t * l.p + x.p * l.t) * (y.b * z.b) * (c * (d * e)) = ((x.t * c) * l.p + (x.p * c) * l.t) * ((y.b * d) * (z.b * e)) := by grind
    have z2 : (y.p * z.b + z.p * y.b) * (x.b * l.b) * (c * (d * e)) = ((y.p * d) * (z.b * e) + (z.p * e) * (y.b * d)) * ((x.b * c) * l.b) := by grind
    rw [z1, z2, a1, a2, a3, b2, b3, d2, d3]
    grind
theorem mir_mul {k k' : Nat} {r : Int} (hn : Good k n) (hm : Good k' m) : ∀ x, x = mulL n m r → ∀ j, Good j x → Rt r x → mirN x = mulL ⟨n.t, -n.p, n.r, n.b⟩ ⟨m.t, -m.p, m.r, m.b⟩ r := fun x hx j gx rx => by
  obtain ⟨c, A⟩ := lstx (r := r) (t := n.t * m.t + n.p * m.p * r) (p := n.t * m.p + n.p * m.t) (Int.mul_ne_zero hn.b0 hm.b0)
  have ex : mulL n m r = lst (n.t * m.t + n.p * m.p * r) (n.t * m.p + n.p * m.t) r (n.b * m.b) := rfl
  rw [← ex, ← hx] at A
  unfold mirN
  have e : lst x.t (-x.p) x.r x.b = lst x.t (-x.p) r x.b := lst_root fun hp => by
    unfold Rt at rx
    rw [rx, if_neg (fun z => hp (by rw [z]; rfl))]
  rw [e]
  unfold mulL
  have a1 := A.ht; have a2 := A.hp; have a3 := A.hb
  refine lst_eqr gx.b0 (Int.mul_ne_zero hn.b0 hm.b0) ?_ ?_
  · refine Int.eq_of_mul_eq_mul_right A.c0 ?_
    grind
  · refine Int.eq_of_mul_eq_mul_right A.c0 ?_
    grind
theorem norm_mul (hn : n.b ≠ 0) (hm : m.b ≠ 0) (rn : Rt r n) (rm : Rt r m) : ∀ x, x = mulL n m r → Rt r x → normN x = mulL (normN n) (normN m) r := fun x hx rx => by
  obtain ⟨c, A⟩ := lstx (r := r) (t := n.t * m.t + n.p * m.p * r) (p := n.t * m.p + n.p * m.t) (Int.mul_ne_zero hn hm)
  have ex : mulL n m r = lst (n.t * m.t + n.p * m.p * r) (n.t * m.p + n.p * m.t) r (n.b * m.b) := rfl
  rw [← ex, ← hx] at A
  obtain ⟨d, B⟩ := lstx (r := 0) (t := normA n) (p := 0) (Int.mul_ne_zero hn hn)
  obtain ⟨e, D⟩ := lstx (r := 0) (t := normA m) (p := 0) (Int.mul_ne_zero hm hm)
  have ey : normN n = lst (normA n) 0 0 (n.b * n.b) := rfl
  have ez : normN m = lst (normA m) 0 0 (m.b * m.b) := rfl
  rw [← ey] at B; rw [← ez] at D
  generalize normN n = y at *
  generalize normN m = z at *
  have xb : x.b ≠ 0 := by have := A.b1; omega
  have yb : y.b ≠ 0 := by have := B.b1; omega
  have zb : z.b ≠ 0 := by have := D.b1; omega
  have a1 := A.ht; have a2 := A.hp; have a3 := A.hb
  have b1 := B.ht; have b3 := B.hb
  have d1 := D.ht; have d3 := D.hb
  have yp : y.p = 0 := (Int.mul_eq_zero.mp B.hp).resolve_right B.c0
  have zp : z.p = 0 := (Int.mul_eq_zero.mp D.hp).resolve_right D.c0
  rw [normA_L rn] at b1
  rw [normA_L rm] at d1
  unfold normN mulL
  rw [normA_L rx]
  have e0 : lst (x.t * x.t - x.p * x.p * r) 0 0 (x.b * x.b) = lst (x.t * x.t - x.p * x.p * r) 0 r (x.b * x.b) := lst_root fun h => absurd rfl h
  rw [e0]
  refine lst_eqr (Int.mul_ne_zero xb xb) (Int.mul_ne_zero yb zb) ?_ ?_
  · refine Int.eq_of_mul_eq_mul_right (Int.mul_ne_zero (Int.mul_ne_zero A.c0 A.c0) (Int.mul_ne_zero B.c0 D.c0)) ?_
    have z1 : (x.t * x.t - x.p * x.p * r) * (y.b * z.b) * (c * c * (d * e)) = ((x.t * c) * (x.t * c) - (x.p * c) * (x.p * c) * r) * ((y.b * d) * (z.b * e)) := by grind
    have z2 : (y.t * z.t + y.p * z.p * r) * (x.b * x.b) * (c * c * (d * e)) = ((y.t * d) * (z.t * e)) * ((x.b * c) * (x.b * c)) := by rw [yp]; grind
    rw [z1, z2, a1, a2, a3, b1, b3, d1, d3]
    grind
  · rw [yp, zp]; simp
end
/-! ### sizes -/
section
variable {k : Nat} {n m : Nm}
theorem addN_good (hn : Good k n) (hm : Good k m) : Good (2 * k + 1) (addN n m) :=
  lst_good (rt1_valid hn hm (Int.mul_ne_zero hn.b0 hm.b0) (fun x y => by rw [x, y]; simp)) (((hn.t.mul hm.b).add (hm.t.mul hn.b)).mono (by omega)) (((hn.p.mul hm.b).add (hm.p.mul hn.b)).mono (by omega)) ((hn.b.mul hm.b).mono (by omega))
theorem subN_good (hn : Good k n) (hm : Good k m) : Good (2 * k + 1) (subN n m) :=
  lst_good (rt1_valid hn hm (Int.mul_ne_zero hn.b0 hm.b0) (fun x y => by rw [x, y]; simp)) (((hn.t.mul hm.b).sub (hm.t.mul hn.b)).mono (by omega)) (((hn.p.mul hm.b).sub (hm.p.mul hn.b)).mono (by omega)) ((hn.b.mul hm.b).mono (by omega))
theorem mulN_good (hn : Good k n) (hm : Good k m) : Good (2 * k + 11) (mulN n m) :=
  lst_good (rt1_valid hn hm (Int.mul_ne_zero hn.b0 hm.b0) (fun x y => by rw [x, y]; simp))
    (Sz.mono (Sz.add (n := k + k + 10) ((hn.t.mul hm.t).mono (by omega)) ((hn.p.mul hm.p).mul (rt1_zr hn hm))) (by omega)) (((hn.t.mul hm.p).add (hn.p.mul hm.t)).mono (by omega)) ((hn.b.mul hm.b).mono (by omega))
theorem normA_sz (hn : Good k n) : Sz (2 * k + 11) (normA n) := Sz.mono (Sz.sub (n := k + k + 10) ((hn.t.mul hn.t).mono (by omega)) ((hn.p.mul hn.p).mul hn.zr)) (by omega)
theorem normN_good (hn : Good k n) : Good (2 * k + 11) (normN n) :=
  lst_good (valid_of (Int.mul_ne_zero hn.b0 hn.b0) (.inl ⟨rfl, rfl⟩)) (normA_sz hn) (by unfold Sz; exact Nat.two_pow_pos _) ((hn.b.mul hn.b).mono (by omega))
theorem overN_good (hn : Good k n) (hm : Good k m) (h0 : ¬ (m.t = 0 ∧ m.p = 0)) : Good (3 * k + 11) (overN n m) :=
  lst_good (rt1_valid hn hm (Int.mul_ne_zero hn.b0 (normA_ne hm h0)) (fun x y => by rw [x, y]; simp))
    (((Sz.sub (n := k + k + 10) ((hn.t.mul hm.t).mono (by omega)) ((hn.p.mul hm.p).mul (rt1_zr hn hm))).mul hm.b).mono (by omega)) ((((hn.p.mul hm.t).sub (hn.t.mul hm.p)).mul hm.b).mono (by omega)) ((hn.b.mul (normA_sz hm)).mono (by omega))
end
theorem rt_norm {r : Int} {n : Nm} (h : n.b ≠ 0) : Rt r (normN n) := rt_lst (Int.mul_ne_zero h h) fun z => absurd rfl z
theorem rt_mir {k : Nat} {r : Int} {n : Nm} (g : Good k n) (h : Rt r n) : Rt r (mirN n) := rt_lst g.b0 fun z => by
  unfold Rt at h
  rw [h, if_neg (fun y => z (by rw [y]; rfl))]
theorem rt_add {r : Int} {n m : Nm} (h : n.b ≠ 0) (g : m.b ≠ 0) : Rt r (addL n m r) := rt_lst (Int.mul_ne_zero h g) fun _ => rfl
theorem rt_sub {r : Int} {n m : Nm} (h : n.b ≠ 0) (g : m.b ≠ 0) : Rt r (subL n m r) := rt_lst (Int.mul_ne_zero h g) fun _ => rfl
theorem rt_mul {r : Int} {n m : Nm} (h : n.b ≠ 0) (g : m.b ≠ 0) : Rt r (mulL n m r) := rt_lst (Int.mul_ne_zero h g) fun _ => rfl
theorem rt_int {r i : Int} : Rt r ⟨i, 0, 0, 1⟩ := rfl
end My
namespace My
open PySem PySem.Spec PyProof.Rows L2
local macro_rules | `(tactic| walk_at "side") => `(tactic| first | assumption | decide | exact Or.inl ⟨by decide, by decide⟩ | exact Or.inr ⟨by decide, by decide⟩ | exact ⟨by decide, by decide, by decide⟩ | omega | (unfold CMulW; decide +kernel) | (dsimp only; first | assumption | omega | decide +kernel) | exact len_ok (Nat.le_of_ble_eq_true rfl) | fail "side")
local macro_rules | `(tactic| walk_at "rd") => `(tactic| first
  | refine ⟨_, _, _, _, rfl, rfl, SqL.of upd_same, atI_nat (j := 0) rfl, ?_⟩ | refine ⟨_, _, _, _, rfl, rfl, SqL.of upd_same, atI_nat (j := 1) rfl, ?_⟩ | refine ⟨_, _, _, _, rfl, rfl, SqL.of upd_same, atI_nat (j := 2) rfl, ?_⟩
  | refine ⟨_, _, _, _, rfl, rfl, upd_same, rfl, ?_⟩
  | refine ⟨_, _, rfl, rfl, ?_⟩ | refine ⟨_, rfl, ?_⟩ | refine ⟨_, _, rfl, ?_⟩ | refine Or.inl ⟨_, rfl, ?_⟩ | refine Or.inr ⟨_, rfl, ?_⟩ | refine ⟨(by walk_at "side"), ?_⟩ | fail "rd")

/-! ### defs that raise -/
structure FxAt (P : Program) (w : World) (K : PySem.W.Frag) (mg : Str → Option Value) (base : Heap) (k : Nat) (x : Str) (ps : List Str) (sp : Sp) : Prop where
  ex : ∃ (f : Addr) (fd : FuncData), mg x = some (.ref f) ∧ PySem.W.keepIn K (.ref f) = true ∧ Binds K fd ps [] ∧ FnOk P w K mg base (L2.CX P w) k f fd ps sp
structure MxAt (P : Program) (w : World) (K : PySem.W.Frag) (mg : Str → Option Value) (base : Heap) (k : Nat) (C : Addr) (x : Str) (ps : List Str) (sp : Sp) : Prop where
  ex : ∃ (f : Addr) (fd : FuncData), Meth K C x f ∧ Binds K fd ps [] ∧ FnOk P w K mg base (L2.CX P w) k f fd ps sp
structure OxAt (P : Program) (w : World) (K : PySem.W.Frag) (mg : Str → Option Value) (base : Heap) (k : Nat) (C : Addr) (op : Operator) (sp : Sp) : Prop where
  ex : ∃ (f : Addr) (fd : FuncData), OwnOp K C op f ∧ Binds K fd ["self", "other"] [] ∧ FnOk P w K mg base (L2.CX P w) k f fd ["self", "other"] sp
/-- an error's class: own, plain -/
structure ErrT (K : PySem.W.Frag) (mg : Str → Option Value) (x : Str) (C : Addr) : Prop where
  g : mg x = some (.ref C)
  kC : PySem.W.keepIn K (.ref C) = true
  q : ∃ bmB : List Value, bmB = [.type "ValueError", .type "Exception", .type "BaseException", .type "object"] ∧ PySem.W.excIn K C bmB "ValueError.__new__" = true
  eC : PySem.W.subIn K (.ref C) (.type "BaseException") = some true
  tC : PySem.W.typeIn K (.ref C) = some (.type "type")
section
variable {X : Cx} {k : Nat} {x : Str} {ps : List Str} {sp : Sp} {p pos p2 pos2 : Pos} {e : Expr} {es : List Expr} {t : TA} {C : Addr} {m : Str} {j : Nat} {W : WX} {E : XK}
theorem callX (F : FxAt X.prog X.w X.K X.mg X.base k x ps sp) (hr : Room k X.A) (hg : Gl X x) (tk : Takes X W) (hW : ∀ cls d σ H, E cls d H → W cls d σ H) (ha : PA X (e :: es) t) (hdb : (x == ("__debug__" : Str)) = false := by decide)
    (he : starEach (e :: es) X.env = (false, eval e X.env) :: starEach es X.env := by rfl) (hpl : (backTo pos (starEach es X.env)).any (·.1) = false := by rfl) : PE X (.Call (.Name x p) (e :: es) [] pos) (tCall sp [] E t) := by
  obtain ⟨f, fd, hm, hk, hb, G⟩ := F.ex
  exact pe_call G hr hg hm hk hb .nil (passes_call tk hW) ha hdb he hpl
theorem raiseX (T : ErrT X.K X.mg x C) (hc : X.calm = true) (tk : Takes X W) (hg : Gl X x) (hdb : (x == ("__debug__" : Str)) = false := by decide) :
    PS X (.Raise (some (.Call (.Name x p) [.Constant (.str m) j p2] [] pos)) none pos2) (fun _ σ H => W (.ref C) none σ H) := by
  obtain ⟨bmB, eb, q⟩ := T.q
  subst eb
  exact ps_raise hc tk (pmk_own PySem.F.excBase_ValueError q T.g T.kC (raises_own T.eC T.tC) hg hdb)
end
/-! ### values that are no integers -/
theorem tyOf_ext {K : PySem.W.Frag} {H H' : Hp} {v : V} {t : Value} (h : TyOf K H v t) (e : Ext H H') : TyOf K H' v t := by
  cases h with
  | non => exact .non
  | bl x => exact .bl x
  | int i => exact .int i
  | str x => exact .str x
  | flt x => exact .flt x
  | lst q => exact .lst (e _ _ q)
  | frz q => exact .frz (e _ _ q)
  | tup q => exact .tup (e _ _ q)
  | dK q => exact .dK (e _ _ q)
  | dT q => exact .dT (e _ _ q)
  | ins q cl ha hn htk hm => exact .ins (e _ _ q) cl ha hn htk hm
theorem tyX_ext {K : PySem.W.Frag} {H H' : Hp} {v : V} {t : Value} (h : TyX K H v t) (e : Ext H H') : TyX K H' v t := by
  cases h with
  | base h => exact .base (tyOf_ext h e)
  | byt b => exact .byt b
  | set q => exact .set (e _ _ q)
  | kList q c => exact .kList q c
  | kTuple q c => exact .kTuple q c
  | kDict q c => exact .kDict q c
  | fTuple q => exact .fTuple (e _ _ q)
  | fDict q => exact .fDict (e _ _ q)
structure OddK (K : PySem.W.Frag) (H : Hp) (v : V) : Prop where
  ni : ∀ i, v ≠ .int i
  ty : (∃ b, v = .bl b) ∨ ∃ t, TyX K H v t ∧ PySem.W.kitOne K t (.type "int") = some false
theorem OddK.ext {K : PySem.W.Frag} {H H' : Hp} {v : V} (h : OddK K H v) (e : Ext H H') : OddK K H' v := ⟨h.ni, h.ty.elim .inl fun ⟨t, a, b⟩ => .inr ⟨t, tyX_ext a e, b⟩⟩
def VK2 (K : PySem.W.Frag) (H : Hp) (v : V) : Prop := (∃ i, v = .int i) ∨ OddK K H v
def isI : V → Bool
  | .int _ => true
  | _ => false
theorem OddK.isI {K : PySem.W.Frag} {H : Hp} {v : V} (h : OddK K H v) : isI v = false := by
  cases v with
  | int i => exact absurd rfl (h.ni i)
  | _ => rfl
def spIsIntA (K : PySem.W.Frag) : Sp := fun vs H Q _ => ∃ v, vs = [v] ∧ VK2 K H v ∧ Q (.bl (isI v)) H
theorem kit_boolint : kitB "bool" "int" = some true := by decide +kernel
theorem kit_boolbool : kitB "bool" "bool" = some true := by decide +kernel
section
variable {P : Program} {w : World} {K : PySem.W.Frag} {mg : Str → Option Value} {base : Heap} {C : Addr}
theorem ok_isintA (T : Bn mg) (D : DefAt K mg "is_any_integer" s_isint) : FnAt P w K mg base 1 "is_any_integer" ["value"] (spIsIntA K) := by
  refine fnAt D sc_isint (fun _ _ _ _ _ _ us hl => match us, hl with | [_], _ => rfl) (fun vs H Q E h => ?_) fun f cdv A outer s H vs Q E hr h => ?_
  · obtain ⟨v, rfl, _⟩ := h
    rfl
  obtain ⟨v, rfl, hv, k⟩ := h
  refine ⟨_, (pss_one (ps_ret (pe_and (pe_callB call_isi (by rfl) T.b_isinstance (by decide +kernel) (pa_cons (pv 0) (pa_cons (pe_bltn (v := .ty "int") (by rfl) T.b_int (by decide +kernel) rfl) pa_nil))) (pe_one (pe_not (pe_callB call_isi (by rfl) T.b_isinstance (by decide +kernel) (pa_cons (pv 0) (pa_cons (pe_bltn (v := .ty "bool") (by rfl) T.b_bool (by decide +kernel) rfl) pa_nil)))))))), ?_⟩
  rcases hv with ⟨i, rfl⟩ | o
  · refine ⟨_, rfl, _, _, _, _, true, rfl, .ty _, .base (.int _), kit_ty kit_int, _, rfl, iteT ?_⟩
    exact ⟨_, rfl, _, _, _, _, false, rfl, .ty _, .base (.int _), kit_ty kit_intbool, _, rfl, k⟩
  · rw [o.isI] at k
    rcases o.ty with ⟨b, rfl⟩ | ⟨t, ty, hk⟩
    · refine ⟨_, rfl, _, _, _, _, true, rfl, .ty _, .base (.bl _), kit_ty kit_boolint, _, rfl, iteT ?_⟩
      exact ⟨_, rfl, _, _, _, _, true, rfl, .ty _, .base (.bl _), kit_ty kit_boolbool, _, rfl, k⟩
    · exact ⟨_, rfl, _, _, _, _, false, rfl, .ty _, ty, hk, _, rfl, iteF k⟩
/-- arguments that make no number -/
def BadArgs (K : PySem.W.Frag) (H : Hp) (a b c d : V) : Prop := VK2 K H a ∧ VK2 K H b ∧ VK2 K H c ∧ VK2 K H d ∧ ∀ t p r m, a = .int t → b = .int p → c = .int r → d = .int m → validN t p r m = false
theorem BadArgs.ext {K : PySem.W.Frag} {H H' : Hp} {a b c d : V} (h : BadArgs K H a b c d) (e : Ext H H') : BadArgs K H' a b c d :=
  ⟨h.1.elim .inl fun o => .inr (o.ext e), h.2.1.elim .inl fun o => .inr (o.ext e), h.2.2.1.elim .inl fun o => .inr (o.ext e), h.2.2.2.1.elim .inl fun o => .inr (o.ext e), h.2.2.2.2⟩
def spValidBad (K : PySem.W.Frag) : Sp := fun vs H Q _ => ∃ a b c d, vs = [a, b, c, d] ∧ BadArgs K H a b c d ∧ ∀ H', Ext H H' → Q (.bl false) H'
theorem ok_validBad (T : Bn mg) (N : NumK K mg) (D : DefAt K mg "_are_valid" s_valid) (F_is_any_integer : FnAt P w K mg base 1 "is_any_integer" ["value"] (spIsIntA K)) : FnAt P w K mg base 2 "_are_valid" ["top", "part", "root", "bottom"] (spValidBad K) := by
  refine fnAt D sc_valid (fun _ _ _ _ _ _ us hl => match us, hl with | [_, _, _, _], _ => rfl) (fun vs H Q E h => ?_) fun f cdv A outer s H vs Q E hr h => ?_
  · obtain ⟨a, b, c, d, rfl, _⟩ := h
    rfl
  obtain ⟨a, b, c, d, rfl, bad, k⟩ := h
  obtain ⟨tk, g1⟩ := N.g_MAX_ROOT
  obtain ⟨sq, g2, g3⟩ := N.g_SQ
  refine ⟨_, (pss_cons (ps_if (pt_not (pt_val (pe_callB (cr_all rfl) (by rfl) T.b_all (by decide +kernel) (pa_cons (pe_lc (own := [("value", 4)]) (g := gName 4) (tt := tYes) rfl sc_valid.nd (pi_tup (pe_tup (pa_cons (pv 0) (pa_cons (pv 1) (pa_cons (pv 2) (pa_cons (pv 3) pa_nil)))))) (blkOk_by (N := ["top", "part", "root", "bottom", "value", "square"]) (sc := defScope s_valid) (by decide +kernel)) (fun _ _ _ _ _ => pg_name (i := 4) sc_valid.nd rfl (Or.inl rfl)) (fun _ _ _ _ _ => pts_nil) (fun _ _ _ _ _ => (callA F_is_any_integer (hr.mono (by decide)) rfl (pa_cons (pv 4) pa_nil)))) pa_nil)))) (pss_one (ps_ret pe_bl)) pss_nil)
    (pss_cons (ps_if (pt_cmpR op_eq (pv 3) pe_int (nomark _)) (pss_one (ps_ret pe_bl)) pss_nil)
    (pss_cons (ps_if (pt_cmpR op_eq (pv 2) pe_int (nomark _)) (pss_one (ps_ret (pe_cmpR op_eq (pv 1) pe_int (nomark _)))) pss_nil)
    (pss_one (ps_ret (pe_and (pe_chain op_le op_le pe_int (pv 2) (pe_glob (v := .int 999) rfl g1 ⟨_, rfl⟩)) (pe_one (pe_callB (cr_all rfl) (by rfl) T.b_all (by decide +kernel) (pa_cons (pe_lc (own := [("square", 5)]) (g := gName 5) (tt := tYes) rfl sc_valid.nd (pi_tup (pe_glob (v := .ref sq) rfl g2 rfl)) (blkOk_by (N := ["top", "part", "root", "bottom", "value", "square"]) (sc := defScope s_valid) (by decide +kernel)) (fun _ _ _ _ _ => pg_name (i := 5) sc_valid.nd rfl (Or.inl rfl)) (fun _ _ _ _ _ => pts_nil) (fun _ _ _ _ _ => (pe_cmpR op_ne (pe_op op_modN (pv 2) (pv 5)) pe_int (nomark _)))) pa_nil))))))))), ?_⟩
  refine ⟨_, rfl, _, rfl, _, rfl, _, rfl, len_ok (Nat.le_of_ble_eq_true rfl), fun q hq => ?_⟩
  refine ⟨q, rfl, ⟨_, SqT.of upd_same⟩, fun D hD => map_tup (xs := [a, b, c, d]) (fun _ x => .bl (isI x)) (SqT.of upd_same) hD (Nat.le_of_ble_eq_true rfl) (fun _ => rfl) (fun i x H' hi e Q' k' => ?_) fun H' e hl => ?_⟩
  · have bad' := bad.ext ((ext_new (o := .tup [a, b, c, d]) (ext_refl H) hq).trans e)
    have hv : VK2 K H' x := by
      have hm := List.mem_of_getElem? hi
      simp only [List.mem_cons, List.not_mem_nil, or_false] at hm
      rcases hm with rfl | rfl | rfl | rfl
      · exact bad'.1
      · exact bad'.2.1
      · exact bad'.2.2.1
      · exact bad'.2.2.2.1
    exact ⟨x, rfl, x, rfl, hv, k' H' (ext_refl _)⟩
  have e0 : Ext H H' := (ext_new (ext_refl H) hq).trans e
  refine ⟨D, [isI a, isI b, isI c, isI d], rfl, SqL.of hl, _, rfl, ?_⟩
  by_cases all : isI a = true ∧ isI b = true ∧ isI c = true ∧ isI d = true
  · obtain ⟨ia, ib, ic, i4⟩ := all
    obtain ⟨t, rfl⟩ : ∃ t, a = .int t := by cases a with | int t => exact ⟨t, rfl⟩ | _ => cases ia
    obtain ⟨p, rfl⟩ : ∃ t, b = .int t := by cases b with | int t => exact ⟨t, rfl⟩ | _ => cases ib
    obtain ⟨r, rfl⟩ : ∃ t, c = .int t := by cases c with | int t => exact ⟨t, rfl⟩ | _ => cases ic
    obtain ⟨b, rfl⟩ : ∃ t, d = .int t := by cases d with | int t => exact ⟨t, rfl⟩ | _ => cases i4
    have nv := bad.2.2.2.2 t p r b rfl rfl rfl rfl
    have k : ∀ H', Ext H H' → Q (.bl (validN t p r b)) H' := by rw [nv]; exact k
    refine iteF ?_
    refine ⟨_, rfl, rfl, _, rfl, ite2 (fun hb => ?_) (fun hb => ?_)⟩
    · have hb' : b = 0 := V.int.inj (of_decide_eq_true hb)
      have ev : validN t p r b = false := by unfold validN; rw [if_pos hb']
      exact ev ▸ k H' e0
    have nb : ¬ b = 0 := fun z => hb (decide_eq_true (by rw [z]))
    refine ⟨_, rfl, rfl, _, rfl, ite2 (fun hb => ?_) (fun hb => ?_)⟩
    · have hr' : r = 0 := V.int.inj (of_decide_eq_true hb)
      have ev : validN t p r b = decide (V.int p = V.int 0) := by
        unfold validN
        rw [if_neg nb, if_pos hr']
        exact decide_eq_decide.mpr ⟨fun z => by rw [z], fun z => V.int.inj z⟩
      refine ⟨_, rfl, rfl, ?_⟩
      exact ev ▸ k H' e0
    have nr : ¬ r = 0 := fun z => hb (decide_eq_true (by rw [z]))
    have ev : validN t p r b = rootOk r := by unfold validN; rw [if_neg nb, if_neg nr]
    rw [ev] at k
    refine ⟨_, rfl, _, _, rfl, rfl, _, rfl, ite2 (fun h2 => ?_) (fun h2 => ?_)⟩
    · refine ⟨_, _, rfl, rfl, _, rfl, ite2 (fun h9 => ?_) (fun h9 => ?_)⟩
      · refine ⟨sq, rfl, ⟨_, g3 _⟩, fun D2 hD2 => map_tup (xs := squares.map V.int) (fun _ x => match x with | .int q => .bl (!decide (r.fmod q = 0)) | _ => .non) (g3 _) hD2 (by decide) (fun _ => rfl) (fun i x H2 hi e2 Q' k' => ?_) fun H2 e2 hl2 => ?_⟩
        · rw [List.getElem?_map] at hi
          cases hq : squares[i]? with
          | none => rw [hq] at hi; cases hi
          | some z =>
            rw [hq] at hi
            cases (Option.some.inj hi)
            have hz : z ≠ 0 := by
              have hm := List.mem_of_getElem? hq
              intro z0
              rw [z0] at hm
              exact absurd hm (by decide)
            refine ⟨_, rfl, _, rfl, _, _, rfl, rfl, hz, rfl, ?_⟩
            have e5 : (!decide (V.int (r.fmod z) = V.int 0)) = !decide (r.fmod z = 0) := congrArg (!·) (decide_eq_decide.mpr ⟨fun z => V.int.inj z, fun z => by rw [z]⟩)
            show Q' (.bl (!decide (V.int (r.fmod z) = V.int 0))) _
            rw [e5]
            exact k' H2 (ext_refl _)
        · refine ⟨D2, squares.map (fun q => !decide (r.fmod q = 0)), rfl, SqL.of ?_, ?_⟩
          · rw [hl2]
            rfl
          · have e6 : (squares.map (fun q => !decide (r.fmod q = 0))).all id = rootOk r := by
              unfold rootOk
              rw [h2, h9, List.all_map]
              rfl
            show Q (.bl ((squares.map (fun q => !decide (r.fmod q = 0))).all id)) H2
            rw [e6]
            exact k H2 (e0.trans e2)
      · have e7 : rootOk r = false := by unfold rootOk; rw [decide_eq_false (fun z => h9 (decide_eq_true z)), Bool.and_false]; rfl
        exact e7 ▸ k H' e0
    · have e7 : rootOk r = false := by unfold rootOk; rw [decide_eq_false (fun z => h2 (decide_eq_true z))]; rfl
      refine ⟨_, rfl, iteF ?_⟩
      exact e7 ▸ k H' e0
  · have e5 : ([isI a, isI b, isI c, isI d].all _root_.id) = false := by
      simp only [List.all_cons, List.all_nil, Bool.and_true, id]
      refine Bool.eq_false_iff.mpr fun z => all ?_
      simp only [Bool.and_eq_true] at z
      exact z
    refine ite2 (fun _ => k _ e0) (fun h => ?_)
    rw [e5] at h
    exact absurd rfl h
end
end My
namespace My
open PySem PySem.Spec PyProof.Rows L2
local macro_rules | `(tactic| walk_at "side") => `(tactic| first | assumption | decide | exact Or.inl ⟨by decide, by decide⟩ | exact Or.inr ⟨by decide, by decide⟩ | exact ⟨by decide, by decide, by decide⟩ | omega | (unfold CMulW; decide +kernel) | (dsimp only; first | assumption | omega | decide +kernel) | exact len_ok (Nat.le_of_ble_eq_true rfl) | fail "side")
local macro_rules | `(tactic| walk_at "rd") => `(tactic| first
  | refine ⟨_, _, _, _, rfl, rfl, SqL.of upd_same, atI_nat (j := 0) rfl, ?_⟩ | refine ⟨_, _, _, _, rfl, rfl, SqL.of upd_same, atI_nat (j := 1) rfl, ?_⟩ | refine ⟨_, _, _, _, rfl, rfl, SqL.of upd_same, atI_nat (j := 2) rfl, ?_⟩
  | refine ⟨_, _, _, _, rfl, rfl, upd_same, rfl, ?_⟩
  | refine ⟨_, _, rfl, rfl, ?_⟩ | refine ⟨_, rfl, ?_⟩ | refine ⟨_, _, rfl, ?_⟩ | refine Or.inl ⟨_, rfl, ?_⟩ | refine Or.inr ⟨_, rfl, ?_⟩ | refine ⟨(by walk_at "side"), ?_⟩ | fail "rd")

structure InitXAt (P : Program) (w : World) (K : PySem.W.Frag) (mg : Str → Option Value) (base : Heap) (k : Nat) (C : Addr) (sp : Sp) : Prop where
  ex : ∃ (f : Addr) (fd : FuncData), Mk K C f ∧ FnOk P w K mg base (L2.CX P w) k f fd ["self", "top", "part", "root", "bottom"] sp ∧
    (∃ g, KBn K fd ["self", "top", "part", "root", "bottom"] 3 ["root", "bottom"] g (fun vs zs => vs ++ zs)) ∧
    (∃ g, KBn K fd ["self", "top", "part", "root", "bottom"] 2 ["bottom"] g (fun vs zs => vs ++ (.int 0 :: .int 0 :: zs))) ∧
    (∃ ds, Vals [.int 0, .int 0, .int 1] ds ∧ Binds K fd ["self", "top", "part", "root", "bottom"] ds) ∧
    (∃ g, KBn K fd ["self", "top", "part", "root", "bottom"] 3 ["root"] g (fun vs zs => vs ++ (zs ++ [.int 1]))) ∧
    ∃ ds, Vals [.int 0, .int 1] ds ∧ Binds K fd ["self", "top", "part", "root", "bottom"] ds
section
variable {X : Cx} {k : Nat} {C : Addr} {sp : Sp} {p pos : Pos} {e e2 : Expr} {es : List Expr} {kws : List Keyword} {t tk : TA} {W : WX} {E : XK}
theorem mk4X (F : InitXAt X.prog X.w X.K X.mg X.base k C sp) (g : X.mg "Number" = some (.ref C)) (hr : Room (k + 1) X.A) (hg : Gl X "Number") (tk2 : Takes X W) (hW : ∀ cls d σ H, E cls d H → W cls d σ H) (ha : PA X (e :: es) t) (hkw : PK X kws tk)
    (hall : (backToKw pos (keywordEach kws X.env)).all (·.1.isSome) = true := by rfl) (hks : (backToKw pos (keywordEach kws X.env)).filterMap (·.1) = (["root", "bottom"] : List Str) := by rfl)
    (he : starEach (e :: es) X.env = (false, eval e X.env) :: starEach es X.env := by rfl) (hpl : ((backTo pos (starEach (e :: es) X.env)).any (·.1) || (backToKw pos (keywordEach kws X.env)).any (·.1.isNone)) = false := by rfl) :
    PE X (.Call (.Name "Number" p) (e :: es) kws pos) (tMakeK C 2 2 sp (fun vs zs => vs ++ zs) E t tk) := by
  obtain ⟨f, fd, M, G, ⟨g4, h4⟩, _⟩ := F.ex
  exact pe_makeK (n := 2) M G hr hg g h4 (passes_call tk2 hW) ha hkw hall hks (by decide) he hpl
theorem mk2X (F : InitXAt X.prog X.w X.K X.mg X.base k C sp) (g : X.mg "Number" = some (.ref C)) (hr : Room (k + 1) X.A) (hg : Gl X "Number") (tk2 : Takes X W) (hW : ∀ cls d σ H, E cls d H → W cls d σ H) (ha : PA X (e :: es) t) (hkw : PK X kws tk)
    (hall : (backToKw pos (keywordEach kws X.env)).all (·.1.isSome) = true := by rfl) (hks : (backToKw pos (keywordEach kws X.env)).filterMap (·.1) = (["bottom"] : List Str) := by rfl)
    (he : starEach (e :: es) X.env = (false, eval e X.env) :: starEach es X.env := by rfl) (hpl : ((backTo pos (starEach (e :: es) X.env)).any (·.1) || (backToKw pos (keywordEach kws X.env)).any (·.1.isNone)) = false := by rfl) :
    PE X (.Call (.Name "Number" p) (e :: es) kws pos) (tMakeK C 1 1 sp (fun vs zs => vs ++ (.int 0 :: .int 0 :: zs)) E t tk) := by
  obtain ⟨f, fd, M, G, _, ⟨g4, h4⟩, _⟩ := F.ex
  exact pe_makeK (n := 1) M G hr hg g h4 (passes_call tk2 hW) ha hkw hall hks (by decide) he hpl
theorem mkRX (F : InitXAt X.prog X.w X.K X.mg X.base k C sp) (g : X.mg "Number" = some (.ref C)) (hr : Room (k + 1) X.A) (hg : Gl X "Number") (tk2 : Takes X W) (hW : ∀ cls d σ H, E cls d H → W cls d σ H) (ha : PA X (e :: es) t) (hkw : PK X kws tk)
    (hall : (backToKw pos (keywordEach kws X.env)).all (·.1.isSome) = true := by rfl) (hks : (backToKw pos (keywordEach kws X.env)).filterMap (·.1) = (["root"] : List Str) := by rfl)
    (he : starEach (e :: es) X.env = (false, eval e X.env) :: starEach es X.env := by rfl) (hpl : ((backTo pos (starEach (e :: es) X.env)).any (·.1) || (backToKw pos (keywordEach kws X.env)).any (·.1.isNone)) = false := by rfl) :
    PE X (.Call (.Name "Number" p) (e :: es) kws pos) (tMakeK C 2 1 sp (fun vs zs => vs ++ (zs ++ [.int 1])) E t tk) := by
  obtain ⟨f, fd, M, G, _, _, _, ⟨g4, h4⟩, _⟩ := F.ex
  exact pe_makeK (n := 2) M G hr hg g h4 (passes_call tk2 hW) ha hkw hall hks (by decide) he hpl
theorem mk1X (F : InitXAt X.prog X.w X.K X.mg X.base k C sp) (g : X.mg "Number" = some (.ref C)) (hr : Room (k + 1) X.A) (hg : Gl X "Number") (tk2 : Takes X W) (hW : ∀ cls d σ H, E cls d H → W cls d σ H) (ha : PA X (e :: es) t)
    (he : starEach (e :: es) X.env = (false, eval e X.env) :: starEach es X.env := by rfl) (hpl : (backTo pos (starEach es X.env)).any (·.1) = false := by rfl) :
    PE X (.Call (.Name "Number" p) (e :: es) [] pos) (tMake C sp [.int 0, .int 0, .int 1] E t) := by
  obtain ⟨f, fd, M, G, _, _, ⟨ds, hd, hb⟩, _⟩ := F.ex
  exact pe_make M G hr hg g hb hd (passes_call tk2 hW) ha (by decide) he hpl
theorem mkPX (F : InitXAt X.prog X.w X.K X.mg X.base k C sp) (g : X.mg "Number" = some (.ref C)) (hr : Room (k + 1) X.A) (hg : Gl X "Number") (tk2 : Takes X W) (hW : ∀ cls d σ H, E cls d H → W cls d σ H) (ha : PA X (e :: e2 :: es) t)
    (he : starEach (e :: e2 :: es) X.env = (false, eval e X.env) :: starEach (e2 :: es) X.env := by rfl) (hpl : (backTo pos (starEach (e2 :: es) X.env)).any (·.1) = false := by rfl) :
    PE X (.Call (.Name "Number" p) (e :: e2 :: es) [] pos) (tMake C sp [.int 0, .int 1] E t) := by
  obtain ⟨f, fd, M, G, _, _, _, _, ds, hd, hb⟩ := F.ex
  exact pe_make M G hr hg g hb hd (passes_call tk2 hW) ha (by decide) he hpl
end
def spInitX (K : PySem.W.Frag) (C IN : Addr) : Sp := fun vs H _ E => ∃ (x : Addr) (a b c d : V), vs = [.ref x, a, b, c, d] ∧ BadArgs K H a b c d ∧ ∀ H', Ext H H' → E (.ref IN) none H'
section
variable {P : Program} {w : World} {K : PySem.W.Frag} {mg : Str → Option Value} {base : Heap} {C IN IO : Addr}
theorem fxAt {x : Str} {st : Stmt} {N ps : List Str} {k : Nat} {sp : Sp} (D : DefAt K mg x st) (S : FnScope N ps (defScope st))
    (hbind : ∀ (kV doc pm : Value) (an : Option Addr) (cdv ct : Value) (us : List Value), us.length = ps.length → bindArgs (PySem.W.fnOf x x (defArgs st) (defBody st) (defScope st) .none kV doc pm an cdv ct) ⟨us, []⟩ = pure (ps.zip us))
    (len : ∀ vs H Q E, sp vs H Q E → vs.length = ps.length)
    (hbody : ∀ (f : Addr) (cdv : Value) (A : Around) (outer : List Env) (s : Shared) (H : Hp) (vs : List V) (Q : VK) (E : XK), Room k (A.deeper (envOfC x (defScope st) s.heap.objs.size f cdv)) → sp vs H Q E →
      ∃ t, PSs (cxOf (L2.CX P w) P w K mg base N x (defScope st) f cdv A outer s H E) (defBody st) t ∧ t { nx := fun _ H' => Q .non H', rt := Q } (start N vs) H) : FxAt P w K mg base (k + 1) x ps sp := by
  obtain ⟨f, fd, hm, F⟩ := D.ex
  exact ⟨f, fd, hm, F.kp, F.binds hbind, F.okX S len fun cdv A outer s H vs Q E hr h => hbody f cdv A outer s H vs Q E hr h⟩
theorem mxAt {x qual : Str} {st : Stmt} {N ps : List Str} {k : Nat} {sp : Sp} (D : MethT K C x qual st) (S : FnScope N ps (defScope st))
    (hbind : ∀ (kV doc pm : Value) (an : Option Addr) (cdv ct : Value) (us : List Value), us.length = ps.length → bindArgs (PySem.W.fnOf x qual (defArgs st) (defBody st) (defScope st) .none kV doc pm an cdv ct) ⟨us, []⟩ = pure (ps.zip us))
    (len : ∀ vs H Q E, sp vs H Q E → vs.length = ps.length)
    (hbody : ∀ (f : Addr) (cdv : Value) (A : Around) (outer : List Env) (s : Shared) (H : Hp) (vs : List V) (Q : VK) (E : XK), Room k (A.deeper (envOfC qual (defScope st) s.heap.objs.size f cdv)) → sp vs H Q E →
      ∃ t, PSs (cxOf (L2.CX P w) P w K mg base N qual (defScope st) f cdv A outer s H E) (defBody st) t ∧ t { nx := fun _ H' => Q .non H', rt := Q } (start N vs) H) : MxAt P w K mg base (k + 1) C x ps sp := by
  obtain ⟨f, fd, hs, hf, F⟩ := D.ex
  exact ⟨f, fd, hs, F.binds hbind, F.okX S len fun cdv A outer s H vs Q E hr h => hbody f cdv A outer s H vs Q E hr h⟩
theorem oxAt {op : Operator} {x qual : Str} {st : Stmt} {N : List Str} {k : Nat} {sp : Sp} (D : OpT K C op x qual st) (S : FnScope N ["self", "other"] (defScope st))
    (hbind : ∀ (kV doc pm : Value) (an : Option Addr) (cdv ct : Value) (us : List Value), us.length = 2 → bindArgs (PySem.W.fnOf x qual (defArgs st) (defBody st) (defScope st) .none kV doc pm an cdv ct) ⟨us, []⟩ = pure ((["self", "other"] : List Str).zip us))
    (len : ∀ vs H Q E, sp vs H Q E → vs.length = 2)
    (hbody : ∀ (f : Addr) (cdv : Value) (A : Around) (outer : List Env) (s : Shared) (H : Hp) (vs : List V) (Q : VK) (E : XK), Room k (A.deeper (envOfC qual (defScope st) s.heap.objs.size f cdv)) → sp vs H Q E →
      ∃ t, PSs (cxOf (L2.CX P w) P w K mg base N qual (defScope st) f cdv A outer s H E) (defBody st) t ∧ t { nx := fun _ H' => Q .non H', rt := Q } (start N vs) H) : OxAt P w K mg base (k + 1) C op sp := by
  obtain ⟨f, fd, hs, F⟩ := D.ex
  exact ⟨f, fd, hs, F.binds hbind, F.okX S len fun cdv A outer s H vs Q E hr h => hbody f cdv A outer s H vs Q E hr h⟩
theorem ok_initX (T : Bn mg) (NC : NumT K mg C) (EI : ErrT K mg "InvalidNumber" IN) (F__are_valid : FnAt P w K mg base 2 "_are_valid" ["top", "part", "root", "bottom"] (spValidBad K)) : InitXAt P w K mg base 3 C (spInitX K C IN) := by
  obtain ⟨f, fd, M, F⟩ := NC.ini
  refine ⟨f, fd, M, F.ok sc_ninit (fun vs H Q E h => ?_) (fun cdv A outer s H vs Q E hr h => ?_), ?_, ?_, ?_, ?_, ?_⟩
  · obtain ⟨x, a, b, c, d, rfl, _⟩ := h
    rfl
  · obtain ⟨x, a, b, c, d, rfl, bad, k⟩ := h
    refine ⟨_, (pss_cons (ps_if (pt_not (pt_val (callA F__are_valid (hr.mono (by decide)) rfl (pa_cons (pv 1) (pa_cons (pv 2) (pa_cons (pv 3) (pa_cons (pv 4) pa_nil))))))) (pss_one (raiseX EI rfl (takes_of rfl rfl rfl rfl) rfl)) pss_nil)
    (pss_cons (ps_set (i := 5) sc_ninit.nd rfl (Or.inl rfl) (pe_callBfun cr_gcd3 (by rfl) NC.m_gcd (pa_cons (pv 4) (pa_cons (pv 2) (pa_cons (pv 1) pa_nil)))))
    (Evl.pss_cut (ps_if (pt_cmpR op_lt (pv 4) pe_int (nomark _)) (pss_one (ps_set (i := 5) sc_ninit.nd rfl (Or.inl rfl) (pe_un un_neg (pv 5)))) pss_nil)
    (pss_cons (ps_fld (pv 0) (pe_op op_fdivX (pv 1) (pv 5)) rfl)
    (pss_cons (ps_fld (pv 0) (pe_op op_fdivX (pv 2) (pv 5)) rfl)
    (pss_cons (ps_fld (pv 0) (pe_ifExp (pt_cmpR op_ne (pv 2) pe_int (nomark _)) (pv 3) pe_int) rfl)
    (pss_one (ps_fld (pv 0) (pe_op op_fdivX (pv 4) (pv 5)) rfl)))))))), ?_⟩
    exact ⟨_, rfl, _, rfl, _, rfl, _, rfl, a, b, c, d, rfl, bad, fun H1 e1 => ⟨_, rfl, k H1 e1⟩⟩
  · obtain ⟨its, mv, hb⟩ := F.kbinds 3 ["root", "bottom"] [] (fun us its mv ws => us ++ ws) (by simp) (by simp) (fun q hq => by cases hq) (fun r1 _ _ r2 => r1.append r2) (fun T D doc pm an cdv ct us its mv ws h1 h2 h3 h4 =>
      match us, its, mv, ws, h1, h2, h3, h4 with | [_, _, _], [_], [], [_, _], _, _, _, _ => ⟨_, rfl, (by show _ = pure _; first | (with_unfolding_all rfl) | kernel_rfl)⟩)
    exact ⟨_, hb⟩
  · obtain ⟨its, mv, hb⟩ := F.kbinds 2 ["bottom"] [("root", .int 0)] (fun us its mv ws => us ++ (its ++ (mv ++ ws))) (by simp) (by simp) (fun q hq => by simp at hq; simp [hq]) (fun r1 r2 r3 r4 => r1.append (r2.append (r3.append r4))) (fun T D doc pm an cdv ct us its mv ws h1 h2 h3 h4 =>
      match us, its, mv, ws, h1, h2, h3, h4 with | [_, _], [_], [_], [_], _, _, _, _ => ⟨_, rfl, ⟨_, _, _, _, _, _, rfl, rfl, (by show _ = pure _; first | (with_unfolding_all rfl) | kernel_rfl)⟩⟩)
    exact ⟨_, hb⟩
  · exact F.binds 2 0 (by simp) rfl (fun T D doc pm an cdv ct us its ks h1 h2 h3 =>
      match us, its, ks, h1, h2, h3 with | [_, _], [_], [_, _], _, _, _ => ⟨_, rfl, ⟨_, _, _, _, _, _, rfl, rfl, ⟨_, _, _, _, _, _, rfl, rfl, rfl⟩⟩⟩) (by simp)
  · obtain ⟨its, mv, hb⟩ := F.kbinds 3 ["root"] [("bottom", .int 1)] (fun us its mv ws => us ++ (ws ++ mv)) (by simp) (by simp) (fun q hq => by simp at hq; simp [hq]) (fun r1 _ r3 r4 => r1.append (r4.append r3)) (fun T D doc pm an cdv ct us its mv ws h1 h2 h3 h4 =>
      match us, its, mv, ws, h1, h2, h3, h4 with | [_, _, _], [_], [_], [_], _, _, _, _ => ⟨_, rfl, ⟨_, _, _, _, _, _, rfl, rfl, (by show _ = pure _; first | (with_unfolding_all rfl) | kernel_rfl)⟩⟩)
    exact ⟨_, hb⟩
  · exact F.binds 3 1 (by simp) rfl (fun T D doc pm an cdv ct us its ks h1 h2 h3 =>
      match us, its, ks, h1, h2, h3 with | [_, _, _], [_], [_, _], _, _, _ => ⟨_, rfl, ⟨_, _, _, _, _, _, rfl, rfl, ⟨_, _, _, _, _, _, rfl, rfl, rfl⟩⟩⟩) (by simp)
end
end My
namespace My
open PySem PySem.Spec PyProof.Rows L2
local macro_rules | `(tactic| walk_at "side") => `(tactic| first | assumption | decide | exact Or.inl ⟨by decide, by decide⟩ | exact Or.inr ⟨by decide, by decide⟩ | exact ⟨by decide, by decide, by decide⟩ | omega | (unfold CMulW; decide +kernel) | (dsimp only; first | assumption | omega | decide +kernel) | exact len_ok (Nat.le_of_ble_eq_true rfl) | fail "side")
local macro_rules | `(tactic| walk_at "rd") => `(tactic| first
  | refine ⟨_, _, _, _, rfl, rfl, SqL.of upd_same, atI_nat (j := 0) rfl, ?_⟩ | refine ⟨_, _, _, _, rfl, rfl, SqL.of upd_same, atI_nat (j := 1) rfl, ?_⟩ | refine ⟨_, _, _, _, rfl, rfl, SqL.of upd_same, atI_nat (j := 2) rfl, ?_⟩
  | refine ⟨_, _, _, _, rfl, rfl, upd_same, rfl, ?_⟩
  | refine ⟨_, _, rfl, rfl, ?_⟩ | refine ⟨_, rfl, ?_⟩ | refine ⟨_, _, rfl, ?_⟩ | refine Or.inl ⟨_, rfl, ?_⟩ | refine Or.inr ⟨_, rfl, ?_⟩ | refine ⟨(by walk_at "side"), ?_⟩ | fail "rd")

abbrev s_ncomp : Stmt := inClass (top 13) 15
theorem sc_ncomp : FnScope ["self", "other", "number", "root", "top", "part"] ["self", "other"] (defScope s_ncomp) := ⟨rfl, rfl, rfl, by decide +kernel, rfl, by decide +kernel, by decide +kernel⟩
structure OddN (K : PySem.W.Frag) (C : Addr) (H : Hp) (v : V) : Prop where
  o : OddK K H v
  n : ∃ t, TyX K H v t ∧ PySem.W.kitOne K t (.ref C) = some false
def spAsNone (K : PySem.W.Frag) (C : Addr) : Sp := fun vs H Q _ => ∃ v, vs = [v] ∧ OddN K C H v ∧ Q .non H
def spArgX (K : PySem.W.Frag) (C IN : Addr) : Sp := fun vs H _ E => ∃ v, vs = [v] ∧ OddN K C H v ∧ E (.ref IN) none H
def spCRootX (C IN : Addr) : Sp := fun vs H _ E => ∃ a b n m, vs = [.ref a, .ref b] ∧ NumAt C H a n ∧ NumAt C H b m ∧ n.r ≠ 0 ∧ m.r ≠ 0 ∧ n.r ≠ m.r ∧ E (.ref IN) none H
def spUnlike (C IN : Addr) : Sp := fun vs H _ E => ∃ a v n m, vs = [.ref a, v] ∧ NumAt C H a n ∧ Opd C H v m ∧ n.r ≠ 0 ∧ m.r ≠ 0 ∧ n.r ≠ m.r ∧ ∀ H', Ext H H' → E (.ref IN) none H'
def spOddArg (K : PySem.W.Frag) (C IN : Addr) : Sp := fun vs H _ E => ∃ a v, vs = [.ref a, v] ∧ OddN K C H v ∧ E (.ref IN) none H
def spOverZ (C IO : Addr) : Sp := fun vs H _ E => ∃ a v n m, vs = [.ref a, v] ∧ NumAt C H a n ∧ Opd C H v m ∧ Good 2000 m ∧ OneRoot n m ∧ m.t = 0 ∧ m.p = 0 ∧ ∀ H', Ext H H' → E (.ref IO) none H'
section
variable {P : Program} {w : World} {K : PySem.W.Frag} {mg : Str → Option Value} {base : Heap} {C IN IO : Addr}
theorem ok_asnone (T : Bn mg) (D : DefAt K mg "_as_number" s_asnum) (NC : NumT K mg C) (F_init : InitAt P w K mg base 3 C (spInit C)) (F_is_any_integer : FnAt P w K mg base 1 "is_any_integer" ["value"] (spIsIntA K)) : FnAt P w K mg base 5 "_as_number" ["value"] (spAsNone K C) := by
  refine fnAt D sc_asnum (fun _ _ _ _ _ _ us hl => match us, hl with | [_], _ => rfl) (fun vs H Q E h => ?_) fun f cdv A outer s H vs Q E hr h => ?_
  · obtain ⟨v, rfl, _⟩ := h
    rfl
  obtain ⟨v, rfl, o, k⟩ := h
  obtain ⟨t, ty, hk⟩ := o.n
  refine ⟨_, (pss_cons (ps_if (pt_val (callA F_is_any_integer (hr.mono (by decide)) rfl (pa_cons (pv 0) pa_nil))) (pss_one (ps_ret (mk1A F_init NC.g (hr.mono (by decide)) rfl (pa_cons (pv 0) pa_nil)))) pss_nil)
    (pss_one (ps_ret (pe_ifExp (pt_val (pe_callB call_isi (by rfl) T.b_isinstance (by decide +kernel) (pa_cons (pv 0) (pa_cons (pe_glob (v := .ref C) rfl NC.g rfl) pa_nil)))) (pv 0) pe_non)))), ?_⟩
  refine ⟨_, rfl, v, rfl, .inr o.o, _, rfl, ?_⟩
  rw [o.o.isI]
  exact iteF ⟨_, rfl, _, _, _, _, false, rfl, .own C, ty, hk, _, rfl, iteF k⟩
theorem ok_argX (T : Bn mg) (D : DefAt K mg "_argument" s_argument) (EI : ErrT K mg "InvalidNumber" IN) (F__as_number : FnAt P w K mg base 5 "_as_number" ["value"] (spAsNone K C)) : FxAt P w K mg base 6 "_argument" ["value"] (spArgX K C IN) := by
  refine fxAt D sc_argument (fun _ _ _ _ _ _ us hl => match us, hl with | [_], _ => rfl) (fun vs H Q E h => ?_) fun f cdv A outer s H vs Q E hr h => ?_
  · obtain ⟨v, rfl, _⟩ := h
    rfl
  obtain ⟨v, rfl, o, k⟩ := h
  refine ⟨_, (pss_cons (ps_set (i := 1) sc_argument.nd rfl (Or.inl rfl) (callA F__as_number (hr.mono (by decide)) rfl (pa_cons (pv 0) pa_nil)))
    (pss_cons (ps_if (pt_cmpR op_isN (pv 1) pe_non (nomark _)) (pss_one (raiseX EI rfl (takes_of rfl rfl rfl rfl) rfl)) pss_nil)
    (pss_one (ps_ret (pv 1))))), ?_⟩
  exact ⟨_, rfl, v, rfl, o, _, rfl, rfl, _, rfl, ite2 (fun _ => k) (fun h => absurd (decide_eq_true rfl) h)⟩
theorem ok_crootX (T : Bn mg) (D : DefAt K mg "_common_root" s_croot) (NC : NumT K mg C) (EI : ErrT K mg "InvalidNumber" IN) (F_root : PropAt P w K mg base 1 C "root" (spProp C fun n => .int n.r)) : FxAt P w K mg base 3 "_common_root" ["one", "other"] (spCRootX C IN) := by
  refine fxAt D sc_croot (fun _ _ _ _ _ _ us hl => match us, hl with | [_, _], _ => rfl) (fun vs H Q E h => ?_) fun f cdv A outer s H vs Q E hr h => ?_
  · obtain ⟨a, b, n, m, rfl, _⟩ := h
    rfl
  obtain ⟨a, b, n, m, rfl, hn, hm, n0, m0, nm, k⟩ := h
  refine ⟨_, (pss_cons (ps_if (PW.pt (pw_and (pt_cmpR op_ne (propA F_root NC.cl (hr.mono (by decide)) (pv 0)) pe_int (nomark _)) (pw_and (pt_cmpR op_ne (propA F_root NC.cl (hr.mono (by decide)) (pv 1)) pe_int (nomark _)) (pw_and1 (pt_cmpR op_ne (propA F_root NC.cl (hr.mono (by decide)) (pv 0)) (propA F_root NC.cl (hr.mono (by decide)) (pv 1)) (nomark _)))))) (pss_one (raiseX EI rfl (takes_of rfl rfl rfl rfl) rfl)) pss_nil)
    (pss_one (ps_ret (pe_callB (call_max2 rfl) (by rfl) T.b_max (by decide +kernel) (pa_cons (propA F_root NC.cl (hr.mono (by decide)) (pv 0)) (pa_cons (propA F_root NC.cl (hr.mono (by decide)) (pv 1)) pa_nil)))))), ?_⟩
  have t1 : ∀ {x y : Int}, x ≠ y → (!decide (V.int x = V.int y)) = true := fun h => by rw [e_int]; simp [h]
  refine ⟨_, rfl, pu hn ⟨rfl, _, rfl, ite2 (fun _ => ?_) (fun h => absurd (t1 n0) h)⟩⟩
  refine ⟨_, rfl, pu hm ⟨rfl, _, rfl, ite2 (fun _ => ?_) (fun h => absurd (t1 m0) h)⟩⟩
  exact ⟨_, rfl, pu hn ⟨_, rfl, pu hm ⟨rfl, _, rfl, ite2 (fun _ => k) (fun h => absurd (t1 nm) h)⟩⟩⟩
theorem ok_addX (D : OpT K C .Add "__add__" "Number.__add__" s_nadd) (NC : NumT K mg C) (F_init : InitAt P w K mg base 3 C (spInit C)) (F__operand : FnAt P w K mg base 6 "_operand" ["value"] (spOpd C)) (F__common_root : FxAt P w K mg base 3 "_common_root" ["one", "other"] (spCRootX C IN))
    (F_top : PropAt P w K mg base 1 C "top" (spProp C fun n => .int n.t)) (F_part : PropAt P w K mg base 1 C "part" (spProp C fun n => .int n.p)) (F_bottom : PropAt P w K mg base 1 C "bottom" (spProp C fun n => .int n.b)) : OxAt P w K mg base 7 C .Add (spUnlike C IN) := by
  refine oxAt D sc_nadd (fun _ _ _ _ _ _ us hl => match us, hl with | [_, _], _ => rfl) (fun vs H Q E h => ?_) fun f cdv A outer s H vs Q E hr h => ?_
  · obtain ⟨a, v, n, m, rfl, _⟩ := h
    rfl
  obtain ⟨a, v, n, m, rfl, hn, hv, n0, m0, nm, k⟩ := h
  exact ⟨_, (pss_cons (ps_set (i := 2) sc_nadd.nd rfl (Or.inl rfl) (callA F__operand (hr.mono (by decide)) rfl (pa_cons (pv 1) pa_nil)))
    (pss_cons (ps_set (i := 3) sc_nadd.nd rfl (Or.inl rfl) (callX F__common_root (hr.mono (by decide)) rfl (takes_of rfl rfl rfl rfl) (fun _ _ _ _ h => h) (pa_cons (pv 0) (pa_cons (pv 2) pa_nil))))
    (pss_cons (ps_set (i := 4) sc_nadd.nd rfl (Or.inl rfl) (pe_op op_add (pe_op op_mulW (pe_fld (pv 0) rfl) (propA F_bottom NC.cl (hr.mono (by decide)) (pv 2))) (pe_op op_mulW (propA F_top NC.cl (hr.mono (by decide)) (pv 2)) (pe_fld (pv 0) rfl))))
    (pss_cons (ps_set (i := 5) sc_nadd.nd rfl (Or.inl rfl) (pe_op op_add (pe_op op_mulW (pe_fld (pv 0) rfl) (propA F_bottom NC.cl (hr.mono (by decide)) (pv 2))) (pe_op op_mulW (propA F_part NC.cl (hr.mono (by decide)) (pv 2)) (pe_fld (pv 0) rfl))))
    (pss_one (ps_ret (mk4A F_init NC.g (hr.mono (by decide)) rfl (pa_cons (pv 4) (pa_cons (pv 5) pa_nil)) (pk_cons (pv 3) (pk_cons (pe_op op_mulW (pe_fld (pv 0) rfl) (propA F_bottom NC.cl (hr.mono (by decide)) (pv 2))) pk_nil))))))))), _, rfl, v, m, rfl, hv, fun b H1 e1 hm => ⟨_, rfl, _, rfl, a, b, n, m, rfl, hn.ext e1, hm, n0, m0, nm, k H1 e1⟩⟩
theorem ok_subX (D : OpT K C .Sub "__sub__" "Number.__sub__" s_nsub) (NC : NumT K mg C) (F_init : InitAt P w K mg base 3 C (spInit C)) (F__operand : FnAt P w K mg base 6 "_operand" ["value"] (spOpd C)) (F__common_root : FxAt P w K mg base 3 "_common_root" ["one", "other"] (spCRootX C IN))
    (F__difference_above : FnAt P w K mg base 3 "_difference_above" ["one", "other"] (spDiff C)) (F_bottom : PropAt P w K mg base 1 C "bottom" (spProp C fun n => .int n.b)) : OxAt P w K mg base 7 C .Sub (spUnlike C IN) := by
  refine oxAt D sc_nsub (fun _ _ _ _ _ _ us hl => match us, hl with | [_, _], _ => rfl) (fun vs H Q E h => ?_) fun f cdv A outer s H vs Q E hr h => ?_
  · obtain ⟨a, v, n, m, rfl, _⟩ := h
    rfl
  obtain ⟨a, v, n, m, rfl, hn, hv, n0, m0, nm, k⟩ := h
  exact ⟨_, (pss_cons (ps_set (i := 2) sc_nsub.nd rfl (Or.inl rfl) (callA F__operand (hr.mono (by decide)) rfl (pa_cons (pv 1) pa_nil)))
    (pss_cons (ps_set (i := 3) sc_nsub.nd rfl (Or.inl rfl) (callX F__common_root (hr.mono (by decide)) rfl (takes_of rfl rfl rfl rfl) (fun _ _ _ _ h => h) (pa_cons (pv 0) (pa_cons (pv 2) pa_nil))))
    (pss_cons (ps_asg (callA F__difference_above (hr.mono (by decide)) rfl (pa_cons (pv 0) (pa_cons (pv 2) pa_nil))) (pg_tup (by rfl) (pgs_cons (pg_name (i := 4) sc_nsub.nd rfl (Or.inl rfl)) (pgs_cons (pg_name (i := 5) sc_nsub.nd rfl (Or.inl rfl)) pgs_nil))))
    (pss_one (ps_ret (mk4A F_init NC.g (hr.mono (by decide)) rfl (pa_cons (pv 4) (pa_cons (pv 5) pa_nil)) (pk_cons (pv 3) (pk_cons (pe_op op_mulW (pe_fld (pv 0) rfl) (propA F_bottom NC.cl (hr.mono (by decide)) (pv 2))) pk_nil)))))))), _, rfl, v, m, rfl, hv, fun b H1 e1 hm => ⟨_, rfl, _, rfl, a, b, n, m, rfl, hn.ext e1, hm, n0, m0, nm, k H1 e1⟩⟩
theorem ok_mulX (D : OpT K C .Mult "__mul__" "Number.__mul__" s_nmul) (NC : NumT K mg C) (F_init : InitAt P w K mg base 3 C (spInit C)) (F__operand : FnAt P w K mg base 6 "_operand" ["value"] (spOpd C)) (F__common_root : FxAt P w K mg base 3 "_common_root" ["one", "other"] (spCRootX C IN))
    (F_top : PropAt P w K mg base 1 C "top" (spProp C fun n => .int n.t)) (F_part : PropAt P w K mg base 1 C "part" (spProp C fun n => .int n.p)) (F_bottom : PropAt P w K mg base 1 C "bottom" (spProp C fun n => .int n.b)) : OxAt P w K mg base 7 C .Mult (spUnlike C IN) := by
  refine oxAt D sc_nmul (fun _ _ _ _ _ _ us hl => match us, hl with | [_, _], _ => rfl) (fun vs H Q E h => ?_) fun f cdv A outer s H vs Q E hr h => ?_
  · obtain ⟨a, v, n, m, rfl, _⟩ := h
    rfl
  obtain ⟨a, v, n, m, rfl, hn, hv, n0, m0, nm, k⟩ := h
  exact ⟨_, (pss_cons (ps_set (i := 2) sc_nmul.nd rfl (Or.inl rfl) (callA F__operand (hr.mono (by decide)) rfl (pa_cons (pv 1) pa_nil)))
    (pss_cons (ps_set (i := 3) sc_nmul.nd rfl (Or.inl rfl) (callX F__common_root (hr.mono (by decide)) rfl (takes_of rfl rfl rfl rfl) (fun _ _ _ _ h => h) (pa_cons (pv 0) (pa_cons (pv 2) pa_nil))))
    (pss_cons (ps_set (i := 4) sc_nmul.nd rfl (Or.inl rfl) (pe_op op_add (pe_op op_mulW (pe_fld (pv 0) rfl) (propA F_top NC.cl (hr.mono (by decide)) (pv 2))) (pe_op op_mulW (pe_op op_mulW (pe_fld (pv 0) rfl) (propA F_part NC.cl (hr.mono (by decide)) (pv 2))) (pv 3))))
    (pss_cons (ps_set (i := 5) sc_nmul.nd rfl (Or.inl rfl) (pe_op op_add (pe_op op_mulW (pe_fld (pv 0) rfl) (propA F_part NC.cl (hr.mono (by decide)) (pv 2))) (pe_op op_mulW (pe_fld (pv 0) rfl) (propA F_top NC.cl (hr.mono (by decide)) (pv 2)))))
    (pss_one (ps_ret (mk4A F_init NC.g (hr.mono (by decide)) rfl (pa_cons (pv 4) (pa_cons (pv 5) pa_nil)) (pk_cons (pv 3) (pk_cons (pe_op op_mulW (pe_fld (pv 0) rfl) (propA F_bottom NC.cl (hr.mono (by decide)) (pv 2))) pk_nil))))))))), _, rfl, v, m, rfl, hv, fun b H1 e1 hm => ⟨_, rfl, _, rfl, a, b, n, m, rfl, hn.ext e1, hm, n0, m0, nm, k H1 e1⟩⟩
theorem ok_compX (D : MethT K C "compared" "Number.compared" s_ncomp) (NC : NumT K mg C) (F__argument : FnAt P w K mg base 6 "_argument" ["value"] (spOpd C)) (F__common_root : FxAt P w K mg base 3 "_common_root" ["one", "other"] (spCRootX C IN))
    (F__difference_above : FnAt P w K mg base 3 "_difference_above" ["one", "other"] (spDiff C)) (F__sign_of : FnAt P w K mg base 2 "sign_of_sum" ["top", "part", "root"] spSgn) : MxAt P w K mg base 7 C "compared" ["self", "other"] (spUnlike C IN) := by
  refine mxAt D sc_ncomp (fun _ _ _ _ _ _ us hl => match us, hl with | [_, _], _ => rfl) (fun vs H Q E h => ?_) fun f cdv A outer s H vs Q E hr h => ?_
  · obtain ⟨a, v, n, m, rfl, _⟩ := h
    rfl
  obtain ⟨a, v, n, m, rfl, hn, hv, n0, m0, nm, k⟩ := h
  exact ⟨_, (pss_cons (ps_set (i := 2) sc_ncomp.nd rfl (Or.inl rfl) (callA F__argument (hr.mono (by decide)) rfl (pa_cons (pv 1) pa_nil)))
    (pss_cons (ps_set (i := 3) sc_ncomp.nd rfl (Or.inl rfl) (callX F__common_root (hr.mono (by decide)) rfl (takes_of rfl rfl rfl rfl) (fun _ _ _ _ h => h) (pa_cons (pv 0) (pa_cons (pv 2) pa_nil))))
    (pss_cons (ps_asg (callA F__difference_above (hr.mono (by decide)) rfl (pa_cons (pv 0) (pa_cons (pv 2) pa_nil))) (pg_tup (by rfl) (pgs_cons (pg_name (i := 4) sc_ncomp.nd rfl (Or.inl rfl)) (pgs_cons (pg_name (i := 5) sc_ncomp.nd rfl (Or.inl rfl)) pgs_nil))))
    (pss_one (ps_ret (callA F__sign_of (hr.mono (by decide)) rfl (pa_cons (pv 4) (pa_cons (pv 5) (pa_cons (pv 3) pa_nil))))))))), _, rfl, v, m, rfl, hv, fun b H1 e1 hm => ⟨_, rfl, _, rfl, a, b, n, m, rfl, hn.ext e1, hm, n0, m0, nm, k H1 e1⟩⟩
theorem ok_compO (D : MethT K C "compared" "Number.compared" s_ncomp) (NC : NumT K mg C) (F__argument : FxAt P w K mg base 6 "_argument" ["value"] (spArgX K C IN)) (F__common_root : FnAt P w K mg base 3 "_common_root" ["one", "other"] (spCRoot C))
    (F__difference_above : FnAt P w K mg base 3 "_difference_above" ["one", "other"] (spDiff C)) (F__sign_of : FnAt P w K mg base 2 "sign_of_sum" ["top", "part", "root"] spSgn) : MxAt P w K mg base 7 C "compared" ["self", "other"] (spOddArg K C IN) := by
  refine mxAt D sc_ncomp (fun _ _ _ _ _ _ us hl => match us, hl with | [_, _], _ => rfl) (fun vs H Q E h => ?_) fun f cdv A outer s H vs Q E hr h => ?_
  · obtain ⟨a, v, rfl, _⟩ := h
    rfl
  obtain ⟨a, v, rfl, o, k⟩ := h
  exact ⟨_, (pss_cons (ps_set (i := 2) sc_ncomp.nd rfl (Or.inl rfl) (callX F__argument (hr.mono (by decide)) rfl (takes_of rfl rfl rfl rfl) (fun _ _ _ _ h => h) (pa_cons (pv 1) pa_nil)))
    (pss_cons (ps_set (i := 3) sc_ncomp.nd rfl (Or.inl rfl) (callA F__common_root (hr.mono (by decide)) rfl (pa_cons (pv 0) (pa_cons (pv 2) pa_nil))))
    (pss_cons (ps_asg (callA F__difference_above (hr.mono (by decide)) rfl (pa_cons (pv 0) (pa_cons (pv 2) pa_nil))) (pg_tup (by rfl) (pgs_cons (pg_name (i := 4) sc_ncomp.nd rfl (Or.inl rfl)) (pgs_cons (pg_name (i := 5) sc_ncomp.nd rfl (Or.inl rfl)) pgs_nil))))
    (pss_one (ps_ret (callA F__sign_of (hr.mono (by decide)) rfl (pa_cons (pv 4) (pa_cons (pv 5) (pa_cons (pv 3) pa_nil))))))))), _, rfl, v, rfl, o, k⟩
theorem ok_overX (D : MethT K C "over" "Number.over" s_nover) (NC : NumT K mg C) (EO : ErrT K mg "InvalidOperation" IO) (F_init : InitAt P w K mg base 3 C (spInit C)) (F__argument : FnAt P w K mg base 6 "_argument" ["value"] (spOpd C)) (F__common_root : FxAt P w K mg base 3 "_common_root" ["one", "other"] (spCRootX C IN))
    (F_sign : PropAt P w K mg base 3 C "sign" (spPropE C 5000 fun n => .int (sgn n.t n.p n.r))) (F__norm_above : FnAt P w K mg base 3 "_norm_above" ["number"] (spNormA C))
    (F_top : PropAt P w K mg base 1 C "top" (spProp C fun n => .int n.t)) (F_part : PropAt P w K mg base 1 C "part" (spProp C fun n => .int n.p)) (F_bottom : PropAt P w K mg base 1 C "bottom" (spProp C fun n => .int n.b)) : MxAt P w K mg base 7 C "over" ["self", "other"] (spUnlike C IN) := by
  refine mxAt D sc_nover (fun _ _ _ _ _ _ us hl => match us, hl with | [_, _], _ => rfl) (fun vs H Q E h => ?_) fun f cdv A outer s H vs Q E hr h => ?_
  · obtain ⟨a, v, n, m, rfl, _⟩ := h
    rfl
  obtain ⟨a, v, n, m, rfl, hn, hv, n0, m0, nm, k⟩ := h
  exact ⟨_, (pss_cons (ps_set (i := 2) sc_nover.nd rfl (Or.inl rfl) (callA F__argument (hr.mono (by decide)) rfl (pa_cons (pv 1) pa_nil)))
    (pss_cons (ps_set (i := 3) sc_nover.nd rfl (Or.inl rfl) (callX F__common_root (hr.mono (by decide)) rfl (takes_of rfl rfl rfl rfl) (fun _ _ _ _ h => h) (pa_cons (pv 0) (pa_cons (pv 2) pa_nil))))
    (pss_cons (ps_if (pt_cmpR op_eq (propA F_sign NC.cl (hr.mono (by decide)) (pv 2)) pe_int (nomark _)) (pss_one (raiseX EO rfl (takes_of rfl rfl rfl rfl) rfl)) pss_nil)
    (pss_cons (ps_set (i := 4) sc_nover.nd rfl (Or.inl rfl) (pe_op op_mulW (pe_op op_sub (pe_op op_mulW (pe_fld (pv 0) rfl) (propA F_top NC.cl (hr.mono (by decide)) (pv 2))) (pe_op op_mulW (pe_op op_mulW (pe_fld (pv 0) rfl) (propA F_part NC.cl (hr.mono (by decide)) (pv 2))) (pv 3))) (propA F_bottom NC.cl (hr.mono (by decide)) (pv 2))))
    (pss_cons (ps_set (i := 5) sc_nover.nd rfl (Or.inl rfl) (pe_op op_mulW (pe_op op_sub (pe_op op_mulW (pe_fld (pv 0) rfl) (propA F_top NC.cl (hr.mono (by decide)) (pv 2))) (pe_op op_mulW (pe_fld (pv 0) rfl) (propA F_part NC.cl (hr.mono (by decide)) (pv 2)))) (propA F_bottom NC.cl (hr.mono (by decide)) (pv 2))))
    (pss_one (ps_ret (mk4A F_init NC.g (hr.mono (by decide)) rfl (pa_cons (pv 4) (pa_cons (pv 5) pa_nil)) (pk_cons (pv 3) (pk_cons (pe_op op_mulW (pe_fld (pv 0) rfl) (callA F__norm_above (hr.mono (by decide)) rfl (pa_cons (pv 2) pa_nil))) pk_nil)))))))))), _, rfl, v, m, rfl, hv, fun b H1 e1 hm => ⟨_, rfl, _, rfl, a, b, n, m, rfl, hn.ext e1, hm, n0, m0, nm, k H1 e1⟩⟩
theorem ok_overO (D : MethT K C "over" "Number.over" s_nover) (NC : NumT K mg C) (EO : ErrT K mg "InvalidOperation" IO) (F_init : InitAt P w K mg base 3 C (spInit C)) (F__argument : FxAt P w K mg base 6 "_argument" ["value"] (spArgX K C IN)) (F__common_root : FnAt P w K mg base 3 "_common_root" ["one", "other"] (spCRoot C))
    (F_sign : PropAt P w K mg base 3 C "sign" (spPropE C 5000 fun n => .int (sgn n.t n.p n.r))) (F__norm_above : FnAt P w K mg base 3 "_norm_above" ["number"] (spNormA C))
    (F_top : PropAt P w K mg base 1 C "top" (spProp C fun n => .int n.t)) (F_part : PropAt P w K mg base 1 C "part" (spProp C fun n => .int n.p)) (F_bottom : PropAt P w K mg base 1 C "bottom" (spProp C fun n => .int n.b)) : MxAt P w K mg base 7 C "over" ["self", "other"] (spOddArg K C IN) := by
  refine mxAt D sc_nover (fun _ _ _ _ _ _ us hl => match us, hl with | [_, _], _ => rfl) (fun vs H Q E h => ?_) fun f cdv A outer s H vs Q E hr h => ?_
  · obtain ⟨a, v, rfl, _⟩ := h
    rfl
  obtain ⟨a, v, rfl, o, k⟩ := h
  exact ⟨_, (pss_cons (ps_set (i := 2) sc_nover.nd rfl (Or.inl rfl) (callX F__argument (hr.mono (by decide)) rfl (takes_of rfl rfl rfl rfl) (fun _ _ _ _ h => h) (pa_cons (pv 1) pa_nil)))
    (pss_cons (ps_set (i := 3) sc_nover.nd rfl (Or.inl rfl) (callA F__common_root (hr.mono (by decide)) rfl (pa_cons (pv 0) (pa_cons (pv 2) pa_nil))))
    (pss_cons (ps_if (pt_cmpR op_eq (propA F_sign NC.cl (hr.mono (by decide)) (pv 2)) pe_int (nomark _)) (pss_one (raiseX EO rfl (takes_of rfl rfl rfl rfl) rfl)) pss_nil)
    (pss_cons (ps_set (i := 4) sc_nover.nd rfl (Or.inl rfl) (pe_op op_mulW (pe_op op_sub (pe_op op_mulW (pe_fld (pv 0) rfl) (propA F_top NC.cl (hr.mono (by decide)) (pv 2))) (pe_op op_mulW (pe_op op_mulW (pe_fld (pv 0) rfl) (propA F_part NC.cl (hr.mono (by decide)) (pv 2))) (pv 3))) (propA F_bottom NC.cl (hr.mono (by decide)) (pv 2))))
    (pss_cons (ps_set (i := 5) sc_nover.nd rfl (Or.inl rfl) (pe_op op_mulW (pe_op op_sub (pe_op op_mulW (pe_fld (pv 0) rfl) (propA F_top NC.cl (hr.mono (by decide)) (pv 2))) (pe_op op_mulW (pe_fld (pv 0) rfl) (propA F_part NC.cl (hr.mono (by decide)) (pv 2)))) (propA F_bottom NC.cl (hr.mono (by decide)) (pv 2))))
    (pss_one (ps_ret (mk4A F_init NC.g (hr.mono (by decide)) rfl (pa_cons (pv 4) (pa_cons (pv 5) pa_nil)) (pk_cons (pv 3) (pk_cons (pe_op op_mulW (pe_fld (pv 0) rfl) (callA F__norm_above (hr.mono (by decide)) rfl (pa_cons (pv 2) pa_nil))) pk_nil)))))))))), _, rfl, v, rfl, o, k⟩
theorem ok_overZ (D : MethT K C "over" "Number.over" s_nover) (NC : NumT K mg C) (EO : ErrT K mg "InvalidOperation" IO) (F_init : InitAt P w K mg base 3 C (spInit C)) (F__argument : FnAt P w K mg base 6 "_argument" ["value"] (spOpd C)) (F__common_root : FnAt P w K mg base 3 "_common_root" ["one", "other"] (spCRoot C))
    (F_sign : PropAt P w K mg base 3 C "sign" (spPropE C 5000 fun n => .int (sgn n.t n.p n.r))) (F__norm_above : FnAt P w K mg base 3 "_norm_above" ["number"] (spNormA C))
    (F_top : PropAt P w K mg base 1 C "top" (spProp C fun n => .int n.t)) (F_part : PropAt P w K mg base 1 C "part" (spProp C fun n => .int n.p)) (F_bottom : PropAt P w K mg base 1 C "bottom" (spProp C fun n => .int n.b)) : MxAt P w K mg base 7 C "over" ["self", "other"] (spOverZ C IO) := by
  refine mxAt D sc_nover (fun _ _ _ _ _ _ us hl => match us, hl with | [_, _], _ => rfl) (fun vs H Q E h => ?_) fun f cdv A outer s H vs Q E hr h => ?_
  · obtain ⟨a, v, n, m, rfl, _⟩ := h
    rfl
  obtain ⟨a, v, n, m, rfl, hn, hv, g, one, t0, p0, k⟩ := h
  refine ⟨_, (pss_cons (ps_set (i := 2) sc_nover.nd rfl (Or.inl rfl) (callA F__argument (hr.mono (by decide)) rfl (pa_cons (pv 1) pa_nil)))
    (pss_cons (ps_set (i := 3) sc_nover.nd rfl (Or.inl rfl) (callA F__common_root (hr.mono (by decide)) rfl (pa_cons (pv 0) (pa_cons (pv 2) pa_nil))))
    (pss_cons (ps_if (pt_cmpR op_eq (propA F_sign NC.cl (hr.mono (by decide)) (pv 2)) pe_int (nomark _)) (pss_one (raiseX EO rfl (takes_of rfl rfl rfl rfl) rfl)) pss_nil)
    (pss_cons (ps_set (i := 4) sc_nover.nd rfl (Or.inl rfl) (pe_op op_mulW (pe_op op_sub (pe_op op_mulW (pe_fld (pv 0) rfl) (propA F_top NC.cl (hr.mono (by decide)) (pv 2))) (pe_op op_mulW (pe_op op_mulW (pe_fld (pv 0) rfl) (propA F_part NC.cl (hr.mono (by decide)) (pv 2))) (pv 3))) (propA F_bottom NC.cl (hr.mono (by decide)) (pv 2))))
    (pss_cons (ps_set (i := 5) sc_nover.nd rfl (Or.inl rfl) (pe_op op_mulW (pe_op op_sub (pe_op op_mulW (pe_fld (pv 0) rfl) (propA F_top NC.cl (hr.mono (by decide)) (pv 2))) (pe_op op_mulW (pe_fld (pv 0) rfl) (propA F_part NC.cl (hr.mono (by decide)) (pv 2)))) (propA F_bottom NC.cl (hr.mono (by decide)) (pv 2))))
    (pss_one (ps_ret (mk4A F_init NC.g (hr.mono (by decide)) rfl (pa_cons (pv 4) (pa_cons (pv 5) pa_nil)) (pk_cons (pv 3) (pk_cons (pe_op op_mulW (pe_fld (pv 0) rfl) (callA F__norm_above (hr.mono (by decide)) rfl (pa_cons (pv 2) pa_nil))) pk_nil)))))))))), _, rfl, v, m, rfl, hv, fun b H1 e1 hm => ?_⟩
  refine ⟨_, rfl, _, rfl, a, b, n, m, rfl, hn.ext e1, hm, one, ?_⟩
  refine ⟨_, rfl, prop_use hm ⟨b, m, rfl, hm, g.mono (by decide), fun H2 e2 => ⟨rfl, _, rfl, ite2 (fun _ => k H2 (e1.trans e2)) (fun h => ?_)⟩⟩⟩
  have e : sgn m.t m.p m.r = 0 := by rw [t0, p0]; rfl
  exfalso
  exact h (by show decide (V.int (sgn m.t m.p m.r) = V.int 0) = true; rw [e]; rfl)
end
end My
namespace My
open PySem PySem.Spec PyProof.Rows L2
local macro_rules | `(tactic| walk_at "side") => `(tactic| first | assumption | decide | exact Or.inl ⟨by decide, by decide⟩ | exact Or.inr ⟨by decide, by decide⟩ | exact ⟨by decide, by decide, by decide⟩ | omega | (unfold CMulW; decide +kernel) | (dsimp only; first | assumption | omega | decide +kernel) | exact len_ok (Nat.le_of_ble_eq_true rfl) | fail "side")
local macro_rules | `(tactic| walk_at "rd") => `(tactic| first
  | refine ⟨_, _, _, _, rfl, rfl, SqL.of upd_same, atI_nat (j := 0) rfl, ?_⟩ | refine ⟨_, _, _, _, rfl, rfl, SqL.of upd_same, atI_nat (j := 1) rfl, ?_⟩ | refine ⟨_, _, _, _, rfl, rfl, SqL.of upd_same, atI_nat (j := 2) rfl, ?_⟩
  | refine ⟨_, _, _, _, rfl, rfl, upd_same, rfl, ?_⟩
  | refine ⟨_, _, rfl, rfl, ?_⟩ | refine ⟨_, rfl, ?_⟩ | refine ⟨_, _, rfl, ?_⟩ | refine Or.inl ⟨_, rfl, ?_⟩ | refine Or.inr ⟨_, rfl, ?_⟩ | refine ⟨(by walk_at "side"), ?_⟩ | fail "rd")

abbrev s_lword : Stmt := top 34
theorem sc_lword : FnScope ["_law_call"] ["_law_call"] (defScope s_lword) := ⟨rfl, rfl, rfl, by decide +kernel, rfl, by decide +kernel, by decide +kernel⟩
/-- told: the call's end, or which of the two errors it was -/
def TTw (K : PySem.W.Frag) (IN IO : Addr) : (XK → Hp → VK → Prop) → Hp → VK → Prop := fun tl H Q =>
  tl (fun cls _ H' => ∃ b, PySem.W.exmOne K cls (.ref IN) = some b ∧ (b = true → Q (.str "number") H') ∧ (b = false → ∃ b2, PySem.W.exmOne K cls (.ref IO) = some b2 ∧ (b2 = true → Q (.str "operation") H') ∧ (b2 = false → False))) H (fun _ H' => Q (.str "fine") H')
section
variable {X : Cx} {IN IO : Addr}
theorem word_gives {q : Str} {g : Addr} {cdg : Value} (hI : X.mg "InvalidNumber" = some (.ref IN)) (hO : X.mg "InvalidOperation" = some (.ref IO)) :
    LamX.GivesTo X ["_law_call"] "_law_word" (defScope s_lword) g cdg (defBody s_lword) "_law_call" q (TTw X.K IN IO) := by
  intro f c' s H Q tl act hc h
  refine ⟨_, pss_cons (ps_try_many (X := (cxOf C8.CX0 X.prog X.w X.K X.mg X.base ["_law_call"] "_law_word" (defScope s_lword) g cdg X.A X.stack s H C8.E0).nox)
      (l := [(.ref IN, fun _ _ _ => tRet (tC (.str "number"))), (.ref IO, fun _ _ _ => tRet (tC (.str "operation")))])
      (tb := fun W D σ H => ∃ Ech : XK, (∀ cls d σ' H', Ech cls d H' → W cls d σ' H') ∧ σ[0]? = some (some (.ref f)) ∧ H c' = some (LamX.CodeO c' q) ∧ tl Ech H fun _ H' => D.nx σ H')
      rfl rfl LamX.takes0 (fun W pn xe tk _ => ?_) (.cons ⟨rfl, by decide, .inl hI⟩ (fun a oe cls d pn _ _ => pss_one (ps_ret pe_str)) (.cons ⟨rfl, by decide, .inl hO⟩ (fun a oe cls d pn _ _ => pss_one (ps_ret pe_str)) .nil))) (pss_one (ps_ret pe_str)), ?_⟩
  · refine ⟨fun pins s' σ H' D I h' => ?_⟩
    obtain ⟨Ech, hW, h1, h2, h3⟩ := h'
    exact (pss_one (ps_expr (act W pn xe Ech _ _ tk hW))).run pins s' σ H' D I ⟨h1, h2, h3⟩
  · exact ⟨fun cls _ H' => ∃ b, PySem.W.exmOne X.K cls (.ref IN) = some b ∧ (b = true → Q (.str "number") H') ∧ (b = false → ∃ b2, PySem.W.exmOne X.K cls (.ref IO) = some b2 ∧ (b2 = true → Q (.str "operation") H') ∧ (b2 = false → False)),
      fun cls d σ' H' ⟨b, e1, e2, e3⟩ => ⟨b, e1, fun hb a _ => e2 hb, fun hb => let ⟨b2, f1, f2, f3⟩ := e3 hb; ⟨b2, f1, fun hb2 a _ => f2 hb2, fun hb2 => f3 hb2⟩⟩, rfl, hc, h⟩
end
end My
namespace My
open PySem PySem.Spec PyProof.Rows L2
local macro_rules | `(tactic| walk_at "side") => `(tactic| first | assumption | decide | exact Or.inl ⟨by decide, by decide⟩ | exact Or.inr ⟨by decide, by decide⟩ | exact ⟨by decide, by decide, by decide⟩ | omega | (unfold CMulW; decide +kernel) | (dsimp only; first | assumption | omega | decide +kernel) | exact len_ok (Nat.le_of_ble_eq_true rfl) | fail "side")
local macro_rules | `(tactic| walk_at "rd") => `(tactic| first
  | refine ⟨_, _, _, _, rfl, rfl, SqL.of upd_same, atI_nat (j := 0) rfl, ?_⟩ | refine ⟨_, _, _, _, rfl, rfl, SqL.of upd_same, atI_nat (j := 1) rfl, ?_⟩ | refine ⟨_, _, _, _, rfl, rfl, SqL.of upd_same, atI_nat (j := 2) rfl, ?_⟩
  | refine ⟨_, _, _, _, rfl, rfl, upd_same, rfl, ?_⟩
  | refine ⟨_, _, rfl, rfl, ?_⟩ | refine ⟨_, rfl, ?_⟩ | refine ⟨_, _, rfl, ?_⟩ | refine Or.inl ⟨_, rfl, ?_⟩ | refine Or.inr ⟨_, rfl, ?_⟩ | refine ⟨(by walk_at "side"), ?_⟩ | fail "rd")

abbrev s_lwrong : Stmt := top 35
theorem sc_lwrong : FnScope ["_law_way", "_law_odd", "_law_root"] ["_law_way", "_law_odd", "_law_root"] (defScope s_lwrong) := ⟨rfl, rfl, rfl, by decide +kernel, rfl, by decide +kernel, by decide +kernel⟩
/-- a root that is none: an integer that may not be one, or another value -/
def BadRoot (K : PySem.W.Frag) (H : Hp) (v : V) : Prop := VK2 K H v ∧ ∀ r, v = .int r → r ≠ 0 ∧ rootOk r = false
theorem vk_int {K : PySem.W.Frag} {H : Hp} {i : Int} : VK2 K H (.int i) := .inl ⟨i, rfl⟩
theorem valid_b0 {t p r : Int} : validN t p r 0 = false := by unfold validN; rw [if_pos rfl]
theorem valid_root {t p r b : Int} (h : r ≠ 0) (g : rootOk r = false) : validN t p r b = false := by
  unfold validN
  by_cases z : b = 0
  · rw [if_pos z]
  · rw [if_neg z, if_neg h, g]
def spWrong (K : PySem.W.Frag) (IN : Addr) : Sp := fun vs H _ E => ∃ (w : Nat) (odd R : V), vs = [.int w, odd, R] ∧ w < 8 ∧ OddK K H odd ∧ BadRoot K H R ∧ ∀ H', Ext H H' → E (.ref IN) none H'
section
variable {P : Program} {w : World} {K : PySem.W.Frag} {mg : Str → Option Value} {base : Heap} {C IN IO : Addr}
theorem initX_use {H : Hp} {Q : VK} {E : XK} {a b c d : V} (bad : BadArgs K H a b c d) (k : ∀ H', Ext H H' → E (.ref IN) none H') : ∀ x dx, H x = none → H dx = none → dx ≠ x → spInitX K C IN (.ref x :: [a, b, c, d]) (upd (upd H dx (.own x)) x (.ins C dx [])) (fun v H3 => v = .non ∧ Q (.ref x) H3) E :=
  fun x dx hx hdx hne => by
    have e1 : Ext H (upd (upd H dx (.own x)) x (.ins C dx [])) := fun a u q => by
      rw [upd_ne (ne_of_none q hx), upd_ne (ne_of_none q hdx)]
      exact q
    exact ⟨x, a, b, c, d, rfl, bad.ext e1, fun H' e => k H' (e1.trans e)⟩
theorem ok_lwrong (D : DefAt K mg "_law_wrong" s_lwrong) (NC : NumT K mg C) (F_init : InitXAt P w K mg base 3 C (spInitX K C IN)) : FxAt P w K mg base 5 "_law_wrong" ["_law_way", "_law_odd", "_law_root"] (spWrong K IN) := by
  refine fxAt D sc_lwrong (fun _ _ _ _ _ _ us hl => match us, hl with | [_, _, _], _ => rfl) (fun vs H Q E h => ?_) fun f cdv A outer s H vs Q E hr h => ?_
  · obtain ⟨w, odd, R, rfl, _⟩ := h
    rfl
  obtain ⟨w, odd, R, rfl, hw, ho, ⟨hR, hR2⟩, k⟩ := h
  have vo : VK2 K H odd := .inr ho
  have n0 : ∀ i, odd ≠ .int i := ho.ni
  refine ⟨_, (pss_cons (ps_if (pt_cmpR op_eq (pv 0) pe_int (nomark _)) (pss_one (ps_ret (mk1X F_init NC.g (hr.mono (by decide)) rfl (takes_of rfl rfl rfl rfl) (fun _ _ _ _ h => h) (pa_cons (pv 1) pa_nil)))) pss_nil)
    (pss_cons (ps_if (pt_cmpR op_eq (pv 0) pe_int (nomark _)) (pss_one (ps_ret (mkRX F_init NC.g (hr.mono (by decide)) rfl (takes_of rfl rfl rfl rfl) (fun _ _ _ _ h => h) (pa_cons pe_int (pa_cons (pv 1) pa_nil)) (pk_cons pe_int pk_nil)))) pss_nil)
    (pss_cons (ps_if (pt_cmpR op_eq (pv 0) pe_int (nomark _)) (pss_one (ps_ret (mk2X F_init NC.g (hr.mono (by decide)) rfl (takes_of rfl rfl rfl rfl) (fun _ _ _ _ h => h) (pa_cons pe_int pa_nil) (pk_cons (pv 1) pk_nil)))) pss_nil)
    (pss_cons (ps_if (pt_cmpR op_eq (pv 0) pe_int (nomark _)) (pss_one (ps_ret (mk2X F_init NC.g (hr.mono (by decide)) rfl (takes_of rfl rfl rfl rfl) (fun _ _ _ _ h => h) (pa_cons pe_int pa_nil) (pk_cons pe_int pk_nil)))) pss_nil)
    (pss_cons (ps_if (pt_cmpR op_eq (pv 0) pe_int (nomark _)) (pss_one (ps_ret (mkPX F_init NC.g (hr.mono (by decide)) rfl (takes_of rfl rfl rfl rfl) (fun _ _ _ _ h => h) (pa_cons pe_int (pa_cons pe_int pa_nil))))) pss_nil)
    (pss_cons (ps_if (pt_cmpR op_eq (pv 0) pe_int (nomark _)) (pss_one (ps_ret (mkRX F_init NC.g (hr.mono (by decide)) rfl (takes_of rfl rfl rfl rfl) (fun _ _ _ _ h => h) (pa_cons pe_int (pa_cons pe_int pa_nil)) (pk_cons (pv 2) pk_nil)))) pss_nil)
    (pss_cons (ps_if (pt_cmpR op_eq (pv 0) pe_int (nomark _)) (pss_one (ps_ret (mkRX F_init NC.g (hr.mono (by decide)) rfl (takes_of rfl rfl rfl rfl) (fun _ _ _ _ h => h) (pa_cons pe_int (pa_cons pe_int pa_nil)) (pk_cons (pv 2) pk_nil)))) pss_nil)
    (pss_one (ps_ret (mk4X F_init NC.g (hr.mono (by decide)) rfl (takes_of rfl rfl rfl rfl) (fun _ _ _ _ h => h) (pa_cons (pv 1) (pa_cons (pv 1) pa_nil)) (pk_cons (pv 2) (pk_cons pe_int pk_nil)))))))))))), ?_⟩
  have no : ∀ i j : Nat, i ≠ j → decide (V.int (i : Int) = V.int (j : Int)) = false := fun i j h => decide_eq_false fun z => h (by have := V.int.inj z; omega)
  match w, hw with
  | 0, _ => exact ⟨_, rfl, rfl, _, rfl, iteT ⟨_, rfl, initX_use ⟨vo, vk_int, vk_int, vk_int, fun t _ _ _ e _ _ _ => absurd e (n0 t)⟩ k⟩⟩
  | 1, _ => exact ⟨_, rfl, rfl, _, rfl, iteF ⟨_, rfl, rfl, _, rfl, iteT ⟨_, rfl, rfl, rfl, initX_use ⟨vk_int, vo, vk_int, vk_int, fun _ p _ _ _ e _ _ => absurd e (n0 p)⟩ k⟩⟩⟩
  | 2, _ => exact ⟨_, rfl, rfl, _, rfl, iteF ⟨_, rfl, rfl, _, rfl, iteF ⟨_, rfl, rfl, _, rfl, iteT ⟨_, rfl, rfl, rfl, initX_use ⟨vk_int, vk_int, vk_int, vo, fun _ _ _ m _ _ _ e => absurd e (n0 m)⟩ k⟩⟩⟩⟩
  | 3, _ => exact ⟨_, rfl, rfl, _, rfl, iteF ⟨_, rfl, rfl, _, rfl, iteF ⟨_, rfl, rfl, _, rfl, iteF ⟨_, rfl, rfl, _, rfl, iteT ⟨rfl, rfl, initX_use ⟨vk_int, vk_int, vk_int, vk_int, fun _ _ _ m _ _ _ e => by rw [← V.int.inj e]; exact valid_b0⟩ k⟩⟩⟩⟩⟩
  | 4, _ => exact ⟨_, rfl, rfl, _, rfl, iteF ⟨_, rfl, rfl, _, rfl, iteF ⟨_, rfl, rfl, _, rfl, iteF ⟨_, rfl, rfl, _, rfl, iteF ⟨_, rfl, rfl, _, rfl, iteT (initX_use ⟨vk_int, vk_int, vk_int, vk_int, fun _ p r m _ e1 e2 e3 => by rw [← V.int.inj e1, ← V.int.inj e2, ← V.int.inj e3]; rfl⟩ k)⟩⟩⟩⟩⟩
  | 5, _ => exact ⟨_, rfl, rfl, _, rfl, iteF ⟨_, rfl, rfl, _, rfl, iteF ⟨_, rfl, rfl, _, rfl, iteF ⟨_, rfl, rfl, _, rfl, iteF ⟨_, rfl, rfl, _, rfl, iteF ⟨_, rfl, rfl, _, rfl, iteT ⟨_, rfl, rfl, rfl, initX_use ⟨vk_int, vk_int, hR, vk_int, fun _ _ r _ _ _ e _ => valid_root (hR2 r e).1 (hR2 r e).2⟩ k⟩⟩⟩⟩⟩⟩⟩
  | 6, _ => exact ⟨_, rfl, rfl, _, rfl, iteF ⟨_, rfl, rfl, _, rfl, iteF ⟨_, rfl, rfl, _, rfl, iteF ⟨_, rfl, rfl, _, rfl, iteF ⟨_, rfl, rfl, _, rfl, iteF ⟨_, rfl, rfl, _, rfl, iteF ⟨_, rfl, rfl, _, rfl, iteT ⟨_, rfl, rfl, rfl, initX_use ⟨vk_int, vk_int, hR, vk_int, fun _ _ r _ _ _ e _ => valid_root (hR2 r e).1 (hR2 r e).2⟩ k⟩⟩⟩⟩⟩⟩⟩⟩
  | 7, _ => exact ⟨_, rfl, rfl, _, rfl, iteF ⟨_, rfl, rfl, _, rfl, iteF ⟨_, rfl, rfl, _, rfl, iteF ⟨_, rfl, rfl, _, rfl, iteF ⟨_, rfl, rfl, _, rfl, iteF ⟨_, rfl, rfl, _, rfl, iteF ⟨_, rfl, rfl, _, rfl, iteF ⟨_, rfl, _, rfl, _, rfl, rfl, rfl, initX_use ⟨vo, vo, hR, vk_int, fun t _ _ _ e _ _ _ => absurd e (n0 t)⟩ k⟩⟩⟩⟩⟩⟩⟩⟩
end
end My
namespace My
open PySem PySem.Spec PyProof.Rows L2
local macro_rules | `(tactic| walk_at "side") => `(tactic| first | assumption | decide | exact Or.inl ⟨by decide, by decide⟩ | exact Or.inr ⟨by decide, by decide⟩ | exact ⟨by decide, by decide, by decide⟩ | omega | (unfold CMulW; decide +kernel) | (dsimp only; first | assumption | omega | decide +kernel) | exact len_ok (Nat.le_of_ble_eq_true rfl) | fail "side")
local macro_rules | `(tactic| walk_at "rd") => `(tactic| first
  | refine ⟨_, _, _, _, rfl, rfl, SqL.of upd_same, atI_nat (j := 0) rfl, ?_⟩ | refine ⟨_, _, _, _, rfl, rfl, SqL.of upd_same, atI_nat (j := 1) rfl, ?_⟩ | refine ⟨_, _, _, _, rfl, rfl, SqL.of upd_same, atI_nat (j := 2) rfl, ?_⟩
  | refine ⟨_, _, _, _, rfl, rfl, upd_same, rfl, ?_⟩
  | refine ⟨_, _, rfl, rfl, ?_⟩ | refine ⟨_, rfl, ?_⟩ | refine ⟨_, _, rfl, ?_⟩ | refine Or.inl ⟨_, rfl, ?_⟩ | refine Or.inr ⟨_, rfl, ?_⟩ | refine ⟨(by walk_at "side"), ?_⟩ | fail "rd")

/-! ### a set of whole numbers, made by a comprehension -/
abbrev emptyS (w : World) : Obj := ⟨.type "set", none, .set #[] 0 (.fresh 0 0 (!w.params.followText "set-order")), #[]⟩
/-- what is made behind each turn: W, by the turn and what is left to do -/
abbrev SBlock (w : World) (J : It) (g : TG) (tt : TT) (te : TE) (vs : List Nat) (σ : L2.St) (H1 : Hp) (D : Addr) (Qd : Hp → Prop) : Prop :=
  ∃ W : Nat → Nat → Hp → Prop, (∃ m, W 0 m (upd H1 D (SetO w D (fun _ => false) 0))) ∧ ∀ i m H, W i m H →
    (J.stop i H ∧ Qd H) ∨ (J.go i H ∧ ∃ Nx : Hp → Prop, (∀ H', Nx H' → ∃ m', m' < m ∧ W (i + 1) m' H') ∧
      ∀ x H', J.yld i H x H' → g x (wipe σ vs) H' fun σ2 H2 => wipe σ2 vs = wipe σ vs ∧ tt σ2 H2 fun b H3 => if b = true then te σ2 H3 fun y H4 => rSAdd w (.ref D) [y] H4 fun _ H5 => Nx H5 else Nx H3)
def tScI (w : World) (wi : TI) (g : TG) (tt : TT) (te : TE) (vs : List Nat) : TE := fun σ H Q => wi σ H fun J H1 => ∀ D, H1 D = none → SBlock w J g tt te vs σ H1 D fun H' => Q (.ref D) H'
section
variable {X : Cx}
theorem pe_scI {elt tg iter : Expr} {ifs : List Expr} {scope : Scope} {own : List (PySem.Str × Nat)} {pos : Pos} {wi : TI} {g : TG} {tt : TT} {te : TE} (hc : X.calm = true) (hN : X.N.Nodup) (hi : PI X tg iter wi) (ok : BlkOk X.N X.env.scope scope own)
    (hg : ∀ (sb : Shared) (Hb : Hp) (L : Addr) (cs : List (PySem.Str × Addr)) (fb : List Addr), PG (X.blk sb Hb scope (compEnvC scope cs L X.env) fb) tg g)
    (ht : ∀ (sb : Shared) (Hb : Hp) (L : Addr) (cs : List (PySem.Str × Addr)) (fb : List Addr), PTs (X.blk sb Hb scope (compEnvC scope cs L X.env) fb) ifs tt)
    (he : ∀ (sb : Shared) (Hb : Hp) (L : Addr) (cs : List (PySem.Str × Addr)) (fb : List Addr), PE (X.blk sb Hb scope (compEnvC scope cs L X.env) fb) elt te)
    (hs : ∀ x, foldedSetIterable iter X.env x = pure x := by intro _; rfl) : PE X (.SetComp elt [⟨tg, iter, ifs, 0⟩] scope pos) (tScI X.w wi g tt te (own.map (·.2))) := by
  refine ⟨fun pins s σ H Q I h => ?_⟩
  rw [PpSet.eval_SetComp]
  have cells : ∀ y ∈ scope.names, y.2 = .free → ∃ c, X.env.cells.lookup y.1 = some c := fun y hy e => (ok.free y hy e).elim (fun z => I.ok.has _ (.inl z)) fun z => I.ok.has _ (.inr z)
  refine wpAny_comprehension_free rfl hs (closure_ok cells) ok.kind (fun y hy e => (ok.uniq y hy).trans (congrArg some e)) ?_
  refine thn (hi.run pins s σ H _ I h) fun _ _ hx => thn hx fun _ sI hIt => ?_
  obtain ⟨it, fb, tn, J, HI, rfl, iI, T, tn0, ff, blk⟩ := hIt
  refine PpSet.newSet_ok (newEnv_comp ?_)
  obtain ⟨W, ⟨mW, w0⟩, turn⟩ := blk sI.heap.objs.size (iI.hok.fresh (Nat.le_refl _))
  -- with the new set
  have lt : ∀ b ∈ fb, b < sI.heap.objs.size := fun b hb => let ⟨_, e, _⟩ := T.obj _ _ tn0 b hb; Heap.lt_size e
  have sR : SetR X.w (sI.heap.push (emptyS X.w)) sI.heap.objs.size (fun _ => false) 0 := setR_fresh X.w
  generalize eD : sI.heap.objs.size = D at *
  generalize eN : sI.heap.push (emptyS X.w) = hN2 at *
  have szN : hN2.objs.size = D + 1 := by rw [← eN, Heap.size_push, eD]
  have kN : ∀ b o, sI.heap.get? b = some o → hN2.get? b = some o := fun b o e => by rw [← eN]; exact Heap.get?_push_of_some _ e
  generalize eS : ({ sI with heap := hN2 } : Shared) = sN
  have eSh : sN.heap = hN2 := by rw [← eS]
  generalize eH : upd HI D (SetO X.w D (fun _ => false) 0) = HN at *
  have iN : Inv X pins σ HN sN := by
    rw [← eH, ← eS]
    exact iI.laid (t' := sI.toks) kN (Nat.le_of_eq eD) (setO_new sR)
  have fN : ∀ b ∈ fb, FpOk X pins HN b ∧ b < sN.heap.objs.size := fun b hb => by
    have l : b < D := lt b hb
    have f := ff b hb
    refine ⟨⟨?_, f.2⟩, by rw [eSh, szN]; exact Nat.lt_succ_of_lt l⟩
    rw [← eH, upd_ne (Nat.ne_of_lt l)]
    exact f.1
  have tN : tn 0 sN.heap := T.keep _ _ _ tn0 fun b _ o e => by rw [eSh]; exact kN b o e
  have iB := block_start iN ok hN fN
  have pg := hg sN HN sN.heap.objs.size (cellsFrom (sN.heap.objs.size + 1) scope.names (cloFrom X.env.cells scope.names [])) fb
  have pt := ht sN HN sN.heap.objs.size (cellsFrom (sN.heap.objs.size + 1) scope.names (cloFrom X.env.cells scope.names [])) fb
  have pe := he sN HN sN.heap.objs.size (cellsFrom (sN.heap.objs.size + 1) scope.names (cloFrom X.env.cells scope.names [])) fb
  have goal : ∀ eb : Env, eb = compEnvC scope (cellsFrom (sN.heap.objs.size + 1) scope.names (cloFrom X.env.cells scope.names [])) sN.heap.objs.size X.env →
      codeAny (model X.prog X.w) X.A (.compStart (.SetComp elt [⟨tg, iter, ifs, 0⟩] scope pos) 0 (.ref it) (.ref D) eb) (compPost (model X.prog X.w) X.A X.xe none (EP X pins σ Q) (.ref D) sN.heap.objs.size)
        { sN with heap := pushCells (sN.heap.push { cls := .type "dict", data := .dict #[] }) scope.names } := by
    intro eb hb
    rw [← hb] at iB pg pt pe
    have locB : eb.locals = sN.heap.objs.size := by rw [hb]; rfl
    generalize eB : ({ sN with heap := pushCells (sN.heap.push { cls := .type "dict", data := .dict #[] }) scope.names } : Shared) = sB at iB ⊢
    have tB : tn 0 sB.heap := T.keep _ _ _ tN fun b _ o e => by rw [← eB]; exact pushCells_keeps _ _ _ _ (Heap.get?_push_of_some _ e)
    have still : ∀ {σz : L2.St} {Hz : Hp} {sz : Shared}, Inv (X.blk sN HN scope eb fb) [] σz Hz sz → (∀ b ∈ fb, Hz b = none) → ∀ b ∈ fb, FpOk (X.blk sN HN scope eb fb) [] Hz b := fun iz nz b hb =>
      ⟨nz b hb, (iz.ok.exf b hb).1, iz.ok.exfs b hb, .inl hb, fun x c e => (iz.ok.exf b hb).2 x c e, fun p hp => nomatch (show p ∈ ([] : List (Addr × Obj)) ++ [] from hp)⟩
    have loop : codeAny (model X.prog X.w) X.A (.compLoop (.SetComp elt [⟨tg, iter, ifs, 0⟩] scope pos) 0 (.ref it) (.ref D) eb) (compPost (model X.prog X.w) X.A X.xe none (EP X pins σ Q) (.ref D) sN.heap.objs.size) sB := by
      refine PpSet.compLoopS_any (fun m sz => ∃ i Hz, W i m Hz ∧ tn i sz.heap ∧ (∀ b ∈ fb, Hz b = none) ∧ Inv (X.blk sN HN scope eb fb) [] (wipe σ (own.map (·.2))) Hz sz) (fun m s5 hI => ?_) mW ⟨0, HN, w0, tB, fun b hb => (fN b hb).1.1, iB⟩
      obtain ⟨i, H5, w5, t5, n5, i5⟩ := hI
      rcases turn i m H5 w5 with ⟨stop, fin⟩ | ⟨go, Nx, less, step⟩
      · refine thnF (T.done (X.blk sN HN scope eb fb) rfl rfl rfl hc i [] s5 _ H5 (fun _ _ => False) i5 (still i5 n5) t5 stop) fun r s6 ⟨er, i6⟩ => ?_
        subst er
        have iX : Inv X pins σ H5 s6 := iN.call' (ch := fb) i6.os i6.base i6.hok i6.bare fun b hb => let f := (fN b hb).1; ⟨f.2.2.2.1, f.2.1, f.2.2.2.2.1, f.2.2.2.2.2⟩
        have free : H5 sN.heap.objs.size = none := locB ▸ (show H5 eb.locals = none from i6.free)
        obtain ⟨mN, hnN, _⟩ := i6.loc
        have hnN : s6.heap.Ns sN.heap.objs.size mN := locB ▸ (show s6.heap.Ns eb.locals mN from hnN)
        obtain ⟨f0, f1, f2, f3, f4, f5⟩ := iN.fpOk (Nat.le_refl _) free
        refine ⟨mN, hnN, fun h'' same => ?_⟩
        exact ⟨.ref D, H5, iX.turned (t' := s6.toks) (fun b o nb e => (same.2 b nb).trans e) f0 f1 f3 f4 f5, rfl, fin⟩
      · refine thnF (T.item (X.blk sN HN scope eb fb) rfl rfl rfl hc i [] s5 _ H5 (fun _ _ => False) i5 (still i5 n5) t5 go) fun r s6 ⟨u, er, h6⟩ => ?_
        subst er
        refine thnF h6 fun _ s7 ⟨x, H7, i7, r7, y7, t7, n7⟩ => ?_
        refine thnF (pg.run _ s7 _ H7 x u _ (i7.pinned (still i7 n7) (T.obj _ _ t7)) r7 (step x H7 y7)) fun _ s8 ⟨σ8, H8, i8, hw, q8⟩ => ?_
        have next : ∀ {sz : Shared} {Hz : Hp}, Inv (X.blk sN HN scope eb fb) ([] ++ pinsAt fb s7.heap) σ8 Hz sz → Nx Hz → ∃ k, k < m ∧ ∃ i Hz, W i k Hz ∧ tn i sz.heap ∧ (∀ b ∈ fb, Hz b = none) ∧ Inv (X.blk sN HN scope eb fb) [] (wipe σ (own.map (·.2))) Hz sz := by
          intro sz Hz iz nz
          have pin : ∀ b ∈ fb, ∀ o, s7.heap.get? b = some o → sz.heap.get? b = some o ∧ Hz b = none := fun b hb o e => by
            have z := iz.pin (b, o) (List.mem_append_right _ (List.mem_append_right _ (mem_pinsAt hb e)))
            exact ⟨z.1, z.2.1⟩
          obtain ⟨k, lk, wk⟩ := less Hz nz
          have ll : (wipe σ (own.map (·.2))).length = σ8.length := by rw [← hw]; exact wipe_length σ8 _
          refine ⟨k, lk, i + 1, Hz, wk, T.keep _ _ _ t7 (fun b hb o e => (pin b hb o e).1), fun b hb => let ⟨o, e, _⟩ := T.obj _ _ t7 b hb; (pin b hb o e).2, (iz.unpinned (pins := [])).weak ll fun j v e => ?_⟩
          rw [← hw] at e
          exact (wipe_some e).1
        refine thnF (pt.run _ s8 σ8 H8 _ i8 q8) fun b s9 ⟨H9, i9, q9⟩ => ?_
        cases b with
        | false => exact next i9 q9
        | true =>
          refine thnF (pe.run _ s9 σ8 H9 _ i9 q9) fun z sA ⟨y, HA, iA, rA, qA⟩ => ?_
          refine thnF (mt_sadd (X := X.blk sN HN scope eb fb) _ sA σ8 HA (.ref D) [y] (.ref D) [z] _ iA rfl (.cons rA .nil) qA) fun _ sC ⟨_, HC, iC, _, qC⟩ => next iC qC
    exact PpSet.codeAny_compStart_set loop (T.self X.A 0 _ _ _ tB loop)
  subst eS
  exact goal _ rfl
end
end My
namespace My
open PySem PySem.Spec PyProof.Rows L2
local macro_rules | `(tactic| walk_at "side") => `(tactic| first | assumption | decide | exact Or.inl ⟨by decide, by decide⟩ | exact Or.inr ⟨by decide, by decide⟩ | exact ⟨by decide, by decide, by decide⟩ | omega | (unfold CMulW; decide +kernel) | (dsimp only; first | assumption | omega | decide +kernel) | exact len_ok (Nat.le_of_ble_eq_true rfl) | fail "side")
local macro_rules | `(tactic| walk_at "rd") => `(tactic| first
  | refine ⟨_, _, _, _, rfl, rfl, SqL.of upd_same, atI_nat (j := 0) rfl, ?_⟩ | refine ⟨_, _, _, _, rfl, rfl, SqL.of upd_same, atI_nat (j := 1) rfl, ?_⟩ | refine ⟨_, _, _, _, rfl, rfl, SqL.of upd_same, atI_nat (j := 2) rfl, ?_⟩
  | refine ⟨_, _, _, _, rfl, rfl, upd_same, rfl, ?_⟩
  | refine ⟨_, _, rfl, rfl, ?_⟩ | refine ⟨_, rfl, ?_⟩ | refine ⟨_, _, rfl, ?_⟩ | refine Or.inl ⟨_, rfl, ?_⟩ | refine Or.inr ⟨_, rfl, ?_⟩ | refine ⟨(by walk_at "side"), ?_⟩ | fail "rd")

abbrev s_hor : Stmt := top 14
theorem sc_hor : FnScope ["numbers", "number"] ["numbers"] (defScope s_hor) := ⟨rfl, rfl, rfl, by decide +kernel, rfl, by decide +kernel, by decide +kernel⟩
/-! ### len of sets, repr of truth values -/
def rLenS (w : World) : List V → Hp → VK → Prop := fun vs H Q => ∃ a S n, vs = [.ref a] ∧ H a = some (SetO w a S n) ∧ n < 100000 ∧ Q (.int (n : Nat)) H
def rReprB : List V → Hp → VK → Prop := fun vs H Q => ∃ b : Bool, vs = [.bl b] ∧ Q (.str (if b then "True" else "False")) H
/-- how many are different -/
def difs (l : List Int) : Nat := (l.foldl PyProof.Rows.step_dedup []).length
theorem firstMet_fold (ns : List Int) : ∀ i, i ≤ ns.length → PyProof.Rows.firstMet (fun i => ns.getD i 0) i = (ns.take i).foldl PyProof.Rows.step_dedup []
  | 0, _ => rfl
  | i + 1, h => by
    rw [PyProof.Rows.firstMet_succ, firstMet_fold ns i (by omega), List.take_add_one, List.getElem?_eq_getElem (by omega), Option.toList_some, List.foldl_append, List.getD_eq_getElem?_getD, List.getElem?_eq_getElem (by omega)]
    rfl
def tLenG (K : PySem.W.Frag) (ta : TE) : TE := fun σ H Q => ta σ H fun x H1 => ∃ (l : Addr) (ns : List Int), x = .ref l ∧ SqL K H1 l (ns.map V.int) ∧ ns.length ≤ 4000 ∧ Q (.int (difs ns : Nat)) H1
section
variable {X : Cx}
theorem cr_lenS : CallR X (.builtin "len") (rLenS X.w) := by
  intro pins s σ H vs us Q I r h
  obtain ⟨a, S, n, rfl, ha, hn, q⟩ := h
  cases r with
  | cons r1 r =>
    cases r
    cases r1
    obtain ⟨o, es, ep, t, ho, hex, hd, _, _, _, _, hf, en, _⟩ := setO_get I ha
    exact call_len_set ho hex hd hf (by rw [en]; omega) ⟨.int (n : Nat), H, I.tok _, ⟨_, by rw [en]⟩, q⟩
theorem cr_reprB : CallR X (.builtin "repr") rReprB := by
  intro pins s σ H vs us Q I r h
  obtain ⟨b, rfl, q⟩ := h
  cases r with
  | cons r1 r =>
    cases r
    cases r1
    exact PySem.P.repr_of_bool ⟨.str _, H, I.tok _, ⟨_, rfl⟩, q⟩
theorem pe_lenG {a : Expr} {ta : TE} {p p2 q pos : Pos} (hg : Gl X "len") (hm : X.mg "len" = none) (hg2 : Gl X "set") (hm2 : X.mg "set" = none) (ha : PE X a ta) (hc : X.calm = true := by rfl)
    (na : starEach [a] X.env = (false, eval a X.env) :: starEach [] X.env := by rfl) : PE X (.Call (.Name "len" p) [.Call (.Name "set" p2) [a] [] q] [] pos) (tLenG X.K ta) := by
  refine ⟨fun pins s σ H Q I h => Call_ (ld_blt I hg hm boot_len ?_)⟩
  refine PyProof.Rows.callWith_builtin1 (PyProof.Rows.args_cons (Call_ (ld_blt I hg2 hm2 boot_set ?_)) rfl) rfl rfl
  refine PyProof.Rows.callWith_type1 (PyProof.Rows.args_cons (thn (ha.run pins s σ H _ I h) fun v s1 hv => PyProof.Rows.args_nil ?_) na) na rfl
  obtain ⟨x, H1, I1, rv, l, ns, rfl, hq, hl, q⟩ := hv
  cases rv
  obtain ⟨its, r, pl, _⟩ := I1.list hq
  have sz : its.toArray.size = ns.length := by rw [List.size_toArray, ← r.length, List.length_map]
  refine call_set_list (I1.ok.hd hc) pl.isList (by simpa using RZ.intsAre_vals r) (by rw [sz]; unfold scanBound; omega) fun h' tk S0 kp => PyProof.Rows.args_nil ?_
  rw [sz, firstMet_fold ns _ (Nat.le_refl _), List.take_length] at S0
  obtain ⟨o, es, ep, t, ho, hex, hd, _, _, _, hf, en⟩ := S0
  have I2 : Inv X pins σ H1 { s1 with heap := h', toks := tk } := I1.kept fun b o e => kp b o (Heap.lt_size e) e
  have small : difs ns ≤ ns.length := by
    unfold difs
    have z := PyProof.Rows.firstMet_length_le (fun i => ns.getD i 0) ns.length
    rw [firstMet_fold ns _ (Nat.le_refl _), List.take_length] at z
    exact z
  exact call_len_set ho hex hd hf (by rw [en]; show ((difs ns : Nat) : Int) < _; omega) ⟨.int (difs ns : Nat), H1, I2.tok _, ⟨_, by rw [en]; rfl⟩, q⟩
end
/-! ### a set of the roots -/
/-- the numbers of a tuple, one by one -/
def AllNum (C : Addr) (H : Hp) (xs : List V) (ns : List Nm) : Prop := xs.length = ns.length ∧ ∀ (i : Nat) (x : V), xs[i]? = some x → ∃ (a : Addr) (n : Nm), x = V.ref a ∧ ns[i]? = some n ∧ NumAt C H a n
theorem AllNum.ext {C : Addr} {H H' : Hp} {xs : List V} {ns : List Nm} (h : AllNum C H xs ns) (e : Ext H H') : AllNum C H' xs ns := ⟨h.1, fun i x hi => let ⟨a, n, e1, e2, q⟩ := h.2 i x hi; ⟨a, n, e1, e2, q.ext e⟩⟩
def nz (l : List Int) : List Int := l.filter fun r => !decide (r = 0)
theorem sc_tupI {w : World} {K : PySem.W.Frag} {a : Addr} {xs : List V} {g : TG} {tt : TT} {te : TE} {vs : List Nat} {σ : L2.St} {H1 : Hp} {D : Addr} {Qd : Hp → Prop} (Pv : Nat → Hp → Prop) (h0 : Pv 0 (upd H1 D (SetO w D (fun _ => false) 0))) (hl : ∀ i H, Pv i H → SqT K H a xs)
    (hs : ∀ i x H, xs[i]? = some x → Pv i H → g x (wipe σ vs) H fun σ2 H2 => wipe σ2 vs = wipe σ vs ∧ tt σ2 H2 fun b H3 => if b = true then te σ2 H3 fun y H4 => rSAdd w (.ref D) [y] H4 fun _ H5 => Pv (i + 1) H5 else Pv (i + 1) H3)
    (hd : ∀ H, Pv xs.length H → Qd H) : SBlock w (Itt K a) g tt te vs σ H1 D Qd := by
  refine ⟨fun i m H => m = xs.length - i ∧ i ≤ xs.length ∧ Pv i H, ⟨xs.length, rfl, Nat.zero_le _, h0⟩, fun i m H ⟨em, hi, p⟩ => ?_⟩
  by_cases lt : i < xs.length
  · refine .inr ⟨⟨xs, xs[i], hl i H p, List.getElem?_eq_getElem lt⟩, Pv (i + 1), fun H' p' => ⟨xs.length - (i + 1), by omega, rfl, lt, p'⟩, fun x H' y => ?_⟩
    obtain ⟨rfl, y⟩ := y
    exact hs i x _ (y xs (hl i _ p)) p
  · obtain rfl : i = xs.length := by omega
    exact .inl ⟨⟨xs, hl _ H p, Nat.le_refl _⟩, hd H p⟩
def rootsIn (w : World) (H1 : Hp) (D : Addr) (rs : List Int) (i : Nat) (H : Hp) : Prop := Ext H1 H ∧ ∃ S, H D = some (SetO w D S (difs (nz (rs.take i)))) ∧ ∀ k, S k = decide (k ∈ (nz (rs.take i)).foldl PyProof.Rows.step_dedup [])
theorem foldl_snoc {l : List Int} {k : Int} : (l ++ [k]).foldl PyProof.Rows.step_dedup [] = PyProof.Rows.step_dedup (l.foldl PyProof.Rows.step_dedup []) k := by rw [List.foldl_append]; rfl
theorem step_mem {l : List Int} {k : Int} : PyProof.Rows.step_dedup l k = if k ∈ l then l else l ++ [k] := by
  unfold PyProof.Rows.step_dedup
  by_cases h : k ∈ l
  · rw [if_pos h, if_pos (by simpa using h)]
  · rw [if_neg h, if_neg (by simpa using h)]
theorem nz_take {rs : List Int} {i : Nat} {r : Int} (h : rs[i]? = some r) : nz (rs.take (i + 1)) = if r = 0 then nz (rs.take i) else nz (rs.take i) ++ [r] := by
  unfold nz
  rw [take_next h, List.filter_append]
  by_cases hr : r = 0
  · rw [if_pos hr]; simp [hr]
  · rw [if_neg hr]; simp [hr]
theorem difs_le (l : List Int) : difs l ≤ l.length := by
  have z := PyProof.Rows.firstMet_length_le (fun i => l.getD i 0) l.length
  rw [firstMet_fold l _ (Nat.le_refl _), List.take_length] at z
  exact z
theorem nz_len (l : List Int) : (nz l).length ≤ l.length := List.length_filter_le _ _
section
variable {P : Program} {w : World} {K : PySem.W.Frag} {mg : Str → Option Value} {base : Heap} {C IN : Addr}
def spHor (C : Addr) : Sp := fun vs H Q _ => ∃ a xs ns, vs = [.ref a] ∧ H a = some (.tup xs) ∧ AllNum C H xs ns ∧ xs.length ≤ 1000 ∧ ∀ H', Ext H H' → Q (.bl (decide ((difs (nz (ns.map Nm.r)) : Int) ≤ 1))) H'
theorem kit_tuptup : kitB "tuple" "tuple" = some true := by decide +kernel
theorem ok_hor (T : Bn mg) (D : DefAt K mg "have_one_root" s_hor) (NC : NumT K mg C) (NI : NumI K C) (F_root : PropAt P w K mg base 1 C "root" (spProp C fun n => .int n.r)) : FnAt P w K mg base 3 "have_one_root" ["numbers"] (spHor C) := by
  refine fnAt D sc_hor (fun _ _ _ _ _ _ us hl => match us, hl with | [_], _ => rfl) (fun vs H Q E h => ?_) fun f cdv A outer s H vs Q E hr h => ?_
  · obtain ⟨a, xs, ns, rfl, _⟩ := h
    rfl
  obtain ⟨a, xs, ns, rfl, ha, al, hl, k⟩ := h
  refine ⟨_, (pss_cons (ps_if (PW.pt (pw_or (pt_not (pt_val (pe_callB call_isi (by rfl) T.b_isinstance (by decide +kernel) (pa_cons (pv 0) (pa_cons (pe_bltn (v := .ty "tuple") (by rfl) T.b_tuple (by decide +kernel) rfl) pa_nil))))) (pw_or1 (pt_not (pt_val (pe_callB (cr_all rfl) (by rfl) T.b_all (by decide +kernel) (pa_cons (pe_lc (own := [("number", 1)]) (g := gName 1) (tt := tYes) rfl sc_hor.nd (pi_tup (pv 0)) (blkOk_by (N := ["numbers", "number"]) (sc := defScope s_hor) (by decide +kernel)) (fun _ _ _ _ _ => pg_name (i := 1) sc_hor.nd rfl (Or.inl rfl)) (fun _ _ _ _ _ => pts_nil) (fun _ _ _ _ _ => (pe_callB (show CallR _ (.builtin "isinstance") (rIsi K) from call_isi) (by rfl) T.b_isinstance (by decide +kernel) (pa_cons (pv 1) (pa_cons (pe_glob (v := .ref C) rfl NC.g rfl) pa_nil))))) pa_nil))))))) (pss_one ps_never) pss_nil)
    (pss_one (ps_ret (pe_cmpR op_le (pe_callB cr_lenS (by rfl) T.b_len (by decide +kernel) (pa_cons (pe_scI (own := [("number", 1)]) (g := gName 1) (tt := _) rfl sc_hor.nd (pi_tup (pv 0)) (blkOk_by (N := ["numbers", "number"]) (sc := defScope s_hor) (by decide +kernel)) (fun _ _ _ _ _ => pg_name (i := 1) sc_hor.nd rfl (Or.inl rfl)) (fun _ _ _ _ _ => pts_one (pt_cmpR op_ne (propA F_root NC.cl (hr.mono (by decide)) (pv 1)) pe_int (nomark _))) (fun _ _ _ _ _ => (propA F_root NC.cl (hr.mono (by decide)) (pv 1)))) pa_nil)) pe_int (nomark _))))), ?_⟩
  refine ⟨_, rfl, _, _, _, _, true, rfl, .ty _, .base (.tup ha), kit_ty kit_tuptup, _, rfl, iteF ?_⟩
  refine ⟨_, rfl, a, rfl, ⟨_, SqT.of ha⟩, fun D hD => map_tup (xs := xs) (fun _ _ => .bl true) (SqT.of ha) hD (by omega) (fun _ => rfl) (fun i x H' hi e Q' k' => ?_) fun H' e hl2 => ?_⟩
  · obtain ⟨b, n, rfl, _, hn⟩ := al.2 i x hi
    exact ⟨_, rfl, _, _, _, _, true, rfl, .own C, (hn.ext e).ty NC.cl NI, NI.kNum, k' H' (ext_refl _)⟩
  have eb : (xs.mapIdx fun _ _ => V.bl true) = (xs.map fun _ => true).map V.bl := by
    rw [List.map_map, List.mapIdx_eq_iff]
    intro i
    rw [List.getElem?_map]
    rfl
  rw [eb] at hl2
  refine ⟨D, xs.map fun _ => true, rfl, SqL.of hl2, _, rfl, ?_⟩
  have ea : (xs.map fun _ => true).all id = true := by simp
  refine ite2 (fun h => absurd h (by rw [ea]; decide)) (fun _ => ?_)
  have ha1 := e _ _ ha
  have al1 := al.ext e
  refine ⟨_, rfl, a, rfl, ⟨_, SqT.of ha1⟩, fun D2 hD2 => sc_tupI (xs := xs) (rootsIn w H' D2 (ns.map Nm.r)) ⟨ext_new (ext_refl _) hD2, fun _ => false, upd_same, fun k => by simp [nz]⟩ (fun i H2 p => (SqT.of ha1).ext p.1) (fun i x H2 hi p => ?_) fun H2 p => ?_⟩
  · obtain ⟨b, n, rfl, en, hn⟩ := al1.2 i x hi
    obtain ⟨e2, S, hS, hm⟩ := p
    have hn2 := hn.ext e2
    have er : (ns.map Nm.r)[i]? = some n.r := by rw [List.getElem?_map, en]; rfl
    have hlt : i < xs.length := (List.getElem?_eq_some_iff.mp hi).1
    have small : difs (nz ((ns.map Nm.r).take i)) ≤ 1000 := Nat.le_trans (difs_le _) (Nat.le_trans (nz_len _) (Nat.le_trans (List.length_take_le _ _) (by omega)))
    refine ⟨rfl, _, rfl, pu hn2 ⟨rfl, ?_⟩⟩
    have e0 : (!decide (V.int n.r = V.int 0)) = !decide (n.r = 0) := by rw [e_int]
    rw [e0]
    by_cases hr0 : n.r = 0
    · rw [decide_eq_true hr0]
      refine ⟨_, rfl, ite2 (fun h => absurd h (by decide)) (fun _ => ⟨e2, S, ?_, fun k => ?_⟩)⟩
      · rw [nz_take er, if_pos hr0]; exact hS
      · rw [nz_take er, if_pos hr0]; exact hm k
    · rw [decide_eq_false hr0]
      refine ⟨_, rfl, ite2 (fun _ => ⟨_, rfl, pu hn2 ⟨D2, n.r, S, _, rfl, rfl, hS, by unfold scanBound; omega, ext_mut e2 hD2, fun j => S j || decide (j = n.r), ?_, fun k => ?_⟩⟩) (fun h => absurd rfl h)⟩
      · rw [upd_same, nz_take er, if_neg hr0]
        unfold difs
        rw [foldl_snoc, step_mem, hm n.r]
        by_cases hin : n.r ∈ (nz ((ns.map Nm.r).take i)).foldl PyProof.Rows.step_dedup []
        · rw [if_pos hin, if_pos (decide_eq_true hin)]; rfl
        · rw [if_neg hin, if_neg (by simpa using hin), List.length_append]; rfl
      · rw [nz_take er, if_neg hr0, foldl_snoc, step_mem]
        show (S k || decide (k = n.r)) = _
        rw [hm k]
        by_cases hin : n.r ∈ (nz ((ns.map Nm.r).take i)).foldl PyProof.Rows.step_dedup []
        · rw [if_pos hin]
          by_cases hk : k = n.r
          · subst hk; simp [hin]
          · simp [hk]
        · rw [if_neg hin]
          simp [List.mem_append, Bool.decide_or]
  · obtain ⟨e2, S, hS, hm⟩ := p
    rw [show (ns.map Nm.r).take xs.length = ns.map Nm.r from List.take_of_length_le (by rw [List.length_map, al.1]; exact Nat.le_refl _)] at hS
    have small : difs (nz (ns.map Nm.r)) ≤ 1000 := Nat.le_trans (difs_le _) (Nat.le_trans (nz_len _) (by rw [List.length_map, ← al.1]; exact hl))
    exact ⟨D2, S, _, rfl, hS, by omega, _, _, rfl, rfl, k _ ((e).trans e2)⟩
end
end My
namespace My
open PySem PySem.Spec PyProof.Rows L2
open SeqAt MeetsSeq
open AutoSeq1 (wpAny_loadPart')
/-! ### x == i, x of any kind -/
section
variable {prog : Program} {w : World} {A : Around} {s : Shared} {E : Value → Shared → Prop}
theorem int_declines_dict (b : Int) (u : Tok) (l : Addr) (es : Array DictEntry) (ep : Nat) (dd : Option Addr) (sl : Array (Option Value)) :
    Meets (Builtin.«int.__eq__» ⟨[.int b u, .ref l], []⟩) (fun _ R s => s.heap.get? l = some { cls := .type "dict", dict := dd, data := .dict es ep, slots := sl } ∧ R (.ok (.ret .notImplemented)) s) :=
  .of_wp fun prog w A R s h => by obtain ⟨hp, g, d, tk, os⟩ := s; obtain ⟨hl, h⟩ := h; wp_walk using wpAny_loadPart' hl, wpAny_load hl; exact ⟨_, rfl, h⟩
theorem dict_eq_int {l : Addr} {b : Int} {u : Tok} {es : Array DictEntry} {ep : Nat} {dd : Option Addr} {sl : Array (Option Value)} {Q : Value → Shared → Prop} (ho : s.heap.get? l = some { cls := .type "dict", dict := dd, data := .dict es ep, slots := sl }) (hu : A.units < cLine) (h : Q (.bool false) s) :
    wpAny (model prog w) A (richCompare .Eq (.ref l) (.int b u)) Q E s := by
  have hT : s.TypeIs (.ref l) "dict" := ⟨_, ho, rfl⟩
  refine SeqAt.rc_eq_decline_or (k := false) hT (typeIs_int s b u) (by decide) PySem.F.sub_int_dict PySem.F.slot_dict_eq PySem.F.slot_int_eq_refl (fun Q' hq => ?_)
    (fun _ hq => call_meets PySem.F.slot_int_eq_refl (typeIs_int s b u) PySem.F.entry_int_eq (PySem.F.args_int_eq_2 _ _) (int_declines_dict b u l es ep dd sl) ⟨ho, hq⟩)
    (fun _ hq => wpAny_of_eq (rfl : isSame (.ref l) (.int b u) = pure false) hq) (.inr hu) h
  refine wpAny_call_entry PySem.F.slot_dict_eq hT PySem.F.entry_dict_eq ?_ (PySem.F.args_dict_eq_2 _ _)
  show wpAny _ _ (Builtin.Dict.dictSlotArgs "__eq__" ⟨[.ref l, .int b u], []⟩ >>= _) _ _ s
  refine wpAny_bind ?_
  unfold Builtin.Dict.dictSlotArgs
  refine wpAny_bind (wpAny_notOrdered_dict hT ?_)
  refine wpAny_pure (wpAny_bind (wpAny_isInstance (T := "int") (typeIs_int s b u) PySem.F.sub_int_dict ?_))
  simp only [Bool.not_false, if_true]
  exact wpAny_bind (wpAny_rule (wpAny_pure ⟨_, rfl, hq⟩))
end
local macro_rules | `(tactic| walk_at "side") => `(tactic| first | assumption | decide | exact Or.inl ⟨by decide, by decide⟩ | exact Or.inr ⟨by decide, by decide⟩ | exact ⟨by decide, by decide, by decide⟩ | omega | (unfold CMulW; decide +kernel) | (dsimp only; first | assumption | omega | decide +kernel) | exact len_ok (Nat.le_of_ble_eq_true rfl) | fail "side")
local macro_rules | `(tactic| walk_at "rd") => `(tactic| first
  | refine ⟨_, _, _, _, rfl, rfl, SqL.of upd_same, atI_nat (j := 0) rfl, ?_⟩ | refine ⟨_, _, _, _, rfl, rfl, SqL.of upd_same, atI_nat (j := 1) rfl, ?_⟩ | refine ⟨_, _, _, _, rfl, rfl, SqL.of upd_same, atI_nat (j := 2) rfl, ?_⟩
  | refine ⟨_, _, _, _, rfl, rfl, upd_same, rfl, ?_⟩
  | refine ⟨_, _, rfl, rfl, ?_⟩ | refine ⟨_, rfl, ?_⟩ | refine ⟨_, _, rfl, ?_⟩ | refine Or.inl ⟨_, rfl, ?_⟩ | refine Or.inr ⟨_, rfl, ?_⟩ | refine ⟨(by walk_at "side"), ?_⟩ | fail "rd")

def spEqA (K : PySem.W.Frag) (C : Addr) : Sp := fun vs H Q _ => ∃ a y t n, vs = [.ref a, y] ∧ NumAt C H a n ∧ TyX K H y t ∧ PySem.W.kitOne K t (.ref C) = some false ∧ Q (.bl false) H
/-- x == i, i a whole number -/
def rEqI (K : PySem.W.Frag) (C : Addr) : R2 := fun x y H Q => ∃ i, y = .int i ∧ ((x = .non ∧ Q (.bl false) H) ∨ (∃ b : Bool, x = .bl b ∧ Q (.bl ((if b then 1 else 0) == i)) H) ∨ (∃ j, x = .int j ∧ Q (.bl (j == i)) H) ∨ (∃ z, x = .str z ∧ Q (.bl false) H) ∨
  (∃ a xs, x = .ref a ∧ (H a = some (.lst xs) ∨ H a = some (.tup xs)) ∧ Q (.bl false) H) ∨ (∃ a kvs, x = .ref a ∧ H a = some (.dK kvs) ∧ Q (.bl false) H) ∨ rOwnEqA K C (spEqA K C) E0 x y H Q)
section
variable {X : Cx} {k : Nat} {C : Addr}
theorem op_eqI (F : SpAt X.prog X.w X.K X.mg X.base k C "__eq__" ["self", "other"] (spEqA X.K C)) (hr : Room k X.A) : OpR X (compareOp .Eq) (rEqI X.K C) := by
  intro pins s σ H x y v u Q I rx ry hq
  obtain ⟨i, rfl, hq⟩ := hq
  have hu : X.A.units < cLine := by have := hr.units; omega
  rcases hq with ⟨rfl, q⟩ | ⟨b, rfl, q⟩ | ⟨j, rfl, q⟩ | ⟨z, rfl, q⟩ | ⟨a, xs, rfl, ea, q⟩ | ⟨a, kvs, rfl, ea, q⟩ | hq
  · obtain ⟨t, rfl⟩ := ry
    cases rx
    exact RcAt.none_int i t _ _ _ _ ⟨.bl false, H, I, rfl, q⟩
  · obtain ⟨t, rfl⟩ := ry
    cases rx
    exact RcAt.bool_int b i t _ _ _ _ ⟨.bl _, H, I, rfl, q⟩
  · obtain ⟨t, rfl⟩ := ry
    obtain ⟨t2, rfl⟩ := rx
    exact RcAt.int_int j t2 i t _ _ _ _ ⟨.bl _, H, I, rfl, q⟩
  · obtain ⟨t, rfl⟩ := ry
    obtain ⟨t2, rfl⟩ := rx
    exact RcAt.str_int z t2 i t _ _ _ _ ⟨.bl _, H, I, rfl, q⟩
  · obtain ⟨t, rfl⟩ := ry
    cases rx
    rcases ea with ea | ea
    · obtain ⟨its, _, pl, _⟩ := I.list (SqL.of ea)
      exact RcAt.list_int i t pl.isList hu _ _ _ _ ⟨.bl _, H, I, rfl, q⟩
    · obtain ⟨its, _, pl, _⟩ := I.tuple (SqT.of ea)
      exact RcAt.tuple_int i t pl hu _ _ _ _ ⟨.bl _, H, I, rfl, q⟩
  · obtain ⟨t, rfl⟩ := ry
    cases rx
    obtain ⟨_, _, vs, _, o, es, ep, ho, hex, hd, _⟩ := (show ObjOk X.prog X.w H s.heap a (.dK kvs) from I.hok a _ ea)
    obtain ⟨cls, dd, data, sl⟩ := o
    have hc : cls = .type "dict" := hex.1
    have hd' : data = .dict es ep := hd
    subst hc hd'
    exact dict_eq_int ho hu ⟨.bl _, H, I, rfl, q⟩
  · obtain ⟨f, fd, hs, hf, hb, G⟩ := F.ex
    exact op_ownEqA hs hf G hr hb pass0 pins s σ H x _ v u Q I rx ry hq
end
end My
namespace My
open PySem PySem.Spec PyProof.Rows L2
open LamX (TabB Tabs TabS ExtN CodeO LamS)
/-! ### defs whose code object is told -/
structure DefC (K : PySem.W.Frag) (mg : Str → Option Value) (x : Str) (st : Stmt) (c : Addr) : Prop where
  ex : ∃ (f : Addr) (fd : FuncData), mg x = some (.ref f) ∧ Fun K x x st f fd ∧ fd.code = .ref c
section
variable {P : Program} {w : World} {K : PySem.W.Frag} {mg : Str → Option Value} {base : Heap}
theorem fnC {x : Str} {st : Stmt} {N ps : List Str} {k : Nat} {sp : Sp} {c : Addr} (D : DefC K mg x st c) (S : FnScope N ps (defScope st))
    (hbind : ∀ (kV doc pm : Value) (an : Option Addr) (cdv ct : Value) (us : List Value), us.length = ps.length → bindArgs (PySem.W.fnOf x x (defArgs st) (defBody st) (defScope st) .none kV doc pm an cdv ct) ⟨us, []⟩ = pure (ps.zip us))
    (len : ∀ vs H Q E, sp vs H Q E → vs.length = ps.length)
    (hbody : ∀ (f : Addr) (A : Around) (outer : List Env) (s : Shared) (H : Hp) (vs : List V) (Q : VK) (E : XK), Room k (A.deeper (envOfC x (defScope st) s.heap.objs.size f (.ref c))) → sp vs H Q E →
      ∃ t, PSs (cxOf CX0 P w K mg base N x (defScope st) f (.ref c) A outer s H E).nox (defBody st) t ∧ t { nx := fun _ H' => Q .non H', rt := Q } (start N vs) H) : FnAt P w K mg base (k + 1) x ps sp := by
  obtain ⟨f, fd, hm, F, hc⟩ := D.ex
  have kp := F.kp
  have hb := F.binds hbind
  refine ⟨f, fd, hm, kp, hb, ?_⟩
  obtain ⟨oc, od, kV, doc, pm, an, cdv, ct, osl, e1, lk, hcd⟩ := F.ex
  subst e1
  have ec : cdv = .ref c := hc
  subst ec
  refine ⟨len, fun A outer s H args us vs Q E hr e0 hb r hsp => LamX.run_ofS lk hcd S hr e0 hb r (len _ _ _ _ hsp) fun hr' => ?_⟩
  obtain ⟨t, h, q⟩ := hbody f A outer s H vs Q E hr' hsp
  exact ⟨t, h.nox, q⟩
end
section
variable {X : Cx} {T : List (Addr × Str)} {IN IO c P : Addr} {k : Nat} {params : Arguments} {body : Expr} {scope : Scope} {t : XK → TE} {p lpos pos : Pos}
/-- _law_word(lambda: body) -/
theorem pe_word (Wd : DefAt X.K X.mg "_law_word" s_lword) (hI : X.mg "InvalidNumber" = some (.ref IN)) (hO : X.mg "InvalidOperation" = some (.ref IO)) (TB : TabB X.base X.mg c P) (hcode : X.env.code = .ref c)
    (hmT : (P, X.env.qual ++ "<lambda>") ∈ T) (hu : ∀ p ∈ T, p.1 = P → p.2 = X.env.qual ++ "<lambda>") (hr : Room (k + 2) X.A) (hg : Gl X "_law_word") (L : LamS X.env.scope scope) (hdef : defaultsOf params X.env = ([], []))
    (hbind : ∀ (q : Str) (cl : List (Str × Addr)) (pm cv ctv : Value), bindArgs (PySem.W.kla_fn "<lambda>" q params body scope cl pm cv ctv) ⟨[], []⟩ = pure [])
    (hbody : ∀ (A : Around) (outer : List Env) (s : Shared) (H : Hp) (E : XK) (f c' : Addr), Room k (A.deeper (LamX.lamEnv X scope s.heap.objs.size f c')) → PE (LamX.lamCx X A outer s H E scope f c') body (t E)) :
    PE X (.Call (.Name "_law_word" p) [.Lambda params body scope lpos] [] pos) (LamX.tLam T (TTw X.K IN IO) t) := by
  obtain ⟨g, fd, hm, F⟩ := Wd.ex
  have kp := F.kp
  have hb := F.binds (ps := ["_law_call"]) (fun _ _ _ _ _ _ us hl => match us, hl with | [_], _ => rfl)
  obtain ⟨oc, od, kV, doc, pm, an, cdv, ct, osl, e1, lk, hcd⟩ := F.ex
  subst e1
  exact LamX.pe_lamcall (a := "_law_call") (Ng := ["_law_call"]) hg hm kp lk hcd hb sc_lword rfl (.inl rfl) (word_gives hI hO) TB hcode hmT hu hr L hdef hbind hbody
end
/-- the lambda's name in the def x -/
def lamQ (x : Str) : Str := x ++ ".<locals>." ++ "<lambda>"
/-- what stays and what is known behind calls of lambdas -/
structure Aft (T : List (Addr × Str)) (H H' : Hp) : Prop where
  e : ExtN H H'
  t : Tabs T H'
theorem Aft.trans {T : List (Addr × Str)} {H H1 H2 : Hp} (a : Aft T H H1) (b : Aft T H1 H2) : Aft T H H2 := ⟨a.e.trans b.e, b.t⟩
theorem Aft.ext {T : List (Addr × Str)} {H H1 H2 : Hp} (a : Aft T H H1) (b : Ext H1 H2) : Aft T H H2 := ⟨a.e.trans (ExtN.of b), a.t.ext b⟩
theorem Aft.refl {T : List (Addr × Str)} {H : Hp} (t : Tabs T H) : Aft T H H := ⟨ExtN.refl H, t⟩
theorem Aft.ins {T : List (Addr × Str)} {H H' : Hp} (h : Aft T H H') {a C dx : Addr} {fs : List (Str × V)} (e : H a = some (.ins C dx fs)) : H' a = some (.ins C dx fs) := h.e _ _ e fun _ z => by cases z
theorem Aft.tup {T : List (Addr × Str)} {H H' : Hp} (h : Aft T H H') {a : Addr} {xs : List V} (e : H a = some (.tup xs)) : H' a = some (.tup xs) := h.e _ _ e fun _ z => by cases z
theorem Aft.lst {T : List (Addr × Str)} {H H' : Hp} (h : Aft T H H') {a : Addr} {xs : List V} (e : H a = some (.lst xs)) : H' a = some (.lst xs) := h.e _ _ e fun _ z => by cases z
theorem Aft.dice {T : List (Addr × Str)} {H H' : Hp} (h : Aft T H H') {a : Addr} (e : H a = some (DiceO a)) : H' a = some (DiceO a) := h.e _ _ e fun _ z => by unfold DiceO at z; cases z
theorem Aft.num {T : List (Addr × Str)} {H H' : Hp} (h : Aft T H H') {C a : Addr} {n : Nm} (e : NumAt C H a n) : NumAt C H' a n := let ⟨dx, q⟩ := e; ⟨dx, h.ins q⟩
theorem tyOf_aft {T : List (Addr × Str)} {K : PySem.W.Frag} {H H' : Hp} {v : V} {t : Value} (h : TyOf K H v t) (e : Aft T H H') : TyOf K H' v t := by
  have st : ∀ b o, H b = some o → (∀ ps, o ≠ .tbl ps) → H' b = some o := e.e
  cases h with
  | non => exact .non
  | bl x => exact .bl x
  | int i => exact .int i
  | str x => exact .str x
  | flt x => exact .flt x
  | lst q => exact .lst (st _ _ q fun _ z => by cases z)
  | frz q => exact .frz (st _ _ q fun _ z => by cases z)
  | tup q => exact .tup (st _ _ q fun _ z => by cases z)
  | dK q => exact .dK (st _ _ q fun _ z => by cases z)
  | dT q => exact .dT (st _ _ q fun _ z => by cases z)
  | ins q cl ha hn htk hm => exact .ins (st _ _ q fun _ z => by cases z) cl ha hn htk hm
theorem tyX_aft {T : List (Addr × Str)} {K : PySem.W.Frag} {H H' : Hp} {v : V} {t : Value} (h : TyX K H v t) (e : Aft T H H') : TyX K H' v t := by
  have st : ∀ b o, H b = some o → (∀ ps, o ≠ .tbl ps) → H' b = some o := e.e
  cases h with
  | base h => exact .base (tyOf_aft h e)
  | byt b => exact .byt b
  | set q => exact .set (st _ _ q fun _ z => by cases z)
  | kList q c => exact .kList q c
  | kTuple q c => exact .kTuple q c
  | kDict q c => exact .kDict q c
  | fTuple q => exact .fTuple (st _ _ q fun _ z => by cases z)
  | fDict q => exact .fDict (st _ _ q fun _ z => by cases z)
theorem OddK.aft {T : List (Addr × Str)} {K : PySem.W.Frag} {H H' : Hp} {v : V} (h : OddK K H v) (e : Aft T H H') : OddK K H' v := ⟨h.ni, h.ty.elim .inl fun ⟨t, a, b⟩ => .inr ⟨t, tyX_aft a e, b⟩⟩
theorem OddN.aft {T : List (Addr × Str)} {K : PySem.W.Frag} {C : Addr} {H H' : Hp} {v : V} (h : OddN K C H v) (e : Aft T H H') : OddN K C H' v := ⟨h.o.aft e, let ⟨t, a, b⟩ := h.n; ⟨t, tyX_aft a e, b⟩⟩
theorem VK2.aft {T : List (Addr × Str)} {K : PySem.W.Frag} {H H' : Hp} {v : V} (h : VK2 K H v) (e : Aft T H H') : VK2 K H' v := h.elim .inl fun o => .inr (o.aft e)
theorem BadRoot.aft {T : List (Addr × Str)} {K : PySem.W.Frag} {H H' : Hp} {v : V} (h : BadRoot K H v) (e : Aft T H H') : BadRoot K H' v := ⟨h.1.aft e, h.2⟩
end My
namespace My
open PySem PySem.Spec PyProof.Rows L2
open LamX (TabB Tabs TabS ExtN CodeO LamS)
local macro_rules | `(tactic| walk_at "side") => `(tactic| first | assumption | decide | exact Or.inl ⟨by decide, by decide⟩ | exact Or.inr ⟨by decide, by decide⟩ | exact ⟨by decide, by decide, by decide⟩ | omega | (unfold CMulW; decide +kernel) | (dsimp only; first | assumption | omega | decide +kernel) | exact len_ok (Nat.le_of_ble_eq_true rfl) | fail "side")
local macro_rules | `(tactic| walk_at "rd") => `(tactic| first
  | refine ⟨_, _, _, _, rfl, rfl, SqL.of upd_same, atI_nat (j := 0) rfl, ?_⟩ | refine ⟨_, _, _, _, rfl, rfl, SqL.of upd_same, atI_nat (j := 1) rfl, ?_⟩ | refine ⟨_, _, _, _, rfl, rfl, SqL.of upd_same, atI_nat (j := 2) rfl, ?_⟩
  | refine ⟨_, _, _, _, rfl, rfl, upd_same, rfl, ?_⟩
  | refine ⟨_, _, rfl, rfl, ?_⟩ | refine ⟨_, rfl, ?_⟩ | refine ⟨_, _, rfl, ?_⟩ | refine Or.inl ⟨_, rfl, ?_⟩ | refine Or.inr ⟨_, rfl, ?_⟩ | refine ⟨(by walk_at "side"), ?_⟩ | fail "rd")

abbrev s_lmakes : Stmt := top 36
theorem sc_lmakes : FnScope ["_law_dice_here", "_law_odd", "_law_root", "_law_way", "_law_fine", "_law_made_here"] ["_law_dice_here"] (defScope s_lmakes) := ⟨rfl, rfl, rfl, by decide +kernel, rfl, by decide +kernel, by decide +kernel⟩
structure OddT (K : PySem.W.Frag) (C : Addr) : Prop where
  f1 : PySem.W.notFirst K C (.type "int") = true
  k0 : PySem.W.kitOne K (.type "NoneType") (.ref C) = some false
  k1 : PySem.W.kitOne K (.type "int") (.ref C) = some false
  k2 : PySem.W.kitOne K (.type "bool") (.ref C) = some false
  k3 : PySem.W.kitOne K (.type "str") (.ref C) = some false
  k4 : PySem.W.kitOne K (.type "tuple") (.ref C) = some false
  k5 : PySem.W.kitOne K (.type "list") (.ref C) = some false
  k6 : PySem.W.kitOne K (.type "dict") (.ref C) = some false
/-- what the clauses of the try make of both errors -/
structure ExT (K : PySem.W.Frag) (IN IO : Addr) : Prop where
  nn : PySem.W.exmOne K (.ref IN) (.ref IN) = some true
  on : PySem.W.exmOne K (.ref IO) (.ref IN) = some false
  oo : PySem.W.exmOne K (.ref IO) (.ref IO) = some true
/-- a def of the law that draws and judges -/
def spJ (T : List (Addr × Str)) : Sp := fun vs H Q _ => ∃ a, vs = [.ref a] ∧ H a = some (DiceO a) ∧ Tabs T H ∧ ∀ H', Aft T H H' → Q (.bl true) H'
section
variable {P : Program} {w : World} {K : PySem.W.Frag} {mg : Str → Option Value} {base : Heap} {C IN IO c Pt : Addr} {TL : List (Addr × Str)}
theorem kit_noneint : kitB "NoneType" "int" = some false := by decide +kernel
theorem kit_strint : kitB "str" "int" = some false := by decide +kernel
theorem kit_tupint : kitB "tuple" "int" = some false := by decide +kernel
theorem kit_lstint : kitB "list" "int" = some false := by decide +kernel
theorem kit_dctint : kitB "dict" "int" = some false := by decide +kernel
theorem odd_non {H : Hp} : OddK K H .non := ⟨fun _ => nofun, .inr ⟨_, .base .non, kit_ty kit_noneint⟩⟩
theorem odd_bl {H : Hp} {b : Bool} : OddK K H (.bl b) := ⟨fun _ => nofun, .inl ⟨b, rfl⟩⟩
theorem odd_str {H : Hp} {z : Str} : OddK K H (.str z) := ⟨fun _ => nofun, .inr ⟨_, .base (.str _), kit_ty kit_strint⟩⟩
theorem odd_tup {H : Hp} {a : Addr} {xs : List V} (e : H a = some (.tup xs)) : OddK K H (.ref a) := ⟨fun _ => nofun, .inr ⟨_, .base (.tup e), kit_ty kit_tupint⟩⟩
theorem odd_lst {H : Hp} {a : Addr} {xs : List V} (e : H a = some (.lst xs)) : OddK K H (.ref a) := ⟨fun _ => nofun, .inr ⟨_, .base (.lst e), kit_ty kit_lstint⟩⟩
theorem odd_dct {H : Hp} {a : Addr} {xs : List (Key × V)} (e : H a = some (.dK xs)) : OddK K H (.ref a) := ⟨fun _ => nofun, .inr ⟨_, .base (.dK e), kit_ty kit_dctint⟩⟩
theorem odd_num {H : Hp} {mg : Str → Option Value} {a : Addr} {n : Nm} (NC : NumT K mg C) (NI : NumI K C) (e : NumAt C H a n) : OddK K H (.ref a) := ⟨fun _ => nofun, .inr ⟨_, e.ty NC.cl NI, NI.kInt⟩⟩
/-- the odd values of the law: none a whole number -/
inductive OddAny (C : Addr) (H : Hp) : V → Prop
  | non : OddAny C H .non
  | bl (b : Bool) : OddAny C H (.bl b)
  | str (z : Str) : OddAny C H (.str z)
  | tup {a : Addr} {xs : List V} (e : H a = some (.tup xs)) : OddAny C H (.ref a)
  | lst {a : Addr} {xs : List V} (e : H a = some (.lst xs)) : OddAny C H (.ref a)
  | dct {a : Addr} {xs : List (Key × V)} (e : H a = some (.dK xs)) : OddAny C H (.ref a)
  | num {a : Addr} {n : Nm} (e : NumAt C H a n) : OddAny C H (.ref a)
theorem OddAny.ext {C : Addr} {H H' : Hp} {v : V} (h : OddAny C H v) (e : Ext H H') : OddAny C H' v := by
  cases h with
  | non => exact .non
  | bl b => exact .bl b
  | str z => exact .str z
  | tup q => exact .tup (e _ _ q)
  | lst q => exact .lst (e _ _ q)
  | dct q => exact .dct (e _ _ q)
  | num q => exact .num (q.ext e)
theorem OddAny.odd {H : Hp} {mg : Str → Option Value} {v : V} (NC : NumT K mg C) (NI : NumI K C) (h : OddAny C H v) : OddK K H v := by
  cases h with
  | non => exact odd_non
  | bl b => exact odd_bl
  | str z => exact odd_str
  | tup q => exact odd_tup q
  | lst q => exact odd_lst q
  | dct q => exact odd_dct q
  | num q => exact odd_num NC NI q
/-- a root that is none, ahead of the law's own mending -/
def RootV (C : Addr) (H : Hp) (v : V) : Prop := (∃ i, v = .int i ∧ i ≠ 0 ∧ rootOk i = false) ∨ OddAny C H v
theorem root_eq {H : Hp} {mg : Str → Option Value} {v : V} (NC : NumT K mg C) (NI : NumI K C) (OT : OddT K C) (h : RootV C H v) : ∃ b : Bool, (∀ Q : VK, Q (.bl b) H → rEqI K C v (.int 0) H Q) ∧ BadRoot K H (if b then .int 4 else v) := by
  have four : BadRoot K H (.int 4) := ⟨vk_int, fun r e => by cases e; exact ⟨by decide, by decide⟩⟩
  have odd : ∀ v, OddAny C H v → BadRoot K H v := fun v o => ⟨.inr (o.odd NC NI), fun r e => absurd e ((o.odd NC NI).ni r)⟩
  rcases h with ⟨i, rfl, h0, hr⟩ | h
  · refine ⟨false, fun Q q => ⟨0, rfl, .inr (.inr (.inl ⟨i, rfl, ?_⟩))⟩, ⟨vk_int, fun r e => by cases e; exact ⟨h0, hr⟩⟩⟩
    have e : (i == 0) = false := by simpa using h0
    rw [e]
    exact q
  · have o := odd v h
    cases h with
    | non => exact ⟨false, fun Q q => ⟨0, rfl, .inl ⟨rfl, q⟩⟩, o⟩
    | bl b =>
      cases b with
      | true => exact ⟨false, fun Q q => ⟨0, rfl, .inr (.inl ⟨true, rfl, q⟩)⟩, o⟩
      | false => exact ⟨true, fun Q q => ⟨0, rfl, .inr (.inl ⟨false, rfl, q⟩)⟩, four⟩
    | str z => exact ⟨false, fun Q q => ⟨0, rfl, .inr (.inr (.inr (.inl ⟨z, rfl, q⟩)))⟩, o⟩
    | tup e => exact ⟨false, fun Q q => ⟨0, rfl, .inr (.inr (.inr (.inr (.inl ⟨_, _, rfl, .inr e, q⟩))))⟩, o⟩
    | lst e => exact ⟨false, fun Q q => ⟨0, rfl, .inr (.inr (.inr (.inr (.inl ⟨_, _, rfl, .inl e, q⟩))))⟩, o⟩
    | dct e => exact ⟨false, fun Q q => ⟨0, rfl, .inr (.inr (.inr (.inr (.inr (.inl ⟨_, _, rfl, e, q⟩)))))⟩, o⟩
    | num e =>
      refine ⟨false, fun Q q => ⟨0, rfl, .inr (.inr (.inr (.inr (.inr (.inr ?_)))))⟩, o⟩
      obtain ⟨dx, e'⟩ := id e
      exact ⟨_, dx, _, _, rfl, e', .base (.int 0), OT.f1, _, _, _, _, rfl, e, .base (.int 0), OT.k1, q⟩
theorem mk_ext {H3 H' : Hp} {x dx C : Addr} {fs : List (Str × V)} (hx : H3 x = none) (hdx : H3 dx = none) (keep : ∀ a o, upd (upd H3 dx (.own x)) x (.ins C dx fs) a = some o → a ≠ x → H' a = some o) : Ext H3 H' :=
  fun a o e => keep a o (by rw [upd_ne (ne_of_none e hx), upd_ne (ne_of_none e hdx)]; exact e) (ne_of_none e hx)
theorem nv_one : NV 1 0 0 1 := ⟨rfl, by show (1 : Int).natAbs < 2 ^ 9000; decide +kernel⟩
theorem ok_lmakes (T_ : Bn mg) (NC : NumT K mg C) (NI : NumI K C) (OT : OddT K C) (ET : ExT K IN IO) (EI : ErrT K mg "InvalidNumber" IN) (EO : ErrT K mg "InvalidOperation" IO) (D : DefC K mg "_law_makes" s_lmakes c) (WD : DefAt K mg "_law_word" s_lword)
    (TB : TabB base mg c Pt) (HM : (Pt, lamQ "_law_makes") ∈ TL) (HU : ∀ p ∈ TL, p.1 = Pt → p.2 = lamQ "_law_makes") (F_init : InitAt P w K mg base 3 C (spInit C)) (F__law_pick : FnAt P w K mg base 2 "_law_pick" ["_law_dice_here", "_law_items"] (spPick K))
    (F__law_wrong : FxAt P w K mg base 5 "_law_wrong" ["_law_way", "_law_odd", "_law_root"] (spWrong K IN)) (S_eqA : SpAt P w K mg base 1 C "__eq__" ["self", "other"] (spEqA K C))
    (F_top : PropAt P w K mg base 1 C "top" (spProp C fun n => .int n.t)) (F_part : PropAt P w K mg base 1 C "part" (spProp C fun n => .int n.p)) (F_root : PropAt P w K mg base 1 C "root" (spProp C fun n => .int n.r)) (F_bottom : PropAt P w K mg base 1 C "bottom" (spProp C fun n => .int n.b)) :
    FnAt P w K mg base 11 "_law_makes" ["_law_dice_here"] (spJ TL) := by
  refine fnC D sc_lmakes (fun _ _ _ _ _ _ us hl => match us, hl with | [_], _ => rfl) (fun vs H Q E h => ?_) fun f A outer s H vs Q E hr h => ?_
  · obtain ⟨a, rfl, _⟩ := h
    rfl
  obtain ⟨a, rfl, ha, ht, k⟩ := h
  have T := T_
  refine ⟨_, (pss_cons (ps_set (i := 1) sc_lmakes.nd rfl (Or.inr rfl) (callA F__law_pick (hr.mono (by decide)) rfl (pa_cons (pv 0) (pa_cons (pe_lst (pa_cons pe_non (pa_cons pe_bl (pa_cons pe_bl (pa_cons pe_str (pa_cons (pe_tup (pa_cons pe_int pa_nil)) (pa_cons (pe_lst (pa_cons pe_int pa_nil)) (pa_cons pe_dnewK (pa_cons (mk1A F_init NC.g (hr.mono (by decide)) rfl (pa_cons pe_int pa_nil)) (pa_cons pe_str pa_nil)))))))))) pa_nil))))
    (pss_cons (ps_set (i := 2) sc_lmakes.nd rfl (Or.inr rfl) (callA F__law_pick (hr.mono (by decide)) rfl (pa_cons (pv 0) (pa_cons (pe_lst (pa_cons pe_non (pa_cons pe_bl (pa_cons pe_int (pa_cons pe_int (pa_cons pe_int (pa_cons pe_int (pa_cons pe_int (pa_cons pe_int (pa_cons (pe_un un_neg pe_int) (pa_cons pe_str (pa_cons (pe_tup (pa_cons pe_int pa_nil)) (pa_cons pe_int (pa_cons pe_int (pa_cons (pe_op op_pow pe_int pe_int) (pa_cons (pv 1) pa_nil)))))))))))))))) pa_nil))))
    (Evl.pss_cut (ps_if (pt_cmpR (op_eqI S_eqA (hr.mono (by decide))) (pv 2) pe_int (nomark _)) (pss_one (ps_set (i := 2) sc_lmakes.nd rfl (Or.inr rfl) pe_int)) pss_nil)
    (pss_cons (ps_for PassesOwn.never rfl (pi_range1 (by rfl) T.b_range (pa_cons pe_int pa_nil)) (pg_name (i := 3) sc_lmakes.nd rfl (Or.inr rfl))
      (pss_one (ps_if (pt_cmpR op_ne (pe_word (k := 6) WD EI.g EO.g TB rfl HM HU (hr.mono (by decide)) rfl (LamX.lamS_by (show LamX.lamSB (defScope s_lmakes) _ = true by decide +kernel)) rfl (fun _ _ _ _ _ => rfl) (fun _ _ _ _ _ _ _ hr => (callX F__law_wrong (hr.mono (by decide)) rfl (takes_of rfl rfl rfl rfl) (fun _ _ _ _ h => h) (pa_cons (pv 3) (pa_cons (pv 1) (pa_cons (pv 2) pa_nil)))))) pe_str (nomark _)) (pss_one (ps_ret pe_bl)) pss_nil)))
    (pss_cons (ps_set (i := 4) sc_lmakes.nd rfl (Or.inl rfl) (callA F__law_pick (hr.mono (by decide)) rfl (pa_cons (pv 0) (pa_cons (pe_lst (pa_cons pe_int (pa_cons pe_int (pa_cons pe_int (pa_cons pe_int (pa_cons pe_int (pa_cons pe_int (pa_cons pe_int (pa_cons pe_int (pa_cons pe_int pa_nil)))))))))) pa_nil))))
    (pss_cons (ps_set (i := 5) sc_lmakes.nd rfl (Or.inl rfl) (mk4A F_init NC.g (hr.mono (by decide)) rfl (pa_cons pe_int (pa_cons (pe_un un_neg pe_int) pa_nil)) (pk_cons (pv 4) (pk_cons (pe_un un_neg pe_int) pk_nil))))
    (pss_one (ps_ret (pe_cmpR (op_eqD (hu64 hr)) (pe_lst (pa_cons (propA F_top NC.cl (hr.mono (by decide)) (pv 5)) (pa_cons (propA F_part NC.cl (hr.mono (by decide)) (pv 5)) (pa_cons (propA F_root NC.cl (hr.mono (by decide)) (pv 5)) (pa_cons (propA F_bottom NC.cl (hr.mono (by decide)) (pv 5)) (pa_cons (propA F_root NC.cl (hr.mono (by decide)) (mkRA F_init NC.g (hr.mono (by decide)) rfl (pa_cons pe_int (pa_cons pe_int pa_nil)) (pk_cons (pv 4) pk_nil))) pa_nil)))))) (pe_lst (pa_cons pe_int (pa_cons pe_int (pa_cons (pv 4) (pa_cons pe_int (pa_cons pe_int pa_nil)))))) (nomark _)))))))))), ?_⟩
  refine ⟨_, rfl, len_ok (Nat.le_of_ble_eq_true rfl), fun t1 n1 => ⟨len_ok (Nat.le_of_ble_eq_true rfl), fun l1 n2 d1 n3 x dx n4 n4' n4'' => ⟨x, dx, 1, 0, 0, 1, rfl, upd_same, nv_one, fun H4 keep hx => ⟨rfl, len_ok (Nat.le_of_ble_eq_true rfl), fun p1 n5 => ?_⟩⟩⟩⟩
  have e1 : Ext H (upd H t1 (.tup [.int 1])) := ext_new (ext_refl H) n1
  have e2 := ext_new (o := .lst [.int 2]) (ext_refl _) n2
  have e3 := ext_new (o := .dK []) (ext_refl _) n3
  have e4 := mk_ext n4 n4' keep
  have hnum : NumAt C H4 x (lst 1 0 0 1) := ⟨dx, hx⟩
  have ht1 : H4 t1 = some (.tup [.int 1]) := e4 _ _ (e3 _ _ (e2 _ _ upd_same))
  have hl1 : H4 l1 = some (.lst [.int 2]) := e4 _ _ (e3 _ _ upd_same)
  have hd1 : H4 d1 = some (.dK []) := e4 _ _ upd_same
  have e04 : Ext H H4 := ((e1.trans e2).trans e3).trans e4
  have e5 := ext_new (o := .lst [.non, .bl true, .bl false, .str "1", .ref t1, .ref l1, .ref d1, .ref x, .str ""]) (ext_refl H4) n5
  refine ⟨a, p1, _, rfl, e5 _ _ (e04 _ _ ha), SqL.of upd_same, by simp, Nat.le_of_ble_eq_true rfl, fun odd ho => ?_⟩
  have oa : OddAny C _ odd := OddAny.ext (by
    show OddAny C H4 odd
    simp only [List.mem_cons, List.not_mem_nil, or_false] at ho
    rcases ho with rfl | rfl | rfl | rfl | rfl | rfl | rfl | rfl | rfl
    · exact .non
    · exact .bl _
    · exact .bl _
    · exact .str _
    · exact .tup ht1
    · exact .lst hl1
    · exact .dct hd1
    · exact .num hnum
    · exact .str _) e5
  have e05 := e04.trans e5
  generalize upd H4 p1 _ = H5 at *
  refine ⟨_, rfl, _, rfl, len_ok (Nat.le_of_ble_eq_true rfl), fun t2 m1 => ⟨_, _, rfl, rfl, ⟨by decide, by decide, by decide⟩, _, rfl, len_ok (Nat.le_of_ble_eq_true rfl), fun p2 m2 => ?_⟩⟩
  have g1 := ext_new (o := .tup [.int 2]) (ext_refl H5) m1
  have g2 := ext_new (o := .lst [.non, .bl true, .int 1, .int 4, .int 8, .int 12, .int 1000, .int 1009, .int (-2), .str "2", .ref t2, .int 49, .int 980, .int (10 ^ (30 : Int).toNat), odd]) (ext_refl _) m2
  have ht2 := g2 _ _ (upd_same (H := H5) (a := t2) (o := .tup [.int 2]))
  have e06 := (e05.trans g1).trans g2
  have oa6 := oa.ext (g1.trans g2)
  refine ⟨a, p2, _, rfl, e06 _ _ ha, SqL.of upd_same, by simp, Nat.le_of_ble_eq_true rfl, fun root hro => ?_⟩
  generalize upd (upd H5 t2 _) p2 _ = H6 at *
  have hrv : RootV C H6 root := by
    simp only [List.mem_cons, List.not_mem_nil, or_false] at hro
    rcases hro with rfl | rfl | rfl | rfl | rfl | rfl | rfl | rfl | rfl | rfl | rfl | rfl | rfl | rfl | rfl
    · exact .inr .non
    · exact .inr (.bl _)
    · exact .inl ⟨_, rfl, by decide, by decide⟩
    · exact .inl ⟨_, rfl, by decide, by decide⟩
    · exact .inl ⟨_, rfl, by decide, by decide⟩
    · exact .inl ⟨_, rfl, by decide, by decide⟩
    · exact .inl ⟨_, rfl, by decide, by decide⟩
    · exact .inl ⟨_, rfl, by decide, by decide⟩
    · exact .inl ⟨_, rfl, by decide, by decide⟩
    · exact .inr (.str _)
    · exact .inr (.tup ht2)
    · exact .inl ⟨_, rfl, by decide, by decide⟩
    · exact .inl ⟨_, rfl, by decide, by decide⟩
    · exact .inl ⟨_, rfl, by decide +kernel, by decide +kernel⟩
    · exact .inr oa6
  obtain ⟨b, heq, hbr⟩ := root_eq NC NI OT hrv
  refine ⟨fun σ' H' => (∃ R, σ' = [some (.ref a), some odd, some R, none, none, none] ∧ BadRoot K H6 R) ∧ H' = H6, ⟨_, rfl, ?_⟩, ?_⟩
  · dsimp only [tC]
    refine heq _ ?_
    refine ⟨_, rfl, ite2 (fun hb => ?_) (fun hb => ?_)⟩
    · rw [if_pos hb] at hbr
      exact ⟨⟨_, rfl, hbr⟩, rfl⟩
    · rw [if_neg hb] at hbr
      exact ⟨⟨_, rfl, hbr⟩, rfl⟩
  rintro σ' H' ⟨⟨R, rfl, br⟩, rfl⟩
  clear hbr heq hrv
  have od := oa6.odd NC NI
  have ht6 : Aft TL H H' := (Aft.refl ht).ext e06
  refine ⟨8, rfl, by decide, by decide, for_range (n := 8) (fun i σ' H2 => (∃ v, σ' = [some (.ref a), some odd, some R, v, none, none]) ∧ Aft TL H' H2) ⟨⟨_, rfl⟩, .refl ht6.t⟩ (fun i σ' H2 hi ⟨⟨v, es⟩, af⟩ => ?_) fun σ' H2 ⟨⟨v, es⟩, af⟩ => ?_⟩
  · subst es
    refine ⟨af.t, fun H3 eN T3 => ?_⟩
    have af3 : Aft TL H' H3 := af.trans ⟨eN, T3⟩
    refine ⟨_, rfl, _, rfl, _, rfl, i, odd, R, (by rw [Int.zero_add]; rfl), hi, od.aft af3, br.aft af3, fun H4 e4 => ⟨true, ET.nn, fun _ => ?_, fun z => by cases z⟩⟩
    exact ⟨rfl, _, rfl, ite2 (fun h => absurd h (by decide)) (fun _ => ⟨⟨_, rfl⟩, af3.ext e4⟩)⟩
  subst es
  have ha7 : H2 a = some (DiceO a) := (ht6.trans af).dice ha
  have af7 : Aft TL H H2 := ht6.trans af
  refine ⟨_, rfl, len_ok (Nat.le_of_ble_eq_true rfl), fun p3 m3 => ?_⟩
  have e7 := ext_new (o := .lst [.int 2, .int 3, .int 5, .int 6, .int 7, .int 10, .int 997, .int 998, .int 994]) (ext_refl H2) m3
  refine ⟨a, p3, _, rfl, e7 _ _ ha7, SqL.of upd_same, by simp, Nat.le_of_ble_eq_true rfl, fun fine hf => ?_⟩
  have af8 := af7.ext e7
  generalize upd H2 p3 _ = H8 at *
  obtain ⟨r, rfl, hr0, hrz, hrs⟩ : ∃ r : Int, fine = .int r ∧ rootOk r = true ∧ r ≠ 0 ∧ True := by
    simp only [List.mem_cons, List.not_mem_nil, or_false] at hf
    rcases hf with rfl | rfl | rfl | rfl | rfl | rfl | rfl | rfl | rfl <;> exact ⟨_, rfl, by decide, by decide, trivial⟩
  have nv4 : NV 0 (-2) r (-4) := ⟨by unfold validN; rw [if_neg (by decide), if_neg hrz]; exact hr0, by show (-4 : Int).natAbs < 2 ^ 9000; decide +kernel⟩
  have nv1 : NV 1 0 r 1 := ⟨by unfold validN; rw [if_neg (by decide), if_neg hrz]; exact hr0, by show (1 : Int).natAbs < 2 ^ 9000; decide +kernel⟩
  have el4 : lst 0 (-2) r (-4) = ⟨0, 1, r, 2⟩ := by
    unfold lst
    rw [if_neg (by decide)]
    rfl
  have el1 : lst 1 0 r 1 = ⟨1, 0, 0, 1⟩ := by
    unfold lst
    rw [if_pos rfl]
    rfl
  refine ⟨_, rfl, _, rfl, _, rfl, rfl, rfl, fun y dy q1 q2 q3 => ⟨y, dy, 0, -2, r, -4, rfl, upd_same, nv4, fun H9 keep9 hy => ⟨rfl, ?_⟩⟩⟩
  have e9 := mk_ext q1 q2 keep9
  have hny : NumAt C H9 y ⟨0, 1, r, 2⟩ := ⟨dy, el4 ▸ hy⟩
  refine ⟨_, rfl, pu hny ⟨_, rfl, pu hny ⟨_, rfl, pu hny ⟨_, rfl, pu hny ⟨_, rfl, rfl, rfl, fun z dz r1 r2 r3 => ⟨z, dz, 1, 0, r, 1, rfl, upd_same, nv1, fun Ha keepa hz => ⟨rfl, ?_⟩⟩⟩⟩⟩⟩⟩
  have ea := mk_ext r1 r2 keepa
  have hnz : NumAt C Ha z ⟨1, 0, 0, 1⟩ := ⟨dz, el1 ▸ hz⟩
  refine pu hnz ⟨len_ok (Nat.le_of_ble_eq_true rfl), fun p4 s4 => ⟨_, rfl, len_ok (Nat.le_of_ble_eq_true rfl), fun p5 s5 => ?_⟩⟩
  have g4 := ext_new (o := .lst [.int 0, .int 1, .int r, .int 2, .int 0]) (ext_refl Ha) s4
  have g5 := ext_new (o := .lst [.int 0, .int 1, .int r, .int 2, .int 0]) (ext_refl _) s5
  have da : DpAll K (upd (upd Ha p4 (.lst [.int 0, .int 1, .int r, .int 2, .int 0])) p5 (.lst [.int 0, .int 1, .int r, .int 2, .int 0])) [.int 0, .int 1, .int r, .int 2, .int 0] [.int 0, .int 1, .int r, .int 2, .int 0] := .cons (.int _) (.cons (.int _) (.cons (.int _) (.cons (.int _) (.cons (.int _) .nil))))
  refine (show rEqD K (.ref p4) (.ref p5) (upd (upd Ha p4 (.lst [.int 0, .int 1, .int r, .int 2, .int 0])) p5 (.lst [.int 0, .int 1, .int r, .int 2, .int 0])) Q from ?_)
  refine ⟨.list [.int 0, .int 1, .int r, .int 2, .int 0], .list [.int 0, .int 1, .int r, .int 2, .int 0], .lst (SqL.of (g5 _ _ upd_same)) da, .lst (SqL.of upd_same) da, rfl, rfl, ?_⟩
  have ev : PyData.eqv (.list [.int 0, .int 1, .int r, .int 2, .int 0]) (.list [.int 0, .int 1, .int r, .int 2, .int 0]) = true := by simp [PyData.eqv, PyData.eqvAll]
  rw [ev]
  exact k _ ((((af8.ext e9).ext ea).ext g4).ext g5)
end
end My
namespace My
open PySem PySem.Spec PyProof.Rows L2
open LamX (TabB Tabs TabS ExtN CodeO LamS)
local macro_rules | `(tactic| walk_at "side") => `(tactic| first | assumption | decide | exact Or.inl ⟨by decide, by decide⟩ | exact Or.inr ⟨by decide, by decide⟩ | exact ⟨by decide, by decide, by decide⟩ | omega | (unfold CMulW; decide +kernel) | (dsimp only; first | assumption | omega | decide +kernel) | exact len_ok (Nat.le_of_ble_eq_true rfl) | fail "side")
local macro_rules | `(tactic| walk_at "rd") => `(tactic| first
  | refine ⟨_, _, _, _, rfl, rfl, SqL.of upd_same, atI_nat (j := 0) rfl, ?_⟩ | refine ⟨_, _, _, _, rfl, rfl, SqL.of upd_same, atI_nat (j := 1) rfl, ?_⟩ | refine ⟨_, _, _, _, rfl, rfl, SqL.of upd_same, atI_nat (j := 2) rfl, ?_⟩
  | refine ⟨_, _, _, _, rfl, rfl, upd_same, rfl, ?_⟩
  | refine ⟨_, _, rfl, rfl, ?_⟩ | refine ⟨_, rfl, ?_⟩ | refine ⟨_, _, rfl, ?_⟩ | refine Or.inl ⟨_, rfl, ?_⟩ | refine Or.inr ⟨_, rfl, ?_⟩ | refine ⟨(by walk_at "side"), ?_⟩ | fail "rd")

abbrev s_lused : Stmt := top 37
theorem sc_lused : FnScope ["_law_way", "_law_one", "_law_other"] ["_law_way", "_law_one", "_law_other"] (defScope s_lused) := ⟨rfl, rfl, rfl, by decide +kernel, rfl, by decide +kernel, by decide +kernel⟩
abbrev s_lmade : Stmt := top 33
theorem sc_lmade : FnScope ["_law_parts"] ["_law_parts"] (defScope s_lmade) := ⟨rfl, rfl, rfl, by decide +kernel, rfl, by decide +kernel, by decide +kernel⟩
section
variable {X : Cx} {k : Nat} {C : Addr} {x : Str} {ps : List Str} {sp : Sp} {p pos apos : Pos} {e o : Expr} {es : List Expr} {t : TA} {to : TE} {W : WX} {E : XK} {op : Operator}
theorem methA {pl : Sem Bool} (F : MethAt X.prog X.w X.K X.mg X.base k C x ps sp) (c : Cls X.K C) (hr : Room k X.A) (he : PE X o to) (ha : PA X (e :: es) t)
    (hst : starEach (e :: es) X.env = (false, eval e X.env) :: starEach es X.env := by rfl) (hpl : (backTo pos (starEach es X.env)).any (·.1) = false := by rfl)
    (ht : eval (.Call (.Attribute o x apos) (e :: es) [] pos) X.env = (do
      let ov ← eval o X.env
      standAt apos.atName
      let (f, first) ← holding [ov] (getMethod ov x pl)
      callWith pos f first (backTo pos (starEach (e :: es) X.env)) (backToKw pos (keywordEach [] X.env))) := by rfl) :
    PE X (.Call (.Attribute o x apos) (e :: es) [] pos) (tMeth C x sp [] E0 to t) := by
  obtain ⟨f, fd, hm, hb, G⟩ := F.ex
  exact pe_meth he c hm G hr hb .nil pass0 ha hst hpl ht
theorem methX {pl : Sem Bool} (F : MxAt X.prog X.w X.K X.mg X.base k C x ps sp) (c : Cls X.K C) (hr : Room k X.A) (tk : Takes X W) (hW : ∀ cls d σ H, E cls d H → W cls d σ H) (he : PE X o to) (ha : PA X (e :: es) t)
    (hst : starEach (e :: es) X.env = (false, eval e X.env) :: starEach es X.env := by rfl) (hpl : (backTo pos (starEach es X.env)).any (·.1) = false := by rfl)
    (ht : eval (.Call (.Attribute o x apos) (e :: es) [] pos) X.env = (do
      let ov ← eval o X.env
      standAt apos.atName
      let (f, first) ← holding [ov] (getMethod ov x pl)
      callWith pos f first (backTo pos (starEach (e :: es) X.env)) (backToKw pos (keywordEach [] X.env))) := by rfl) :
    PE X (.Call (.Attribute o x apos) (e :: es) [] pos) (tMeth C x sp [] E to t) := by
  obtain ⟨f, fd, hm, hb, G⟩ := F.ex
  exact pe_meth he c hm G hr hb .nil (passes_call tk hW) ha hst hpl ht
theorem opX (F : OxAt X.prog X.w X.K X.mg X.base k C op sp) (hr : Room k X.A) (tk : Takes X W) (hW : ∀ cls d σ H, E cls d H → W cls d σ H) : OpR X (binaryOp op) (rOwn C sp E) := by
  obtain ⟨f, fd, W, hb, G⟩ := F.ex
  exact op_own W G hr hb (passes_call tk hW)
end
def nt (n : Nm) : List V := [.int n.t, .int n.p, .int n.r, .int n.b]
def cmpN (n m : Nm) : Int := sgn (n.t * m.b - m.t * n.b) (n.p * m.b - m.p * n.b) (rt1 n m)
def spCmp (C : Addr) : Sp := fun vs H Q _ => ∃ a v n m, vs = [.ref a, v] ∧ NumAt C H a n ∧ Opd C H v m ∧ Good 2000 n ∧ Good 2000 m ∧ OneRoot n m ∧ ∀ H', Ext H H' → Q (.int (cmpN n m)) H'
def spLMade (K : PySem.W.Frag) (C : Addr) : Sp := fun vs H Q _ => ∃ (q : Addr) (n : Nm), vs = [.ref q] ∧ SqT K H q (nt n) ∧ NV n.t n.p n.r n.b ∧ ∀ x H', Ext H H' → NumAt C H' x (lst n.t n.p n.r n.b) → Q (.ref x) H'
def spUsedU (C IN : Addr) : Sp := fun vs H _ E => ∃ (w : Nat) (a : Addr) (v : V) (n m : Nm), vs = [.int w, .ref a, v] ∧ w < 5 ∧ NumAt C H a n ∧ Opd C H v m ∧ n.r ≠ 0 ∧ m.r ≠ 0 ∧ n.r ≠ m.r ∧ ∀ H', Ext H H' → E (.ref IN) none H'
def spUsedO (K : PySem.W.Frag) (C IN : Addr) : Sp := fun vs H _ E => ∃ (w : Nat) (a : Addr) (v : V), vs = [.int w, .ref a, v] ∧ w < 5 ∧ 2 < w ∧ OddN K C H v ∧ (∃ n, NumAt C H a n) ∧ E (.ref IN) none H
def spUsedF (C : Addr) : Sp := fun vs H Q _ => ∃ (w : Nat) (a : Addr) (v : V) (n m : Nm), vs = [.int w, .ref a, v] ∧ w < 5 ∧ NumAt C H a n ∧ Opd C H v m ∧ Good 2000 n ∧ Good 2000 m ∧ OneRoot n m ∧ (w = 3 → ¬ (m.t = 0 ∧ m.p = 0)) ∧ ∀ v' H', Ext H H' → Q v' H'
theorem opd_is {C : Addr} {H : Hp} {v : V} {m : Nm} (h : Opd C H v m) : (∃ i, v = .int i) ∨ ∃ b dy gs, v = .ref b ∧ H b = some (.ins C dy gs) := by
  rcases h with ⟨b, rfl, dy, e⟩ | ⟨i, rfl, _⟩
  · exact .inr ⟨b, dy, _, rfl, e⟩
  · exact .inl ⟨i, rfl⟩
section
variable {P : Program} {w : World} {K : PySem.W.Frag} {mg : Str → Option Value} {base : Heap} {C IN IO : Addr}
theorem ok_ncomp (D : MethT K C "compared" "Number.compared" s_ncomp) (NC : NumT K mg C) (F__argument : FnAt P w K mg base 6 "_argument" ["value"] (spOpd C)) (F__common_root : FnAt P w K mg base 3 "_common_root" ["one", "other"] (spCRoot C))
    (F__difference_above : FnAt P w K mg base 3 "_difference_above" ["one", "other"] (spDiff C)) (F__sign_of : FnAt P w K mg base 2 "sign_of_sum" ["top", "part", "root"] spSgn) : MethAt P w K mg base 7 C "compared" ["self", "other"] (spCmp C) := by
  refine methAt D sc_ncomp (fun _ _ _ _ _ _ us hl => match us, hl with | [_, _], _ => rfl) (fun vs H Q E h => ?_) fun f cdv A outer s H vs Q E hr h => ?_
  · obtain ⟨a, v, n, m, rfl, _⟩ := h
    rfl
  obtain ⟨a, v, n, m, rfl, hn, hv, g, g', h1, k⟩ := h
  refine ⟨_, (pss_cons (ps_set (i := 2) sc_ncomp.nd rfl (Or.inl rfl) (callA F__argument (hr.mono (by decide)) rfl (pa_cons (pv 1) pa_nil)))
    (pss_cons (ps_set (i := 3) sc_ncomp.nd rfl (Or.inl rfl) (callA F__common_root (hr.mono (by decide)) rfl (pa_cons (pv 0) (pa_cons (pv 2) pa_nil))))
    (pss_cons (ps_asg (callA F__difference_above (hr.mono (by decide)) rfl (pa_cons (pv 0) (pa_cons (pv 2) pa_nil))) (pg_tup (by rfl) (pgs_cons (pg_name (i := 4) sc_ncomp.nd rfl (Or.inl rfl)) (pgs_cons (pg_name (i := 5) sc_ncomp.nd rfl (Or.inl rfl)) pgs_nil))))
    (pss_one (ps_ret (callA F__sign_of (hr.mono (by decide)) rfl (pa_cons (pv 4) (pa_cons (pv 5) (pa_cons (pv 3) pa_nil))))))))), _, rfl, v, m, rfl, hv, fun b H1 e1 hm => ?_⟩
  have hn1 := hn.ext e1
  refine ⟨_, rfl, _, rfl, a, b, n, m, rfl, hn1, hm, h1, ?_⟩
  refine ⟨_, rfl, _, rfl, a, b, n, m, rfl, hn1, hm, g, g', fun q H2 e2 hq => ?_⟩
  refine ⟨q, _, rfl, SqT.of hq, rfl, _, _, rfl, _, _, rfl, rfl, ?_⟩
  refine ⟨_, rfl, _, rfl, _, rfl, _, _, _, rfl, ?_, ?_, rt1_zr g g', fun H3 e3 => k H3 ((e1.trans e2).trans e3)⟩
  · exact Sz.mono (n := 4001) (Sz.sub (n := 4000) (Sz.mul (n := 2000) (m := 2000) g.t g'.b) (Sz.mul (n := 2000) (m := 2000) g'.t g.b)) (by decide)
  · exact Sz.mono (n := 4001) (Sz.sub (n := 4000) (Sz.mul (n := 2000) (m := 2000) g.p g'.b) (Sz.mul (n := 2000) (m := 2000) g'.p g.b)) (by decide)
theorem ok_lmade (D : DefAt K mg "_law_made" s_lmade) (NC : NumT K mg C) (F_init : InitAt P w K mg base 3 C (spInit C)) : FnAt P w K mg base 5 "_law_made" ["_law_parts"] (spLMade K C) := by
  refine fnAt D sc_lmade (fun _ _ _ _ _ _ us hl => match us, hl with | [_], _ => rfl) (fun vs H Q E h => ?_) fun f cdv A outer s H vs Q E hr h => ?_
  · obtain ⟨q, n, rfl, _⟩ := h
    rfl
  obtain ⟨q, n, rfl, hq, hv, k⟩ := h
  refine ⟨_, (pss_one (ps_ret (mk4A F_init NC.g (hr.mono (by decide)) rfl (pa_cons (pe_ix ix_tup (pv 0) pe_int (fun _ _ => rfl)) (pa_cons (pe_ix ix_tup (pv 0) pe_int (fun _ _ => rfl)) pa_nil)) (pk_cons (pe_ix ix_tup (pv 0) pe_int (fun _ _ => rfl)) (pk_cons (pe_ix ix_tup (pv 0) pe_int (fun _ _ => rfl)) pk_nil))))), ?_⟩
  exact ⟨_, rfl, _, _, _, _, rfl, rfl, hq, atI_nat (j := 0) rfl, _, rfl, _, _, _, _, rfl, rfl, hq, atI_nat (j := 1) rfl, _, rfl, _, _, _, _, rfl, rfl, hq, atI_nat (j := 2) rfl, _, rfl, _, _, _, _, rfl, rfl, hq, atI_nat (j := 3) rfl, mk4_use hv fun x H3 hx ex hz => k x H3 ex hz⟩
theorem ok_lusedU (D : DefAt K mg "_law_used" s_lused) (NC : NumT K mg C) (O_add : OxAt P w K mg base 7 C .Add (spUnlike C IN)) (O_sub : OxAt P w K mg base 7 C .Sub (spUnlike C IN)) (O_mul : OxAt P w K mg base 7 C .Mult (spUnlike C IN))
    (M_over : MxAt P w K mg base 7 C "over" ["self", "other"] (spUnlike C IN)) (M_compared : MxAt P w K mg base 7 C "compared" ["self", "other"] (spUnlike C IN)) : FxAt P w K mg base 8 "_law_used" ["_law_way", "_law_one", "_law_other"] (spUsedU C IN) := by
  refine fxAt D sc_lused (fun _ _ _ _ _ _ us hl => match us, hl with | [_, _, _], _ => rfl) (fun vs H Q E h => ?_) fun f cdv A outer s H vs Q E hr h => ?_
  · obtain ⟨w, a, v, n, m, rfl, _⟩ := h
    rfl
  obtain ⟨w, a, v, n, m, rfl, hw, hn, hm, n0, m0, nm, k⟩ := h
  refine ⟨_, (pss_cons (ps_if (pt_cmpR op_eq (pv 0) pe_int (nomark _)) (pss_one (ps_ret (pe_op (opX O_add (hr.mono (by decide)) (takes_of rfl rfl rfl rfl) (fun _ _ _ _ h => h)) (pv 1) (pv 2)))) pss_nil)
    (pss_cons (ps_if (pt_cmpR op_eq (pv 0) pe_int (nomark _)) (pss_one (ps_ret (pe_op (opX O_sub (hr.mono (by decide)) (takes_of rfl rfl rfl rfl) (fun _ _ _ _ h => h)) (pv 1) (pv 2)))) pss_nil)
    (pss_cons (ps_if (pt_cmpR op_eq (pv 0) pe_int (nomark _)) (pss_one (ps_ret (pe_op (opX O_mul (hr.mono (by decide)) (takes_of rfl rfl rfl rfl) (fun _ _ _ _ h => h)) (pv 1) (pv 2)))) pss_nil)
    (pss_one (ps_ret (pe_ifExp (pt_cmpR op_eq (pv 0) pe_int (nomark _)) (methX M_over NC.cl (hr.mono (by decide)) (takes_of rfl rfl rfl rfl) (fun _ _ _ _ h => h) (pv 1) (pa_cons (pv 2) pa_nil)) (methX M_compared NC.cl (hr.mono (by decide)) (takes_of rfl rfl rfl rfl) (fun _ _ _ _ h => h) (pv 1) (pa_cons (pv 2) pa_nil)))))))), ?_⟩
  have un : spUnlike C IN [.ref a, v] H Q E := ⟨a, v, n, m, rfl, hn, hm, n0, m0, nm, k⟩
  obtain ⟨dx, q⟩ := hn
  have iso := opd_is hm
  match w, hw with
  | 0, _ => exact ⟨_, rfl, rfl, _, rfl, iteT ⟨_, rfl, _, rfl, a, dx, _, rfl, q, iso, un⟩⟩
  | 1, _ => exact ⟨_, rfl, rfl, _, rfl, iteF ⟨_, rfl, rfl, _, rfl, iteT ⟨_, rfl, _, rfl, a, dx, _, rfl, q, iso, un⟩⟩⟩
  | 2, _ => exact ⟨_, rfl, rfl, _, rfl, iteF ⟨_, rfl, rfl, _, rfl, iteF ⟨_, rfl, rfl, _, rfl, iteT ⟨_, rfl, _, rfl, a, dx, _, rfl, q, iso, un⟩⟩⟩⟩
  | 3, _ => exact ⟨_, rfl, rfl, _, rfl, iteF ⟨_, rfl, rfl, _, rfl, iteF ⟨_, rfl, rfl, _, rfl, iteF ⟨_, rfl, rfl, _, rfl, iteT ⟨_, rfl, a, dx, _, rfl, q, rfl, _, rfl, un⟩⟩⟩⟩⟩
  | 4, _ => exact ⟨_, rfl, rfl, _, rfl, iteF ⟨_, rfl, rfl, _, rfl, iteF ⟨_, rfl, rfl, _, rfl, iteF ⟨_, rfl, rfl, _, rfl, iteF ⟨_, rfl, a, dx, _, rfl, q, rfl, _, rfl, un⟩⟩⟩⟩⟩
theorem ok_lusedO (D : DefAt K mg "_law_used" s_lused) (NC : NumT K mg C) (O_add : OpAt P w K mg base 7 C .Add (spBin C addN)) (O_sub : OpAt P w K mg base 7 C .Sub (spBin C subN)) (O_mul : OpAt P w K mg base 7 C .Mult (spBin C mulN))
    (M_over : MxAt P w K mg base 7 C "over" ["self", "other"] (spOddArg K C IN)) (M_compared : MxAt P w K mg base 7 C "compared" ["self", "other"] (spOddArg K C IN)) : FxAt P w K mg base 8 "_law_used" ["_law_way", "_law_one", "_law_other"] (spUsedO K C IN) := by
  refine fxAt D sc_lused (fun _ _ _ _ _ _ us hl => match us, hl with | [_, _, _], _ => rfl) (fun vs H Q E h => ?_) fun f cdv A outer s H vs Q E hr h => ?_
  · obtain ⟨w, a, v, rfl, _⟩ := h
    rfl
  obtain ⟨w, a, v, rfl, hw, h2, o, hn, k⟩ := h
  refine ⟨_, (pss_cons (ps_if (pt_cmpR op_eq (pv 0) pe_int (nomark _)) (pss_one (ps_ret (pe_op (opA O_add (hr.mono (by decide)) ) (pv 1) (pv 2)))) pss_nil)
    (pss_cons (ps_if (pt_cmpR op_eq (pv 0) pe_int (nomark _)) (pss_one (ps_ret (pe_op (opA O_sub (hr.mono (by decide)) ) (pv 1) (pv 2)))) pss_nil)
    (pss_cons (ps_if (pt_cmpR op_eq (pv 0) pe_int (nomark _)) (pss_one (ps_ret (pe_op (opA O_mul (hr.mono (by decide)) ) (pv 1) (pv 2)))) pss_nil)
    (pss_one (ps_ret (pe_ifExp (pt_cmpR op_eq (pv 0) pe_int (nomark _)) (methX M_over NC.cl (hr.mono (by decide)) (takes_of rfl rfl rfl rfl) (fun _ _ _ _ h => h) (pv 1) (pa_cons (pv 2) pa_nil)) (methX M_compared NC.cl (hr.mono (by decide)) (takes_of rfl rfl rfl rfl) (fun _ _ _ _ h => h) (pv 1) (pa_cons (pv 2) pa_nil)))))))), ?_⟩
  have un : spOddArg K C IN [.ref a, v] H Q E := ⟨a, v, rfl, o, k⟩
  obtain ⟨n, dx, q⟩ := hn
  match w, hw, h2 with
  | 3, _, _ => exact ⟨_, rfl, rfl, _, rfl, iteF ⟨_, rfl, rfl, _, rfl, iteF ⟨_, rfl, rfl, _, rfl, iteF ⟨_, rfl, rfl, _, rfl, iteT ⟨_, rfl, a, dx, _, rfl, q, rfl, _, rfl, un⟩⟩⟩⟩⟩
  | 4, _, _ => exact ⟨_, rfl, rfl, _, rfl, iteF ⟨_, rfl, rfl, _, rfl, iteF ⟨_, rfl, rfl, _, rfl, iteF ⟨_, rfl, rfl, _, rfl, iteF ⟨_, rfl, a, dx, _, rfl, q, rfl, _, rfl, un⟩⟩⟩⟩⟩
theorem ok_lusedF (D : DefAt K mg "_law_used" s_lused) (NC : NumT K mg C) (O_add : OpAt P w K mg base 7 C .Add (spBin C addN)) (O_sub : OpAt P w K mg base 7 C .Sub (spBin C subN)) (O_mul : OpAt P w K mg base 7 C .Mult (spBin C mulN))
    (M_over : MethAt P w K mg base 7 C "over" ["self", "other"] (spOver C)) (M_compared : MethAt P w K mg base 7 C "compared" ["self", "other"] (spCmp C)) : FnAt P w K mg base 8 "_law_used" ["_law_way", "_law_one", "_law_other"] (spUsedF C) := by
  refine fnAt D sc_lused (fun _ _ _ _ _ _ us hl => match us, hl with | [_, _, _], _ => rfl) (fun vs H Q E h => ?_) fun f cdv A outer s H vs Q E hr h => ?_
  · obtain ⟨w, a, v, n, m, rfl, _⟩ := h
    rfl
  obtain ⟨w, a, v, n, m, rfl, hw, hn, hm, g, g', one, h3, k⟩ := h
  refine ⟨_, (pss_cons (ps_if (pt_cmpR op_eq (pv 0) pe_int (nomark _)) (pss_one (ps_ret (pe_op (opA O_add (hr.mono (by decide)) ) (pv 1) (pv 2)))) pss_nil)
    (pss_cons (ps_if (pt_cmpR op_eq (pv 0) pe_int (nomark _)) (pss_one (ps_ret (pe_op (opA O_sub (hr.mono (by decide)) ) (pv 1) (pv 2)))) pss_nil)
    (pss_cons (ps_if (pt_cmpR op_eq (pv 0) pe_int (nomark _)) (pss_one (ps_ret (pe_op (opA O_mul (hr.mono (by decide)) ) (pv 1) (pv 2)))) pss_nil)
    (pss_one (ps_ret (pe_ifExp (pt_cmpR op_eq (pv 0) pe_int (nomark _)) (methA M_over NC.cl (hr.mono (by decide))  (pv 1) (pa_cons (pv 2) pa_nil)) (methA M_compared NC.cl (hr.mono (by decide))  (pv 1) (pa_cons (pv 2) pa_nil)))))))), ?_⟩
  have iso := opd_is hm
  have hn' := hn
  obtain ⟨dx, q⟩ := hn
  match w, hw, h3 with
  | 0, _, _ => exact ⟨_, rfl, rfl, _, rfl, iteT ⟨_, rfl, _, rfl, a, dx, _, rfl, q, iso, a, v, n, m, rfl, hn', hm, g, g', one, fun x H' e _ => k _ H' e⟩⟩
  | 1, _, _ => exact ⟨_, rfl, rfl, _, rfl, iteF ⟨_, rfl, rfl, _, rfl, iteT ⟨_, rfl, _, rfl, a, dx, _, rfl, q, iso, a, v, n, m, rfl, hn', hm, g, g', one, fun x H' e _ => k _ H' e⟩⟩⟩
  | 2, _, _ => exact ⟨_, rfl, rfl, _, rfl, iteF ⟨_, rfl, rfl, _, rfl, iteF ⟨_, rfl, rfl, _, rfl, iteT ⟨_, rfl, _, rfl, a, dx, _, rfl, q, iso, a, v, n, m, rfl, hn', hm, g, g', one, fun x H' e _ => k _ H' e⟩⟩⟩⟩
  | 3, _, h3 => exact ⟨_, rfl, rfl, _, rfl, iteF ⟨_, rfl, rfl, _, rfl, iteF ⟨_, rfl, rfl, _, rfl, iteF ⟨_, rfl, rfl, _, rfl, iteT ⟨_, rfl, a, dx, _, rfl, q, rfl, _, rfl, a, v, n, m, rfl, hn', hm, g, g', one, h3 rfl, fun x H' e _ => k _ H' e⟩⟩⟩⟩⟩
  | 4, _, _ => exact ⟨_, rfl, rfl, _, rfl, iteF ⟨_, rfl, rfl, _, rfl, iteF ⟨_, rfl, rfl, _, rfl, iteF ⟨_, rfl, rfl, _, rfl, iteF ⟨_, rfl, a, dx, _, rfl, q, rfl, _, rfl, a, v, n, m, rfl, hn', hm, g, g', one, fun H' e => k _ H' e⟩⟩⟩⟩⟩
end
end My
namespace My
open PySem PySem.Spec PyProof.Rows L2
open LamX (TabB Tabs TabS ExtN CodeO LamS)
local macro_rules | `(tactic| walk_at "side") => `(tactic| first | assumption | decide | exact Or.inl ⟨by decide, by decide⟩ | exact Or.inr ⟨by decide, by decide⟩ | exact ⟨by decide, by decide, by decide⟩ | omega | (unfold CMulW; decide +kernel) | (dsimp only; first | assumption | omega | decide +kernel) | exact len_ok (Nat.le_of_ble_eq_true rfl) | fail "side")
local macro_rules | `(tactic| walk_at "rd") => `(tactic| first
  | refine ⟨_, _, _, _, rfl, rfl, SqL.of upd_same, atI_nat (j := 0) rfl, ?_⟩ | refine ⟨_, _, _, _, rfl, rfl, SqL.of upd_same, atI_nat (j := 1) rfl, ?_⟩ | refine ⟨_, _, _, _, rfl, rfl, SqL.of upd_same, atI_nat (j := 2) rfl, ?_⟩
  | refine ⟨_, _, _, _, rfl, rfl, upd_same, rfl, ?_⟩
  | refine ⟨_, _, rfl, rfl, ?_⟩ | refine ⟨_, rfl, ?_⟩ | refine ⟨_, _, rfl, ?_⟩ | refine Or.inl ⟨_, rfl, ?_⟩ | refine Or.inr ⟨_, rfl, ?_⟩ | refine ⟨(by walk_at "side"), ?_⟩ | fail "rd")

abbrev s_lreck : Stmt := top 38
theorem sc_lreck : FnScope ["_law_dice_here", "_law_one", "_law_other", "_law_odd", "_law_way", "_law_nought"] ["_law_dice_here"] (defScope s_lreck) := ⟨rfl, rfl, rfl, by decide +kernel, rfl, by decide +kernel, by decide +kernel⟩
section
variable {P : Program} {w : World} {K : PySem.W.Frag} {mg : Str → Option Value} {base : Heap} {C IN IO c Pt : Addr} {TL : List (Addr × Str)}
/-- what is asked of the law's own numbers -/
structure NF (n : Nm) : Prop where
  nv : NV n.t n.p n.r n.b
  ls : lst n.t n.p n.r n.b = n
  g : Good 2000 n
  z : subN n n = ⟨0, 0, 0, 1⟩
theorem nf_of {n : Nm} (hv : validN n.t n.p n.r n.b = true) (ls : lst n.t n.p n.r n.b = n) (zt : Sz 2000 n.t) (zp : Sz 2000 n.p) (zb : Sz 2000 n.b) (z : subN n n = ⟨0, 0, 0, 1⟩) : NF n := ⟨⟨hv, zb.mono (by decide)⟩, ls, ls ▸ lst_good hv zt zp zb, z⟩
theorem nf1 : NF ⟨1, 2, 5, 3⟩ := nf_of (by decide +kernel) (by decide +kernel) (by unfold Sz; decide +kernel) (by unfold Sz; decide +kernel) (by unfold Sz; decide +kernel) (by decide +kernel)
theorem nf2 : NF ⟨0, 1, 5, 1⟩ := nf_of (by decide +kernel) (by decide +kernel) (by unfold Sz; decide +kernel) (by unfold Sz; decide +kernel) (by unfold Sz; decide +kernel) (by decide +kernel)
theorem nf3 : NF ⟨-7, -1, 5, 2⟩ := nf_of (by decide +kernel) (by decide +kernel) (by unfold Sz; decide +kernel) (by unfold Sz; decide +kernel) (by unfold Sz; decide +kernel) (by decide +kernel)
theorem nf4 : NF ⟨1, 1, 2, 1⟩ := nf_of (by decide +kernel) (by decide +kernel) (by unfold Sz; decide +kernel) (by unfold Sz; decide +kernel) (by unfold Sz; decide +kernel) (by decide +kernel)
theorem nf5 : NF ⟨0, -4, 3, 7⟩ := nf_of (by decide +kernel) (by decide +kernel) (by unfold Sz; decide +kernel) (by unfold Sz; decide +kernel) (by unfold Sz; decide +kernel) (by decide +kernel)
theorem nf6 : NF ⟨3, 1, 7, 2⟩ := nf_of (by decide +kernel) (by decide +kernel) (by unfold Sz; decide +kernel) (by unfold Sz; decide +kernel) (by unfold Sz; decide +kernel) (by decide +kernel)
theorem nf0 : NF ⟨0, 0, 0, 1⟩ := nf_of (by decide +kernel) (by decide +kernel) (by unfold Sz; decide +kernel) (by unfold Sz; decide +kernel) (by unfold Sz; decide +kernel) (by decide +kernel)
theorem nf34 : NF ⟨3, 0, 0, 4⟩ := nf_of (by decide +kernel) (by decide +kernel) (by unfold Sz; decide +kernel) (by unfold Sz; decide +kernel) (by unfold Sz; decide +kernel) (by decide +kernel)
theorem ok_lreck (T : Bn mg) (NC : NumT K mg C) (NI : NumI K C) (OT : OddT K C) (ET : ExT K IN IO) (EI : ErrT K mg "InvalidNumber" IN) (EO : ErrT K mg "InvalidOperation" IO) (D : DefC K mg "_law_reckons" s_lreck c) (WD : DefAt K mg "_law_word" s_lword)
    (TB : TabB base mg c Pt) (HM : (Pt, lamQ "_law_reckons") ∈ TL) (HU : ∀ p ∈ TL, p.1 = Pt → p.2 = lamQ "_law_reckons") (F_init : InitAt P w K mg base 3 C (spInit C)) (F__law_pick : FnAt P w K mg base 2 "_law_pick" ["_law_dice_here", "_law_items"] (spPick K))
    (F__law_made : FnAt P w K mg base 5 "_law_made" ["_law_parts"] (spLMade K C)) (O_sub : OpAt P w K mg base 7 C .Sub (spBin C subN))
    (F_usedU : FxAt P w K mg base 8 "_law_used" ["_law_way", "_law_one", "_law_other"] (spUsedU C IN)) (F_usedO : FxAt P w K mg base 8 "_law_used" ["_law_way", "_law_one", "_law_other"] (spUsedO K C IN)) (F_usedF : FnAt P w K mg base 8 "_law_used" ["_law_way", "_law_one", "_law_other"] (spUsedF C))
    (M_overZ : MxAt P w K mg base 7 C "over" ["self", "other"] (spOverZ C IO)) :
    FnAt P w K mg base 14 "_law_reckons" ["_law_dice_here"] (spJ TL) := by
  refine fnC D sc_lreck (fun _ _ _ _ _ _ us hl => match us, hl with | [_], _ => rfl) (fun vs H Q E h => ?_) fun f A outer s H vs Q E hr h => ?_
  · obtain ⟨a, rfl, _⟩ := h
    rfl
  obtain ⟨a, rfl, ha, ht, k⟩ := h
  refine ⟨_, (pss_cons (ps_set (i := 1) sc_lreck.nd rfl (Or.inr rfl) (callA F__law_made (hr.mono (by decide)) rfl (pa_cons (callA F__law_pick (hr.mono (by decide)) rfl (pa_cons (pv 0) (pa_cons (pe_lst (pa_cons (pe_tup (pa_cons pe_int (pa_cons pe_int (pa_cons pe_int (pa_cons pe_int pa_nil))))) (pa_cons (pe_tup (pa_cons pe_int (pa_cons pe_int (pa_cons pe_int (pa_cons pe_int pa_nil))))) (pa_cons (pe_tup (pa_cons (pe_un un_neg pe_int) (pa_cons (pe_un un_neg pe_int) (pa_cons pe_int (pa_cons pe_int pa_nil))))) pa_nil)))) pa_nil))) pa_nil)))
    (pss_cons (ps_set (i := 2) sc_lreck.nd rfl (Or.inr rfl) (callA F__law_made (hr.mono (by decide)) rfl (pa_cons (callA F__law_pick (hr.mono (by decide)) rfl (pa_cons (pv 0) (pa_cons (pe_lst (pa_cons (pe_tup (pa_cons pe_int (pa_cons pe_int (pa_cons pe_int (pa_cons pe_int pa_nil))))) (pa_cons (pe_tup (pa_cons pe_int (pa_cons (pe_un un_neg pe_int) (pa_cons pe_int (pa_cons pe_int pa_nil))))) (pa_cons (pe_tup (pa_cons pe_int (pa_cons pe_int (pa_cons pe_int (pa_cons pe_int pa_nil))))) pa_nil)))) pa_nil))) pa_nil)))
    (pss_cons (ps_set (i := 3) sc_lreck.nd rfl (Or.inr rfl) (callA F__law_pick (hr.mono (by decide)) rfl (pa_cons (pv 0) (pa_cons (pe_lst (pa_cons pe_non (pa_cons pe_bl (pa_cons pe_bl (pa_cons pe_str (pa_cons (pe_tup (pa_cons pe_int pa_nil)) (pa_cons (pe_lst (pa_cons pe_int pa_nil)) (pa_cons pe_dnewK (pa_cons pe_str pa_nil))))))))) pa_nil))))
    (pss_cons (ps_for PassesOwn.never rfl (pi_range1 (by rfl) T.b_range (pa_cons pe_int pa_nil)) (pg_name (i := 4) sc_lreck.nd rfl (Or.inr rfl))
      (pss_cons (ps_if (pt_cmpR op_ne (pe_word (k := 9) WD EI.g EO.g TB rfl HM HU (hr.mono (by decide)) rfl (LamX.lamS_by (show LamX.lamSB (defScope s_lreck) _ = true by decide +kernel)) rfl (fun _ _ _ _ _ => rfl) (fun _ _ _ _ _ _ _ hr => (callX F_usedU (hr.mono (by decide)) rfl (takes_of rfl rfl rfl rfl) (fun _ _ _ _ h => h) (pa_cons (pv 4) (pa_cons (pv 1) (pa_cons (pv 2) pa_nil)))))) pe_str (nomark _)) (pss_one (ps_ret pe_bl)) pss_nil)
    (Evl.pss_cut (ps_if (PW.pt (pw_and (pt_cmpR op_gt (pv 4) pe_int (nomark _)) (pw_and1 (pt_cmpR op_ne (pe_word (k := 9) WD EI.g EO.g TB rfl HM HU (hr.mono (by decide)) rfl (LamX.lamS_by (show LamX.lamSB (defScope s_lreck) _ = true by decide +kernel)) rfl (fun _ _ _ _ _ => rfl) (fun _ _ _ _ _ _ _ hr => (callX F_usedO (hr.mono (by decide)) rfl (takes_of rfl rfl rfl rfl) (fun _ _ _ _ h => h) (pa_cons (pv 4) (pa_cons (pv 2) (pa_cons (pv 3) pa_nil)))))) pe_str (nomark _))))) (pss_one (ps_ret pe_bl)) pss_nil)
    (Evl.pss_cut (ps_if (PW.pt (pw_and (pt_cmpR op_ne (pv 4) pe_int (nomark _)) (pw_and1 (pt_cmpR op_ne (pe_word (k := 9) WD EI.g EO.g TB rfl HM HU (hr.mono (by decide)) rfl (LamX.lamS_by (show LamX.lamSB (defScope s_lreck) _ = true by decide +kernel)) rfl (fun _ _ _ _ _ => rfl) (fun _ _ _ _ _ _ _ hr => (callA F_usedF (hr.mono (by decide)) rfl (pa_cons (pv 4) (pa_cons (pv 1) (pa_cons (pe_op (opA O_sub (hr.mono (by decide))) (pv 2) (pv 2)) pa_nil)))))) pe_str (nomark _))))) (pss_one (ps_ret pe_bl)) pss_nil)
    (pss_one (ps_if (pt_cmpR op_ne (pe_word (k := 9) WD EI.g EO.g TB rfl HM HU (hr.mono (by decide)) rfl (LamX.lamS_by (show LamX.lamSB (defScope s_lreck) _ = true by decide +kernel)) rfl (fun _ _ _ _ _ => rfl) (fun _ _ _ _ _ _ _ hr => (callA F_usedF (hr.mono (by decide)) rfl (pa_cons (pv 4) (pa_cons (pv 2) (pa_cons (mk2A F_init NC.g (hr.mono (by decide)) rfl (pa_cons pe_int pa_nil) (pk_cons pe_int pk_nil)) pa_nil)))))) pe_str (nomark _)) (pss_one (ps_ret pe_bl)) pss_nil))))))
    (pss_cons (ps_set (i := 5) sc_lreck.nd rfl (Or.inr rfl) (callA F__law_pick (hr.mono (by decide)) rfl (pa_cons (pv 0) (pa_cons (pe_lst (pa_cons pe_int (pa_cons (mk1A F_init NC.g (hr.mono (by decide)) rfl (pa_cons pe_int pa_nil)) (pa_cons (pe_op (opA O_sub (hr.mono (by decide))) (pv 1) (pv 1)) (pa_cons (pe_op (opA O_sub (hr.mono (by decide))) (pv 2) (pv 2)) pa_nil))))) pa_nil))))
    (pss_one (ps_ret (pe_cmpR op_eq (pe_word (k := 9) WD EI.g EO.g TB rfl HM HU (hr.mono (by decide)) rfl (LamX.lamS_by (show LamX.lamSB (defScope s_lreck) _ = true by decide +kernel)) rfl (fun _ _ _ _ _ => rfl) (fun _ _ _ _ _ _ _ hr => (methX M_overZ NC.cl (hr.mono (by decide)) (takes_of rfl rfl rfl rfl) (fun _ _ _ _ h => h) (pv 1) (pa_cons (pv 5) pa_nil)))) pe_str (nomark _))))))))), ?_⟩
  refine ⟨_, rfl, len_ok (Nat.le_of_ble_eq_true rfl), fun t1 n1 => ⟨len_ok (Nat.le_of_ble_eq_true rfl), fun t2 n2 => ⟨_, rfl, _, rfl, len_ok (Nat.le_of_ble_eq_true rfl), fun t3 n3 => ⟨len_ok (Nat.le_of_ble_eq_true rfl), fun p1 n4 => ?_⟩⟩⟩⟩
  have e1 := ext_new (o := .tup (nt ⟨1, 2, 5, 3⟩)) (ext_refl H) n1
  have e2 := ext_new (o := .tup (nt ⟨0, 1, 5, 1⟩)) (ext_refl _) n2
  have e3 := ext_new (o := .tup (nt ⟨-7, -1, 5, 2⟩)) (ext_refl _) n3
  have e4 := ext_new (o := .lst [.ref t1, .ref t2, .ref t3]) (ext_refl _) n4
  have h1 := e4 _ _ (e3 _ _ (e2 _ _ (upd_same (H := H) (a := t1) (o := .tup (nt ⟨1, 2, 5, 3⟩)))))
  have h2 := e4 _ _ (e3 _ _ (upd_same (a := t2) (o := .tup (nt ⟨0, 1, 5, 1⟩))))
  have h3 := e4 _ _ (upd_same (a := t3) (o := .tup (nt ⟨-7, -1, 5, 2⟩)))
  have e04 := ((e1.trans e2).trans e3).trans e4
  refine ⟨a, p1, _, rfl, e04 _ _ ha, SqL.of upd_same, by simp, Nat.le_of_ble_eq_true rfl, fun q hq => ?_⟩
  clear e1 e2 e3 e4
  generalize upd (upd (upd (upd H t1 _) t2 _) t3 _) p1 _ = H4 at *
  obtain ⟨qa, n, rfl, hqa, hn5, nf⟩ : ∃ (qa : Addr) (n : Nm), q = .ref qa ∧ H4 qa = some (.tup (nt n)) ∧ n.r = 5 ∧ NF n := by
    simp only [List.mem_cons, List.not_mem_nil, or_false] at hq
    rcases hq with rfl | rfl | rfl
    · exact ⟨_, _, rfl, h1, rfl, nf1⟩
    · exact ⟨_, _, rfl, h2, rfl, nf2⟩
    · exact ⟨_, _, rfl, h3, rfl, nf3⟩
  refine ⟨qa, n, rfl, SqT.of hqa, nf.nv, fun a1 H5 e5 hn => ?_⟩
  rw [nf.ls] at hn
  have e05 := e04.trans e5
  clear h1 h2 h3 hq hqa
  refine ⟨_, rfl, len_ok (Nat.le_of_ble_eq_true rfl), fun t4 n5 => ⟨_, rfl, len_ok (Nat.le_of_ble_eq_true rfl), fun t5 n6 => ⟨len_ok (Nat.le_of_ble_eq_true rfl), fun t6 n7 => ⟨len_ok (Nat.le_of_ble_eq_true rfl), fun p2 n8 => ?_⟩⟩⟩⟩
  have e1 := ext_new (o := .tup (nt ⟨1, 1, 2, 1⟩)) (ext_refl H5) n5
  have e2 := ext_new (o := .tup (nt ⟨0, -4, 3, 7⟩)) (ext_refl _) n6
  have e3 := ext_new (o := .tup (nt ⟨3, 1, 7, 2⟩)) (ext_refl _) n7
  have e4 := ext_new (o := .lst [.ref t4, .ref t5, .ref t6]) (ext_refl _) n8
  have h1 := e4 _ _ (e3 _ _ (e2 _ _ (upd_same (H := H5) (a := t4) (o := .tup (nt ⟨1, 1, 2, 1⟩)))))
  have h2 := e4 _ _ (e3 _ _ (upd_same (a := t5) (o := .tup (nt ⟨0, -4, 3, 7⟩))))
  have h3 := e4 _ _ (upd_same (a := t6) (o := .tup (nt ⟨3, 1, 7, 2⟩)))
  have e08 := ((e1.trans e2).trans e3).trans e4
  refine ⟨a, p2, _, rfl, e08 _ _ (e05 _ _ ha), SqL.of upd_same, by simp, Nat.le_of_ble_eq_true rfl, fun q hq => ?_⟩
  clear e1 e2 e3 e4
  generalize upd (upd (upd (upd H5 t4 _) t5 _) t6 _) p2 _ = H8 at *
  obtain ⟨qb, m, rfl, hqb, hm0, hm5, mf⟩ : ∃ (qa : Addr) (n : Nm), q = .ref qa ∧ H8 qa = some (.tup (nt n)) ∧ n.r ≠ 0 ∧ n.r ≠ 5 ∧ NF n := by
    simp only [List.mem_cons, List.not_mem_nil, or_false] at hq
    rcases hq with rfl | rfl | rfl
    · exact ⟨_, _, rfl, h1, by decide, by decide, nf4⟩
    · exact ⟨_, _, rfl, h2, by decide, by decide, nf5⟩
    · exact ⟨_, _, rfl, h3, by decide, by decide, nf6⟩
  refine ⟨qb, m, rfl, SqT.of hqb, mf.nv, fun a2 H9 e9 hm => ?_⟩
  rw [mf.ls] at hm
  have hn9 := hn.ext (e08.trans e9)
  have e09 := (e05.trans e08).trans e9
  clear h1 h2 h3 hq hqb
  refine ⟨_, rfl, len_ok (Nat.le_of_ble_eq_true rfl), fun t7 n9 => ⟨len_ok (Nat.le_of_ble_eq_true rfl), fun l1 n10 d1 n11 => ⟨len_ok (Nat.le_of_ble_eq_true rfl), fun p3 n12 => ?_⟩⟩⟩
  have e1 := ext_new (o := .tup [.int 1]) (ext_refl H9) n9
  have e2 := ext_new (o := .lst [.int 2]) (ext_refl _) n10
  have e3 := ext_new (o := .dK []) (ext_refl _) n11
  have e4 := ext_new (o := .lst [.non, .bl true, .bl false, .str "1", .ref t7, .ref l1, .ref d1, .str ""]) (ext_refl _) n12
  have h1 := e4 _ _ (e3 _ _ (e2 _ _ (upd_same (H := H9) (a := t7) (o := .tup [.int 1]))))
  have h2 := e4 _ _ (e3 _ _ (upd_same (a := l1) (o := .lst [.int 2])))
  have h3 := e4 _ _ (upd_same (a := d1) (o := .dK []))
  have e10 := ((e1.trans e2).trans e3).trans e4
  have e010 := e09.trans e10
  refine ⟨a, p3, _, rfl, e010 _ _ ha, SqL.of upd_same, by simp, Nat.le_of_ble_eq_true rfl, fun odd ho => ?_⟩
  clear e1 e2 e3 e4
  generalize upd (upd (upd (upd H9 t7 _) l1 _) d1 _) p3 _ = Ha at *
  have od : OddN K C Ha odd := by
    simp only [List.mem_cons, List.not_mem_nil, or_false] at ho
    rcases ho with rfl | rfl | rfl | rfl | rfl | rfl | rfl | rfl
    · exact ⟨odd_non, _, .base .non, OT.k0⟩
    · exact ⟨odd_bl, _, .base (.bl _), OT.k2⟩
    · exact ⟨odd_bl, _, .base (.bl _), OT.k2⟩
    · exact ⟨odd_str, _, .base (.str _), OT.k3⟩
    · exact ⟨odd_tup h1, _, .base (.tup h1), OT.k4⟩
    · exact ⟨odd_lst h2, _, .base (.lst h2), OT.k5⟩
    · exact ⟨odd_dct h3, _, .base (.dK h3), OT.k6⟩
    · exact ⟨odd_str, _, .base (.str _), OT.k3⟩
  have hna := hn9.ext e10
  have hma := hm.ext e10
  have aa : Aft TL H Ha := (Aft.refl ht).ext e010
  clear h1 h2 h3 ho hn hm hn9
  refine ⟨5, rfl, by decide, by decide, for_range (n := 5) (fun i σ' Hb => (∃ v, σ' = [some (.ref a), some (.ref a1), some (.ref a2), some odd, v, none]) ∧ Aft TL Ha Hb) ⟨⟨_, rfl⟩, .refl aa.t⟩ (fun i σ' Hb hi ⟨⟨v, es⟩, af⟩ => ?_) fun σ' Hb ⟨⟨v, es⟩, af⟩ => ?_⟩
  · subst es
    have z0 : (0 : Int) + (i : Int) = i := Int.zero_add _
    refine ⟨af.t, fun H3 eN T3 => ?_⟩
    have af3 : Aft TL Ha H3 := af.trans ⟨eN, T3⟩
    refine ⟨_, rfl, _, rfl, _, rfl, i, a1, .ref a2, n, m, (by rw [z0]; rfl), hi, af3.num hna, .inl ⟨a2, rfl, af3.num hma⟩, by rw [hn5]; decide, hm0, by rw [hn5]; exact Ne.symm hm5, fun H4 e4 => ⟨true, ET.nn, fun _ => ?_, fun z => by cases z⟩⟩
    refine ⟨rfl, _, rfl, ite2 (fun h => absurd h (by decide)) (fun _ => ?_)⟩
    have af4 := af3.ext e4
    refine ⟨fun σ' H' => σ' = [some (.ref a), some (.ref a1), some (.ref a2), some odd, some (.int (0 + (i : Int))), none] ∧ Aft TL Ha H', ⟨_, rfl, _, _, rfl, rfl, _, rfl, ite2 (fun h => ?_) (fun h => ?_)⟩, ?_⟩
    · have hi2 : 2 < i := by
        have z := of_decide_eq_true h
        omega
      refine ⟨af4.t, fun H5 eN5 T5 => ?_⟩
      have af5 : Aft TL Ha H5 := af4.trans ⟨eN5, T5⟩
      refine ⟨_, rfl, _, rfl, _, rfl, i, a2, odd, (by rw [z0]; rfl), hi, hi2, od.aft af5, ⟨m, af5.num hma⟩, true, ET.nn, fun _ => ?_, fun z => by cases z⟩
      exact ⟨rfl, _, rfl, ite2 (fun h => absurd h (by decide)) (fun _ => ⟨rfl, af5⟩)⟩
    · exact ite2 (fun h' => absurd h' (by decide)) (fun _ => ⟨rfl, af4⟩)
    rintro σ' H6 ⟨rfl, af6⟩
    refine ⟨fun σ' H' => σ' = [some (.ref a), some (.ref a1), some (.ref a2), some odd, some (.int (0 + (i : Int))), none] ∧ Aft TL Ha H', ⟨_, rfl, rfl, _, rfl, ite2 (fun h => ?_) (fun h => ?_)⟩, ?_⟩
    · have hi3 : i ≠ 3 := fun z => by
        rw [z] at h
        exact absurd h (by decide)
      refine ⟨af6.t, fun H7 eN7 T7 => ?_⟩
      have af7 : Aft TL Ha H7 := af6.trans ⟨eN7, T7⟩
      obtain ⟨dy, q7⟩ := id (af7.num hma)
      refine ⟨_, rfl, _, rfl, _, rfl, _, rfl, a2, dy, _, rfl, q7, .inr ⟨a2, dy, _, rfl, q7⟩, a2, .ref a2, m, m, rfl, af7.num hma, .inl ⟨a2, rfl, af7.num hma⟩, mf.g, mf.g, .inr (.inr rfl), fun x H8 e8 hx => ?_⟩
      rw [mf.z] at hx
      have af8 := af7.ext e8
      refine ⟨i, a1, .ref x, n, ⟨0, 0, 0, 1⟩, (by rw [z0]; rfl), hi, af8.num hna, .inl ⟨x, rfl, hx⟩, nf.g, nf0.g, .inr (.inl rfl), fun z => absurd z hi3, fun v' H9 e9 => ?_⟩
      exact ⟨rfl, _, rfl, ite2 (fun h => absurd h (by decide)) (fun _ => ⟨rfl, af8.ext e9⟩)⟩
    · exact ite2 (fun h' => absurd h' (by decide)) (fun _ => ⟨rfl, af6⟩)
    rintro σ' H10 ⟨rfl, af10⟩
    refine ⟨af10.t, fun H11 eN11 T11 => ?_⟩
    have af11 : Aft TL Ha H11 := af10.trans ⟨eN11, T11⟩
    refine ⟨_, rfl, _, rfl, rfl, rfl, fun x dx q1 q2 q3 => ⟨x, dx, 3, 0, 0, 4, rfl, upd_same, nf34.nv, fun H12 keep hx => ⟨rfl, ?_⟩⟩⟩
    have e12 := mk_ext q1 q2 keep
    have hnx : NumAt C H12 x ⟨3, 0, 0, 4⟩ := ⟨dx, (nf34.ls : lst 3 0 0 4 = _) ▸ hx⟩
    have af12 := af11.ext e12
    refine ⟨i, a2, .ref x, m, ⟨3, 0, 0, 4⟩, (by rw [z0]; rfl), hi, af12.num hma, .inl ⟨x, rfl, hnx⟩, mf.g, nf34.g, .inr (.inl rfl), fun _ => by decide, fun v' H13 e13 => ?_⟩
    exact ⟨rfl, _, rfl, ite2 (fun h => absurd h (by decide)) (fun _ => ⟨⟨_, rfl⟩, af12.ext e13⟩)⟩
  subst es
  have hn2 := af.num hna
  have hm2 := af.num hma
  refine ⟨_, rfl, fun x dx q1 q2 q3 => ⟨x, dx, 0, 0, 0, 1, rfl, upd_same, nf0.nv, fun Hc keep hx => ⟨rfl, ?_⟩⟩⟩
  have ec := mk_ext q1 q2 keep
  have hnx : NumAt C Hc x ⟨0, 0, 0, 1⟩ := ⟨dx, (nf0.ls : lst 0 0 0 1 = _) ▸ hx⟩
  have hn3 := hn2.ext ec
  have hm3 := hm2.ext ec
  obtain ⟨dy, q7⟩ := id hn3
  refine ⟨_, rfl, _, rfl, a1, dy, _, rfl, q7, .inr ⟨a1, dy, _, rfl, q7⟩, a1, .ref a1, n, n, rfl, hn3, .inl ⟨a1, rfl, hn3⟩, nf.g, nf.g, .inr (.inr rfl), fun y Hd ed hy => ?_⟩
  rw [nf.z] at hy
  have hm4 := hm3.ext ed
  obtain ⟨dz, q8⟩ := id hm4
  refine ⟨_, rfl, _, rfl, a2, dz, _, rfl, q8, .inr ⟨a2, dz, _, rfl, q8⟩, a2, .ref a2, m, m, rfl, hm4, .inl ⟨a2, rfl, hm4⟩, mf.g, mf.g, .inr (.inr rfl), fun z He ee hz => ⟨len_ok (Nat.le_of_ble_eq_true rfl), fun p4 n13 => ?_⟩⟩
  rw [mf.z] at hz
  have ef := ext_new (o := .lst [.int 0, .ref x, .ref y, .ref z]) (ext_refl He) n13
  have e4 := ((ec.trans ed).trans ee).trans ef
  have af5 := (aa.trans af).ext e4
  refine ⟨a, p4, _, rfl, af5.dice ha, SqL.of upd_same, by simp, Nat.le_of_ble_eq_true rfl, fun nought hno => ?_⟩
  have opd : Opd C (upd He p4 (.lst [.int 0, .ref x, .ref y, .ref z])) nought ⟨0, 0, 0, 1⟩ := by
    simp only [List.mem_cons, List.not_mem_nil, or_false] at hno
    rcases hno with rfl | rfl | rfl | rfl
    · exact .inr ⟨0, rfl, rfl⟩
    · exact .inl ⟨_, rfl, ((hnx.ext ed).ext ee).ext ef⟩
    · exact .inl ⟨_, rfl, (hy.ext ee).ext ef⟩
    · exact .inl ⟨_, rfl, hz.ext ef⟩
  have hn6 : NumAt C (upd He p4 (.lst [.int 0, .ref x, .ref y, .ref z])) a1 n := hn2.ext e4
  generalize upd He p4 (.lst [.int 0, .ref x, .ref y, .ref z]) = Hf at *
  refine ⟨af5.t, fun Hg eN T3 => ?_⟩
  have af6 : Aft TL Hf Hg := ⟨eN, T3⟩
  have hn7 := af6.num hn6
  have opd7 : Opd C Hg nought ⟨0, 0, 0, 1⟩ := by
    rcases opd with ⟨b, rfl, q⟩ | ⟨i, rfl, e⟩
    · exact .inl ⟨b, rfl, af6.num q⟩
    · exact .inr ⟨i, rfl, e⟩
  obtain ⟨dw, q9⟩ := id hn7
  refine ⟨_, rfl, a1, dw, _, rfl, q9, rfl, _, rfl, a1, nought, n, ⟨0, 0, 0, 1⟩, rfl, hn7, opd7, nf0.g, .inr (.inl rfl), rfl, rfl, fun Hh eh => ⟨false, ET.on, nofun, fun _ => ⟨true, ET.oo, fun _ => ?_, fun z => by cases z⟩⟩⟩
  exact ⟨rfl, k _ ((af5.trans af6).ext eh)⟩
end
end My
namespace My
open PySem PySem.Spec PyProof.Rows L2
open LamX (TabB Tabs TabS ExtN CodeO LamS)
local macro_rules | `(tactic| walk_at "side") => `(tactic| first | assumption | decide | exact Or.inl ⟨by decide, by decide⟩ | exact Or.inr ⟨by decide, by decide⟩ | exact ⟨by decide, by decide, by decide⟩ | omega | (unfold CMulW; decide +kernel) | (dsimp only; first | assumption | omega | decide +kernel) | exact len_ok (Nat.le_of_ble_eq_true rfl) | fail "side")
local macro_rules | `(tactic| walk_at "rd") => `(tactic| first
  | refine ⟨_, _, _, _, rfl, rfl, SqL.of upd_same, atI_nat (j := 0) rfl, ?_⟩ | refine ⟨_, _, _, _, rfl, rfl, SqL.of upd_same, atI_nat (j := 1) rfl, ?_⟩ | refine ⟨_, _, _, _, rfl, rfl, SqL.of upd_same, atI_nat (j := 2) rfl, ?_⟩
  | refine ⟨_, _, _, _, rfl, rfl, upd_same, rfl, ?_⟩
  | refine ⟨_, _, rfl, rfl, ?_⟩ | refine ⟨_, rfl, ?_⟩ | refine ⟨_, _, rfl, ?_⟩ | refine Or.inl ⟨_, rfl, ?_⟩ | refine Or.inr ⟨_, rfl, ?_⟩ | refine ⟨(by walk_at "side"), ?_⟩ | fail "rd")

abbrev s_ltog : Stmt := top 39
theorem sc_ltog : FnScope ["_law_dice_here", "_law_roots", "_law_turn", "_law_numbers", "_law_root", "_law_unlike", "_law_bad"] ["_law_dice_here"] (defScope s_ltog) := ⟨rfl, rfl, rfl, by decide +kernel, rfl, by decide +kernel, by decide +kernel⟩
/-- no tuple of numbers -/
def BadT (K : PySem.W.Frag) (C : Addr) (H : Hp) (v : V) : Prop := (∃ t, TyX K H v t ∧ PySem.W.kitOne K t (.type "tuple") = some false) ∨
  ∃ (a : Addr) (xs : List V) (ns : List Nm) (y : V) (t : Value), v = V.ref a ∧ H a = some (.tup (xs ++ [y])) ∧ AllNum C H xs ns ∧ xs.length ≤ 900 ∧ (∀ H', TyX K H' y t) ∧ PySem.W.kitOne K t (.ref C) = some false
def spHorX (K : PySem.W.Frag) (C IN : Addr) : Sp := fun vs H _ E => ∃ v, vs = [v] ∧ BadT K C H v ∧ ∀ H', Ext H H' → E (.ref IN) none H'
section
variable {P : Program} {w : World} {K : PySem.W.Frag} {mg : Str → Option Value} {base : Heap} {C IN IO c Pt : Addr} {TL : List (Addr × Str)}
theorem ok_horX (T : Bn mg) (D : DefAt K mg "have_one_root" s_hor) (NC : NumT K mg C) (NI : NumI K C) (EI : ErrT K mg "InvalidNumber" IN) (F_root : PropAt P w K mg base 1 C "root" (spProp C fun n => .int n.r)) : FxAt P w K mg base 3 "have_one_root" ["numbers"] (spHorX K C IN) := by
  refine fxAt D sc_hor (fun _ _ _ _ _ _ us hl => match us, hl with | [_], _ => rfl) (fun vs H Q E h => ?_) fun f cdv A outer s H vs Q E hr h => ?_
  · obtain ⟨v, rfl, _⟩ := h
    rfl
  obtain ⟨v, rfl, bad, k⟩ := h
  refine ⟨_, (pss_cons (ps_if (PW.pt (pw_or (pt_not (pt_val (pe_callB call_isi (by rfl) T.b_isinstance (by decide +kernel) (pa_cons (pv 0) (pa_cons (pe_bltn (v := .ty "tuple") (by rfl) T.b_tuple (by decide +kernel) rfl) pa_nil))))) (pw_or1 (pt_not (pt_val (pe_callB (cr_all rfl) (by rfl) T.b_all (by decide +kernel) (pa_cons (pe_lc (own := [("number", 1)]) (g := gName 1) (tt := tYes) rfl sc_hor.nd (pi_tup (pv 0)) (blkOk_by (N := ["numbers", "number"]) (sc := defScope s_hor) (by decide +kernel)) (fun _ _ _ _ _ => pg_name (i := 1) sc_hor.nd rfl (Or.inl rfl)) (fun _ _ _ _ _ => pts_nil) (fun _ _ _ _ _ => (pe_callB (show CallR _ (.builtin "isinstance") (rIsi K) from call_isi) (by rfl) T.b_isinstance (by decide +kernel) (pa_cons (pv 1) (pa_cons (pe_glob (v := .ref C) rfl NC.g rfl) pa_nil))))) pa_nil))))))) (pss_one (raiseX EI rfl (takes_of rfl rfl rfl rfl) rfl)) pss_nil)
    (pss_one (ps_ret (pe_cmpR op_le (pe_callB cr_lenS (by rfl) T.b_len (by decide +kernel) (pa_cons (pe_scI (own := [("number", 1)]) (g := gName 1) (tt := _) rfl sc_hor.nd (pi_tup (pv 0)) (blkOk_by (N := ["numbers", "number"]) (sc := defScope s_hor) (by decide +kernel)) (fun _ _ _ _ _ => pg_name (i := 1) sc_hor.nd rfl (Or.inl rfl)) (fun _ _ _ _ _ => pts_one (pt_cmpR op_ne (propA F_root NC.cl (hr.mono (by decide)) (pv 1)) pe_int (nomark _))) (fun _ _ _ _ _ => (propA F_root NC.cl (hr.mono (by decide)) (pv 1)))) pa_nil)) pe_int (nomark _))))), ?_⟩
  rcases bad with ⟨t, ty, hk⟩ | ⟨a, xs, ns, y, t, rfl, ha, al, hl, ty, hk⟩
  · exact ⟨_, rfl, _, _, _, _, false, rfl, .ty _, ty, hk, _, rfl, iteT (iteT (k H (ext_refl H)))⟩
  refine ⟨_, rfl, _, _, _, _, true, rfl, .ty _, .base (.tup ha), kit_ty kit_tuptup, _, rfl, iteF ?_⟩
  refine ⟨_, rfl, a, rfl, ⟨_, SqT.of ha⟩, fun D hD => map_tup (xs := xs ++ [y]) (fun i _ => .bl (decide (i ≠ xs.length))) (SqT.of ha) hD (by simp; omega) (fun _ => rfl) (fun i x H' hi e Q' k' => ?_) fun H' e hl2 => ?_⟩
  · by_cases hx : i < xs.length
    · rw [List.getElem?_append_left hx] at hi
      obtain ⟨b, n, rfl, _, hn⟩ := al.2 i x hi
      rw [decide_eq_true (show i ≠ xs.length by omega)] at k'
      exact ⟨_, rfl, _, _, _, _, true, rfl, .own C, (hn.ext e).ty NC.cl NI, NI.kNum, k' H' (ext_refl _)⟩
    · rw [List.getElem?_append_right (by omega)] at hi
      obtain ⟨e1, rfl⟩ : i = xs.length ∧ x = y := by
        have hlt := (List.getElem?_eq_some_iff.mp hi).1
        have e0 : i - xs.length = 0 := by simpa using hlt
        rw [e0] at hi
        exact ⟨by omega, (Option.some.inj hi).symm⟩
      rw [decide_eq_false (show ¬ i ≠ xs.length from fun z => z e1)] at k'
      exact ⟨_, rfl, _, _, _, _, false, rfl, .own C, ty _, hk, k' H' (ext_refl _)⟩
  have eb : ((xs ++ [y]).mapIdx fun i _ => V.bl (decide (i ≠ xs.length))) = ((xs ++ [y]).mapIdx fun i _ => decide (i ≠ xs.length)).map V.bl := by
    rw [List.mapIdx_eq_iff]
    intro i
    rw [List.getElem?_map, List.getElem?_mapIdx, Option.map_map]
    rfl
  rw [eb] at hl2
  have ea : ((xs ++ [y]).mapIdx fun i _ => decide (i ≠ xs.length)).all id = false := by
    rw [List.all_eq_false]
    refine ⟨false, ?_, by simp⟩
    rw [List.mem_iff_getElem?]
    exact ⟨xs.length, by rw [List.getElem?_mapIdx, List.getElem?_append_right (Nat.le_refl _)]; simp⟩
  refine ⟨D, _, rfl, SqL.of hl2, _, rfl, ?_⟩
  exact ite2 (fun _ => k _ ((ext_refl H).trans e)) (fun h => absurd (by rw [ea]; rfl) h)
theorem cat_use {H : Hp} {a b : Addr} {xs : List V} {y : V} {Q : VK} (ha : H a = some (.tup xs)) (hb : H b = some (.tup [y])) (hl : xs.length ≤ 1000) (k : ∀ p H', Ext H H' → H' p = some (.tup (xs ++ [y])) → Q (.ref p) H') : rCatA K (.ref a) (.ref b) H Q :=
  ⟨a, b, xs, [y], rfl, rfl, SqT.of ha, SqT.of hb, Nat.le_trans (show xs.length + 1 ≤ 1001 by omega) (by decide), fun e => k b H (ext_refl H) (by rw [hb, e]; rfl), fun _ z => (nomatch z), fun _ _ p hp => k p _ (ext_new (ext_refl H) hp) upd_same⟩
theorem AllNum.aft {TL : List (Addr × Str)} {H H' : Hp} {xs : List V} {ns : List Nm} (h : AllNum C H xs ns) (e : Aft TL H H') : AllNum C H' xs ns := ⟨h.1, fun i x hi => let ⟨a, n, e1, e2, q⟩ := h.2 i x hi; ⟨a, n, e1, e2, e.num q⟩⟩
theorem BadT.aft {TL : List (Addr × Str)} {H H' : Hp} {v : V} (h : BadT K C H v) (e : Aft TL H H') : BadT K C H' v := by
  rcases h with ⟨t, ty, hk⟩ | ⟨a, xs, ns, y, t, rfl, ha, al, hl, ty, hk⟩
  · exact .inl ⟨t, tyX_aft ty e, hk⟩
  · exact .inr ⟨a, xs, ns, y, t, rfl, e.tup ha, al.aft e, hl, ty, hk⟩
def Q4 (q : Int) : Prop := q = 0 ∨ q = 2 ∨ q = 3 ∨ q = 5
theorem nv_q {q : Int} (h : Q4 q) : NV 1 (if decide (0 < q) = true then 1 else 0) q 1 ∧ (lst 1 (if decide (0 < q) = true then 1 else 0) q 1).r = q := by
  have sz : Sz 9000 1 := by unfold Sz; decide +kernel
  rcases h with rfl | rfl | rfl | rfl
  · exact ⟨⟨by decide +kernel, sz⟩, by decide +kernel⟩
  · exact ⟨⟨by decide +kernel, sz⟩, by decide +kernel⟩
  · exact ⟨⟨by decide +kernel, sz⟩, by decide +kernel⟩
  · exact ⟨⟨by decide +kernel, sz⟩, by decide +kernel⟩
theorem q4_pos {q : Int} (h : Q4 q) : decide (0 < q) = !decide (q = 0) := by rcases h with rfl | rfl | rfl | rfl <;> decide
/-- numbers made of roots -/
def OfRoots (C : Addr) (rs : List Int) (acc : List V) (H : Hp) : Prop := ∃ ns, AllNum C H acc ns ∧ ns.map Nm.r = rs.take acc.length
theorem ofRoots_keeps {D : Addr} {rs : List Int} : Keeps D (OfRoots C rs) := fun acc H H' ⟨ns, al, e⟩ ⟨l, hl⟩ keep => ⟨ns, ⟨al.1, fun i x hi => by
  obtain ⟨a, n, e1, e2, dx, q⟩ := al.2 i x hi
  exact ⟨a, n, e1, e2, dx, keep a _ q fun z => by rw [z, hl] at q; cases q⟩⟩, e⟩
theorem ok_ltog (T : Bn mg) (NC : NumT K mg C) (NI : NumI K C) (OT : OddT K C) (ET : ExT K IN IO) (EI : ErrT K mg "InvalidNumber" IN) (EO : ErrT K mg "InvalidOperation" IO) (D : DefC K mg "_law_together" s_ltog c) (WD : DefAt K mg "_law_word" s_lword)
    (TB : TabB base mg c Pt) (HM : (Pt, lamQ "_law_together") ∈ TL) (HU : ∀ p ∈ TL, p.1 = Pt → p.2 = lamQ "_law_together") (F_init : InitAt P w K mg base 3 C (spInit C)) (F__law_roll : FnAt P w K mg base 1 "_law_roll" ["_law_dice_here", "_law_total"] spRoll) (F__law_pick : FnAt P w K mg base 2 "_law_pick" ["_law_dice_here", "_law_items"] (spPick K))
    (F_have_one_root : FnAt P w K mg base 3 "have_one_root" ["numbers"] (spHor C)) (F_horX : FxAt P w K mg base 3 "have_one_root" ["numbers"] (spHorX K C IN)) :
    FnAt P w K mg base 14 "_law_together" ["_law_dice_here"] (spJ TL) := by
  refine fnC D sc_ltog (fun _ _ _ _ _ _ us hl => match us, hl with | [_], _ => rfl) (fun vs H Q E h => ?_) fun f A outer s H vs Q E hr h => ?_
  · obtain ⟨a, rfl, _⟩ := h
    rfl
  obtain ⟨a, rfl, ha, ht, k⟩ := h
  refine ⟨_, (pss_cons (ps_setLc (i := 1) (own := [("_law_turn", 2)]) (g := gName 2) (tt := tYes) rfl sc_ltog.nd rfl rfl (sw_true rfl rfl rfl (by decide +kernel)) (pi_range1 (by rfl) T.b_range (pa_cons (callA F__law_roll (hr.mono (by decide)) rfl (pa_cons (pv 0) (pa_cons pe_int pa_nil))) pa_nil)) (blkOk_by (N := ["_law_dice_here", "_law_roots", "_law_turn", "_law_numbers", "_law_root", "_law_unlike", "_law_bad"]) (sc := defScope s_ltog) (by decide +kernel)) (fun _ _ _ _ _ => pg_name (i := 2) sc_ltog.nd rfl (Or.inl rfl)) (fun _ _ _ _ _ => pts_nil) (fun _ _ _ _ _ => (callA F__law_pick (hr.mono (by decide)) rfl (pa_cons (pv 0) (pa_cons (pe_lst (pa_cons pe_int (pa_cons pe_int (pa_cons pe_int (pa_cons pe_int (pa_cons pe_int pa_nil)))))) pa_nil)))))
    (pss_cons (ps_set (i := 3) sc_ltog.nd rfl (Or.inl rfl) (pe_callTy call_tuple_of (by rfl) T.b_tuple (by decide +kernel) (pa_cons (pe_lc (own := [("_law_root", 4)]) (g := gName 4) (tt := tYes) rfl sc_ltog.nd (pi_list (pv 1)) (blkOk_by (N := ["_law_dice_here", "_law_roots", "_law_turn", "_law_numbers", "_law_root", "_law_unlike", "_law_bad"]) (sc := defScope s_ltog) (by decide +kernel)) (fun _ _ _ _ _ => pg_name (i := 4) sc_ltog.nd rfl (Or.inl rfl)) (fun _ _ _ _ _ => pts_nil) (fun _ _ _ _ _ => (mkRA F_init NC.g (hr.mono (by decide)) rfl (pa_cons pe_int (pa_cons (pe_callTy call_int1 (by rfl) T.b_int (by decide +kernel) (pa_cons (pe_cmpR op_gt (pv 4) pe_int (nomark _)) pa_nil)) pa_nil)) (pk_cons (pv 4) pk_nil)))) pa_nil)))
    (pss_cons (ps_set (i := 5) sc_ltog.nd rfl (Or.inl rfl) (pe_lenG rfl T.b_len rfl T.b_set (pe_lc (own := [("_law_root", 4)]) (g := gName 4) (tt := _) rfl sc_ltog.nd (pi_list (pv 1)) (blkOk_by (N := ["_law_dice_here", "_law_roots", "_law_turn", "_law_numbers", "_law_root", "_law_unlike", "_law_bad"]) (sc := defScope s_ltog) (by decide +kernel)) (fun _ _ _ _ _ => pg_name (i := 4) sc_ltog.nd rfl (Or.inl rfl)) (fun _ _ _ _ _ => pts_one (pt_cmpR op_gt (pv 4) pe_int (nomark _))) (fun _ _ _ _ _ => (pe_callTy call_int1 (by rfl) T.b_int (by decide +kernel) (pa_cons (pv 4) pa_nil))))))
    (pss_cons (ps_if (pt_cmpR op_ne (pe_callB cr_reprB (by rfl) T.b_repr (by decide +kernel) (pa_cons (callA F_have_one_root (hr.mono (by decide)) rfl (pa_cons (pv 3) pa_nil)) pa_nil)) (pe_callB cr_reprB (by rfl) T.b_repr (by decide +kernel) (pa_cons (pe_cmpR op_lt (pv 5) pe_int (nomark _)) pa_nil)) (nomark _)) (pss_one (ps_ret pe_bl)) pss_nil)
    (pss_cons (ps_set (i := 6) sc_ltog.nd rfl (Or.inr rfl) (callA F__law_pick (hr.mono (by decide)) rfl (pa_cons (pv 0) (pa_cons (pe_lst (pa_cons pe_non (pa_cons pe_int (pa_cons (pe_callTy call_list_of (by rfl) T.b_list (by decide +kernel) (pa_cons (pv 3) pa_nil)) (pa_cons (pe_op op_catA (pv 3) (pe_tup (pa_cons pe_int pa_nil))) (pa_cons (pe_op op_catA (pv 3) (pe_tup (pa_cons pe_non pa_nil))) (pa_cons pe_dnewK (pa_cons pe_str (pa_cons (pe_op op_catA (pv 3) (pe_tup (pa_cons pe_bl pa_nil))) pa_nil))))))))) pa_nil))))
    (pss_one (ps_ret (pe_cmpR op_eq (pe_word (k := 9) WD EI.g EO.g TB rfl HM HU (hr.mono (by decide)) rfl (LamX.lamS_by (show LamX.lamSB (defScope s_ltog) _ = true by decide +kernel)) rfl (fun _ _ _ _ _ => rfl) (fun _ _ _ _ _ _ _ hr => (callX F_horX (hr.mono (by decide)) rfl (takes_of rfl rfl rfl rfl) (fun _ _ _ _ h => h) (pa_cons (pv 6) pa_nil)))) pe_str (nomark _))))))))), ?_⟩
  refine ⟨_, rfl, a, 5, rfl, ha, by decide, by unfold Sz; decide +kernel, fun r hr0 hr5 => ⟨r, rfl, by omega, by omega, fun D hD => made_range (n := r.toNat) (fun acc _ => ∃ rs : List Int, acc = rs.map V.int ∧ ∀ q ∈ rs, Q4 q) (fun _ _ _ p _ _ => p) hD (by omega) (fun _ => rfl) (fun _ => ⟨[], rfl, by simp⟩) (fun i H' acc hi e hl ⟨rs, ea, hq⟩ Q' k' => ?_) fun H1 acc e1 hD1 hl1 ⟨rs, ea, hq⟩ => ?_⟩⟩
  · refine ⟨_, rfl, len_ok (Nat.le_of_ble_eq_true rfl), fun p hp => ⟨a, p, _, rfl, ext_new e hp _ _ ha, SqL.of upd_same, by simp, Nat.le_of_ble_eq_true rfl, fun x hx => ?_⟩⟩
    obtain ⟨q, rfl, hq4⟩ : ∃ q, x = .int q ∧ Q4 q := by
      simp only [List.mem_cons, List.not_mem_nil, or_false] at hx
      rcases hx with rfl | rfl | rfl | rfl | rfl
      · exact ⟨0, rfl, .inl rfl⟩
      · exact ⟨0, rfl, .inl rfl⟩
      · exact ⟨2, rfl, .inr (.inl rfl)⟩
      · exact ⟨3, rfl, .inr (.inr (.inl rfl))⟩
      · exact ⟨5, rfl, .inr (.inr (.inr rfl))⟩
    refine k' _ _ (ext_new (ext_refl _) hp) ⟨rs ++ [q], by rw [ea, List.map_append]; rfl, fun z hz => ?_⟩
    rcases List.mem_append.mp hz with hz | hz
    · exact hq z hz
    · rw [List.mem_singleton.mp hz]; exact hq4
  subst ea
  rw [List.length_map] at hl1
  have hl5 : rs.length ≤ 5 := by omega
  refine ⟨_, rfl, D, rfl, ⟨_, SqL.of hD1⟩, fun D2 hD2 => made_list (xs := rs.map V.int) (OfRoots C rs) ofRoots_keeps (SqL.of hD1) hD2 (by rw [List.length_map]; omega) (fun _ => rfl) (fun _ => ⟨[], ⟨rfl, fun i x hi => by simp at hi⟩, rfl⟩) (fun i x H' acc hi e hl ⟨ns, al, en⟩ Q' k' => ?_) fun H2 acc e2 hD2' hl2 ⟨ns, al, en⟩ => ?_⟩
  · obtain ⟨q, rfl, hqi⟩ : ∃ q, x = .int q ∧ rs[i]? = some q := by
      rw [List.getElem?_map] at hi
      cases hr : rs[i]? with
      | none => rw [hr] at hi; cases hi
      | some q => rw [hr] at hi; exact ⟨q, (Option.some.inj hi).symm, rfl⟩
    obtain ⟨nv, er⟩ := nv_q (hq q (List.mem_of_getElem? hqi))
    refine ⟨_, rfl, _, _, rfl, rfl, .inr ⟨_, rfl, _, rfl, rfl, rfl, fun x dx q1 q2 q3 => ⟨x, dx, 1, _, q, 1, rfl, upd_same, nv, fun H3 keep hx => ⟨rfl, ?_⟩⟩⟩⟩
    have e3 := mk_ext q1 q2 keep
    refine k' _ _ e3 ⟨ns ++ [lst 1 (if decide (0 < q) = true then 1 else 0) q 1], ⟨by rw [List.length_append, List.length_append, al.1]; rfl, fun j z hj => ?_⟩, ?_⟩
    · by_cases hlt : j < acc.length
      · rw [List.getElem?_append_left hlt] at hj
        obtain ⟨b, n, ez, e4, q4⟩ := al.2 j z hj
        exact ⟨b, n, ez, by rw [List.getElem?_append_left (by rw [← al.1]; exact hlt)]; exact e4, q4.ext e3⟩
      · rw [List.getElem?_append_right (by omega)] at hj
        have h1 := (List.getElem?_eq_some_iff.mp hj).1
        have e0 : j - acc.length = 0 := by simpa using h1
        rw [e0] at hj
        obtain rfl : V.ref x = z := Option.some.inj hj
        exact ⟨x, _, rfl, by rw [List.getElem?_append_right (by rw [← al.1]; omega), ← al.1, e0]; rfl, dx, hx⟩
    · rw [List.map_append, en, List.length_append, hl]
      show rs.take i ++ [_] = rs.take (i + 1)
      rw [take_next hqi, er]
  rw [List.length_map] at hl2
  rw [hl2, List.take_length] at en
  refine ⟨D2, acc, rfl, .inl ⟨SqL.of hD2', fun tp ntp => ?_⟩⟩
  have e3 := ext_new (o := .tup acc) (ext_refl H2) ntp
  have htp : upd H2 tp (.tup acc) tp = some (.tup acc) := upd_same
  have al3 := al.ext e3
  have e03 := (e1.trans e2).trans e3
  have hD3 := e3 _ _ (e2 _ _ hD1)
  generalize upd H2 tp (.tup acc) = H3 at *
  refine ⟨_, rfl, D, rfl, ⟨_, SqL.of hD3⟩, fun D4 hD4 => lc_list (xs := rs.map V.int) (fun i H' => Ext H3 H' ∧ H' D4 = some (.lst ((nz (rs.take i)).map V.int))) ⟨ext_new (ext_refl _) hD4, upd_same⟩ (fun i H' _ p => (SqL.of hD3).ext p.1) (fun i x H' hi p => ⟨rfl, ?_⟩) fun H4 p => ?_⟩
  · obtain ⟨q, rfl, hqi⟩ : ∃ q, x = .int q ∧ rs[i]? = some q := by
      rw [List.getElem?_map] at hi
      cases hr : rs[i]? with
      | none => rw [hr] at hi; cases hi
      | some q => rw [hr] at hi; exact ⟨q, (Option.some.inj hi).symm, rfl⟩
    have hp := q4_pos (hq q (List.mem_of_getElem? hqi))
    refine ⟨_, rfl, _, _, rfl, rfl, _, rfl, ?_⟩
    rw [hp]
    by_cases hq0 : q = 0
    · rw [decide_eq_true hq0]
      refine ite2 (fun h => absurd h (by decide)) (fun _ => ⟨p.1, ?_⟩)
      rw [nz_take hqi, if_pos hq0]
      exact p.2
    · rw [decide_eq_false hq0]
      refine ite2 (fun _ => ⟨_, rfl, .inl ⟨_, rfl, _, p.2, ?_, ext_mut p.1 hD4, ?_⟩⟩) (fun h => absurd rfl h)
      · rw [List.length_map]
        exact len_lt (Nat.le_trans (nz_len _) (by rw [List.length_take]; omega))
      · rw [upd_same, nz_take hqi, if_neg hq0, List.map_append]
        rfl
  obtain ⟨e4, hD4'⟩ := p
  rw [List.length_map, List.take_length] at hD4'
  refine ⟨D4, nz rs, rfl, SqL.of hD4', Nat.le_trans (nz_len _) (by omega), ?_⟩
  refine ⟨_, rfl, tp, acc, ns, rfl, e4 _ _ htp, al3.ext e4, by omega, fun H5 e5 => ⟨_, rfl, _, rfl, _, _, rfl, rfl, _, rfl, ?_⟩⟩
  rw [en]
  have e05 := (e03.trans e4).trans e5
  have same : decide ((difs (nz rs) : Int) ≤ 1) = decide ((difs (nz rs) : Int) < 2) := decide_eq_decide.mpr (by omega)
  rw [same]
  refine ⟨rfl, _, rfl, ite2 (fun h => absurd h (by simp)) (fun _ => ?_)⟩
  have htp5 := e5 _ _ (e4 _ _ htp)
  have al5 := (al3.ext e4).ext e5
  refine ⟨_, rfl, _, rfl, tp, acc, rfl, .inr (SqT.of htp5), fun l nl => ⟨_, rfl, len_ok (Nat.le_of_ble_eq_true rfl), fun t1 n1 => ?_⟩⟩
  have f1 := ext_new (o := .lst acc) (ext_refl H5) nl
  have f2 := ext_new (o := .tup [.int 1]) (ext_refl _) n1
  have f12 := f1.trans f2
  refine cat_use (f12 _ _ htp5) upd_same (by omega) fun b1 H6 e6 hb1 => ?_
  have f16 := f12.trans e6
  refine ⟨_, rfl, len_ok (Nat.le_of_ble_eq_true rfl), fun t2 n2 => ?_⟩
  have f7 := ext_new (o := .tup [.non]) (ext_refl H6) n2
  refine cat_use (f7 _ _ (f16 _ _ htp5)) upd_same (by omega) fun b2 H8 e8 hb2 d1 n3 => ⟨_, rfl, len_ok (Nat.le_of_ble_eq_true rfl), fun t3 n4 => ?_⟩
  have f9 := ext_new (o := .dK []) (ext_refl H8) n3
  have f10 := ext_new (o := .tup [.bl true]) (ext_refl _) n4
  have f68 := (f7.trans e8).trans (f9.trans f10)
  refine cat_use (f68 _ _ (f16 _ _ htp5)) upd_same (by omega) fun b3 H11 e11 hb3 => ⟨len_ok (Nat.le_of_ble_eq_true rfl), fun p3 n5 => ?_⟩
  have f12' := ext_new (o := .lst [.non, .int 5, .ref l, .ref b1, .ref b2, .ref d1, .str "", .ref b3]) (ext_refl H11) n5
  have g6 := (f68.trans e11).trans f12'
  have g5 := f16.trans g6
  have hl6 := (f2.trans (e6.trans g6)) _ _ (upd_same (a := l) (o := .lst acc))
  have hb1' := g6 _ _ hb1
  have hb2' := (f9.trans (f10.trans (e11.trans f12'))) _ _ hb2
  have hd6 := (f10.trans (e11.trans f12')) _ _ (upd_same (a := d1) (o := .dK []))
  have hb3' := f12' _ _ hb3
  refine ⟨a, p3, _, rfl, g5 _ _ (e05 _ _ ha), SqL.of upd_same, by simp, Nat.le_of_ble_eq_true rfl, fun bad hbad => ?_⟩
  have al6 := al5.ext g5
  have e06 := e05.trans g5
  generalize upd H11 p3 _ = Hf at *
  have bd : BadT K C Hf bad := by
    simp only [List.mem_cons, List.not_mem_nil, or_false] at hbad
    rcases hbad with rfl | rfl | rfl | rfl | rfl | rfl | rfl | rfl
    · exact .inl ⟨_, .base .non, kit_ty (by decide +kernel)⟩
    · exact .inl ⟨_, .base (.int _), kit_ty (by decide +kernel)⟩
    · exact .inl ⟨_, .base (.lst hl6), kit_ty (by decide +kernel)⟩
    · exact .inr ⟨b1, acc, ns, .int 1, _, rfl, hb1', al6, by omega, fun _ => .base (.int _), OT.k1⟩
    · exact .inr ⟨b2, acc, ns, .non, _, rfl, hb2', al6, by omega, fun _ => .base .non, OT.k0⟩
    · exact .inl ⟨_, .base (.dK hd6), kit_ty (by decide +kernel)⟩
    · exact .inl ⟨_, .base (.str _), kit_ty (by decide +kernel)⟩
    · exact .inr ⟨b3, acc, ns, .bl true, _, rfl, hb3', al6, by omega, fun _ => .base (.bl _), OT.k2⟩
  have af0 : Aft TL H Hf := (Aft.refl ht).ext e06
  refine ⟨af0.t, fun Hg eN T3 => ?_⟩
  have af1 : Aft TL Hf Hg := ⟨eN, T3⟩
  exact ⟨_, rfl, bad, rfl, bd.aft af1, fun Hh eh => ⟨true, ET.nn, fun _ => ⟨rfl, k _ ((af0.trans af1).ext eh)⟩, nofun⟩⟩
end
end My
namespace My
open PySem PySem.Spec PyProof.Rows L2
open LamX (TabB Tabs TabS ExtN CodeO LamS)
local macro_rules | `(tactic| walk_at "side") => `(tactic| first | assumption | decide | exact Or.inl ⟨by decide, by decide⟩ | exact Or.inr ⟨by decide, by decide⟩ | exact ⟨by decide, by decide, by decide⟩ | omega | (unfold CMulW; decide +kernel) | (dsimp only; first | assumption | omega | decide +kernel) | exact len_ok (Nat.le_of_ble_eq_true rfl) | fail "side")
local macro_rules | `(tactic| walk_at "rd") => `(tactic| first
  | refine ⟨_, _, _, _, rfl, rfl, SqL.of upd_same, atI_nat (j := 0) rfl, ?_⟩ | refine ⟨_, _, _, _, rfl, rfl, SqL.of upd_same, atI_nat (j := 1) rfl, ?_⟩ | refine ⟨_, _, _, _, rfl, rfl, SqL.of upd_same, atI_nat (j := 2) rfl, ?_⟩
  | refine ⟨_, _, _, _, rfl, rfl, upd_same, rfl, ?_⟩
  | refine ⟨_, _, rfl, rfl, ?_⟩ | refine ⟨_, rfl, ?_⟩ | refine ⟨_, _, rfl, ?_⟩ | refine Or.inl ⟨_, rfl, ?_⟩ | refine Or.inr ⟨_, rfl, ?_⟩ | refine ⟨(by walk_at "side"), ?_⟩ | fail "rd")

abbrev s_law : Stmt := top 40
theorem sc_law : FnScope ["_law_script", "_law_spot", "_law_dice_here"] ["_law_script"] (defScope s_law) := ⟨rfl, rfl, rfl, by decide +kernel, rfl, by decide +kernel, by decide +kernel⟩
theorem sqL_aft {TL : List (Addr × Str)} {K : PySem.W.Frag} {H H' : Hp} {a : Addr} {xs : List V} (h : SqL K H a xs) (e : Aft TL H H') : SqL K H' a xs := by
  rcases h with (h | ⟨o, h⟩) | h
  · exact .inl (.inl (e.lst h))
  · exact .inl (.inr ⟨o, e.e _ _ h fun _ z => by cases z⟩)
  · exact .inr h
def spLaw (K : PySem.W.Frag) (TL : List (Addr × Str)) : Sp := fun vs H Q _ => ∃ (a : Addr) (ns : List Int), vs = [.ref a] ∧ SqL K H a (ns.map V.int) ∧ ns.length ≤ 63 ∧ Tabs TL H ∧ ∀ H', Q (.bl true) H'
section
variable {P : Program} {w : World} {K : PySem.W.Frag} {mg : Str → Option Value} {base : Heap} {C : Addr} {TL : List (Addr × Str)}
theorem law_binds {fa : Addr} {fd : FuncData} (F : Fun K "law" "law" s_law fa fd) (s : Shared) (u : Value) : BindsTo s fd ⟨[u], []⟩ [("_law_script", u)] := by
  obtain ⟨oc, od, kV, doc, pm, an, cdv, ct, osl, rfl, lk, hcd⟩ := F.ex
  exact .of_eq rfl
theorem ok_law {fa : Addr} {fd : FuncData} (T : Bn mg) (NK : NumK K mg) (D : Fun K "law" "law" s_law fa fd) (F__law_dice : FnAt P w K mg base 1 "_law_dice" ["_law_script", "_law_spot"] (spDice K)) (F__law_makes : FnAt P w K mg base 11 "_law_makes" ["_law_dice_here"] (spJ TL))
    (F__law_reckons : FnAt P w K mg base 14 "_law_reckons" ["_law_dice_here"] (spJ TL)) (F__law_together : FnAt P w K mg base 14 "_law_together" ["_law_dice_here"] (spJ TL)) (F_have_one_root : FnAt P w K mg base 3 "have_one_root" ["numbers"] (spHor C)) :
    FnOk P w K mg base CX0 15 fa fd ["_law_script"] (spLaw K TL) := by
  refine D.ok sc_law (fun vs H Q E h => ?_) fun cdv A outer s H vs Q E hr h => ?_
  · obtain ⟨a, ns, rfl, _⟩ := h
    rfl
  obtain ⟨a, ns, rfl, hS, hl, ht, k⟩ := h
  obtain ⟨tk, g1⟩ := NK.g_MAX_ROOT
  refine ⟨_, (pss_cons (ps_for PassesOwn.never rfl (pi_range1 (by rfl) T.b_range (pa_cons (pe_callB (call_max2 rfl) (by rfl) T.b_max (by decide +kernel) (pa_cons pe_int (pa_cons (pe_callB (call_min2 rfl) (by rfl) T.b_min (by decide +kernel) (pa_cons pe_int (pa_cons (pe_callB call_len_seq (by rfl) T.b_len (by decide +kernel) (pa_cons (pv 0) pa_nil)) pa_nil))) pa_nil))) pa_nil)) (pg_name (i := 1) sc_law.nd rfl (Or.inl rfl))
      (pss_cons (ps_set (i := 2) sc_law.nd rfl (Or.inl rfl) (callA F__law_dice (hr.mono (by decide)) rfl (pa_cons (pv 0) (pa_cons (pv 1) pa_nil))))
    (pss_one (ps_if (PW.pt (pw_or (pt_not (pt_val (callA F__law_makes (hr.mono (by decide)) rfl (pa_cons (pv 2) pa_nil)))) (pw_or (pt_not (pt_val (callA F__law_reckons (hr.mono (by decide)) rfl (pa_cons (pv 2) pa_nil)))) (pw_or1 (pt_not (pt_val (callA F__law_together (hr.mono (by decide)) rfl (pa_cons (pv 2) pa_nil)))))))) (pss_one (ps_ret pe_bl)) pss_nil))))
    (pss_one (ps_ret (pe_and (pe_cmpR op_eq (pe_glob (v := .int 999) rfl g1 ⟨_, rfl⟩) pe_int (nomark _)) (pe_one (pe_cmpR op_isBl (callA F_have_one_root (hr.mono (by decide)) rfl (pa_cons (pe_tup pa_nil) pa_nil)) pe_bl (nomark _))))))), ?_⟩
  have hb : ∀ L : Int, 0 ≤ L → 1 ≤ (if (if L < 4 then L else 4) > 1 then (if L < 4 then L else 4) else 1) ∧ (if (if L < 4 then L else 4) > 1 then (if L < 4 then L else 4) else 1) ≤ 4 := by
    intro L h
    split <;> split <;> omega
  have hb := hb (((ns.map V.int).length : Nat) : Int) (by omega)
  refine ⟨_, rfl, a, _, rfl, .inl hS, _, _, rfl, _, _, rfl, _, rfl, by omega, by omega, for_range (lo := 0) (fun i σ H' => Aft TL H H' ∧ ∃ x y, σ = [some (.ref a), x, y]) ⟨.refl ht, _, _, rfl⟩ ?_ ?_⟩
  · rintro i σ H' hi ⟨e, x, y, rfl⟩
    refine ⟨_, rfl, _, rfl, a, _, ns, rfl, sqL_aft hS e, by omega, by omega, fun p H'' hp e' hd => ?_⟩
    have e2 := e.ext e'
    refine ⟨_, rfl, p, rfl, hd, e2.t, fun H3 e3 => ⟨_, rfl, iteF ?_⟩⟩
    refine ⟨_, rfl, p, rfl, e3.dice hd, e3.t, fun H4 e4 => ⟨_, rfl, iteF ?_⟩⟩
    refine ⟨_, rfl, p, rfl, e4.dice (e3.dice hd), e4.t, fun H5 e5 => ⟨_, rfl, iteF ?_⟩⟩
    exact ⟨((e2.trans e3).trans e4).trans e5, _, _, rfl⟩
  rintro σ H' ⟨e, x, y, rfl⟩
  refine ⟨rfl, _, rfl, iteT ⟨len_ok (Nat.le_of_ble_eq_true rfl), fun t nt => ⟨t, [], [], rfl, upd_same, ⟨rfl, fun i x hi => by simp at hi⟩, by decide, fun H3 e3 => ⟨true, true, rfl, rfl, k _⟩⟩⟩⟩
end
end My
namespace My
open PySem PySem.Spec PyProof.Rows L2
section
variable {K : PySem.W.Frag} {h : Heap} {mg : Str → Option Value}
theorem defAt_mk {x : Str} {st : Stmt} {f : Addr} {oc : Value} {od an : Option Addr} {osl : Array (Option Value)} {kV doc pm cdv ct : Value} (X : K.In h) (G : h.Ns mainGlobals mg) (a : PySem.W.nsIn K mainGlobals x = some (some (.ref f)))
    (l : K.lookup f = some ⟨oc, od, .func (PySem.W.fnOf x x (defArgs st) (defBody st) (defScope st) .none kV doc pm an cdv ct), osl⟩) (c : PySem.W.codeIn K cdv x = true) (k : PySem.W.keepIn K (.ref f) = true) : DefAt K mg x st :=
  ⟨f, _, PySem.W.mg_of X G a, fun_mk l c k⟩
theorem spT_mk {C : Addr} {x qual : Str} {st : Stmt} {f : Addr} {oc : Value} {od an : Option Addr} {osl : Array (Option Value)} {kV doc pm cdv ct : Value} (a : PySem.W.findIn K (.ref C) x = some (some (.ref f))) (i : PySem.W.isFn K (.ref f) = true)
    (l : K.lookup f = some ⟨oc, od, .func (PySem.W.fnOf x qual (defArgs st) (defBody st) (defScope st) .none kV doc pm an cdv ct), osl⟩) (c : PySem.W.codeIn K cdv qual = true) (k : PySem.W.keepIn K (.ref f) = true) : SpT K C x qual st :=
  ⟨f, _, a, i, fun_mk l c k⟩
theorem methT_mk {C : Addr} {x qual : Str} {st : Stmt} {f : Addr} {oc : Value} {od an : Option Addr} {osl : Array (Option Value)} {kV doc pm cdv ct : Value} (a : PySem.W.findIn K (.ref C) x = some (some (.ref f))) (i : PySem.W.isFn K (.ref f) = true)
    (l : K.lookup f = some ⟨oc, od, .func (PySem.W.fnOf x qual (defArgs st) (defBody st) (defScope st) .none kV doc pm an cdv ct), osl⟩) (c : PySem.W.codeIn K cdv qual = true) (k : PySem.W.keepIn K (.ref f) = true) : MethT K C x qual st :=
  ⟨f, _, ⟨a, i, k⟩, i, fun_mk l c k⟩
theorem opT_mk {C : Addr} {op : Operator} {x qual : Str} {st : Stmt} {f : Addr} {oc : Value} {od an : Option Addr} {osl : Array (Option Value)} {kV doc pm cdv ct : Value} (W : OwnOp K C op f)
    (l : K.lookup f = some ⟨oc, od, .func (PySem.W.fnOf x qual (defArgs st) (defBody st) (defScope st) .none kV doc pm an cdv ct), osl⟩) (c : PySem.W.codeIn K cdv qual = true) (k : PySem.W.keepIn K (.ref f) = true) : OpT K C op x qual st :=
  ⟨f, _, W, fun_mk l c k⟩
theorem propT_mk {C : Addr} {x qual : Str} {st : Stmt} {p g : Addr} {oc : Value} {od an : Option Addr} {osl : Array (Option Value)} {kV doc pm cdv ct : Value} (W : PropOf K C x p g)
    (l : K.lookup g = some ⟨oc, od, .func (PySem.W.fnOf x qual (defArgs st) (defBody st) (defScope st) .none kV doc pm an cdv ct), osl⟩) (c : PySem.W.codeIn K cdv qual = true) (k : PySem.W.keepIn K (.ref g) = true) : PropT K C x qual st :=
  ⟨p, g, _, W, fun_mk l c k⟩
end
end My
namespace My
open PySem PySem.Spec PyProof.Rows L2
section
variable {K : PySem.W.Frag} {h : Heap} {mg : Str → Option Value}
theorem numT_mk {C f : Addr} {T D : Addr} {oT oc : Value} {odT od an : Option Addr} {slT osl : Array (Option Value)} {nT : Nat} {tk1 tk2 tk3 : Tok} {doc pm cdv ct : Value} (X : K.In h) (G : h.Ns mainGlobals mg)
    (a : PySem.W.nsIn K mainGlobals "Number" = some (some (.ref C))) (pg : PySem.W.plainGet K C Str.empty = true) (hd : PySem.W.hasDictIn K C = true) (po : PySem.W.plainOver K C = true) (sa : PySem.W.findIn K (.ref C) "__setattr__" = some (some (.builtin "object.__setattr__")))
    (n1 : PySem.W.findIn K (.ref C) "_top" = some none) (n2 : PySem.W.findIn K (.ref C) "_part" = some none) (n3 : PySem.W.findIn K (.ref C) "_root" = some none) (n4 : PySem.W.findIn K (.ref C) "_bottom" = some none)
    (mk : PySem.W.makesIn K C = true) (ai : PySem.W.findIn K (.ref C) "__init__" = some (some (.ref f))) (ii : PySem.W.isFn K (.ref f) = true) (kc : PySem.W.keepIn K (.ref C) = true)
    (l : K.lookup f = some ⟨oc, od, .func (PySem.W.fnOf "__init__" "Number.__init__" (defArgs s_ninit) (defBody s_ninit) (defScope s_ninit) (.ref T) (.ref D) doc pm an cdv ct), osl⟩) (c : PySem.W.codeIn K cdv "Number.__init__" = true) (kf : PySem.W.keepIn K (.ref f) = true)
    (lT : K.lookup T = some ⟨oT, odT, .seq #[.int 0 tk1] nT, slT⟩) (d1 : PySem.W.nsIn K D "root" = some (some (.int 0 tk2))) (d2 : PySem.W.nsIn K D "bottom" = some (some (.int 1 tk3)))
    (g1 : PySem.W.nsIn K mainGlobals "gcd" = some (some (.builtin "math.gcd"))) : NumT K mg C :=
  ⟨PySem.W.mg_of X G a, ⟨pg, hd, po, sa⟩, n1, n2, n3, n4, ⟨f, _, ⟨mk, ai, ii, kc⟩, ⟨⟨oc, od, .ref T, .ref D, doc, pm, an, cdv, ct, osl, rfl, l, c, .inr ⟨by simp, T, _, [.int 0 tk1], nT, rfl, lT, rfl, .cons ⟨_, rfl⟩ .nil⟩, .inr ⟨D, rfl, fun q hq => by
    rcases List.mem_cons.mp hq with rfl | hq
    · exact ⟨_, d1, ⟨_, rfl⟩⟩
    · rcases List.mem_cons.mp hq with rfl | hq
      · exact ⟨_, d2, ⟨_, rfl⟩⟩
      · cases hq⟩⟩, kf⟩⟩, PySem.W.mg_of X G g1⟩
theorem numK_mk {q : Addr} {tk : Tok} {od : Option Addr} {n : Nat} {sl : Array (Option Value)} {t1 t2 t3 t4 t5 t6 t7 t8 t9 t10 t11 : Tok} (X : K.In h) (G : h.Ns mainGlobals mg) (a : PySem.W.nsIn K mainGlobals "MAX_ROOT" = some (some (.int 999 tk))) (b : PySem.W.nsIn K mainGlobals "PRIME_SQUARES" = some (some (.ref q)))
    (l : K.lookup q = some ⟨.type "tuple", od, .seq #[.int 4 t1, .int 9 t2, .int 25 t3, .int 49 t4, .int 121 t5, .int 169 t6, .int 289 t7, .int 361 t8, .int 529 t9, .int 841 t10, .int 961 t11] n, sl⟩) : NumK K mg :=
  ⟨⟨_, PySem.W.mg_of X G a⟩, ⟨q, PySem.W.mg_of X G b, fun H => .inr ⟨_, _, _, l, rfl, rfl, by show 11 ≤ sizeLine; decide, .cons ⟨_, rfl⟩ (.cons ⟨_, rfl⟩ (.cons ⟨_, rfl⟩ (.cons ⟨_, rfl⟩ (.cons ⟨_, rfl⟩ (.cons ⟨_, rfl⟩ (.cons ⟨_, rfl⟩ (.cons ⟨_, rfl⟩ (.cons ⟨_, rfl⟩ (.cons ⟨_, rfl⟩ (.cons ⟨_, rfl⟩ .nil))))))))))⟩⟩⟩
end
end My
namespace My
open PySem PySem.Spec PyProof.Rows L2
section
variable {K : PySem.W.Frag} {h : Heap} {mg : Str → Option Value}
theorem neK_mk {C N f : Addr} {o : Obj} {es : List DictEntry} {oc2 : Value} {od2 : Option Addr} {sl2 : Array (Option Value)} {n2 : Nat} {nm q : Str} {bs : List Value} {hdct : Bool} {sn : List Str} {sub : List Value} {ab : Bool} {col : Option Bool} {dd : Option Addr} {k0 k1 k2 k3 k5 : Option Value} {newId : String} {od : Option Addr} {fd : FuncData} {sl : Array (Option Value)}
    (a1 : K.lookup C = some o) (e : o = excClassObj nm q C N bs [.type "object"] hdct sn sub ab col dd k0 k1 k2 k3 k5 newId) (a2 : K.lookup N = some ⟨oc2, od2, .dict es.toArray n2, sl2⟩) (e2 : (es.all fun e => match e.key with | .str _ _ => true | _ => false) = true)
    (a3 : PySem.W.nsIn K N "__eq__" = some (some (.ref f))) (a4 : PySem.W.nsIn K N "__ne__" = some none) (a5 : K.lookup f = some ⟨.type "function", od, .func fd, sl⟩) (ef : PySem.W.findIn K (.ref C) "__eq__" = some (some (.ref f))) :
    ∃ f, NeK K C f ∧ PySem.W.findIn K (.ref C) "__eq__" = some (some (.ref f)) :=
  ⟨f, ⟨⟨nm, q, N, bs, hdct, sn, sub, ab, col, dd, k0, k1, k2, k3, k5, newId, by rw [a1, e], by unfold PySem.W.nsOkIn; rw [a2]; show (es.toArray.all _) = true; rw [List.all_toArray]; exact e2, a3, a4⟩, od, fd, sl, a5⟩, ef⟩
end
end My
namespace My
open PySem PySem.Spec PyProof.Rows L2
open LamX (TabB Tabs TabS ExtN CodeO LamS)
/-! ### the end of a law with lambdas -/
theorem tab_mk {K : PySem.W.Frag} {x : Str} {f c P : Addr} {oc : Value} {od : Option Addr} {fd : FuncData} {osl : Array (Option Value)} {c1 : Value} {d1 : Option Addr} {vs : Array Value} {s1 : Array (Option Value)} (a : PySem.W.nsIn K mainGlobals x = some (some (.ref f)))
    (l : K.lookup f = some ⟨oc, od, .func fd, osl⟩) (e : fd.code = .ref c) (lc : K.lookup c = some ⟨c1, d1, .fields vs, s1⟩) (p : (vs[11]? : Option Value) = some (.ref P)) : PySem.W.tabIn K x = some (c, P) := by
  unfold PySem.W.tabIn
  rw [a]
  dsimp only
  rw [l]
  dsimp only
  rw [e]
  dsimp only
  rw [lc]
  dsimp only
  rw [p]
theorem defC_mk {K : PySem.W.Frag} {h : Heap} {mg : Str → Option Value} {x : Str} {st : Stmt} {f c : Addr} {oc : Value} {od an : Option Addr} {osl : Array (Option Value)} {kV doc pm ct : Value} (X : K.In h) (G : h.Ns mainGlobals mg) (a : PySem.W.nsIn K mainGlobals x = some (some (.ref f)))
    (l : K.lookup f = some ⟨oc, od, .func (PySem.W.fnOf x x (defArgs st) (defBody st) (defScope st) .none kV doc pm an (.ref c) ct), osl⟩) (c' : PySem.W.codeIn K (.ref c) x = true) (k : PySem.W.keepIn K (.ref f) = true) : DefC K mg x st c :=
  ⟨f, _, PySem.W.mg_of X G a, fun_mk l c' k, rfl⟩
/-- a def with lambdas: its text, its code object, its table -/
structure LamD (K : PySem.W.Frag) (mg : Str → Option Value) (x : Str) (st : Stmt) (c P : Addr) : Prop where
  d : DefC K mg x st c
  tab : PySem.W.tabIn K x = some (c, P)
  no : K.lookup P = none
theorem lamD_mk {K : PySem.W.Frag} {h : Heap} {mg : Str → Option Value} {x : Str} {st : Stmt} {f c P : Addr} {oc : Value} {od an : Option Addr} {osl : Array (Option Value)} {kV doc pm ct : Value} {c1 : Value} {d1 : Option Addr} {vs : Array Value} {s1 : Array (Option Value)} (X : K.In h) (G : h.Ns mainGlobals mg) (a : PySem.W.nsIn K mainGlobals x = some (some (.ref f)))
    (l : K.lookup f = some ⟨oc, od, .func (PySem.W.fnOf x x (defArgs st) (defBody st) (defScope st) .none kV doc pm an (.ref c) ct), osl⟩) (c' : PySem.W.codeIn K (.ref c) x = true) (k : PySem.W.keepIn K (.ref f) = true) (lc : K.lookup c = some ⟨c1, d1, .fields vs, s1⟩) (p : (vs[11]? : Option Value) = some (.ref P)) (n : K.lookup P = none) : LamD K mg x st c P :=
  ⟨defC_mk X G a l c' k, tab_mk a l rfl lc p, n⟩
theorem exm_mk {K : PySem.W.Frag} {cls : Value} {C : Addr} {cd : ClassData} {b : Bool} (h : PySem.W.subIn K (.ref C) (.type "BaseException") = some true) (i : PySem.W.clsIn K C = some cd) (t : PySem.W.typeIn K (.ref C) = some (.type "type")) (s : PySem.W.subIn K cls (.ref C) = some b) : PySem.W.exmOne K cls (.ref C) = some b := by
  unfold PySem.W.exmOne PySem.W.kitCls
  rw [h, if_pos (by simp)]
  dsimp only
  rw [i, t, if_pos (by simp)]
  exact s
theorem walkT {l : PySem.W.OpenLaw} {n k : Nat} {q : Program} {loose : List Str} {XP : (Str → Option Value) → Heap → Prop} {YP : World → Heap → Prop} {d : DefRec} {K : Params → PySem.W.Frag} {x : Str}
    (hn : l.most = some n) (hn2 : n ≤ sizeLine) (hdf : d.params.defaults = []) (hr : Room k callerA) (hY : ∀ (w : World) (h : Heap), YP w h → (K w.params).In h)
    (F : ∀ (w : World) (mg : Str → Option Value) (fa : Addr) (h : Heap), (K w.params).In h → h.Ns mainGlobals mg → mg d.name = some (.ref fa) →
      (∀ (x : Str) (d : DefRec) (c P : Addr), (recsOf q).find? (fun e => e.name == x) = some d → PySem.W.tabIn (K w.params) x = some (c, P) → PySem.W.CodeHd h c P ∧ h.get? P = some (PySem.W.tabObj #[])) →
      ∃ (fd : FuncData) (cs : List (Addr × Addr)) (sp : Sp), (∀ p ∈ cs, h.get? p.2 = some { cls := .none, data := .fields #[] }) ∧ (∀ p ∈ cs, (K w.params).lookup p.2 = none) ∧ (∀ p ∈ cs, PySem.W.CodeHd h p.1 p.2) ∧
        (∀ (s : Shared) (u : Value), BindsTo s fd ⟨[u], []⟩ [(x, u)]) ∧
        (∀ (H : Hp) (a : Addr) (ns : List Int), ns.length ≤ n → (∀ p ∈ cs, H p.2 = some (.tbl #[])) → SqL (K w.params) H a (ns.map V.int) → sp [.ref a] H (fun v _ => v = .bl true) fun _ _ _ => False) ∧
        ∀ base : Heap, (K w.params).In base → base.Ns mainGlobals mg → (∀ p ∈ cs, TabB base mg p.1 p.2) → FnOk l.prog w (K w.params) mg base CX0 k fa fd [x] sp) :
    PySem.W.WalkO q loose XP YP l.row.toRowW d [] (fun f vs => PySem.call f vs) := by
  refine Att.attach_callB hn hdf fun w s₀ z mg mb fa o pm cd doc a vs ns G Y ho hd hcd hmg hobj hints hlen hbits hg => ?_
  have KX := hY w _ Y
  obtain ⟨fd, cs, sp, hT, nT, hC, hb, hsp, hF⟩ := F w mg fa _ KX G.T.g hmg fun x d c P h1 h2 => PySem.W.tab_of G.T KX h1 h2
  exact LamX.law_callTs KX G.T.g G.T.b G.T.builtins G.T.nolimit hg hT nT hC G.T.bmain hobj hints (Nat.le_trans hlen hn2) hr hF hb (fun H hH hS => hsp H a ns hlen hH hS) fun H e s' h => h
end My
namespace My
open PySem PySem.Spec PyProof.Rows L2
/-- all that the top has made, as the law needs it -/
structure Facts (K : PySem.W.Frag) (mg : Str → Option Value) (C IN IO c1 P1 c2 P2 c3 P3 : Addr) : Prop where
  T : Bn mg
  NC : NumT K mg C
  NI : NumI K C
  NK : NumK K mg
  OT : OddT K C
  ET : ExT K IN IO
  EI : ErrT K mg "InvalidNumber" IN
  EO : ErrT K mg "InvalidOperation" IO
  d8 : DefAt K mg "is_any_integer" (top 8)
  d14 : DefAt K mg "have_one_root" (top 14)
  d15 : DefAt K mg "_are_valid" (top 15)
  d16 : DefAt K mg "_as_number" (top 16)
  d17 : DefAt K mg "_operand" (top 17)
  d18 : DefAt K mg "_argument" (top 18)
  d19 : DefAt K mg "_common_root" (top 19)
  d20 : DefAt K mg "_difference_above" (top 20)
  d21 : DefAt K mg "_norm_above" (top 21)
  d22 : DefAt K mg "_sign_of_integer" (top 22)
  d23 : DefAt K mg "sign_of_sum" (top 23)
  d30 : DefAt K mg "_law_dice" (top 30)
  d31 : DefAt K mg "_law_roll" (top 31)
  d32 : DefAt K mg "_law_pick" (top 32)
  d33 : DefAt K mg "_law_made" (top 33)
  d34 : DefAt K mg "_law_word" (top 34)
  d35 : DefAt K mg "_law_wrong" (top 35)
  d37 : DefAt K mg "_law_used" (top 37)
  d40 : DefAt K mg "law" (top 40)
  m36 : LamD K mg "_law_makes" (top 36) c1 P1
  m38 : LamD K mg "_law_reckons" (top 38) c2 P2
  m39 : LamD K mg "_law_together" (top 39) c3 P3
  p_top : PropT K C "top" "Number.top" s_ntop
  p_part : PropT K C "part" "Number.part" s_npart
  p_root : PropT K C "root" "Number.root" s_nroot
  p_bottom : PropT K C "bottom" "Number.bottom" s_nbottom
  p_sign : PropT K C "sign" "Number.sign" s_nsign
  o_Add : OpT K C .Add "__add__" "Number.__add__" s_nadd
  o_Sub : OpT K C .Sub "__sub__" "Number.__sub__" s_nsub
  o_Mult : OpT K C .Mult "__mul__" "Number.__mul__" s_nmul
  seq : SpT K C "__eq__" "Number.__eq__" s_neq
  m_over : MethT K C "over" "Number.over" s_nover
  m_comp : MethT K C "compared" "Number.compared" s_ncomp
  n12 : P1 ≠ P2
  n13 : P1 ≠ P3
  n23 : P2 ≠ P3
end My
namespace My
open PySem PySem.Spec PyProof.Rows L2
open LamX (TabB Tabs TabS ExtN CodeO LamS)
theorem ok_neqA {P : Program} {w : World} {K : PySem.W.Frag} {mg : Str → Option Value} {base : Heap} {C : Addr} (T : Bn mg) (D : SpT K C "__eq__" "Number.__eq__" s_neq) (NC : NumT K mg C) : SpAt P w K mg base 1 C "__eq__" ["self", "other"] (spEqA K C) := by
  refine spAt D sc_neq (fun _ _ _ _ _ _ us hl => match us, hl with | [_, _], _ => rfl) (fun vs H Q E h => ?_) fun f cdv A outer s H vs Q E hr h => ?_
  · obtain ⟨a, y, t, n, rfl, _⟩ := h
    rfl
  obtain ⟨a, y, t, n, rfl, hn, ty, hk, k⟩ := h
  exact ⟨_, (pss_one (ps_ret (pe_and (pe_callB call_isi (by rfl) T.b_isinstance (by decide +kernel) (pa_cons (pv 1) (pa_cons (pe_glob (v := .ref C) rfl NC.g rfl) pa_nil))) (pe_and (pe_cmpR op_eq (pe_fld (pv 0) rfl) (pe_fld (pv 1) rfl) (nomark _)) (pe_and (pe_cmpR op_eq (pe_fld (pv 0) rfl) (pe_fld (pv 1) rfl) (nomark _)) (pe_and (pe_cmpR op_eq (pe_fld (pv 0) rfl) (pe_fld (pv 1) rfl) (nomark _)) (pe_one (pe_cmpR op_eq (pe_fld (pv 0) rfl) (pe_fld (pv 1) rfl) (nomark _))))))))), _, rfl, _, _, _, _, false, rfl, .own C, ty, hk, _, rfl, iteF k⟩
theorem final {q : Program} {K : PySem.W.Frag} {h : Heap} {mg : Str → Option Value} {C IN IO fa c1 P1 c2 P2 c3 P3 : Addr} {P : Program} {w : World} (hmg : mg "law" = some (.ref fa)) (F : Facts K mg C IN IO c1 P1 c2 P2 c3 P3)
    (tabs : ∀ (x : Str) (d : DefRec) (c P : Addr), (recsOf q).find? (fun e => e.name == x) = some d → PySem.W.tabIn K x = some (c, P) → PySem.W.CodeHd h c P ∧ h.get? P = some (PySem.W.tabObj #[]))
    (r1 : ((recsOf q).find? fun e => e.name == ("_law_makes" : Str)).isSome = true) (r2 : ((recsOf q).find? fun e => e.name == ("_law_reckons" : Str)).isSome = true) (r3 : ((recsOf q).find? fun e => e.name == ("_law_together" : Str)).isSome = true) :
    ∃ (fd : FuncData) (cs : List (Addr × Addr)) (sp : Sp), (∀ p ∈ cs, h.get? p.2 = some { cls := .none, data := .fields #[] }) ∧ (∀ p ∈ cs, K.lookup p.2 = none) ∧ (∀ p ∈ cs, PySem.W.CodeHd h p.1 p.2) ∧
        (∀ (s : Shared) (u : Value), BindsTo s fd ⟨[u], []⟩ [("_law_script", u)]) ∧
        (∀ (H : Hp) (a : Addr) (ns : List Int), ns.length ≤ 63 → (∀ p ∈ cs, H p.2 = some (.tbl #[])) → SqL K H a (ns.map V.int) → sp [.ref a] H (fun v _ => v = .bl true) fun _ _ _ => False) ∧
        ∀ base : Heap, K.In base → base.Ns mainGlobals mg → (∀ p ∈ cs, TabB base mg p.1 p.2) → FnOk P w K mg base CX0 20 fa fd ["_law_script"] sp := by
  obtain ⟨f, fd, hm, D⟩ := F.d40.ex
  have ef : f = fa := by
    have := hm.symm.trans hmg
    cases this
    rfl
  subst ef
  obtain ⟨d1, q1⟩ := Option.isSome_iff_exists.mp r1
  obtain ⟨d2, q2⟩ := Option.isSome_iff_exists.mp r2
  obtain ⟨d3, q3⟩ := Option.isSome_iff_exists.mp r3
  have t1 := tabs _ _ _ _ q1 F.m36.tab
  have t2 := tabs _ _ _ _ q2 F.m38.tab
  have t3 := tabs _ _ _ _ q3 F.m39.tab
  have mem : ∀ p : Addr × Addr, p ∈ [(c1, P1), (c2, P2), (c3, P3)] → p = (c1, P1) ∨ p = (c2, P2) ∨ p = (c3, P3) := fun p hp => by simpa using hp
  refine ⟨fd, [(c1, P1), (c2, P2), (c3, P3)], spLaw K [(P1, lamQ "_law_makes"), (P2, lamQ "_law_reckons"), (P3, lamQ "_law_together")], fun p hp => ?_, fun p hp => ?_, fun p hp => ?_, law_binds D, fun H a ns hl hH hS => ⟨a, ns, rfl, hS, hl, fun p hp => ?_, fun _ => rfl⟩, fun base _ _ TB => ?_⟩
  · rcases mem p hp with rfl | rfl | rfl
    · exact t1.2
    · exact t2.2
    · exact t3.2
  · rcases mem p hp with rfl | rfl | rfl
    · exact F.m36.no
    · exact F.m38.no
    · exact F.m39.no
  · rcases mem p hp with rfl | rfl | rfl
    · exact t1.1
    · exact t2.1
    · exact t3.1
  · have hp' : p = (P1, lamQ "_law_makes") ∨ p = (P2, lamQ "_law_reckons") ∨ p = (P3, lamQ "_law_together") := by simpa using hp
    rcases hp' with rfl | rfl | rfl
    · exact TabS.nil (hH (c1, P1) (by simp))
    · exact TabS.nil (hH (c2, P2) (by simp))
    · exact TabS.nil (hH (c3, P3) (by simp))
  have TB1 := TB (c1, P1) (by simp)
  have TB2 := TB (c2, P2) (by simp)
  have TB3 := TB (c3, P3) (by simp)
  have T := F.T
  have NC := F.NC
  have NI := F.NI
  have a_dice := ok_dice (P := P) (w := w) (base := base) T F.d30
  have a_roll := ok_roll (P := P) (w := w) (base := base) T F.d31
  have a_pick := ok_pick T F.d32 a_roll
  have a_isint := ok_isint (P := P) (w := w) (base := base) T F.d8
  have a_isint2 := ok_isint2 (P := P) (w := w) (base := base) T NC NI F.d8
  have a_isintA := ok_isintA (K := K) (P := P) (w := w) (base := base) T F.d8
  have a_valid := ok_valid T F.NK F.d15 a_isint
  have a_validB := ok_validBad T F.NK F.d15 a_isintA
  have a_init := ok_init T NC a_valid
  have a_initX := ok_initX T NC F.EI a_validB
  have a_top := ok_ntop (P := P) (w := w) (base := base) (mg := mg) F.p_top NC
  have a_part := ok_npart (P := P) (w := w) (base := base) (mg := mg) F.p_part NC
  have a_root := ok_nroot (P := P) (w := w) (base := base) (mg := mg) F.p_root NC
  have a_bottom := ok_nbottom (P := P) (w := w) (base := base) (mg := mg) F.p_bottom NC
  have a_sgi := ok_sgi (P := P) (w := w) (base := base) T F.d22
  have a_sgn := ok_sgn T F.d23 a_sgi
  have a_sign := ok_nsign F.p_sign NC a_sgn
  have a_norma := ok_norma F.d21 NC a_top a_part a_root
  have a_asnum := ok_asnum T F.d16 NC NI a_init a_isint2
  have a_asnone := ok_asnone T F.d16 NC a_init a_isintA
  have a_operand := ok_operand T F.d17 a_asnum
  have a_argument := ok_argument T F.d18 a_asnum
  have a_argX := ok_argX T F.d18 F.EI a_asnone
  have a_croot := ok_croot T F.d19 NC a_root
  have a_crootX := ok_crootX T F.d19 NC F.EI a_root
  have a_diff := ok_diff F.d20 NC a_top a_part a_bottom
  have a_add := ok_nadd F.o_Add NC a_init a_operand a_croot a_top a_part a_bottom
  have a_sub := ok_nsub F.o_Sub NC a_init a_operand a_croot a_diff a_bottom
  have a_mul := ok_nmul F.o_Mult NC a_init a_operand a_croot a_top a_part a_bottom
  have a_over := ok_nover F.m_over NC a_init a_argument a_croot a_sign a_norma a_top a_part a_bottom
  have a_comp := ok_ncomp F.m_comp NC a_argument a_croot a_diff a_sgn
  have x_add := ok_addX F.o_Add NC a_init a_operand a_crootX a_top a_part a_bottom
  have x_sub := ok_subX F.o_Sub NC a_init a_operand a_crootX a_diff a_bottom
  have x_mul := ok_mulX F.o_Mult NC a_init a_operand a_crootX a_top a_part a_bottom
  have x_comp := ok_compX F.m_comp NC a_argument a_crootX a_diff a_sgn
  have o_comp := ok_compO F.m_comp NC a_argX a_croot a_diff a_sgn
  have x_over := ok_overX F.m_over NC F.EO a_init a_argument a_crootX a_sign a_norma a_top a_part a_bottom
  have o_over := ok_overO F.m_over NC F.EO a_init a_argX a_croot a_sign a_norma a_top a_part a_bottom
  have z_over := ok_overZ F.m_over NC F.EO a_init a_argument a_croot a_sign a_norma a_top a_part a_bottom
  have a_eqA := ok_neqA (P := P) (w := w) (base := base) T F.seq NC
  have a_hor := ok_hor T F.d14 NC NI a_root
  have x_hor := ok_horX T F.d14 NC NI F.EI a_root
  have b_made := ok_lmade F.d33 NC a_init
  have b_wrong := ok_lwrong F.d35 NC a_initX
  have b_usedU := ok_lusedU F.d37 NC x_add x_sub x_mul x_over x_comp
  have b_usedO := ok_lusedO F.d37 NC a_add a_sub a_mul o_over o_comp
  have b_usedF := ok_lusedF F.d37 NC a_add a_sub a_mul a_over a_comp
  have n12 := F.n12
  have n13 := F.n13
  have n23 := F.n23
  have b_makes := ok_lmakes (TL := [(P1, lamQ "_law_makes"), (P2, lamQ "_law_reckons"), (P3, lamQ "_law_together")]) T NC NI F.OT F.ET F.EI F.EO F.m36.d F.d34 TB1 (by simp) (fun p hp e => by
    have hp' : p = (P1, lamQ "_law_makes") ∨ p = (P2, lamQ "_law_reckons") ∨ p = (P3, lamQ "_law_together") := by simpa using hp
    rcases hp' with rfl | rfl | rfl
    · rfl
    · exact absurd e.symm n12
    · exact absurd e.symm n13) a_init a_pick b_wrong a_eqA a_top a_part a_root a_bottom
  have b_reck := ok_lreck (TL := [(P1, lamQ "_law_makes"), (P2, lamQ "_law_reckons"), (P3, lamQ "_law_together")]) T NC NI F.OT F.ET F.EI F.EO F.m38.d F.d34 TB2 (by simp) (fun p hp e => by
    have hp' : p = (P1, lamQ "_law_makes") ∨ p = (P2, lamQ "_law_reckons") ∨ p = (P3, lamQ "_law_together") := by simpa using hp
    rcases hp' with rfl | rfl | rfl
    · exact absurd e n12
    · rfl
    · exact absurd e.symm n23) a_init a_pick b_made a_sub b_usedU b_usedO b_usedF z_over
  have b_tog := ok_ltog (TL := [(P1, lamQ "_law_makes"), (P2, lamQ "_law_reckons"), (P3, lamQ "_law_together")]) T NC NI F.OT F.ET F.EI F.EO F.m39.d F.d34 TB3 (by simp) (fun p hp e => by
    have hp' : p = (P1, lamQ "_law_makes") ∨ p = (P2, lamQ "_law_reckons") ∨ p = (P3, lamQ "_law_together") := by simpa using hp
    rcases hp' with rfl | rfl | rfl
    · exact absurd e n13
    · exact absurd e n23
    · rfl) a_init a_roll a_pick a_hor x_hor
  exact (ok_law T F.NK D a_dice b_makes b_reck b_tog a_hor).mono (by decide)
end My
open PySem PySem.W PyProof.Rows
set_option maxHeartbeats 0 in
theorem PySem.Challenge.cw_pieceround_k05_errors_of_numbers_holds : PySem.Challenge.rw_pieceround_k05_errors_of_numbers.Holds := by
  w_on; o_law; k_head; (case hw => w_witness2)
  k_fill
  refine My.walkT (l := PySem.Challenge.rw_pieceround_k05_errors_of_numbers) (n := 63) (k := 20) (x := "_law_script") rfl (by decide) rfl ⟨rfl, by decide, by decide⟩ (fun w h Y => PySem.W.km_in_of Y) ?F
  case F =>
    intro w mg fa h KX G hmg tabs
    refine My.final (C := ?nC) (IN := ?nIN) (IO := ?nIO) (c1 := ?c1) (P1 := ?P1) (c2 := ?c2) (P2 := ?P2) (c3 := ?c3) (P3 := ?P3) hmg ?FF tabs ?r1 ?r2 ?r3
    case FF =>
      have T : My.Bn mg := by constructor <;> exact PySem.W.mg_none_of KX G (by k_is)
      refine { T := T, NC := ?NC, NI := ?NI, NK := ?NK, OT := ?OT, ET := ?ET, EI := ?EI, EO := ?EO, d8 := ?d8, d14 := ?d14, d15 := ?d15, d16 := ?d16, d17 := ?d17, d18 := ?d18, d19 := ?d19, d20 := ?d20, d21 := ?d21, d22 := ?d22, d23 := ?d23, d30 := ?d30, d31 := ?d31, d32 := ?d32, d33 := ?d33, d34 := ?d34, d35 := ?d35, d37 := ?d37, d40 := ?d40, m36 := ?m36, m38 := ?m38, m39 := ?m39, p_top := ?p_top, p_part := ?p_part, p_root := ?p_root, p_bottom := ?p_bottom, p_sign := ?p_sign, o_Add := ?o_Add, o_Sub := ?o_Sub, o_Mult := ?o_Mult, seq := ?seq, m_over := ?mover, m_comp := ?mcomp, n12 := ?n12, n13 := ?n13, n23 := ?n23 }
      case NC =>
        refine' My.numT_mk KX G ?a1 ?a2 ?a3 ?a4 ?a5 ?a6 ?a7 ?a8 ?a9 ?a10 ?a11 ?a12 ?a13 ?a14 ?a15 ?a16 ?a17 ?a18 ?a19 ?a20
        case a1 => k_is
        case a2 => k_is
        case a3 => k_is
        case a4 => k_is
        case a5 => k_is
        case a6 => k_is
        case a7 => k_is
        case a8 => k_is
        case a9 => k_is
        case a10 => k_is
        case a11 => k_is
        case a12 => k_is
        case a13 => k_is
        case a14 => k_is
        case a15 => k_is
        case a16 => k_is
        case a17 => k_is
        case a18 => k_is
        case a19 => k_is
        case a20 => k_is
      case NK =>
        refine' My.numK_mk KX G ?a1 ?a2 ?a3
        case a1 => k_is
        case a2 => k_is
        case a3 => k_is
      case NI => constructor <;> first | kit_is | k_is
      case OT => constructor <;> first | kit_is | k_is
      case EI => (refine' ⟨PySem.W.mg_of (by assumption) (by assumption) ?qea, ?qeb, ⟨_, rfl, ?qec⟩, ?qed, ?qee⟩; (case qea => k_is); (case qeb => k_is); (case qec => k_exc); (case qed => k_is); (case qee => k_is))
      case EO => (refine' ⟨PySem.W.mg_of (by assumption) (by assumption) ?qea, ?qeb, ⟨_, rfl, ?qec⟩, ?qed, ?qee⟩; (case qea => k_is); (case qeb => k_is); (case qec => k_exc); (case qed => k_is); (case qee => k_is))
      case ET =>
        refine' ⟨?nn, ?on, ?oo⟩
        case nn => (refine' My.exm_mk ?qxh ?qxi ?qxt ?qxs; (case qxh => k_is); (case qxi => k_is); (case qxt => k_is); (case qxs => k_is))
        case on => (refine' My.exm_mk ?qxh ?qxi ?qxt ?qxs; (case qxh => k_is); (case qxi => k_is); (case qxt => k_is); (case qxs => k_is))
        case oo => (refine' My.exm_mk ?qxh ?qxi ?qxt ?qxs; (case qxh => k_is); (case qxi => k_is); (case qxt => k_is); (case qxs => k_is))
      case d8 => (refine' My.defAt_mk (by assumption) (by assumption) ?a ?l ?c ?k; (case a => k_is); (case l => k_is); (case c => k_is); (case k => k_is))
      case d14 => (refine' My.defAt_mk (by assumption) (by assumption) ?a ?l ?c ?k; (case a => k_is); (case l => k_is); (case c => k_is); (case k => k_is))
      case d15 => (refine' My.defAt_mk (by assumption) (by assumption) ?a ?l ?c ?k; (case a => k_is); (case l => k_is); (case c => k_is); (case k => k_is))
      case d16 => (refine' My.defAt_mk (by assumption) (by assumption) ?a ?l ?c ?k; (case a => k_is); (case l => k_is); (case c => k_is); (case k => k_is))
      case d17 => (refine' My.defAt_mk (by assumption) (by assumption) ?a ?l ?c ?k; (case a => k_is); (case l => k_is); (case c => k_is); (case k => k_is))
      case d18 => (refine' My.defAt_mk (by assumption) (by assumption) ?a ?l ?c ?k; (case a => k_is); (case l => k_is); (case c => k_is); (case k => k_is))
      case d19 => (refine' My.defAt_mk (by assumption) (by assumption) ?a ?l ?c ?k; (case a => k_is); (case l => k_is); (case c => k_is); (case k => k_is))
      case d20 => (refine' My.defAt_mk (by assumption) (by assumption) ?a ?l ?c ?k; (case a => k_is); (case l => k_is); (case c => k_is); (case k => k_is))
      case d21 => (refine' My.defAt_mk (by assumption) (by assumption) ?a ?l ?c ?k; (case a => k_is); (case l => k_is); (case c => k_is); (case k => k_is))
      case d22 => (refine' My.defAt_mk (by assumption) (by assumption) ?a ?l ?c ?k; (case a => k_is); (case l => k_is); (case c => k_is); (case k => k_is))
      case d23 => (refine' My.defAt_mk (by assumption) (by assumption) ?a ?l ?c ?k; (case a => k_is); (case l => k_is); (case c => k_is); (case k => k_is))
      case d30 => (refine' My.defAt_mk (by assumption) (by assumption) ?a ?l ?c ?k; (case a => k_is); (case l => k_is); (case c => k_is); (case k => k_is))
      case d31 => (refine' My.defAt_mk (by assumption) (by assumption) ?a ?l ?c ?k; (case a => k_is); (case l => k_is); (case c => k_is); (case k => k_is))
      case d32 => (refine' My.defAt_mk (by assumption) (by assumption) ?a ?l ?c ?k; (case a => k_is); (case l => k_is); (case c => k_is); (case k => k_is))
      case d33 => (refine' My.defAt_mk (by assumption) (by assumption) ?a ?l ?c ?k; (case a => k_is); (case l => k_is); (case c => k_is); (case k => k_is))
      case d34 => (refine' My.defAt_mk (by assumption) (by assumption) ?a ?l ?c ?k; (case a => k_is); (case l => k_is); (case c => k_is); (case k => k_is))
      case d35 => (refine' My.defAt_mk (by assumption) (by assumption) ?a ?l ?c ?k; (case a => k_is); (case l => k_is); (case c => k_is); (case k => k_is))
      case d37 => (refine' My.defAt_mk (by assumption) (by assumption) ?a ?l ?c ?k; (case a => k_is); (case l => k_is); (case c => k_is); (case k => k_is))
      case d40 => (refine' My.defAt_mk (by assumption) (by assumption) ?a ?l ?c ?k; (case a => k_is); (case l => k_is); (case c => k_is); (case k => k_is))
      case m36 => (refine' My.lamD_mk (by assumption) (by assumption) ?qla ?qll ?qlc ?qlk ?qllc ?qlp ?qln; (case qla => k_is); (case qll => k_is); (case qlc => k_is); (case qlk => k_is); (case qllc => k_is); (case qlp => exact rfl); (case qln => exact rfl))
      case m38 => (refine' My.lamD_mk (by assumption) (by assumption) ?qla ?qll ?qlc ?qlk ?qllc ?qlp ?qln; (case qla => k_is); (case qll => k_is); (case qlc => k_is); (case qlk => k_is); (case qllc => k_is); (case qlp => exact rfl); (case qln => exact rfl))
      case m39 => (refine' My.lamD_mk (by assumption) (by assumption) ?qla ?qll ?qlc ?qlk ?qllc ?qlp ?qln; (case qla => k_is); (case qll => k_is); (case qlc => k_is); (case qlk => k_is); (case qllc => k_is); (case qlp => exact rfl); (case qln => exact rfl))
      case p_top => (refine' My.propT_mk ⟨?a, ?g, ?t, ?r⟩ ?l ?c ?k; (case a => k_is); (case g => k_is); (case t => k_is); (case r => exact ⟨_, by k_is⟩); (case l => k_is); (case c => k_is); (case k => k_is))
      case p_part => (refine' My.propT_mk ⟨?a, ?g, ?t, ?r⟩ ?l ?c ?k; (case a => k_is); (case g => k_is); (case t => k_is); (case r => exact ⟨_, by k_is⟩); (case l => k_is); (case c => k_is); (case k => k_is))
      case p_root => (refine' My.propT_mk ⟨?a, ?g, ?t, ?r⟩ ?l ?c ?k; (case a => k_is); (case g => k_is); (case t => k_is); (case r => exact ⟨_, by k_is⟩); (case l => k_is); (case c => k_is); (case k => k_is))
      case p_bottom => (refine' My.propT_mk ⟨?a, ?g, ?t, ?r⟩ ?l ?c ?k; (case a => k_is); (case g => k_is); (case t => k_is); (case r => exact ⟨_, by k_is⟩); (case l => k_is); (case c => k_is); (case k => k_is))
      case p_sign => (refine' My.propT_mk ⟨?a, ?g, ?t, ?r⟩ ?l ?c ?k; (case a => k_is); (case g => k_is); (case t => k_is); (case r => exact ⟨_, by k_is⟩); (case l => k_is); (case c => k_is); (case k => k_is))
      case o_Add => (refine' My.opT_mk ⟨?a, ?b, ?e, ?d, ?i, ?j, ?s⟩ ?l ?c ?k; (case a => k_is); (case b => k_is); (case e => k_is); (case d => k_is); (case i => exact ⟨_, by k_is⟩); (case j => exact ⟨_, by k_is⟩); (case s => k_is); (case l => k_is); (case c => k_is); (case k => k_is))
      case o_Sub => (refine' My.opT_mk ⟨?a, ?b, ?e, ?d, ?i, ?j, ?s⟩ ?l ?c ?k; (case a => k_is); (case b => k_is); (case e => k_is); (case d => k_is); (case i => exact ⟨_, by k_is⟩); (case j => exact ⟨_, by k_is⟩); (case s => k_is); (case l => k_is); (case c => k_is); (case k => k_is))
      case o_Mult => (refine' My.opT_mk ⟨?a, ?b, ?e, ?d, ?i, ?j, ?s⟩ ?l ?c ?k; (case a => k_is); (case b => k_is); (case e => k_is); (case d => k_is); (case i => exact ⟨_, by k_is⟩); (case j => exact ⟨_, by k_is⟩); (case s => k_is); (case l => k_is); (case c => k_is); (case k => k_is))
      case seq => (refine' My.spT_mk ?a ?i ?l ?c ?k; (case a => k_is); (case i => k_is); (case l => k_is); (case c => k_is); (case k => k_is))
      case mover => (refine' My.methT_mk ?a ?i ?l ?c ?k; (case a => k_is); (case i => k_is); (case l => k_is); (case c => k_is); (case k => k_is))
      case mcomp => (refine' My.methT_mk ?a ?i ?l ?c ?k; (case a => k_is); (case i => k_is); (case l => k_is); (case c => k_is); (case k => k_is))
      case n12 => decide
      case n13 => decide
      case n23 => decide
    case r1 => decide +kernel
    case r2 => decide +kernel
    case r3 => decide +kernel
