import PyProof.Rows.All
import Wide.All
import OpenK.AllK
import Wide.FinOn
import HandS.ForMost
import HandS.Wide
import HandS.Gcd
import HandS.Property
import HandS.MakeKwOnly
import HandS.IsInst
import HandS.OwnEq
import HandS.Evl
import KE.KOpsOwn
import KE.KMathG
import PyProof.InstNe
import PyProof.ReprRoads
import HandS.Lambda
import HandS.WideBits
import HandS.TryMany
import HandS.ExcField
import HandS.ExcInit
import KE.KExcInit
import HandS.ExcValue
import HandS.ExcIs
import PyProof.StrOps2
import HandS.TryOnly
import HandS.Codes
import KE.KNestM
import HandS.Dict
import PyProof.CallFns
import HandS.Walk
import HandS.Iter
import HandS.More
import HandS.HotCalls
import HandS.Style
import PySem.Challenge.RW_pieceround_k01_errors_and_what_they_keep
set_option Elab.async false
set_option exponentiation.threshold 20000
set_option linter.all false
set_option maxHeartbeats 4000000
set_option maxRecDepth 100000
namespace My
open PySem PySem.Spec PyProof.Rows L2

theorem cmpBack_of {P : Value → Shared → Prop} {z : V} {w : Value} {s : Shared} (r : RelV z w) (h : P w s) : PySem.W.CmpBack P w s := by
  cases z with
  | non => cases r; exact h
  | bl _ => cases r; exact h
  | int _ => obtain ⟨t, rfl⟩ := r; exact h
  | str _ => obtain ⟨t, rfl⟩ := r; exact h
  | byt _ => obtain ⟨t, rfl⟩ := r; exact h
  | flt _ => obtain ⟨t, rfl⟩ := r; exact h
  | ref _ => cases r; exact h
  | ty _ => cases r; exact h

/-- the class at C has the def at f as its operator -/
structure OwnOp (K : PySem.W.Frag) (C : Addr) (op : Operator) (f : Addr) : Prop where
  sf : PySem.W.selfFirst K C = true
  at_ : PySem.W.findIn K (.ref C) (PySem.dunder op.info.2) = some (some (.ref f))
  fn : PySem.W.isFn K (.ref f) = true
  rr : PySem.W.findIn K (.ref C) (dunderR op.info.2) = some none
  i1 : ∃ fo, PySem.W.findIn K (.type "int") (PySem.dunder op.info.2) = some fo
  i2 : ∃ ro, PySem.W.findIn K (.type "int") (dunderR op.info.2) = some ro
  sub : PySem.W.subIn K (.type "int") (.ref C) = some false

/-- x op y, x an instance, y an instance or an int -/
def rOwn (C : Addr) (sp : Sp) (E : XK) : R2 := fun x y H Q => ∃ a dx fs, x = .ref a ∧ H a = some (.ins C dx fs) ∧ ((∃ i, y = .int i) ∨ ∃ b dy gs, y = .ref b ∧ H b = some (.ins C dy gs)) ∧ sp [.ref a, y] H Q E

section
variable {X : Cx} {CX : CXT} {k : Nat} {f C : Addr} {fd : FuncData} {ps : List Str} {sp : Sp} {E : XK} {op : Operator}
theorem op_own (W : OwnOp X.K C op f) (F : FnOk X.prog X.w X.K X.mg X.base CX k f fd ps sp) (hr : Room k X.A) (hb : Binds X.K fd ps []) (hx : Passes CX X E) : OpR X (binaryOp op) (rOwn C sp E) := by
  intro pins s σ H x y v u Q I rx ry hq
  obtain ⟨a, dx, fs, rfl, ea, hy, hsp⟩ := hq
  cases rx
  obtain ⟨mA, O, _⟩ := ins_get I.hok ea
  obtain ⟨od, J, _⟩ := O.look
  obtain ⟨m, hF⟩ := I.fr
  have hcall : wpAny (model X.prog X.w) X.A (call (.ref f) [.ref a, u]) (PySem.W.CmpBack (EP X pins σ Q)) X.xe s := by
    refine wpAny_mono (run_fn (us := [.ref a, u]) (vs := [.ref a, y]) (dvs := []) (ds := []) F hr hb .nil hx I (.cons rfl (.cons ry .nil)) hsp) (fun w s' hw => ?_) fun _ _ e => e
    obtain ⟨z, H', I', rz, q⟩ := hw
    exact cmpBack_of rz ⟨z, H', I', rz, q⟩
  rcases hy with ⟨i, rfl⟩ | ⟨b, dy, gs, rfl, eb⟩
  · obtain ⟨t, rfl⟩ := ry
    obtain ⟨fo, h1⟩ := W.i1
    obtain ⟨ro, h2⟩ := W.i2
    exact PySem.W.ksp_binT (T := "int") hF I.ok.mod.kin J (by rfl) W.sf W.at_ W.fn W.rr (.inl rfl) h1 h2 W.sub hcall
  · cases ry
    obtain ⟨mB, O', _⟩ := ins_get I.hok eb
    obtain ⟨od', J', _⟩ := O'.look
    exact PySem.W.binop_K hF I.ok.mod.kin J J'.type W.sf W.at_ W.fn hcall

/-- -x -/
def rOwnU (C : Addr) (sp : Sp) (E : XK) : V → Hp → VK → Prop := fun x H Q => ∃ a dx fs, x = .ref a ∧ H a = some (.ins C dx fs) ∧ sp [.ref a] H Q E
theorem un_ownNeg (hs : PySem.W.findIn X.K (.ref C) "__neg__" = some (some (.ref f))) (hf : PySem.W.isFn X.K (.ref f) = true) (F : FnOk X.prog X.w X.K X.mg X.base CX k f fd ps sp) (hr : Room k X.A) (hb : Binds X.K fd ps []) (hx : Passes CX X E) : UnR X (unaryOp .USub) (rOwnU C sp E) := by
  intro pins s σ H x v Q I rx hq
  obtain ⟨a, dx, fs, rfl, ea, hsp⟩ := hq
  cases rx
  obtain ⟨mA, O, _⟩ := ins_get I.hok ea
  obtain ⟨od, J, _⟩ := O.look
  obtain ⟨m, hF⟩ := I.fr
  exact PySem.W.ksp_neg hF I.ok.mod.kin J hs hf (run_fn (us := [.ref a]) (vs := [.ref a]) (dvs := []) (ds := []) F hr hb .nil hx I (.cons rfl .nil) hsp)

/-- x == y of two instances, by the class's own def, whatever the answer -/
def rOwnEq (C : Addr) (sp : Sp) (E : XK) : R2 := fun x y H Q => ∃ a dx fs b dy gs, x = .ref a ∧ H a = some (.ins C dx fs) ∧ y = .ref b ∧ H b = some (.ins C dy gs) ∧ sp [.ref a, .ref b] H Q E
theorem op_ownEq (hs : PySem.W.findIn X.K (.ref C) "__eq__" = some (some (.ref f))) (hf : PySem.W.isFn X.K (.ref f) = true) (F : FnOk X.prog X.w X.K X.mg X.base CX k f fd ps sp) (hr : Room k X.A) (hb : Binds X.K fd ps []) (hx : Passes CX X E) : OpR X (compareOp .Eq) (rOwnEq C sp E) := by
  intro pins s σ H x y v u Q I rx ry hq
  obtain ⟨a, dx, fs, b, dy, gs, rfl, ea, rfl, eb, hsp⟩ := hq
  cases rx
  cases ry
  obtain ⟨mA, O, _⟩ := ins_get I.hok ea
  obtain ⟨od, J, _⟩ := O.look
  obtain ⟨mB, O', _⟩ := ins_get I.hok eb
  obtain ⟨od', J', _⟩ := O'.look
  obtain ⟨m, hF⟩ := I.fr
  show wpAny (model X.prog X.w) X.A (richCompare .Eq (.ref a) (.ref b)) (EP X pins σ Q) X.xe s
  refine PySem.W.cmp_K (op := .Eq) (tb := .ref C) hr.units0 hF I.ok.mod.kin J J'.type (by simp [PySem.W.notFirst]) hs hf ?_
  refine wpAny_mono (run_fn (us := [.ref a, .ref b]) (vs := [.ref a, .ref b]) (dvs := []) (ds := []) F hr hb .nil hx I (.cons rfl (.cons rfl .nil)) hsp) (fun w s' hw => ?_) fun _ _ e => e
  obtain ⟨z, H', I', rz, q⟩ := hw
  exact cmpBack_of rz ⟨z, H', I', rz, q⟩
end

/-! ### math -/
theorem args_gcd3 (a b c : Value) : argsOk "math.gcd" ⟨[a, b, c], []⟩ := by unfold argsOk; kernel_rfl
theorem run_gcd3 (a : Int) (t : Tok) (b : Int) (u : Tok) (c : Int) (w : Tok) :
    Gives (Builtin.«math.gcd» ⟨[.int a t, .int b u, .int c w], []⟩) (.int ((((((Nat.gcd 0 a.natAbs).gcd b.natAbs).gcd c.natAbs) : Nat) : Int))) :=
  .of_wp fun M A E s Q h => by obtain ⟨hp, g, d, tk, os⟩ := s; wp_walk; exact ⟨_, rfl, h⟩
def rGcd3 : List V → Hp → VK → Prop := fun vs H Q => ∃ a b c : Int, vs = [.int a, .int b, .int c] ∧ Q (.int ((Nat.gcd (Nat.gcd a.natAbs b.natAbs) c.natAbs : Nat) : Int)) H
def rSqrt : List V → Hp → VK → Prop := fun vs H Q => ∃ a : Int, vs = [.int a] ∧ 0 ≤ a ∧ a.toNat < 2 ^ 13000 ∧ Q (.int ((Float64.isqrt a.toNat : Nat) : Int)) H
section
variable {X : Cx}
theorem cr_gcd3 : CallR X (.builtin "math.gcd") rGcd3 := by
  intro pins s σ H vs us Q I r h
  obtain ⟨a, b, c, rfl, q⟩ := h
  cases r with
  | cons r1 r => cases r with
    | cons r2 r => cases r with
      | cons r3 r =>
        cases r
        obtain ⟨t1, rfl⟩ := r1
        obtain ⟨t2, rfl⟩ := r2
        obtain ⟨t3, rfl⟩ := r3
        have g := run_gcd3 a t1 b t2 c t3
        rw [Nat.gcd_zero_left] at g
        exact call_function_meets PySem.W.MGF.kind_gcd PySem.W.MGF.plain_gcd PySem.W.MGF.entry_gcd (args_gcd3 _ _ _) g.meets ⟨.int _, H, I.tok _, ⟨_, rfl⟩, q⟩
theorem cr_isqrt : CallR X (.builtin "math.isqrt") rSqrt := by
  intro pins s σ H vs us Q I r h
  obtain ⟨a, rfl, h0, h1, q⟩ := h
  cases r with
  | cons r1 r =>
    cases r
    obtain ⟨t1, rfl⟩ := r1
    have hl : a.toNat.log2 < 13000 := PySem.Flt.log2_lt_of (by decide) h1
    have g := PySem.W.mg_run_isqrt a t1 (by omega) (by omega) (by omega)
    exact call_function_meets PySem.W.MGF.kind_isqrt PySem.W.MGF.plain_isqrt PySem.W.MGF.entry_isqrt (PySem.W.MGF.args_isqrt _) g.meets ⟨.int _, H, I.tok _, ⟨_, rfl⟩, q⟩
end

/-! ### repr of data -/
section
variable {X : Cx}
def rRepr (K : PySem.W.Frag) : List V → Hp → VK → Prop := fun vs H Q => ∃ v d, vs = [v] ∧ (∃ a, v = .ref a) ∧ Dp K H v d ∧ d.showable = true ∧ d.hasDict = false ∧ d.depth < 20 ∧ d.shown.length ≤ sizeLine ∧ Q (.str d.shown) H
theorem cr_repr {k : Nat} (hr : Room k X.A) (hg : X.A.guards = some []) : CallR X (.builtin "repr") (rRepr X.K) := by
  intro pins s σ H vs us Q I r h
  obtain ⟨v, d, rfl, ⟨a, rfl⟩, hd, hs, hn, hdp, hz, q⟩ := h
  cases r with
  | cons r1 r =>
    cases r
    cases r1
    obtain ⟨as, hrd⟩ := Dp.reads I d (.ref a) (.ref a) hd rfl
    refine repr_of_reads' hrd hs (fun z => by rw [hn] at z; cases z) hg (by have := hr.un; omega) (fun _ _ e => e) (fun h' u tk hk => ?_) hz
    exact ⟨.str d.shown, H, I.kept hk, ⟨_, rfl⟩, q⟩
end
end My
namespace My
open PySem PySem.Spec PyProof.Rows L2

/-! ### a def's promise where no builtin's repr is under way -/
structure FnG (P : Program) (w : World) (K : PySem.W.Frag) (mg : Str → Option Value) (base : Heap) (CX : CXT) (k : Nat) (f : Addr) (fd : FuncData) (ps : List Str) (sp : Sp) : Prop where
  size : ∀ vs H Q E, sp vs H Q E → vs.length = ps.length
  go : ∀ (A : Around) (outer : List Env) (s : Shared) (H : Hp) (args : Args) (us : List Value) (vs : List V) (Q : VK) (E : XK), A.guards = some [] → Room k A → Env0 P w K mg base A outer s H → BindsTo s fd args (ps.zip us) → Vals vs us → sp vs H Q E →
    codeAny (model P w) A (.call (.ref f) args) (CR CX outer P w H s Q E) s
theorem FnG.mono {P : Program} {w : World} {K : PySem.W.Frag} {mg : Str → Option Value} {base : Heap} {CX : CXT} {j k : Nat} {f : Addr} {fd : FuncData} {ps : List Str} {sp : Sp} (F : FnG P w K mg base CX j f fd ps sp) (h : j ≤ k) : FnG P w K mg base CX k f fd ps sp :=
  ⟨F.size, fun A outer s H args us vs Q E g hr => F.go A outer s H args us vs Q E g (hr.mono h)⟩
section
variable {P : Program} {w : World} {K : PySem.W.Frag} {mg : Str → Option Value} {base : Heap}
theorem okG {x qual : Str} {st : Stmt} {f : Addr} {fd : FuncData} {N ps : List Str} {k : Nat} {sp : Sp} (F : Fun K x qual st f fd) (S : FnScope N ps (defScope st)) (len : ∀ vs H Q E, sp vs H Q E → vs.length = ps.length)
    (hbody : ∀ (cdv : Value) (A : Around) (outer : List Env) (s : Shared) (H : Hp) (vs : List V) (Q : VK) (E : XK), (A.deeper (envOfC qual (defScope st) s.heap.objs.size f cdv)).guards = some [] → Room k (A.deeper (envOfC qual (defScope st) s.heap.objs.size f cdv)) → sp vs H Q E →
      ∃ t, PSs (cxOf CX0 P w K mg base N qual (defScope st) f cdv A outer s H E).nox (defBody st) t ∧ t { nx := fun _ H' => Q .non H', rt := Q } (start N vs) H) : FnG P w K mg base CX0 (k + 1) f fd ps sp := by
  obtain ⟨oc, od, kV, doc, pm, an, cdv, ct, osl, e1, lk, hcd⟩ := F.ex
  subst e1
  refine ⟨len, fun A outer s H args us vs Q E g hr e0 hb r hsp => LamX.run_ofS lk hcd S hr e0 hb r (len _ _ _ _ hsp) fun hr' => ?_⟩
  obtain ⟨t, h, q⟩ := hbody cdv A outer s H vs Q E g hr' hsp
  exact ⟨t, h.nox, q⟩
end
section
variable {X : Cx} {CX : CXT} {k : Nat} {f : Addr} {fd : FuncData} {ps : List Str} {sp : Sp} {E : XK} {x : Str} {p pos : Pos} {e : Expr} {es : List Expr} {t : TA}
theorem callG (F : FnG X.prog X.w X.K X.mg X.base CX k f fd ps sp) (g : X.A.guards = some []) (hr : Room k X.A) (hg : Gl X x) (hm : X.mg x = some (.ref f)) (hk : PySem.W.keepIn X.K (.ref f) = true) (hb : Binds X.K fd ps []) (hx : Passes CX X E)
    (ha : PA X (e :: es) t) (hdb : (x == ("__debug__" : Str)) = false := by decide) (he : starEach (e :: es) X.env = (false, eval e X.env) :: starEach es X.env := by rfl) (hpl : (backTo pos (starEach es X.env)).any (·.1) = false := by rfl) :
    PE X (.Call (.Name x p) (e :: es) [] pos) (tCall sp [] E t) := by
  refine ⟨fun pins s σ H Q I h => wpAny_Call_Name_kw (ld_glob I hg hm (PySem.W.callWith_K (h₀ := X.base) I.ok.mod.kin hk (thn (ha.run pos pins s σ H _ I h) fun us s1 hh => ?_) he hpl) hdb)⟩
  obtain ⟨vs, H1, I1, r, q⟩ := hh
  refine ⟨I1.kIn, ?_⟩
  have q0 : sp vs H1 Q E := by
    have z := q
    rw [List.append_nil] at z
    exact z
  have hl : us.length = ps.length := by rw [← r.length]; exact F.size _ _ _ _ q0
  have bd : BindsTo s1 fd ⟨us, []⟩ (ps.zip us) := by
    have z := hb s1 us I1.kIn (by rw [List.append_nil]; exact hl)
    rw [List.append_nil] at z
    exact z
  refine wpAny_call (codeAny_mono (F.go X.A X.stack s1 H1 ⟨us, []⟩ us vs Q E g hr I1.env0 bd r q0) fun r2 s2 hq => ?_)
  match r2, hq with
  | .error er, hq => exact hx pins σ H1 s1 er s2 I1 hq
  | .ok (.ret u), hq => exact I1.after hq
end
/-- the law's own head, from such a promise -/
theorem lawG {P : Program} {w : World} {K : PySem.W.Frag} {mg mb : Str → Option Value} {k : Nat} {fa a : Addr} {fd : FuncData} {x : Str} {sp : Sp} {z : Shared} {vs : List Value} {ns : List Int}
    (KX : K.In z.heap) (hns : z.heap.Ns mainGlobals mg) (hb : z.heap.Ns builtinsNs mb) (hbb : ∀ x : Str, x ≠ "__name__" → mb x = bootBuiltins x) (hlim : z.heap.NoLimit) (hg : z.gens = #[])
    (ha : z.heap.get? a = some { cls := .type "list", data := .seq vs.toArray }) (hi : IntsAre vs ns) (hl : ns.length ≤ sizeLine) (hr : Room k callerA)
    (F : ∀ base : Heap, K.In base → base.Ns mainGlobals mg → FnG P w K mg base CX0 k fa fd [x] sp) (hbind : ∀ (s : Shared) (u : Value), BindsTo s fd ⟨[u], []⟩ [(x, u)])
    (hsp : ∀ H : Hp, Only H → SqL K H a (ns.map V.int) → sp [.ref a] H (fun v _ => v = .bl true) fun _ _ _ => False) :
    codeAny (model P w) callerA (.call (.ref fa) ⟨[.ref a], []⟩) (fun r s' => r = .ok (.ret (.bool true)) ∧ OldK z.heap s'.heap ∧ s'.os = z.os ∧ AllBare s'.gens) z := by
  have run : ∀ H : Hp, Only H → SqL K H a (ns.map V.int) → HOk P w H z.heap → (∀ b, H b ≠ none → b = a ∧ K.lookup a = none) →
      codeAny (model P w) callerA (.call (.ref fa) ⟨[.ref a], []⟩) (fun r s' => r = .ok (.ret (.bool true)) ∧ OldK z.heap s'.heap ∧ s'.os = z.os ∧ AllBare s'.gens) z := by
    intro H hO hS hok hA
    have free : ∀ {b : Addr}, b ≠ a → H b = none := fun {b} hb => Classical.byContradiction fun q => hb (hA b q).1
    have nsOk : ∀ {b : Addr} {m : Str → Option Value}, z.heap.Ns b m → (hidT z.heap H).Ns b m := fun {b m} hn => by
      obtain ⟨o, es, ep, e, d, r⟩ := hn
      refine ⟨o, es, ep, hidT_get e (free fun q => ?_), d, r⟩
      rw [q, ha] at e
      have d2 : Data.seq vs.toArray = Data.dict es ep := by
        rw [← d, ← Option.some.inj e]
      cases d2
    have kin : K.In (hidT z.heap H) := fun b o e => hidT_get (KX b o e) (Classical.byContradiction fun q => by
      obtain ⟨e1, e2⟩ := hA b q
      rw [e1, e2] at e
      cases e)
    have md : Mod K mg (hidT z.heap H) := ⟨kin, nsOk hns, ⟨mb, nsOk hb, hbb⟩, let ⟨mc, h1, h2⟩ := hlim; ⟨mc, nsOk h1, h2⟩⟩
    have en : Env0 P w K mg (hidT z.heap H) callerA [] z H := ⟨rfl, md, fun b o e => of_hidT e, Nat.le_of_eq (hidT_size _ _), trivial, fun b hb => absurd hb List.not_mem_nil, hok, .of_eq hg⟩
    have fin := (F _ kin (nsOk hns)).go callerA [] z H ⟨[.ref a], []⟩ [.ref a] [.ref a] _ _ rfl hr en (hbind z (.ref a)) (.cons rfl .nil) (hsp H hO hS)
    refine codeAny_mono fin fun r s' h => ?_
    match r, h with
    | .error e, h => exact absurd h id
    | .ok (.ret u), h =>
      obtain ⟨v, H', os, bare, un, hok', r', q⟩ := h
      have q' : v = .bl true := q
      rw [q'] at r'
      have ru : u = Value.bool true := r'
      refine ⟨by rw [ru], OldK.of_keep fun b o e => ?_, os, bare⟩
      rcases hO b with y | ⟨ob, xs, y⟩
      · exact un.keep b o e y List.not_mem_nil List.not_mem_nil
      · obtain ⟨e2, _⟩ := hok' b _ (un.frzs b ob _ y)
        obtain ⟨e1, _⟩ := hok b _ y
        rw [e] at e1
        rw [Option.some.inj e1]
        exact e2
  have rv := vals_ints hi
  by_cases hk : K.lookup a = none
  · refine run (fun b => if b = a then some (.frz { cls := .type "list", data := .seq vs.toArray } (.lst (ns.map V.int))) else none) (fun b => ?_) (.inl (.inr ⟨_, if_pos rfl⟩)) (fun b u y => ?_) fun b y => ?_
    · by_cases hb : b = a
      · exact .inr ⟨_, _, if_pos hb⟩
      · exact .inl (if_neg hb)
    · by_cases q : b = a
      · rw [q] at y ⊢
        have y2 := (if_pos rfl).symm.trans y
        rw [← Option.some.inj y2]
        exact ⟨ha, by rw [List.length_map]; exact hl, vs, _, rv, ha⟩
      · cases (if_neg q).symm.trans y
    · by_cases q : b = a
      · exact ⟨q, hk⟩
      · exact absurd (if_neg q) y
  · obtain ⟨o, ho⟩ := Option.ne_none_iff_exists'.mp hk
    have e := KX a o ho
    rw [ha] at e
    cases e
    exact run (fun _ => none) (fun _ => .inl rfl) (.inr ⟨_, vs.toArray, _, ho, rfl, rfl, rfl, by rw [List.size_toArray, hi.length]; exact hl, by simpa using rv⟩) (fun b u y => nomatch y) fun b y => absurd rfl y
theorem walkG {l : PySem.W.OpenLaw} {n k : Nat} {q : Program} {loose : List Str} {XP : (Str → Option Value) → Heap → Prop} {YP : World → Heap → Prop} {d : DefRec} {K : Params → PySem.W.Frag} {sp : PySem.W.Frag → Sp} {x : Str}
    (hn : l.most = some n) (hn2 : n ≤ sizeLine) (hdf : d.params.defaults = []) (hr : Room k callerA)
    (hY : ∀ (w : World) (h : Heap), YP w h → (K w.params).In h)
    (F : ∀ (w : World) (mg : Str → Option Value) (fa : Addr) (h : Heap), (K w.params).In h → h.Ns mainGlobals mg → mg d.name = some (.ref fa) →
      ∃ fd : FuncData, (∀ (s : Shared) (u : Value), BindsTo s fd ⟨[u], []⟩ [(x, u)]) ∧ ∀ base : Heap, (K w.params).In base → base.Ns mainGlobals mg → FnG l.prog w (K w.params) mg base CX0 k fa fd [x] (sp (K w.params)))
    (hsp : ∀ (K : PySem.W.Frag) (H : Hp) (a : Addr) (ns : List Int), ns.length ≤ n → Only H → SqL K H a (ns.map V.int) → sp K [.ref a] H (fun v _ => v = .bl true) fun _ _ _ => False) :
    PySem.W.WalkO q loose XP YP l.row.toRowW d [] (fun f vs => PySem.call f vs) := by
  refine Att.attach_call hn hdf fun w s₀ z mg mb fa o pm cd doc a vs ns G Y ho hd hcd hmg hobj hints hlen hg => ?_
  have KX := hY w _ Y
  have ⟨fd, hb, hF⟩ := F w mg fa _ KX G.T.g hmg
  exact lawG KX G.T.g G.T.b G.T.builtins G.T.nolimit hg hobj hints (Nat.le_trans hlen hn2) hr hF hb fun H hO hS => hsp (K w.params) H a ns hlen hO hS

/-! ### a list of three ints that is told by its kind alone: the dice -/
def DiceO (a : Addr) : HO := .ext fun h => ∃ (l s c : Int) (t1 t2 t3 : Tok) (n : Nat), h.get? a = some { cls := .type "list", data := .seq #[.int l t1, .int s t2, .int c t3] n }
def d3 (l s c : Int) : HO := .lst [.int l, .int s, .int c]
section
variable {X : Cx} {pins : List (Addr × Obj)} {σ : L2.St} {H : Hp} {s : Shared} {a : Addr} {o : HO}
theorem recast (I : Inv X pins σ H s) (hm : Mut (H a)) (ex : ∃ u, s.heap.get? a = some u) (new : ObjOk X.prog X.w (upd H a o) s.heap a o) : Inv X pins σ (upd H a o) s := by
  obtain ⟨hp, g, d, t, os⟩ := s
  exact I.write (h' := hp) (t' := t) (x := a) (e := a) hm (.inl rfl) (fun _ _ _ e => e) ex new
theorem dice_ok {P : Program} {w : World} {H : Hp} {h : Heap} {l s c : Int} {t1 t2 t3 : Tok} {n : Nat} (e : h.get? a = some { cls := .type "list", data := .seq #[.int l t1, .int s t2, .int c t3] n }) : ObjOk P w H h a (DiceO a) :=
  ⟨⟨l, s, c, t1, t2, t3, n, e⟩, ⟨_, e⟩, fun h1 h2 ⟨l, s, c, t1, t2, t3, n, q⟩ k => ⟨l, s, c, t1, t2, t3, n, k _ q⟩⟩
theorem dice_open (I : Inv X pins σ H s) (e : H a = some (DiceO a)) : ∃ l z c, Inv X pins σ (upd H a (d3 l z c)) s := by
  have x : ObjOk X.prog X.w H s.heap a (.ext fun h => ∃ (l s c : Int) (t1 t2 t3 : Tok) (n : Nat), h.get? a = some { cls := .type "list", data := .seq #[.int l t1, .int s t2, .int c t3] n }) := I.hok a _ e
  obtain ⟨l, z, c, t1, t2, t3, n, q⟩ := x.1
  exact ⟨l, z, c, recast I (by rw [e]; exact True.intro) ⟨_, q⟩ ⟨by show 3 ≤ sizeLine; decide, [.int l t1, .int z t2, .int c t3], n, .cons ⟨_, rfl⟩ (.cons ⟨_, rfl⟩ (.cons ⟨_, rfl⟩ .nil)), q⟩⟩
theorem dice_close {l z c : Int} (I : Inv X pins σ H s) (e : H a = some (d3 l z c)) : Inv X pins σ (upd H a (DiceO a)) s := by
  obtain ⟨_, its, n, r, q⟩ := (show ObjOk X.prog X.w H s.heap a (.lst [.int l, .int z, .int c]) from I.hok a _ e)
  refine recast I (by rw [e]; exact True.intro) ⟨_, q⟩ ?_
  cases r with
  | cons r1 r => cases r with
    | cons r2 r => cases r with
      | cons r3 r =>
        cases r
        obtain ⟨t1, rfl⟩ := r1
        obtain ⟨t2, rfl⟩ := r2
        obtain ⟨t3, rfl⟩ := r3
        exact dice_ok q
end
/-- the body may see the dice (the slot i) as a list; it leaves them as dice -/
def tDice (i : Nat) (t : TS) : TS := fun D σ H => ∃ a, σ[i]? = some (some (.ref a)) ∧ H a = some (DiceO a) ∧ ∀ l z c, t
  { nx := fun σ' H' => (∃ l z c, H' a = some (d3 l z c)) ∧ D.nx σ' (upd H' a (DiceO a)), rt := fun v H' => (∃ l z c, H' a = some (d3 l z c)) ∧ D.rt v (upd H' a (DiceO a)),
    bk := fun σ' H' => (∃ l z c, H' a = some (d3 l z c)) ∧ D.bk σ' (upd H' a (DiceO a)), ct := fun σ' H' => (∃ l z c, H' a = some (d3 l z c)) ∧ D.ct σ' (upd H' a (DiceO a)) } σ (upd H a (d3 l z c))
theorem pss_dice {X : Cx} {i : Nat} {body : List Stmt} {t : TS} (h : PSs X body t) : PSs X body (tDice i t) := by
  refine ⟨fun pins s σ H D I hq => ?_⟩
  obtain ⟨a, _, e, q⟩ := hq
  obtain ⟨l, z, c, I1⟩ := dice_open I e
  refine wpAny_mono (h.run pins s σ _ _ I1 (q l z c)) (fun f s' hs => ?_) fun _ _ e => e
  match f, hs with
  | .next, hs => obtain ⟨σ', H', J, ⟨l, z, c, e⟩, w⟩ := hs; exact ⟨σ', _, dice_close J e, w⟩
  | .brk, hs => obtain ⟨σ', H', J, ⟨l, z, c, e⟩, w⟩ := hs; exact ⟨σ', _, dice_close J e, w⟩
  | .cont, hs => obtain ⟨σ', H', J, ⟨l, z, c, e⟩, w⟩ := hs; exact ⟨σ', _, dice_close J e, w⟩
  | .ret u, hs => obtain ⟨v, σ', H', J, r, ⟨l, z, c, e⟩, w⟩ := hs; exact ⟨v, σ', _, dice_close J e, r, w⟩
/-- the body hands back new dice -/
def tDiced (t : TS) : TS := fun D σ H => t { nx := D.nx, rt := fun v H' => ∃ a l z c, v = .ref a ∧ H' a = some (d3 l z c) ∧ D.rt v (upd H' a (DiceO a)), bk := D.bk, ct := D.ct } σ H
theorem pss_diced {X : Cx} {body : List Stmt} {t : TS} (h : PSs X body t) : PSs X body (tDiced t) := by
  refine ⟨fun pins s σ H D I hq => wpAny_mono (h.run pins s σ H _ I hq) (fun f s' hs => ?_) fun _ _ e => e⟩
  match f, hs with
  | .next, hs => exact hs
  | .brk, hs => exact hs
  | .cont, hs => exact hs
  | .ret u, hs => obtain ⟨v, σ', H', J, r, a, l, z, c, ev, e, w⟩ := hs; exact ⟨v, σ', _, dice_close J e, r, w⟩
end My
namespace My
open PySem PySem.Spec PyProof.Rows L2

/-- a def of the module, by its name, with its promise -/
structure FnAt (P : Program) (w : World) (K : PySem.W.Frag) (mg : Str → Option Value) (base : Heap) (k : Nat) (x : Str) (ps : List Str) (sp : Sp) : Prop where
  ex : ∃ (f : Addr) (fd : FuncData), mg x = some (.ref f) ∧ PySem.W.keepIn K (.ref f) = true ∧ Binds K fd ps [] ∧ FnOk P w K mg base CX0 k f fd ps sp
structure FgAt (P : Program) (w : World) (K : PySem.W.Frag) (mg : Str → Option Value) (base : Heap) (k : Nat) (x : Str) (ps : List Str) (sp : Sp) : Prop where
  ex : ∃ (f : Addr) (fd : FuncData), mg x = some (.ref f) ∧ PySem.W.keepIn K (.ref f) = true ∧ Binds K fd ps [] ∧ FnG P w K mg base CX0 k f fd ps sp
/-- a def of the module, by its name, with its text -/
structure DefAt (K : PySem.W.Frag) (mg : Str → Option Value) (x : Str) (st : Stmt) : Prop where
  ex : ∃ (f : Addr) (fd : FuncData), mg x = some (.ref f) ∧ Fun K x x st f fd
section
variable {X : Cx} {k j : Nat} {ps : List Str} {sp : Sp} {x : Str} {p pos : Pos} {e : Expr} {es : List Expr} {t : TA}
theorem callA (F : FnAt X.prog X.w X.K X.mg X.base k x ps sp) (hr : Room k X.A) (hg : Gl X x) (ha : PA X (e :: es) t) (hdb : (x == ("__debug__" : Str)) = false := by decide)
    (he : starEach (e :: es) X.env = (false, eval e X.env) :: starEach es X.env := by rfl) (hpl : (backTo pos (starEach es X.env)).any (·.1) = false := by rfl) : PE X (.Call (.Name x p) (e :: es) [] pos) (tCall sp [] E0 t) := by
  obtain ⟨f, fd, hm, hk, hb, G⟩ := F.ex
  exact pe_call G hr hg hm hk hb .nil pass0 ha hdb he hpl
theorem callB (F : FgAt X.prog X.w X.K X.mg X.base k x ps sp) (gd : X.A.guards = some []) (hr : Room k X.A) (hg : Gl X x) (ha : PA X (e :: es) t) (hdb : (x == ("__debug__" : Str)) = false := by decide)
    (he : starEach (e :: es) X.env = (false, eval e X.env) :: starEach es X.env := by rfl) (hpl : (backTo pos (starEach es X.env)).any (·.1) = false := by rfl) : PE X (.Call (.Name x p) (e :: es) [] pos) (tCall sp [] E0 t) := by
  obtain ⟨f, fd, hm, hk, hb, G⟩ := F.ex
  exact callG G gd hr hg hm hk hb pass0 ha hdb he hpl
end
section
variable {P : Program} {w : World} {K : PySem.W.Frag} {mg : Str → Option Value} {base : Heap}
theorem fnAt {x : Str} {st : Stmt} {N ps : List Str} {k : Nat} {sp : Sp} (D : DefAt K mg x st) (S : FnScope N ps (defScope st))
    (hbind : ∀ (kV doc pm : Value) (an : Option Addr) (cdv ct : Value) (us : List Value), us.length = ps.length → bindArgs (PySem.W.fnOf x x (defArgs st) (defBody st) (defScope st) .none kV doc pm an cdv ct) ⟨us, []⟩ = pure (ps.zip us))
    (len : ∀ vs H Q E, sp vs H Q E → vs.length = ps.length)
    (hbody : ∀ (f : Addr) (cdv : Value) (A : Around) (outer : List Env) (s : Shared) (H : Hp) (vs : List V) (Q : VK) (E : XK), Room k (A.deeper (envOfC x (defScope st) s.heap.objs.size f cdv)) → sp vs H Q E →
      ∃ t, PSs (cxOf CX0 P w K mg base N x (defScope st) f cdv A outer s H E).nox (defBody st) t ∧ t { nx := fun _ H' => Q .non H', rt := Q } (start N vs) H) : FnAt P w K mg base (k + 1) x ps sp := by
  obtain ⟨f, fd, hm, F⟩ := D.ex
  exact ⟨f, fd, hm, F.kp, F.binds hbind, F.ok S len fun cdv A outer s H vs Q E hr h => hbody f cdv A outer s H vs Q E hr h⟩
theorem fgAt {x : Str} {st : Stmt} {N ps : List Str} {k : Nat} {sp : Sp} (D : DefAt K mg x st) (S : FnScope N ps (defScope st))
    (hbind : ∀ (kV doc pm : Value) (an : Option Addr) (cdv ct : Value) (us : List Value), us.length = ps.length → bindArgs (PySem.W.fnOf x x (defArgs st) (defBody st) (defScope st) .none kV doc pm an cdv ct) ⟨us, []⟩ = pure (ps.zip us))
    (len : ∀ vs H Q E, sp vs H Q E → vs.length = ps.length)
    (hbody : ∀ (f : Addr) (cdv : Value) (A : Around) (outer : List Env) (s : Shared) (H : Hp) (vs : List V) (Q : VK) (E : XK), (A.deeper (envOfC x (defScope st) s.heap.objs.size f cdv)).guards = some [] → Room k (A.deeper (envOfC x (defScope st) s.heap.objs.size f cdv)) → sp vs H Q E →
      ∃ t, PSs (cxOf CX0 P w K mg base N x (defScope st) f cdv A outer s H E).nox (defBody st) t ∧ t { nx := fun _ H' => Q .non H', rt := Q } (start N vs) H) : FgAt P w K mg base (k + 1) x ps sp := by
  obtain ⟨f, fd, hm, F⟩ := D.ex
  exact ⟨f, fd, hm, F.kp, F.binds hbind, okG F S len fun cdv A outer s H vs Q E gd hr h => hbody f cdv A outer s H vs Q E gd hr h⟩
end
/-- the built-in names that are free -/
structure Bn (mg : Str → Option Value) : Prop where
  b_len : mg "len" = none
  b_int : mg "int" = none
  b_bool : mg "bool" = none
  b_str : mg "str" = none
  b_list : mg "list" = none
  b_tuple : mg "tuple" = none
  b_max : mg "max" = none
  b_abs : mg "abs" = none
  b_min : mg "min" = none
  b_range : mg "range" = none
  b_repr : mg "repr" = none
  b_isinstance : mg "isinstance" = none
  b_all : mg "all" = none
  b_set : mg "set" = none
  b_sum : mg "sum" = none
  b_any : mg "any" = none
  b_sorted : mg "sorted" = none
  b_zip : mg "zip" = none
  b_enumerate : mg "enumerate" = none
  b_dict : mg "dict" = none
  b_reversed : mg "reversed" = none
  b_divmod : mg "divmod" = none
  b_ord : mg "ord" = none
theorem hu64 {A : Around} {k : Nat} (hr : Room k A) : A.units + 64 < cLine := hr.units

/-! ### whole numbers of any size, divided by any divisor but 0 of at most 9000 bits -/
def CDivX (_ j : Int) : Prop := j ≠ 0 ∧ j.natAbs.log2 < 9000
section
variable {X : Cx}
theorem op_fdivX : OpR X (binaryOp .FloorDiv) (rI CDivX fun i j => .int (i.fdiv j)) := opI fun i j _ _ _ _ _ hc q => floordiv_int hc.1 q (.inl (PyProof.noPylong_of_log2 hc.2))
end
/-- at most n bits -/
def Sz (n : Nat) (i : Int) : Prop := i.natAbs < 2 ^ n
theorem Sz.mono {n m : Nat} {i : Int} (h : Sz n i) (l : n ≤ m) : Sz m i := Nat.lt_of_lt_of_le h (Nat.pow_le_pow_right (by decide) l)
theorem Sz.mul {n m : Nat} {i j : Int} (h : Sz n i) (g : Sz m j) : Sz (n + m) (i * j) := wide_lt h g
theorem Sz.neg {n : Nat} {i : Int} (h : Sz n i) : Sz n (-i) := by unfold Sz; rw [Int.natAbs_neg]; exact h
theorem Sz.add {n : Nat} {i j : Int} (h : Sz n i) (g : Sz n j) : Sz (n + 1) (i + j) := by
  unfold Sz at *
  have e : 2 ^ (n + 1) = 2 ^ n + 2 ^ n := by rw [Nat.pow_succ]; omega
  have := Int.natAbs_add_le i j
  omega
theorem Sz.sub {n : Nat} {i j : Int} (h : Sz n i) (g : Sz n j) : Sz (n + 1) (i - j) := by
  rw [Int.sub_eq_add_neg]
  exact h.add g.neg
theorem Sz.ofLt {n : Nat} {i b : Int} (h : i.natAbs ≤ b.natAbs) (g : Sz n b) : Sz n i := Nat.lt_of_le_of_lt h g
theorem Sz.log {n : Nat} {i : Int} (h : Sz n i) (h0 : 0 < n) : i.natAbs.log2 < n := PySem.Flt.log2_lt_of h0 h
theorem Sz.cmul {n m : Nat} {i j : Int} (h : Sz n i) (g : Sz m j) (hn : 0 < n) (hm : 0 < m) (l : n + m ≤ 1000000) : CMulW i j := wide_mul h g hn hm l
theorem Sz.cdiv {n : Nat} {i j : Int} (h0 : j ≠ 0) (h : Sz n j) (hn : 0 < n) (l : n ≤ 9000) : CDivX i j := ⟨h0, Nat.lt_of_lt_of_le (h.log hn) l⟩
/-- a number of the law's own head -/
theorem ext_refl (H : Hp) : Ext H H := fun _ _ h => h
theorem ext_new {H H1 : Hp} {p : Addr} {o : HO} (e : Ext H H1) (h : H1 p = none) : Ext H (upd H1 p o) := Ext.upd' e h
theorem ext_none {H H1 : Hp} {p : Addr} (e : Ext H H1) (h : H1 p = none) : H p = none := by
  cases q : H p with
  | none => rfl
  | some o => rw [e p o q] at h; cases h
/-- a new object changed: what stood before stands -/
theorem ext_mut {H H1 : Hp} {p : Addr} {o : HO} (e : Ext H H1) (h : H p = none) : Ext H (upd H1 p o) := fun a u q => by
  rw [upd_ne (ne_of_none q h)]
  exact e a u q
end My
namespace My
open PySem PySem.Spec PyProof.Rows L2
theorem len_ok {n : Nat} (h : n ≤ 1000) : n ≤ sizeLine := Nat.le_trans h (by decide)
theorem len_lt {n : Nat} (h : n ≤ 1000) : n < sizeLine := Nat.lt_of_le_of_lt h (by decide)
end My
/-! an own error over KeyError: made by LookupError's __new__ -/
namespace My.LowK
open PySem PySem.W PySem.Calls PySem.HandSPX
/-- what the mro behind the class must say -/
structure MroOk (bm : List Value) (B : String) : Prop where
  b : bm.contains (.type B) = true
  a : bm.contains (.type "AttributeError") = false
  n : bm.contains (.type "NameError") = false
theorem MroOk.of {bm bmB : List Value} {B : String} (t : ∀ X : String, bm.contains (.type X) = bmB.contains (.type X)) (m : MroOk bmB B) : MroOk bm B := ⟨(t _).trans m.b, (t _).trans m.a, (t _).trans m.n⟩
section
variable {M : Model} {A : Around} {E : Value → Shared → Prop} {h : Heap} {g : Array GenState} {d : Drawn} {t : Nat} {os : OsState}
variable {nm q : Str} {C N : Addr} {bs bm bmF : List Value} {hdct : Bool} {sn : List Str} {sub : List Value} {ab : Bool} {col : Option Bool} {dd : Option Addr} {k0 k1 k2 k3 k5 : Option Value} {B newId initId : String}
theorem new_checked {rest : List Value} {Q : Unit → Shared → Prop} (FB : ExcBaseFacts B newId initId bmF) (mo : MroOk bm B) (there : h.get? C = some (excClassObj nm q C N bs bm hdct sn sub ab col dd k0 k1 k2 k3 k5 newId))
    (go : Q () ⟨h, g, d, t, os⟩) : wpAny M A (checkBuiltinCall newId ⟨.ref C :: rest, []⟩) Q E ⟨h, g, d, t, os⟩ := by
  have inB : (Value.ref C :: bm).contains (.type B) = true := by rw [List.contains_cons, mo.b, Bool.or_true]
  have ns := FB.noStar
  simp only [FB.newRow, FB.newSplit, FB.newKind, checkBuiltinCall]
  repeat (first | refine wpAny_loadPart_at there ?_ | (refine wpAny_isSubtype_exc there ?_; rw [inB]) | refine wpAny_staticBase_exc there ?_ | refine wpAny_madeBy_exc there ?_ | simp only [Bool.false_eq_true, bne_self_eq_false, if_false] | wp_step)
  exact go
end
section
variable {prog : Program} {w : World} {A : Around} {E : Value → Shared → Prop} {R : Result → Shared → Prop} {h : Heap} {g : Array GenState} {d : Drawn} {t : Nat} {os : OsState}
variable {nm q : Str} {C N : Addr} {bs bm bmF : List Value} {hdct : Bool} {sn : List Str} {sub : List Value} {ab : Bool} {col : Option Bool} {dd : Option Addr} {k0 k1 k2 k3 k5 : Option Value} {B newId initId : String}
theorem new_given {rest : List Value} (FB : ExcBaseFacts B newId initId bmF) (mo : MroOk bm B) (there : h.get? C = some (excClassObj nm q C N bs bm hdct sn sub ab col dd k0 k1 k2 k3 k5 newId))
    (go : R (.ok (.ret (.ref (h.objs.size + 1)))) ⟨(h.push (W.kdv_tup rest)).push (excO C h.objs.size), g, d, t, os⟩) (fits : rest.length ≤ sizeLine) : codeAny (model prog w) A (.builtin newId ⟨.ref C :: rest, []⟩) R ⟨h, g, d, t, os⟩ := by
  have ends := FB.ends
  have inB : (Value.ref C :: bm).contains (.type B) = true := by rw [List.contains_cons, mo.b, Bool.or_true]
  have inA : (Value.ref C :: bm).contains (.type "AttributeError") = false := by rw [List.contains_cons, mo.a]; rfl
  have inN : (Value.ref C :: bm).contains (.type "NameError") = false := by rw [List.contains_cons, mo.n]; rfl
  refine codeAny_builtinAt FB.entry (?_)
  unfold Builtin.«BaseException.__new__»
  refine wpAt_bind (?_)
  show wpAt _ _ _ (stack >>= _) _ _ _
  refine wpAt_bind (wpAt_stack fun p below => wpAt_of_wpAny (?_))
  wp_walk
  refine wpAt_of_wpAny (?_)
  rw [FB.owner]
  repeat (first | with_reducible refine wpAny_madeHere_exc FB.canon there ?_ | with_reducible refine wpAny_loadPart_at there ?_ | (with_reducible refine wpAny_isSubtype_exc there ?_; first | rw [inB] | rw [inA] | rw [inN]) | wp_step)
  show R _ _
  rw [Heap.size_push]
  exact go
theorem type_called {rest : List Value} {fI : Addr} {Q : Fin → Shared → Prop} (FB : ExcBaseFacts B newId initId bmF) (mo : MroOk bm B) (there : h.get? C = some (excClassObj nm q C N bs bm hdct sn sub ab col dd k0 k1 k2 k3 k5 newId))
    (looks : W.Looks (model prog w) h (typeLookup (.ref C) "__init__") (some (.ref fI))) (binds : ∀ self, W.Looks (model prog w) h (bindSpecial (.ref fI) self) (.ref fI, [self])) (fits : rest.length ≤ sizeLine)
    (go : codeAny (model prog w) A (.call (.ref fI) ⟨.ref (h.objs.size + 1) :: rest, []⟩) (fun r s' => match r with | .ok (.ret v) => v = .none ∧ Q (.done (.ret (.ref (h.objs.size + 1)))) s' | .ok _ => False | .error e => E e s') ⟨(h.push (W.kdv_tup rest)).push (excO C h.objs.size), g, d, t, os⟩) :
    wpAny (model prog w) A (Builtin.«type.__call__» ⟨.ref C :: rest, []⟩) Q E ⟨h, g, d, t, os⟩ := by
  repeat (first | with_reducible refine wpAny_loadPart_at there ?_ | with_reducible refine wpAny_madeBy_exc there ?_ | wp_step)
  refine codeAny_call_builtin_code (Code.quiet_builtin _ FB.quiet) (new_checked FB mo there (new_given FB mo there ?_ fits))
  show wpAny _ _ _ _ _ _
  have grow : ∀ b o, h.get? b = some o → ((h.push (W.kdv_tup rest)).push (excO C h.objs.size)).get? b = some o := fun b o e => Heap.get?_push_of_some _ (Heap.get?_push_of_some _ e)
  have there2 := grow _ _ there
  have made : ((h.push (W.kdv_tup rest)).push (excO C h.objs.size)).get? (h.objs.size + 1) = some (excO C h.objs.size) := by heap_get
  have own : (Value.ref C :: bm).contains (.ref C) = true := by simp
  have looks2 := looks.keeps grow
  have binds2 := (binds (.ref (h.objs.size + 1))).keeps grow
  unfold isInstance
  repeat (first | with_reducible refine wpAny_loadPart_at made ?_ | (with_reducible refine wpAny_isSubtype_exc there2 ?_; rw [own]) | wp_step)
  show wpAny _ _ (typeLookup (.ref C) _) _ _ _
  refine looks2.at (wpAny_holding (wpAny_bind (binds2.at (wpAny_bind (wpAny_call (codeAny_mono go fun r s' z => ?_))))))
  rcases r with e | (v | _ | _ | _) <;> first | exact z | exact z.elim | skip
  obtain ⟨rfl, z⟩ := z
  first
    | exact wpAny_pure (wpAny_pure z)
    | (wp_walk; exact z)
theorem class_called {rest : List Value} {fI : Addr} (FB : ExcBaseFacts B newId initId bmF) (mo : MroOk bm B) (there : h.get? C = some (excClassObj nm q C N bs bm hdct sn sub ab col dd k0 k1 k2 k3 k5 newId))
    (looks : W.Looks (model prog w) h (typeLookup (.ref C) "__init__") (some (.ref fI))) (binds : ∀ self, W.Looks (model prog w) h (bindSpecial (.ref fI) self) (.ref fI, [self])) (fits : rest.length ≤ sizeLine)
    (go : codeAny (model prog w) (A.under (.builtin "type.__call__" ⟨.ref C :: rest, []⟩)) (.call (.ref fI) ⟨.ref (h.objs.size + 1) :: rest, []⟩) (W.InitBack (h.objs.size + 1) R) ⟨(h.push (W.kdv_tup rest)).push (excO C h.objs.size), g, d, t, os⟩) :
    codeAny (model prog w) A (.call (.ref C) ⟨rest, []⟩) R ⟨h, g, d, t, os⟩ := by
  have l1 := tc_lookup
  have l2 := tc_bind (.ref C)
  have isT : (⟨h, g, d, t, os⟩ : Shared).TypeIs (.ref C) "type" := ⟨_, there, rfl⟩
  refine codeAny_of_tree (?_)
  show wpAny _ _ (callAny (.ref C) _) _ _ _
  repeat (any_goals (first | assumption | with_reducible refine wpAny_loadPart_at there ?_ | wp_step))
  refine ⟨rfl, codeAny_call_builtin_at (Code.quiet_builtin _ (by decide +kernel)) entry_typeCall (wpAny_check_type_call_sub there (type_called FB mo there looks binds fits (codeAny_mono go fun r s' z => ?_)))⟩
  rcases r with e | (v | _ | _ | _) <;> exact z
end
theorem store_KeyError : StoreFacts "KeyError" [.type "KeyError", .type "LookupError", .type "Exception", .type "BaseException", .type "object"] "object.__setattr__" "object" where
  mro := by kernel_rfl
  slot := .of (n := "__setattr__") (owner := "object") (by rw [typeLookup_type, builtinLookup_eq_fast]; kernel_rfl) (by decide +kernel) (by decide +kernel) (by decide +kernel) (by first | exact .inl (by decide +kernel) | exact .inr (by decide +kernel)) (by rw [isSubtype_type]; kernel_rfl)
  entry := PySem.F.store_IndexError.entry
  kind := by decide +kernel
  split := by decide +kernel
  hasOwner := by decide +kernel
  args := PySem.F.store_IndexError.args
  passes := fun self => by kernel_rfl
end My.LowK
/-! errors held as values: isinstance, whatever their dict -/
namespace My
open PySem PySem.W PySem.Spec PySem.Calls PyProof.Rows
/-- what the class D of an error says, so that isinstance asks rightly -/
abbrev ErrC (K : Frag) (D : Addr) : Prop := L2.ExcC K D
section
variable {prog : Program} {w : World} {A : Around} {E : Value → Shared → Prop} {s : Shared} {K : Frag} {x D : Addr} {ox : Obj} {od : Option Obj}
theorem found_class (C : ErrC K D) : findObj K D od "__class__" = some (.bind (.builtin "getset_descriptor.__get__") (.builtin "object.__class__")) := by
  have known : (clsIn K D).isSome = true := by
    obtain ⟨cd, hc, _⟩ := any_some C.hd
    rw [hc]
    rfl
  cases od with
  | none => exact findObj_dataN known C.ha C.hn C.ht
  | some o => exact findObj_data known C.ha C.hn C.ht
/-- e.__class__ -/
theorem class_of_err {Q : Option Value → Shared → Prop} (C : ErrC K D) (X : K.In s.heap) (I : InstAt s.heap x ox D od) (h : Q (some (.ref D)) { s with toks := s.toks + 1 }) : wpAny (model prog w) A (getAttr? (.ref x) "__class__") Q E s := by
  have found := found_class (od := od) C
  obtain ⟨hp, gens, drawn, t, os⟩ := s
  have ofType := I.type (M := model prog w)
  have ofGet := looks_findIn (M := model prog w) X C.hg
  have ofHook := looks_findIn (M := model prog w) X C.hk
  have ofFind := looks_find (M := model prog w) X I found
  have isErr : Looks (model prog w) hp (isInstance (.ref x) (.type "BaseException")) true := ofType.andThen (looks_subIn X C.hs)
  have plain1 : (false && onTheHeap (Value.builtin "BaseException.__getattribute__")) = false := rfl
  have plain2 : (onTheHeap (Value.ref D) && Value.builtin "BaseException.__getattribute__" == Value.builtin "object.__getattribute__") = false := by
    show (true && (Value.builtin "BaseException.__getattribute__" == Value.builtin "object.__getattribute__")) = false
    decide +kernel
  unfold getAttr? getAttrBy? getAttrBy
  refine wpAny_bind (wpAny_mkText (wpAny_bind (wpAny_attempt (wpAny_holding (wpAny_bind (ofType.at (wpAny_bind (ofGet.at ?_))))))))
  show wpAny _ _ (if (onTheHeap (Value.ref D) && Value.builtin "BaseException.__getattribute__" == Value.builtin "object.__getattribute__") = true then _ else _) _ _ _
  rw [plain2, if_neg (by decide)]
  unfold getAttrByItsOwn hookBefore
  refine wpAny_bind ?_
  rw [if_pos (show onTheHeap (Value.ref D) = true by rfl)]
  refine ofHook.at (wpAny_bind (wpAny_attempt (wpAny_holding ?_)))
  unfold callGetattribute
  rw [plain1, if_neg (by decide)]
  unfold boundAndCalled
  rw [PySem.F.excAttr_ValueError.ga.bind (.ref x)]
  refine wpAny_bind (wpAny_pure ?_)
  show wpAny _ _ (call (.builtin "BaseException.__getattribute__") [.ref x, .str "__class__" t]) _ _ _
  refine wpAny_call (codeAny_call_builtin PySem.F.excAttr_ValueError.ga.plain PySem.F.entry_bexc_ga (@check_slot (model prog w) _ _ ⟨hp, gens, drawn, t + 1, os⟩ "BaseException.__getattribute__" "BaseException" "__getattribute__" (.ref x) [.str "__class__" t] [] _ (by decide +kernel) (by decide +kernel) isErr (PySem.F.args_bexc_ga (.ref x) (.str "__class__" t)) ?_))
  unfold Builtin.«object.__getattribute__»
  refine wpAny_bind (wpAny_of_eq (a := ((Value.ref x : Value), [Value.str "__class__" t])) (by first | rfl | (simp only [slotArgs]; rfl)) (wpAny_bind (wpAny_pure (wpAny_bind (ofType.at (wpAny_bind (ofFind.at ?_)))))))
  show wpAny _ _ (holding [Value.builtin "object.__class__"] (call (.builtin "getset_descriptor.__get__") [.builtin "object.__class__", .ref x, .ref D]) >>= ret) _ _ _
  refine wpAny_bind (wpAny_holding (wpAny_call (class_get (s := ⟨hp, gens, drawn, t + 1, os⟩) (ox := ox) (od := od) X I C.hm (wpAny_pure ?_))))
  show wpAny _ _ (handedOut (.ref D)) _ _ _
  rw [handedOut_of (v := .ref D) rfl]
  first
    | exact wpAny_pure (wpAny_pure h)
    | exact wpAny_pure h
    | exact wpAny_pure (wpAny_bind (wpAny_pure (wpAny_pure h)))
theorem kit_err (C : ErrC K D) : KitX K (.ref x) (.ref D) (fun h => InstAt h x ox D od) := by
  obtain ⟨cd, hc, _⟩ := any_some C.hd
  have there : ∃ o : Obj, K.lookup D = some o ∧ ∃ cd', o.data = .cls cd' := by
    unfold clsIn at hc
    split at hc
    · rename_i ho
      exact ⟨_, ho, _, rfl⟩
    · cases hc
  obtain ⟨⟨oc, dd, dat, sl⟩, ho, cd', hd⟩ := there
  dsimp only at hd
  subst hd
  exact
    { ty := fun _ _ _ I => I.type
      it := fun _ _ X _ B Q' E' s' keep q => by
        unfold isType loadHead
        exact wpAny_bind (wpAny_loadPart (keep _ _ (X _ _ ho)) (wpAny_pure q))
      ne := (handS_kitx_exc (x := x) (ox := ox) C.hg C.hk C.hs C.hd C.ha C.hn C.ht C.hm).ne
      ca := fun X I k => class_of_err C X I k }
end
end My
namespace My
open PySem PySem.Spec PyProof.Rows L2
/-- at a: just this object, an error that was caught -/
def PinO (a : Addr) (oe : Obj) : HO := .ext fun h => h.get? a = some oe
theorem pin_at {P : Program} {w : World} {H : Hp} {h : Heap} {a : Addr} {oe : Obj} (hok : HOk P w H h) (ha : H a = some (PinO a oe)) : h.get? a = some oe := by
  have x : ObjOk P w H h a (.ext fun h => h.get? a = some oe) := hok a _ ha
  exact x.1
/-- an error of the class C at a: made without or with a field, caught, or of the base -/
inductive HeldE (base : Heap) (H : Hp) (a C : Addr) : Prop
  | bare : H a = some (ExO (.ref C) a) → HeldE base H a C
  | kept (dx : Addr) (fs : List (Str × V)) : H a = some (exo a C (some dx)) → H dx = some (.xd fs) → HeldE base H a C
  | pin (oe : Obj) (vs : Array Value) : H a = some (PinO a oe) → Zc (.ref C) none oe → oe.data = .fields vs → HeldE base H a C
  | old (oe : Obj) (vs : Array Value) : base.get? a = some oe → Zc (.ref C) none oe → oe.data = .fields vs → HeldE base H a C
theorem HeldE.ext {base : Heap} {H H' : Hp} {a C : Addr} (h : HeldE base H a C) (e : Ext H H') : HeldE base H' a C := by
  cases h with
  | bare q => exact .bare (e _ _ q)
  | kept dx fs q r => exact .kept dx fs (e _ _ q) (e _ _ r)
  | pin oe vs q z d => exact .pin oe vs (e _ _ q) z d
  | old oe vs q z d => exact .old oe vs q z d
def rIsH (base : Heap) (K : PySem.W.Frag) : List V → Hp → VK → Prop := fun xs H Q => ∃ (a C D : Addr) (b : Bool), (xs = [.ref a, .ref D] ∧ HeldE base H a C ∧ ErrC K C ∧ PySem.W.kitOne K (.ref C) (.ref D) = some b ∧ Q (.bl b) H)
def rIsT (base : Heap) (K : PySem.W.Frag) : List V → Hp → VK → Prop := fun xs H Q => ∃ (a C : Addr) (n : String) (b : Bool), (xs = [.ref a, .ty n] ∧ HeldE base H a C ∧ ErrC K C ∧ PySem.W.kitOne K (.ref C) (.type n) = some b ∧ Q (.bl b) H)
section
variable {X : Cx}
theorem is_any {pins : List (Addr × Obj)} {σ : L2.St} {H : Hp} {s : Shared} {a C : Addr} {b : Bool} {cv : Value} {Q : VK} (I : Inv X pins σ H s) (held : HeldE X.base H a C) (hC : ErrC X.K C) (e : PySem.W.kitOne X.K (.ref C) cv = some b) (q : Q (.bl b) H) :
    wpAny (model X.prog X.w) X.A (call (.builtin "isinstance") [.ref a, cv]) (EP X pins σ Q) X.xe s := by
  have fin : ∀ (ox : Obj) (od : Option Obj), PySem.W.InstAt s.heap a ox C od → wpAny (model X.prog X.w) X.A (call (.builtin "isinstance") [.ref a, cv]) (EP X pins σ Q) X.xe s := fun ox od J =>
    PySem.W.kia_one (kit_err (x := a) (ox := ox) (od := od) hC) I.kIn J e (fun z => nomatch z) fun tk => ⟨.bl b, H, I.tok tk, rfl, q⟩
  have plain : ∀ (oe : Obj) (vs : Array Value), s.heap.get? a = some oe → Zc (.ref C) none oe → oe.data = .fields vs → wpAny (model X.prog X.w) X.A (call (.builtin "isinstance") [.ref a, cv]) (EP X pins σ Q) X.xe s := fun oe vs h1 z h3 => by
    refine fin oe none ⟨h1, z.1, ?_, ?_⟩
    · unfold PySem.W.notCls
      rw [h3] <;> rfl
    · rw [z.2]
      trivial
  cases held with
  | bare ho =>
    obtain ⟨⟨oe, vs, h1, z, h3, _⟩, _⟩ := I.hok a _ ho
    exact plain oe vs h1 z h3
  | kept dx fs ho hd =>
    obtain ⟨t1, h1⟩ := exo_at I.hok ho
    have hx : ObjOk X.prog X.w H s.heap dx (.xd fs) := I.hok dx _ hd
    obtain ⟨mA, hns, _⟩ := hx
    obtain ⟨od, h2, _⟩ := lookIn_ns hns
    exact fin _ (some od) ⟨h1, rfl, rfl, h2⟩
  | pin oe vs ho z h3 => exact plain oe vs (pin_at I.hok ho) z h3
  | old oe vs ho z h3 => exact plain oe vs (I.bs _ _ ho).1 z h3
/-- isinstance(e, c) of a held error -/
theorem call_isH : CallR X (.builtin "isinstance") (rIsH X.base X.K) := by
  intro pins s σ H xs us Q I r h
  obtain ⟨a, C, D, b, rfl, held, hC, e, q⟩ := h
  obtain ⟨u1, u2, rfl, r1, r2⟩ := vals2 r
  cases r1
  cases r2
  exact is_any I held hC e q
theorem call_isT : CallR X (.builtin "isinstance") (rIsT X.base X.K) := by
  intro pins s σ H xs us Q I r h
  obtain ⟨a, C, n, b, rfl, held, hC, e, q⟩ := h
  obtain ⟨u1, u2, rfl, r1, r2⟩ := vals2 r
  cases r1
  cases r2
  exact is_any I held hC e q
/-- e.n of a held error -/
theorem pe_heldF {e : Expr} {te : TE} {n : Str} {pos : Pos} (he : PE X e te) (hb : attributeBase e n X.env (eval e X.env) = eval e X.env := by rfl) :
    PE X (.Attribute e n pos) (fun σ H Q => te σ H fun x H1 => ∃ (a C dx : Addr) (fs : List (Str × V)) (v : V), x = .ref a ∧ XfC X.K C ∧ PySem.W.findIn X.K (.ref C) n = some none ∧ H1 a = some (exo a C (some dx)) ∧ H1 dx = some (.xd fs) ∧ fs.lookup n = some v ∧ Q v H1) := by
  refine ⟨fun pins s σ H Q I h => attr_of hb (thn (he.run pins s σ H _ I h) fun u s1 hh => ?_)⟩
  obtain ⟨x, H1, I1, rx, a, C, dx, fs, v, rfl, T, hno, ho, hd, l, q⟩ := hh
  cases rx
  obtain ⟨t1, h1⟩ := exo_at I1.hok ho
  have hx : ObjOk X.prog X.w H1 s1.heap dx (.xd fs) := I1.hok dx _ hd
  obtain ⟨mA, hns, hr⟩ := hx
  obtain ⟨od, h2, hl⟩ := lookIn_ns hns
  obtain ⟨u, hu, ru⟩ := RelO.some_of (v := v) (o := mA n) (by rw [← l]; exact hr n)
  have J : PySem.W.InstAt s1.heap a _ C (some od) := ⟨h1, rfl, rfl, h2⟩
  exact HandSPX.exc_get I1.kIn J T.ga T.gg T.exC (PySem.W.findObj_own T.hdC hno rfl (by rw [hl, hu])) (handed_of ru) ⟨v, H1, I1.tok _, ru, q⟩
/-- a text, taken or not -/
theorem op_taken : OpR X (binaryOp .Mult) (fun x y H Q => ∃ (z : Str) (b : Bool), (x = .str z ∧ z.length ≤ 100) ∧ y = .int (if b then 1 else 0) ∧ Q (.str (if b then z else Str.empty)) H) := by
  intro pins s σ H x y v u Q I rx ry h
  obtain ⟨z, b, ⟨rfl, hz⟩, rfl, q⟩ := h
  obtain ⟨t, rfl⟩ := rx
  obtain ⟨t', rfl⟩ := ry
  cases b with
  | false => exact PySem.P.mul_str_none (by decide) (by decide) ⟨.str Str.empty, H, I.tok _, ⟨_, rfl⟩, q⟩
  | true =>
    refine PySem.P.mul_str (by decide) (fun _ h2 => absurd h2 (by simp)) (fun _ h2 => absurd h2 (by simp)) ?_
    rw [if_neg (by decide), if_pos (by simp)]
    exact ⟨.str z, H, I, ⟨_, rfl⟩, q⟩
end
/-! ### a def called with the caught error -/
section
variable {X : Cx} {k : Nat} {ps : List Str} {sp : Sp} {x : Str} {p pos : Pos} {e : Expr} {ta : TA} {a : Addr} {oe : Obj} {cls : Value} {d : Option Addr}
def tPin (base : Heap) (sp : Sp) (a : Addr) (cls : Value) (d : Option Addr) (ta : TA) : TE := fun σ H Q => ta σ H fun vs H1 => vs = [.ref a] ∧ ∃ C, cls = .ref C ∧ d = none ∧ ∀ Hc, HeldE base Hc a C → sp [.ref a] Hc (fun u H2 => H2 = Hc ∧ Q u H1) E0
theorem callPin (F : FnAt X.prog X.w X.K X.mg X.base k x ps sp) (hr : Room k X.A) (hpn : (a, oe) ∈ X.pn) (hg : Gl X x) (hz : Zc cls d oe) (hf : ∃ vs, oe.data = .fields vs) (ha0 : PA X [e] ta) (hdb : (x == ("__debug__" : Str)) = false := by decide)
    (hs : starEach (e :: []) X.env = (false, eval e X.env) :: starEach [] X.env := by rfl) (hpl : (backTo pos (starEach [] X.env)).any (·.1) = false := by rfl) : PE X (.Call (.Name x p) [e] [] pos) (tPin X.base sp a cls d ta) := by
  obtain ⟨f, fd, hm, hk, hb, G⟩ := F.ex
  obtain ⟨vs, hd⟩ := hf
  refine ⟨fun pins s σ H Q I h => wpAny_Call_Name_kw (ld_glob I hg hm (PySem.W.callWith_K (h₀ := X.base) I.ok.mod.kin hk (thn (ha0.run pos pins s σ H _ I h) fun us s1 hh => ?_) hs hpl) hdb)⟩
  · obtain ⟨ws, H1, I1, r, rfl, C, rfl, rfl, q⟩ := hh
    refine ⟨I1.kIn, ?_⟩
    obtain ⟨ha, na, nL, nF, _⟩ := I1.pin (a, oe) (List.mem_append_left _ hpn)
    have nS : a ∉ frs X.stack := fun z => by
      rcases List.mem_cons.mp (I1.stkSub a z) with y | y
      · exact nL y
      · exact nF y
    -- in a heap where it is seen
    have run : ∀ Hc : Hp, Env0 X.prog X.w X.K X.mg X.base X.A X.stack s1 Hc → HeldE X.base Hc a C → (∀ s' u, CE X.stack X.prog X.w Hc s1 (fun u H2 => H2 = Hc ∧ Q u H1) u s' → EP X pins σ Q u s') →
        wpAny (model X.prog X.w) X.A (call (.ref f) us) (EP X pins σ Q) X.xe s1 := fun Hc e0 held back => by
      have q0 := q Hc held
      have hl : us.length = ps.length := by rw [← r.length]; exact G.len _ _ _ _ q0
      have bd : BindsTo s1 fd ⟨us, []⟩ (ps.zip us) := by
        have z := hb s1 us I1.kIn (by rw [List.append_nil]; exact hl)
        rw [List.append_nil] at z
        exact z
      refine wpAny_call (codeAny_mono (G.run X.A X.stack s1 Hc ⟨us, []⟩ us [.ref a] _ _ hr e0 bd r q0) fun r2 s2 hq => ?_)
      match r2, hq with
      | .error er, hq => exact (pass0 (X := X)) pins σ H1 s1 er s2 I1 hq
      | .ok (.ret u), hq => exact back s2 u hq
    by_cases hbase : X.base.get? a = none
    · have e1 : Env0 X.prog X.w X.K X.mg X.base X.A X.stack s1 (upd H1 a (PinO a oe)) := by
        have e0 := I1.env0
        refine ⟨e0.frames, e0.mod, fun b o e => ⟨(e0.bs b o e).1, ?_⟩, e0.bsz, e0.funs, fun b hb => ?_, ?_, e0.bare⟩
        · rw [upd_ne (fun z => by rw [z, hbase] at e; cases e)]
          exact (e0.bs b o e).2
        · rw [upd_ne (show b ≠ a from fun z => nS (by rw [← z]; exact hb))]
          exact e0.frf b hb
        · exact e0.hok.laidN (fun b u e => e) na ⟨ha, ⟨_, ha⟩, fun _ _ z k => k _ z⟩
      refine run _ e1 (.pin oe vs upd_same hz hd) fun s' u ce => ?_
      obtain ⟨v, H', os, bare, un, hok, rv, rfl, q2⟩ := ce
      refine I1.after ⟨v, H1, os, bare, ⟨fun b o e n nf ne => ?_, fun b o e n hf ne => ?_, fun b o e n ne => n, fun b o e ne => un.there b o e ne, fun b xs e => e, fun b o u e => e, fun b ps e => ⟨#[], by rw [e]; simp⟩⟩, fun b o e => ?_, rv, q2⟩
      · by_cases z : b = a
        · rw [z] at e ⊢
          have e' := ha.symm.trans e
          cases e'
          exact pin_at hok upd_same
        · exact un.keep b o e (by rw [upd_ne z]; exact n) nf ne
      · exact un.slot b o e (by rw [upd_ne (show b ≠ a from fun z => nS (by rw [← z]; exact hf))]; exact n) hf ne
      · have z : b ≠ a := fun z => by rw [z, na] at e; cases e
        refine (hok b o (by rw [upd_ne z]; exact e)).stay (fun c v hc k => k) (fun c hc => ?_) fun c xs hc => ?_
        · by_cases y : c = a
          · rw [y, upd_same] at hc; cases hc
          · rw [upd_ne y] at hc; exact hc
        · by_cases y : c = a
          · rw [y, upd_same] at hc; cases hc
          · rw [upd_ne y] at hc; exact hc
    · obtain ⟨o, ho⟩ := Option.ne_none_iff_exists'.mp hbase
      have e' := ha.symm.trans (I1.bs _ _ ho).1
      cases e'
      refine run H1 I1.env0 (.old _ vs ho hz hd) fun s' u ce => ?_
      obtain ⟨v, H', os, bare, un, hok, rv, rfl, q2⟩ := ce
      exact I1.after ⟨v, _, os, bare, un, hok, rv, q2⟩
end
end My
namespace My
open PySem PySem.Spec PyProof.Rows L2
/-- what 'except x as n' wishes, the length of the frame's list told -/
def wAsL (K : PySem.W.Frag) (c : Value) (i m : Nat) (ts : Addr → Value → Option Addr → TS) (Wout : WX) (D : Ends) : WX := fun cls d σ H => ∃ b, PySem.W.exmOne K cls c = some b ∧
  (b = true → σ.length = m → ∀ a, H a = none → ts a cls d { nx := fun ρ G => D.nx (ρ.set i none) G, rt := D.rt, bk := fun ρ G => D.bk (ρ.set i none) G, ct := fun ρ G => D.ct (ρ.set i none) G } (σ.set i (some (.ref a))) H) ∧ (b = false → Wout cls d σ H)
section
variable {X : Cx} {x y n : Str} {c c2 : Value} {i : Nat} {body suite su2 : List Stmt} {b₀ b2 : Stmt} {np yp p1 p2 pos : Pos} {tb : WX → TS} {ts ts2 : Addr → Value → Option Addr → TS} {Wout : WX}
/-- try: .. except x as n: .. except y: .. -/
theorem ps_try_as_only (hs : X.stack = X.env :: X.outer) (hf : X.env.frame = some X.env.locals) (hN : X.N.Nodup) (hi : X.N[i]? = some n) (hln : X.env.kindOf n = some .local) (hc : Names X x c) (hc2 : Names X y c2) (tk : Takes X Wout)
    (hb : ∀ (W : WX) (pn : List (Addr × Obj)) (xe : Value → Shared → Prop), Takes (X.tr pn xe) W → PassesOwn (model X.prog X.w) X.A X.env xe → PSs (X.tr pn xe) body (tb W))
    (hsu : ∀ (a : Addr) (oe : Obj) (cls : Value) (d : Option Addr) (pn : List (Addr × Obj)), Zc cls d oe → (∃ vs, oe.data = .fields vs) → PSs (X.suite a ((a, oe) :: pn)) (b₀ :: suite) (ts a cls d))
    (hsu2 : ∀ (a : Addr) (oe : Obj) (cls : Value) (d : Option Addr) (pn : List (Addr × Obj)), Zc cls d oe → (∃ vs, oe.data = .fields vs) → PSs (X.suite a ((a, oe) :: pn)) (b2 :: su2) (ts2 a cls d)) :
    PS X (.Try body [.ExceptHandler (some (.Name x np)) (some n) (b₀ :: suite) p1, .ExceptHandler (some (.Name y yp)) none (b2 :: su2) p2] [] [] pos) (fun D σ H => tb (wAsL X.K c i X.N.length ts (wOnly X.K c2 ts2 Wout D) D) D σ H) := by
  refine ⟨fun pins s σ H D I h => ?_⟩
  have fine := I.ok
  have frm : X.A.frames = some (X.env :: X.outer) := by rw [fine.frames, hs]
  refine wpAny_Try_except (wpAny_mono ((hb _ (X.pn ++ pins) _ (fun u s' xx => ?_) PassesOwn.looking).run [] s σ H D (I.toTry _) h) (fun f s1 back => ?_) (fun e s1 he => he))
  · obtain ⟨ea, bb, s0, pins0, τ, G, cls, d, rfl, J0, bare, kp, sky, fresh, oss, agr, b, q1, yes, no⟩ := xx
    have J : Inv X pins τ G s0 := J0.ofTry fine
    have sky1 : Sky bb (X.env :: X.outer) ea (Zc cls d) X.env.locals s'.heap := hs ▸ sky
    show wpAny (model X.prog X.w) X.A (noteFrame (.ref ea) X.env) _ _ _
    refine Sky.land Zc.steady frm hf sky1 fun g1 fl1 up1 => ?_
    have J1 : Inv X pins τ G { s' with heap := g1 } := J.landed bare fl1.1 (kp.trans up1) oss agr
    obtain ⟨eo, ev, at1, zc1, dat1⟩ := fl1.there
    have far : ea ∉ frs (X.env :: X.outer) := fun isFrame => by
      obtain ⟨_, o', at2, noDict⟩ := fl1.2.2.1.mem isFrame
      rw [at1] at at2
      cases at2
      exact noDict _ dat1
    have farL : ea ≠ X.env.locals := fun z => far (List.mem_filterMap.mpr ⟨X.env, List.mem_cons_self, by rw [hf, z]⟩)
    have farF : ea ∉ X.fs := fun isFs => by
      obtain ⟨ev', inOuter, q⟩ := List.mem_filterMap.mp isFs
      exact far (List.mem_filterMap.mpr ⟨ev', List.mem_cons_of_mem _ inOuter, q⟩)
    have S1 := J1.suite at1 dat1 fresh farL farF
    have isCls : PySem.W.Looks (model X.prog X.w) g1 (typeOf (.ref ea)) cls := fun A Q E s k q => wpAny_typeOf_ref (k _ _ at1) (by rw [zc1.1]; exact q)
    -- a clause's name
    have named : ∀ {z : Str} {cz : Value} {zp : Pos} {Q : Value → Shared → Prop} {E : Value → Shared → Prop}, Names X z cz → Q cz { s' with heap := g1 } →
        wpAny (model X.prog X.w) (X.A.mark (some (.ref ea))) (eval (.Name z zp) X.env) Q E { s' with heap := g1 } := fun {z cz zp Q E} hz q => by
      obtain ⟨gl, dbg, own | ⟨none, boot, noName⟩⟩ := hz
      · exact ld_glob (X := X.suite ea ((ea, eo) :: (X.pn ++ pins))) S1 gl own q dbg
      · exact ld_blt (X := X.suite ea ((ea, eo) :: (X.pn ++ pins))) S1 gl none boot q noName dbg
    refine wpAny_handleBy_cons (codeAny_handlers_test (named hc ((PySem.W.exm_one (M := model X.prog X.w) J1.kIn isCls q1).here ?_))) (by intro q; cases q)
    cases b with
    | true =>
      refine codeAny_handlers_suite_as (HandSPX.lands_againZ fl1 fun g2 fl2 up2 => ?_)
      have J2 : Inv X pins τ G { s' with heap := g2 } := J.landed bare fl2.1 ((kp.trans up1).trans up2) oss agr
      obtain ⟨eo2, ev2, at3, zc2, dat2⟩ := fl2.there
      have S2 := J2.suite at3 dat2 fresh farL farF
      refine store_ok (X := X.suite ea ((ea, eo2) :: (X.pn ++ pins))) (v := .ref ea) S2 hN hi (.inl hln) rfl (fun s5 S5 => ?_) (.inr hln)
      refine wpAny_mono ((hsu ea eo2 cls d (X.pn ++ pins) zc2 ⟨_, dat2⟩).run [] s5 _ G _ S5 (yes rfl J.len ea fresh)) (fun f s6 back => ?_) (fun _ _ z => False.elim z)
      have unbound : ∀ {ρ : L2.St} {G6 : Hp} {R : Shared → Prop}, Inv (X.suite ea ((ea, eo2) :: (X.pn ++ pins))) [] ρ G6 s6 → (∀ s7, Inv X pins (ρ.set i none) G6 s7 → R s7) →
          wpAny (model X.prog X.w) X.A (do bindName X.env n .none; unbindBehindTheSuite X.env n p1) (fun _ s7 => R s7) X.xe s6 := fun {ρ G6 R} S6 r => gone_ok (S6.unsuite fine) hN hi hln r
      cases f with
      | next => exact let ⟨_, _, S6, q6⟩ := back; unbound S6 fun s7 J7 => ⟨_, _, J7, q6⟩
      | brk => exact let ⟨_, _, S6, q6⟩ := back; unbound S6 fun s7 J7 => ⟨_, _, J7, q6⟩
      | cont => exact let ⟨_, _, S6, q6⟩ := back; unbound S6 fun s7 J7 => ⟨_, _, J7, q6⟩
      | ret u => exact let ⟨_, _, _, S6, r6, q6⟩ := back; unbound S6 fun s7 J7 => ⟨_, _, _, J7, r6, q6⟩
    | false =>
      obtain ⟨b', q2, yes2, no2⟩ := no rfl
      show wpAny _ X.A (handleBy (.ref ea) X.env [.ExceptHandler (some (.Name y yp)) none (b2 :: su2) p2]) _ _ _
      refine wpAny_handleBy_cons (codeAny_handlers_test (named hc2 ((PySem.W.exm_one (M := model X.prog X.w) J1.kIn isCls q2).here ?_))) (by intro q; cases q)
      cases b' with
      | true =>
        refine codeAny_handlers_suite (HandSPX.lands_againZ fl1 fun g2 fl2 up2 => ?_)
        have J2 : Inv X pins τ G { s' with heap := g2 } := J.landed bare fl2.1 ((kp.trans up1).trans up2) oss agr
        obtain ⟨eo2, ev2, at3, zc2, dat2⟩ := fl2.there
        have S2 := J2.suite at3 dat2 fresh farL farF
        refine wpAny_mono ((hsu2 ea eo2 cls d (X.pn ++ pins) zc2 ⟨_, dat2⟩).run [] _ _ G _ S2 (yes2 rfl ea fresh)) (fun f s6 back => ?_) (fun _ _ z => False.elim z)
        cases f with
        | next => exact let ⟨_, _, S6, q6⟩ := back; ⟨_, _, S6.unsuite fine, q6⟩
        | brk => exact let ⟨_, _, S6, q6⟩ := back; ⟨_, _, S6.unsuite fine, q6⟩
        | cont => exact let ⟨_, _, S6, q6⟩ := back; ⟨_, _, S6.unsuite fine, q6⟩
        | ret u => exact let ⟨_, _, _, S6, r6, q6⟩ := back; ⟨_, _, _, S6.unsuite fine, r6, q6⟩
      | false =>
        show wpAny _ X.A (handleBy (.ref ea) X.env []) _ _ _
        refine wpAny_handleBy_nil ?_
        obtain ⟨_, _, _, oe, vs, tb1, otb, ts', he, hz, hdd, h1, hr⟩ := id fl1
        unfold PySem.passOn
        refine wpAny_bind (wpAny_field he hdd h1 ?_)
        rw [if_neg (show ¬ ((Value.ref tb1 == Value.none) = true) by simp)]
        have again : wpAny (model X.prog X.w) X.A (setFlight (.ref ea) X.env.frame) (fun _ s4 => wpAny (model X.prog X.w) X.A (throw (.ref ea) : Sem Flow) (SP X pins D) X.xe s4) X.xe { s' with heap := g1 } := by
          rw [hf]
          refine HandSPX.setFlight_upZ fl1 fun g4 hh4 up4 => wpAny_throw (tk _ _ ⟨ea, bb, s0, pins, τ, G, cls, d, rfl, J, bare, (kp.trans up1).trans up4, .inr (.inr (by rw [hs]; exact hh4)), fresh, oss, agr, no2 rfl⟩)
        first
          | exact wpAny_bind (wpAny_pure (wpAny_bind again))
          | exact wpAny_bind again
  · cases f with
    | next => exact let ⟨_, _, J', q⟩ := back; wpAny_execs_nil ⟨_, _, J'.ofTry fine, q⟩
    | brk => exact let ⟨_, _, J', q⟩ := back; ⟨_, _, J'.ofTry fine, q⟩
    | cont => exact let ⟨_, _, J', q⟩ := back; ⟨_, _, J'.ofTry fine, q⟩
    | ret u => exact let ⟨_, _, _, J', r, q⟩ := back; ⟨_, _, _, J'.ofTry fine, r, q⟩
end
end My
namespace My
open PySem PySem.Spec PyProof.Rows L2
section
variable {X : Cx} {x x2 x3 n : Str} {c c2 c3 : Value} {i : Nat} {body suite su2 su3 : List Stmt} {b₀ b2 b3 : Stmt} {np np2 np3 p1 p2 p3 pos : Pos} {tb : WX → TS} {ts ts2 ts3 : Addr → Value → Option Addr → TS} {Wout : WX}
/-- try: .. except x as n: .. except x2 as n: .. except x3 as n: .. -/
theorem ps_try_as3 (hs : X.stack = X.env :: X.outer) (hf : X.env.frame = some X.env.locals) (hN : X.N.Nodup) (hi : X.N[i]? = some n) (hln : X.env.kindOf n = some .local) (hc : Names X x c) (hc2 : Names X x2 c2) (hc3 : Names X x3 c3) (tk : Takes X Wout)
    (hb : ∀ (W : WX) (pn : List (Addr × Obj)) (xe : Value → Shared → Prop), Takes (X.tr pn xe) W → PassesOwn (model X.prog X.w) X.A X.env xe → PSs (X.tr pn xe) body (tb W))
    (hsu : ∀ (a : Addr) (oe : Obj) (cls : Value) (d : Option Addr) (pn : List (Addr × Obj)), Zc cls d oe → (∃ vs, oe.data = .fields vs) → PSs (X.suite a ((a, oe) :: pn)) (b₀ :: suite) (ts a cls d))
    (hsu2 : ∀ (a : Addr) (oe : Obj) (cls : Value) (d : Option Addr) (pn : List (Addr × Obj)), Zc cls d oe → (∃ vs, oe.data = .fields vs) → PSs (X.suite a ((a, oe) :: pn)) (b2 :: su2) (ts2 a cls d))
    (hsu3 : ∀ (a : Addr) (oe : Obj) (cls : Value) (d : Option Addr) (pn : List (Addr × Obj)), Zc cls d oe → (∃ vs, oe.data = .fields vs) → PSs (X.suite a ((a, oe) :: pn)) (b3 :: su3) (ts3 a cls d)) :
    PS X (.Try body [.ExceptHandler (some (.Name x np)) (some n) (b₀ :: suite) p1, .ExceptHandler (some (.Name x2 np2)) (some n) (b2 :: su2) p2, .ExceptHandler (some (.Name x3 np3)) (some n) (b3 :: su3) p3] [] [] pos) (fun D σ H => tb (wAsL X.K c i X.N.length ts (wAsL X.K c2 i X.N.length ts2 (wAsL X.K c3 i X.N.length ts3 Wout D) D) D) D σ H) := by
  refine ⟨fun pins s σ H D I h => ?_⟩
  have fine := I.ok
  have frm : X.A.frames = some (X.env :: X.outer) := by rw [fine.frames, hs]
  refine wpAny_Try_except (wpAny_mono ((hb _ (X.pn ++ pins) _ (fun u s' xx => ?_) PassesOwn.looking).run [] s σ H D (I.toTry _) h) (fun f s1 back => ?_) (fun e s1 he => he))
  · obtain ⟨ea, bb, s0, pins0, τ, G, cls, d, rfl, J0, bare, kp, sky, fresh, oss, agr, b, q1, yes, no⟩ := xx
    have J : Inv X pins τ G s0 := J0.ofTry fine
    have sky1 : Sky bb (X.env :: X.outer) ea (Zc cls d) X.env.locals s'.heap := hs ▸ sky
    show wpAny (model X.prog X.w) X.A (noteFrame (.ref ea) X.env) _ _ _
    refine Sky.land Zc.steady frm hf sky1 fun g1 fl1 up1 => ?_
    have J1 : Inv X pins τ G { s' with heap := g1 } := J.landed bare fl1.1 (kp.trans up1) oss agr
    obtain ⟨eo, ev, at1, zc1, dat1⟩ := fl1.there
    have far : ea ∉ frs (X.env :: X.outer) := fun isFrame => by
      obtain ⟨_, o', at2, noDict⟩ := fl1.2.2.1.mem isFrame
      rw [at1] at at2
      cases at2
      exact noDict _ dat1
    have farL : ea ≠ X.env.locals := fun z => far (List.mem_filterMap.mpr ⟨X.env, List.mem_cons_self, by rw [hf, z]⟩)
    have farF : ea ∉ X.fs := fun isFs => by
      obtain ⟨ev', inOuter, q⟩ := List.mem_filterMap.mp isFs
      exact far (List.mem_filterMap.mpr ⟨ev', List.mem_cons_of_mem _ inOuter, q⟩)
    have S1 := J1.suite at1 dat1 fresh farL farF
    have isCls : PySem.W.Looks (model X.prog X.w) g1 (typeOf (.ref ea)) cls := fun A Q E s k q => wpAny_typeOf_ref (k _ _ at1) (by rw [zc1.1]; exact q)
    -- a clause's name
    have named : ∀ {z : Str} {cz : Value} {zp : Pos} {Q : Value → Shared → Prop} {E : Value → Shared → Prop}, Names X z cz → Q cz { s' with heap := g1 } →
        wpAny (model X.prog X.w) (X.A.mark (some (.ref ea))) (eval (.Name z zp) X.env) Q E { s' with heap := g1 } := fun {z cz zp Q E} hz q => by
      obtain ⟨gl, dbg, own | ⟨none, boot, noName⟩⟩ := hz
      · exact ld_glob (X := X.suite ea ((ea, eo) :: (X.pn ++ pins))) S1 gl own q dbg
      · exact ld_blt (X := X.suite ea ((ea, eo) :: (X.pn ++ pins))) S1 gl none boot q noName dbg
    refine wpAny_handleBy_cons (codeAny_handlers_test (named hc ((PySem.W.exm_one (M := model X.prog X.w) J1.kIn isCls q1).here ?_))) (by intro q; cases q)
    cases b with
    | true =>
      refine codeAny_handlers_suite_as (HandSPX.lands_againZ fl1 fun g2 fl2 up2 => ?_)
      have J2 : Inv X pins τ G { s' with heap := g2 } := J.landed bare fl2.1 ((kp.trans up1).trans up2) oss agr
      obtain ⟨eo2, ev2, at3, zc2, dat2⟩ := fl2.there
      have S2 := J2.suite at3 dat2 fresh farL farF
      refine store_ok (X := X.suite ea ((ea, eo2) :: (X.pn ++ pins))) (v := .ref ea) S2 hN hi (.inl hln) rfl (fun s5 S5 => ?_) (.inr hln)
      refine wpAny_mono ((hsu ea eo2 cls d (X.pn ++ pins) zc2 ⟨_, dat2⟩).run [] s5 _ G _ S5 (yes rfl J.len ea fresh)) (fun f s6 back => ?_) (fun _ _ z => False.elim z)
      have unbound : ∀ {ρ : L2.St} {G6 : Hp} {R : Shared → Prop}, Inv (X.suite ea ((ea, eo2) :: (X.pn ++ pins))) [] ρ G6 s6 → (∀ s7, Inv X pins (ρ.set i none) G6 s7 → R s7) →
          wpAny (model X.prog X.w) X.A (do bindName X.env n .none; unbindBehindTheSuite X.env n p1) (fun _ s7 => R s7) X.xe s6 := fun {ρ G6 R} S6 r => gone_ok (S6.unsuite fine) hN hi hln r
      cases f with
      | next => exact let ⟨_, _, S6, q6⟩ := back; unbound S6 fun s7 J7 => ⟨_, _, J7, q6⟩
      | brk => exact let ⟨_, _, S6, q6⟩ := back; unbound S6 fun s7 J7 => ⟨_, _, J7, q6⟩
      | cont => exact let ⟨_, _, S6, q6⟩ := back; unbound S6 fun s7 J7 => ⟨_, _, J7, q6⟩
      | ret u => exact let ⟨_, _, _, S6, r6, q6⟩ := back; unbound S6 fun s7 J7 => ⟨_, _, _, J7, r6, q6⟩
    | false =>
      obtain ⟨b', q2, yes2, no2⟩ := no rfl
      show wpAny _ X.A (handleBy (.ref ea) X.env [.ExceptHandler (some (.Name x2 np2)) (some n) (b2 :: su2) p2, .ExceptHandler (some (.Name x3 np3)) (some n) (b3 :: su3) p3]) _ _ _
      refine wpAny_handleBy_cons (codeAny_handlers_test (named hc2 ((PySem.W.exm_one (M := model X.prog X.w) J1.kIn isCls q2).here ?_))) (by intro q; cases q)
      cases b' with
      | true =>
        refine codeAny_handlers_suite_as (HandSPX.lands_againZ fl1 fun g2 fl2 up2 => ?_)
        have J2 : Inv X pins τ G { s' with heap := g2 } := J.landed bare fl2.1 ((kp.trans up1).trans up2) oss agr
        obtain ⟨eo2, ev2, at3, zc2, dat2⟩ := fl2.there
        have S2 := J2.suite at3 dat2 fresh farL farF
        refine store_ok (X := X.suite ea ((ea, eo2) :: (X.pn ++ pins))) (v := .ref ea) S2 hN hi (.inl hln) rfl (fun s5 S5 => ?_) (.inr hln)
        refine wpAny_mono ((hsu2 ea eo2 cls d (X.pn ++ pins) zc2 ⟨_, dat2⟩).run [] s5 _ G _ S5 (yes2 rfl J.len ea fresh)) (fun f s6 back => ?_) (fun _ _ z => False.elim z)
        have unbound : ∀ {ρ : L2.St} {G6 : Hp} {R : Shared → Prop}, Inv (X.suite ea ((ea, eo2) :: (X.pn ++ pins))) [] ρ G6 s6 → (∀ s7, Inv X pins (ρ.set i none) G6 s7 → R s7) →
            wpAny (model X.prog X.w) X.A (do bindName X.env n .none; unbindBehindTheSuite X.env n p2) (fun _ s7 => R s7) X.xe s6 := fun {ρ G6 R} S6 r => gone_ok (S6.unsuite fine) hN hi hln r
        cases f with
        | next => exact let ⟨_, _, S6, q6⟩ := back; unbound S6 fun s7 J7 => ⟨_, _, J7, q6⟩
        | brk => exact let ⟨_, _, S6, q6⟩ := back; unbound S6 fun s7 J7 => ⟨_, _, J7, q6⟩
        | cont => exact let ⟨_, _, S6, q6⟩ := back; unbound S6 fun s7 J7 => ⟨_, _, J7, q6⟩
        | ret u => exact let ⟨_, _, _, S6, r6, q6⟩ := back; unbound S6 fun s7 J7 => ⟨_, _, _, J7, r6, q6⟩
      | false =>
        obtain ⟨b'', q3, yes3, no3⟩ := no2 rfl
        show wpAny _ X.A (handleBy (.ref ea) X.env [.ExceptHandler (some (.Name x3 np3)) (some n) (b3 :: su3) p3]) _ _ _
        refine wpAny_handleBy_cons (codeAny_handlers_test (named hc3 ((PySem.W.exm_one (M := model X.prog X.w) J1.kIn isCls q3).here ?_))) (by intro q; cases q)
        cases b'' with
        | true =>
          refine codeAny_handlers_suite_as (HandSPX.lands_againZ fl1 fun g2 fl2 up2 => ?_)
          have J2 : Inv X pins τ G { s' with heap := g2 } := J.landed bare fl2.1 ((kp.trans up1).trans up2) oss agr
          obtain ⟨eo2, ev2, at3, zc2, dat2⟩ := fl2.there
          have S2 := J2.suite at3 dat2 fresh farL farF
          refine store_ok (X := X.suite ea ((ea, eo2) :: (X.pn ++ pins))) (v := .ref ea) S2 hN hi (.inl hln) rfl (fun s5 S5 => ?_) (.inr hln)
          refine wpAny_mono ((hsu3 ea eo2 cls d (X.pn ++ pins) zc2 ⟨_, dat2⟩).run [] s5 _ G _ S5 (yes3 rfl J.len ea fresh)) (fun f s6 back => ?_) (fun _ _ z => False.elim z)
          have unbound : ∀ {ρ : L2.St} {G6 : Hp} {R : Shared → Prop}, Inv (X.suite ea ((ea, eo2) :: (X.pn ++ pins))) [] ρ G6 s6 → (∀ s7, Inv X pins (ρ.set i none) G6 s7 → R s7) →
              wpAny (model X.prog X.w) X.A (do bindName X.env n .none; unbindBehindTheSuite X.env n p3) (fun _ s7 => R s7) X.xe s6 := fun {ρ G6 R} S6 r => gone_ok (S6.unsuite fine) hN hi hln r
          cases f with
          | next => exact let ⟨_, _, S6, q6⟩ := back; unbound S6 fun s7 J7 => ⟨_, _, J7, q6⟩
          | brk => exact let ⟨_, _, S6, q6⟩ := back; unbound S6 fun s7 J7 => ⟨_, _, J7, q6⟩
          | cont => exact let ⟨_, _, S6, q6⟩ := back; unbound S6 fun s7 J7 => ⟨_, _, J7, q6⟩
          | ret u => exact let ⟨_, _, _, S6, r6, q6⟩ := back; unbound S6 fun s7 J7 => ⟨_, _, _, J7, r6, q6⟩
        | false =>
          show wpAny _ X.A (handleBy (.ref ea) X.env []) _ _ _
          refine wpAny_handleBy_nil ?_
          obtain ⟨_, _, _, oe, vs, tb1, otb, ts', he, hz, hdd, h1, hr⟩ := id fl1
          unfold PySem.passOn
          refine wpAny_bind (wpAny_field he hdd h1 ?_)
          rw [if_neg (show ¬ ((Value.ref tb1 == Value.none) = true) by simp)]
          have again : wpAny (model X.prog X.w) X.A (setFlight (.ref ea) X.env.frame) (fun _ s4 => wpAny (model X.prog X.w) X.A (throw (.ref ea) : Sem Flow) (SP X pins D) X.xe s4) X.xe { s' with heap := g1 } := by
            rw [hf]
            refine HandSPX.setFlight_upZ fl1 fun g4 hh4 up4 => wpAny_throw (tk _ _ ⟨ea, bb, s0, pins, τ, G, cls, d, rfl, J, bare, (kp.trans up1).trans up4, .inr (.inr (by rw [hs]; exact hh4)), fresh, oss, agr, no3 rfl⟩)
          first
            | exact wpAny_bind (wpAny_pure (wpAny_bind again))
            | exact wpAny_bind again
  · cases f with
    | next => exact let ⟨_, _, J', q⟩ := back; wpAny_execs_nil ⟨_, _, J'.ofTry fine, q⟩
    | brk => exact let ⟨_, _, J', q⟩ := back; ⟨_, _, J'.ofTry fine, q⟩
    | cont => exact let ⟨_, _, J', q⟩ := back; ⟨_, _, J'.ofTry fine, q⟩
    | ret u => exact let ⟨_, _, _, J', r, q⟩ := back; ⟨_, _, _, J'.ofTry fine, r, q⟩
end
end My
namespace My
open PySem PySem.Spec PyProof.Rows L2
section
variable {K : PySem.W.Frag} {a D : Addr} {xs : List V} {te : TE} {vs : List Nat} {σ : L2.St} {H1 : Hp} {j : Nat}
theorem take_next {α : Type} {l : List α} {i : Nat} {x : α} (h : l[i]? = some x) : l.take (i + 1) = l.take i ++ [x] := by
  rw [List.take_succ, h]
  rfl
/-- what a comprehension without a test has made behind i turns -/
def Made (H1 : Hp) (D : Addr) (f : Nat → V → V) (xs : List V) (i : Nat) (H' : Hp) : Prop := H1 D = none ∧ Ext H1 H' ∧ H' D = some (.lst ((xs.take i).mapIdx f))
theorem made_turn {f : Nat → V → V} {i : Nat} {x : V} {H' : Hp} {σ2 : L2.St} (hz : xs.length ≤ 1000000) (hi : xs[i]? = some x) (p : Made H1 D f xs i H') (he : ∀ Q' : VK, (∀ H'', Ext H' H'' → Q' (f i x) H'') → te σ2 H' Q') :
    tYes σ2 H' fun b H3 => if b = true then te σ2 H3 fun y H4 => ∃ acc, H4 D = some (.lst acc) ∧ acc.length < sizeLine ∧ Made H1 D f xs (i + 1) (upd H4 D (.lst (acc ++ [y]))) else Made H1 D f xs (i + 1) H3 := by
  obtain ⟨p1, p2, p3⟩ := p
  unfold tYes
  dsimp only
  rw [if_pos rfl]
  refine he _ fun H'' e => ⟨_, e _ _ p3, ?_, p1, ext_mut (p2.trans e) p1, ?_⟩
  · rw [List.length_mapIdx, List.length_take]
    exact Nat.lt_of_le_of_lt (Nat.le_trans (Nat.min_le_right _ _) hz) (by decide)
  · have hl : i < xs.length := (List.getElem?_eq_some_iff.mp hi).1
    rw [upd_same, take_next hi, List.mapIdx_append]
    have e1 : (xs.take i).length = i := by rw [List.length_take]; omega
    simp [e1]
abbrev Block (J : It) (g : TG) (tt : TT) (te : TE) (vs : List Nat) (σ : L2.St) (H1 : Hp) (D : Addr) (Qd : Hp → Prop) : Prop := ∃ W : Nat → Nat → Hp → Prop, (∃ m, W 0 m (upd H1 D (.lst []))) ∧ ∀ i m H, W i m H →
  (J.stop i H ∧ Qd H) ∨ (J.go i H ∧ ∃ Nx : Hp → Prop, (∀ H', Nx H' → ∃ m', m' < m ∧ W (i + 1) m' H') ∧ ∀ x H', J.yld i H x H' → g x (wipe σ vs) H' fun σ2 H2 => wipe σ2 vs = wipe σ vs ∧ tt σ2 H2 fun b H3 =>
    if b = true then te σ2 H3 fun y H4 => ∃ acc, H4 D = some (.lst acc) ∧ acc.length < sizeLine ∧ Nx (upd H4 D (.lst (acc ++ [y]))) else Nx H3)
theorem map_list {Qd : Hp → Prop} (f : Nat → V → V) (hx : SqL K H1 a xs) (hD : H1 D = none) (hz : xs.length ≤ 1000000) (hw : ∀ x, wipe ((wipe σ vs).set j (some x)) vs = wipe σ vs)
    (he : ∀ i x H', xs[i]? = some x → Ext H1 H' → ∀ Q' : VK, (∀ H'', Ext H' H'' → Q' (f i x) H'') → te ((wipe σ vs).set j (some x)) H' Q') (hd : ∀ H', Ext H1 H' → H' D = some (.lst (xs.mapIdx f)) → Qd H') :
    Block (Itl K a) (gName j) tYes te vs σ H1 D Qd :=
  lc_list (xs := xs) (Made H1 D f xs) ⟨hD, ext_new (ext_refl H1) hD, upd_same⟩ (fun i H' _ p => hx.ext p.2.1) (fun i x H' hi p => ⟨hw x, made_turn hz hi p (he i x H' hi p.2.1)⟩) fun H' p => hd H' p.2.1 (by have q := p.2.2; rw [List.take_length] at q; exact q)
theorem map_tup {Qd : Hp → Prop} (f : Nat → V → V) (hx : SqT K H1 a xs) (hD : H1 D = none) (hz : xs.length ≤ 1000000) (hw : ∀ x, wipe ((wipe σ vs).set j (some x)) vs = wipe σ vs)
    (he : ∀ i x H', xs[i]? = some x → Ext H1 H' → ∀ Q' : VK, (∀ H'', Ext H' H'' → Q' (f i x) H'') → te ((wipe σ vs).set j (some x)) H' Q') (hd : ∀ H', Ext H1 H' → H' D = some (.lst (xs.mapIdx f)) → Qd H') :
    Block (Itt K a) (gName j) tYes te vs σ H1 D Qd :=
  lc_tup (xs := xs) (Made H1 D f xs) ⟨hD, ext_new (ext_refl H1) hD, upd_same⟩ (fun i H' _ p => hx.ext p.2.1) (fun i x H' hi p => ⟨hw x, made_turn hz hi p (he i x H' hi p.2.1)⟩) fun H' p => hd H' p.2.1 (by have q := p.2.2; rw [List.take_length] at q; exact q)
end
end My
namespace My
open PySem PySem.Spec PyProof.Rows L2
section
variable {K : PySem.W.Frag} {a D : Addr} {xs : List V} {te : TE} {vs : List Nat} {σ : L2.St} {H1 : Hp} {j : Nat}
/-- what is said of the list D survives, when only D changes -/
def Keeps (D : Addr) (Pv : List V → Hp → Prop) : Prop := ∀ acc H H', Pv acc H → (∃ l, H D = some (.lst l)) → (∀ a u, H a = some u → a ≠ D → H' a = some u) → Pv acc H'
def MadeP (H1 : Hp) (D : Addr) (Pv : List V → Hp → Prop) (i : Nat) (H' : Hp) : Prop := H1 D = none ∧ Ext H1 H' ∧ ∃ acc, H' D = some (.lst acc) ∧ acc.length = i ∧ Pv acc H'
theorem madeP_turn {Pv : List V → Hp → Prop} {i : Nat} {H' : Hp} {σ2 : L2.St} (hz : i ≤ 1000000) (kp : Keeps D Pv) (p : MadeP H1 D Pv i H')
    (he : ∀ acc, acc.length = i → Pv acc H' → Ext H1 H' → ∀ Q' : VK, (∀ y H'', Ext H' H'' → Pv (acc ++ [y]) H'' → Q' y H'') → te σ2 H' Q') :
    tYes σ2 H' fun b H3 => if b = true then te σ2 H3 fun y H4 => ∃ acc, H4 D = some (.lst acc) ∧ acc.length < sizeLine ∧ MadeP H1 D Pv (i + 1) (upd H4 D (.lst (acc ++ [y]))) else MadeP H1 D Pv (i + 1) H3 := by
  obtain ⟨p1, p2, acc, p3, p4, p5⟩ := p
  unfold tYes
  dsimp only
  rw [if_pos rfl]
  refine he acc p4 p5 p2 _ fun y H'' e pv => ⟨acc, e _ _ p3, ?_, p1, ext_mut (p2.trans e) p1, acc ++ [y], upd_same, by simp [p4], ?_⟩
  · rw [p4]
    exact Nat.lt_of_le_of_lt hz (by decide)
  · exact kp _ _ _ pv ⟨_, e _ _ p3⟩ fun a u q ne => by rw [upd_ne ne]; exact q
theorem made_range {Qd : Hp → Prop} {n : Nat} (Pv : List V → Hp → Prop) (kp : Keeps D Pv) (hD : H1 D = none) (hz : n ≤ 1000000) (hw : ∀ x, wipe ((wipe σ vs).set j (some x)) vs = wipe σ vs) (h0 : ∀ H, Pv [] H)
    (he : ∀ i H' acc, i < n → Ext H1 H' → acc.length = i → Pv acc H' → ∀ Q' : VK, (∀ y H'', Ext H' H'' → Pv (acc ++ [y]) H'' → Q' y H'') → te ((wipe σ vs).set j (some (.int (0 + i)))) H' Q')
    (hd : ∀ H' acc, Ext H1 H' → H' D = some (.lst acc) → acc.length = n → Pv acc H' → Qd H') :
    Block (Itr 0 n) (gName j) tYes te vs σ H1 D Qd :=
  lc_range (MadeP H1 D Pv) ⟨hD, ext_new (ext_refl H1) hD, [], upd_same, rfl, h0 _⟩ (fun i H' hi p => ⟨hw _, madeP_turn (by omega) kp p fun acc hl pv e Q' k => he i H' acc hi e hl pv Q' k⟩) fun H' ⟨_, e, acc, q, hl, pv⟩ => hd H' acc e q hl pv
theorem made_list {Qd : Hp → Prop} (Pv : List V → Hp → Prop) (kp : Keeps D Pv) (hx : SqL K H1 a xs) (hD : H1 D = none) (hz : xs.length ≤ 1000000) (hw : ∀ x, wipe ((wipe σ vs).set j (some x)) vs = wipe σ vs) (h0 : ∀ H, Pv [] H)
    (he : ∀ i x H' acc, xs[i]? = some x → Ext H1 H' → acc.length = i → Pv acc H' → ∀ Q' : VK, (∀ y H'', Ext H' H'' → Pv (acc ++ [y]) H'' → Q' y H'') → te ((wipe σ vs).set j (some x)) H' Q')
    (hd : ∀ H' acc, Ext H1 H' → H' D = some (.lst acc) → acc.length = xs.length → Pv acc H' → Qd H') :
    Block (Itl K a) (gName j) tYes te vs σ H1 D Qd :=
  lc_list (xs := xs) (MadeP H1 D Pv) ⟨hD, ext_new (ext_refl H1) hD, [], upd_same, rfl, h0 _⟩ (fun i H' _ p => hx.ext p.2.1)
    (fun i x H' hi p => ⟨hw _, madeP_turn (Nat.le_trans (Nat.le_of_lt (List.getElem?_eq_some_iff.mp hi).1) hz) kp p fun acc hl pv e Q' k => he i x H' acc hi e hl pv Q' k⟩) fun H' ⟨_, e, acc, q, hl, pv⟩ => hd H' acc e q hl pv
end
end My
namespace My
open PySem PySem.Spec PyProof.Rows L2
/-! data of texts -/
theorem lay_strs : ∀ ss : List Str, (∀ s ∈ ss, PyData.strOk s = true) → PyData.canLayAll0 (ss.map PyData.str) = true := by
  intro ss h
  induction ss with
  | nil => rfl
  | cons x r ih =>
    rw [List.map_cons, PyData.canLayAll0, ih fun s hs => h s (List.mem_cons_of_mem _ hs), PyData.canLay0, h x (List.mem_cons_self ..)]
    rfl
theorem dep_strs : ∀ ss : List Str, PyData.depthAll (ss.map PyData.str) = 0 := by
  intro ss
  induction ss with
  | nil => rfl
  | cons x r ih =>
    rw [List.map_cons, PyData.depthAll, ih]
    rfl
theorem shaped_strs {ss : List Str} (h : ∀ s ∈ ss, PyData.strOk s = true) : SeqAt.shaped (.list (ss.map PyData.str)) = true := by
  unfold SeqAt.shaped
  rw [PyData.canLay0, lay_strs _ h, PyData.depth, dep_strs]
  rfl
theorem shaped_strsT {ss : List Str} (h : ∀ s ∈ ss, PyData.strOk s = true) : SeqAt.shaped (.tuple (ss.map PyData.str)) = true := by
  unfold SeqAt.shaped
  rw [PyData.canLay0, lay_strs _ h, PyData.depth, dep_strs]
  rfl
theorem eqv_strs : ∀ ss ts : List Str, PyData.eqvAll (ss.map PyData.str) (ts.map PyData.str) = decide (ss = ts) := by
  intro ss
  induction ss with
  | nil =>
    intro ts
    cases ts with
    | nil => rfl
    | cons _ _ => rfl
  | cons x r ih =>
    intro ts
    cases ts with
    | nil => rfl
    | cons y q =>
      rw [List.map_cons, List.map_cons, PyData.eqvAll, ih, PyData.eqv]
      by_cases h : x = y
      · subst h
        by_cases h2 : r = q
        · subst h2; simp
        · simp [h2]
      · simp [h]
theorem dp_strs {K : PySem.W.Frag} {H : Hp} : ∀ ss : List Str, DpAll K H (ss.map V.str) (ss.map PyData.str) := by
  intro ss
  induction ss with
  | nil => exact .nil
  | cons x r ih => exact .cons (.str x) ih
theorem joinL_ones : ∀ cs : List Nat, TL.joinL [] (cs.map fun c => [c]) = cs := by
  intro cs
  induction cs with
  | nil => rfl
  | cons c r ih =>
    cases r with
    | nil => rfl
    | cons d q =>
      show [c] ++ ([] ++ TL.joinL [] ((d :: q).map fun c => [c])) = _
      rw [ih]
      rfl
/-- a text of few codes -/
def Asc (z : Str) : Prop := ∀ c ∈ z.cps.toList, c < 1000
theorem Asc.ok {z : Str} (h : Asc z) : PyData.strOk z = true := by
  unfold PyData.strOk
  rw [← Array.all_toList]
  exact List.all_eq_true.mpr fun c hc => decide_eq_true (Nat.lt_trans (h c hc) (by decide))
theorem join_ones (cs : List Nat) : Txt.join ("" : Str) (cs.map fun c => (⟨#[c]⟩ : Str)) = ⟨cs.toArray⟩ := by
  have e := SX.join_S [] (cs.map fun c => [c])
  rw [List.map_map, joinL_ones] at e
  exact e
end My
namespace My
open PySem PySem.Spec PyProof.Rows L2
section
variable {X : Cx}
def rReprB : List V → Hp → VK → Prop := fun vs H Q => ∃ b, vs = [.bl b] ∧ Q (.str (if b then "True" else "False")) H
theorem cr_reprB : CallR X (.builtin "repr") rReprB := by
  intro pins s σ H vs us Q I r h
  obtain ⟨b, rfl, q⟩ := h
  cases r with
  | cons r1 r =>
    cases r
    cases r1
    exact PySem.P.repr_of_bool ⟨.str _, H, I.tok _, ⟨_, rfl⟩, q⟩
/-- the text of a value of any of these kinds -/
inductive RpK (K : PySem.W.Frag) (H : Hp) : V → Str → Prop
  | non : RpK K H .non "None"
  | bl (b : Bool) : RpK K H (.bl b) (if b then "True" else "False")
  | int {i : Int} : i.natAbs.log2 < 1920 → RpK K H (.int i) (toString i)
  | str {x : Str} : (reprText x).length ≤ sizeLine → RpK K H (.str x) (reprText x)
  | lst {a : Addr} {xs : List V} {ds : List PyData} : SqL K H a xs → (∀ H', DpAll K H' xs ds) → (PyData.list ds).showable = true → (PyData.list ds).hasDict = false → (PyData.list ds).depth < 20 → (PyData.list ds).shown.length ≤ sizeLine → RpK K H (.ref a) (PyData.list ds).shown
  | tup {a : Addr} {xs : List V} {ds : List PyData} : SqT K H a xs → (∀ H', DpAll K H' xs ds) → (PyData.tuple ds).showable = true → (PyData.tuple ds).hasDict = false → (PyData.tuple ds).depth < 20 → (PyData.tuple ds).shown.length ≤ sizeLine → RpK K H (.ref a) (PyData.tuple ds).shown
  | emp {a : Addr} : H a = some (.dK []) → RpK K H (.ref a) (PyData.dict []).shown
def rReprK (K : PySem.W.Frag) : List V → Hp → VK → Prop := fun vs H Q => ∃ v t, vs = [v] ∧ RpK K H v t ∧ Q (.str t) H
theorem cr_reprK (hu : X.A.units + 64 < cLine) (hg : X.A.guards = some []) : CallR X (.builtin "repr") (rReprK X.K) := by
  intro pins s σ H vs us Q I r h
  obtain ⟨v, t, rfl, hv, q⟩ := h
  cases r with
  | cons r1 r =>
    cases r
    cases hv with
    | non =>
      cases r1
      exact PySem.P.repr_of_none ⟨.str _, H, I.tok _, ⟨_, rfl⟩, q⟩
    | bl b =>
      cases r1
      exact PySem.P.repr_of_bool ⟨.str _, H, I.tok _, ⟨_, rfl⟩, q⟩
    | int hz =>
      obtain ⟨t, rfl⟩ := r1
      exact PySem.P.repr_of_int hz ⟨.str _, H, I.tok _, ⟨_, rfl⟩, q⟩
    | str hz =>
      obtain ⟨t, rfl⟩ := r1
      exact PySem.P.repr_of_str (h := ⟨.str _, H, I.tok _, ⟨_, rfl⟩, q⟩) (hsz := hz)
    | lst hs hd h1 h2 h3 h4 =>
      cases r1
      obtain ⟨as, hrd⟩ := Dp.reads I _ _ _ (Dp.lst hs (hd H)) rfl
      refine repr_of_reads' hrd h1 (fun z => by rw [h2] at z; cases z) hg (by omega) (fun _ _ e => e) (fun h' u tk hk => ?_) h4
      exact ⟨.str _, H, I.kept hk, ⟨_, rfl⟩, q⟩
    | tup hs hd h1 h2 h3 h4 =>
      cases r1
      obtain ⟨as, hrd⟩ := Dp.reads I _ _ _ (Dp.tup hs (hd H)) rfl
      refine repr_of_reads' hrd h1 (fun z => by rw [h2] at z; cases z) hg (by omega) (fun _ _ e => e) (fun h' u tk hk => ?_) h4
      exact ⟨.str _, H, I.kept hk, ⟨_, rfl⟩, q⟩
    | @emp a ha =>
      cases r1
      obtain ⟨_, sm, vs, kv, o, es, ep, ho, hx, hd, _, hp, _⟩ := dk_of I.hok ha
      cases kv
      have e0 : es.toList = [] := by
        cases e : es.toList with
        | nil => rfl
        | cons _ _ => rw [e] at hp; cases hp
      have hrd : Reads s.heap (.ref a) (.dict []) (a :: [] ++ []) := Reads.dict ho hx.1 hd (by rw [e0]; exact .nil) (by rw [e0]; exact .nil)
      refine repr_of_reads' hrd rfl (fun _ => ?_) hg (by show _ + (0 + 1 + 1) < _; omega) (fun _ _ e => e) (fun h' u tk hk => ?_) (by decide +kernel)
      · intro z
        have z' : sysModules = a := by simpa using z
        rw [z'] at sm
        simp at sm
      · exact ⟨.str _, H, I.kept hk, ⟨_, rfl⟩, q⟩
end
end My
namespace My
open PySem PySem.Spec PyProof.Rows L2
def top (i : Nat) : Stmt := PySem.Challenge.pw_pieceround_k01_errors_and_what_they_keep.main.body.getD i (.Pass ⟨0, 0, 0, 0⟩)
abbrev s_dice : Stmt := top 20
abbrev s_roll : Stmt := top 21
abbrev s_pick : Stmt := top 22

local macro_rules | `(tactic| walk_at "side") => `(tactic| first | assumption | decide | exact Or.inl ⟨by decide, by decide⟩ | exact Or.inr ⟨by decide, by decide⟩ | exact ⟨by decide, by decide, by decide⟩ | omega | (unfold CMulW; decide +kernel) | (dsimp only; first | assumption | omega | decide +kernel) | exact len_ok (Nat.le_of_ble_eq_true rfl) | fail "side")
local macro_rules | `(tactic| walk_at "rd") => `(tactic| first
  | refine ⟨_, _, _, _, rfl, rfl, SqL.of upd_same, atI_nat (j := 0) rfl, ?_⟩ | refine ⟨_, _, _, _, rfl, rfl, SqL.of upd_same, atI_nat (j := 1) rfl, ?_⟩ | refine ⟨_, _, _, _, rfl, rfl, SqL.of upd_same, atI_nat (j := 2) rfl, ?_⟩
  | refine ⟨_, _, _, _, rfl, rfl, upd_same, rfl, ?_⟩
  | refine ⟨_, _, rfl, rfl, ?_⟩ | refine ⟨_, rfl, ?_⟩ | refine ⟨_, _, rfl, ?_⟩ | refine Or.inl ⟨_, rfl, ?_⟩ | refine Or.inr ⟨_, rfl, ?_⟩ | refine ⟨(by walk_at "side"), ?_⟩ | fail "rd")
def spDice (K : PySem.W.Frag) : Sp := fun vs H Q _ => ∃ (a : Addr) (i : Int) (ns : List Int), vs = [.ref a, .int i] ∧ SqL K H a (ns.map V.int) ∧ 0 ≤ i ∧ i < 1000 ∧
  ∀ p H', H p = none → Ext H H' → H' p = some (DiceO p) → Q (.ref p) H'
def spRoll : Sp := fun vs H Q _ => ∃ (a : Addr) (n : Int), vs = [.ref a, .int n] ∧ H a = some (DiceO a) ∧ 0 < n ∧ Sz 9000 n ∧ ∀ r : Int, 0 ≤ r → r < n → Q (.int r) H
def spPick (K : PySem.W.Frag) : Sp := fun vs H Q _ => ∃ (a b : Addr) (xs : List V), vs = [.ref a, .ref b] ∧ H a = some (DiceO a) ∧ SqL K H b xs ∧ xs ≠ [] ∧ xs.length ≤ 1000000 ∧ ∀ x, x ∈ xs → Q x H

section
variable {P : Program} {w : World} {K : PySem.W.Frag} {mg : Str → Option Value} {base : Heap}
theorem sc_dice : FnScope ["_law_script", "_law_spot", "_law_cell", "_law_left"] ["_law_script", "_law_spot"] (defScope s_dice) := ⟨rfl, rfl, rfl, by decide +kernel, rfl, by decide +kernel, by decide +kernel⟩
theorem ok_dice (T : Bn mg) (D : DefAt K mg "_law_dice" s_dice) : FnAt P w K mg base 1 "_law_dice" ["_law_script", "_law_spot"] (spDice K) := by
  refine fnAt D sc_dice (fun _ _ _ _ _ _ us hl => match us, hl with | [_, _], _ => rfl) (fun vs H Q E h => ?_) fun f cdv A outer s H vs Q E hr h => ?_
  · obtain ⟨a, i, ns, rfl, _⟩ := h
    rfl
  obtain ⟨a, i, ns, rfl, hS, h0, h1, k⟩ := h
  refine ⟨_, pss_diced (pss_cons (ps_set (i := 2) sc_dice.nd rfl (Or.inl rfl) (pe_ifExp (pt_cmpR op_lt (pv 1) (pe_callB call_len_seq (by rfl) T.b_len (by decide +kernel) (pa_cons (pv 0) pa_nil)) (nomark _)) (pe_callTy call_int1 (by rfl) T.b_int (by decide +kernel) (pa_cons (pe_ix ix_list (pv 0) (pv 1) (fun _ _ => rfl)) pa_nil)) (pe_op op_add (pe_op op_mul pe_int (pv 1)) pe_int)))
    (pss_cons (ps_set (i := 3) sc_dice.nd rfl (Or.inl rfl) (pe_op op_modN (pe_callB (call_max2 rfl) (by rfl) T.b_max (by decide +kernel) (pa_cons pe_int (pa_cons (pe_op op_sub (pe_callB call_abs (by rfl) T.b_abs (by decide +kernel) (pa_cons (pv 2) pa_nil)) (pe_op op_pow pe_int pe_int)) pa_nil))) (pe_op op_mulW (pe_op op_pow pe_int pe_int) (pe_op op_pow pe_int pe_int))))
    (pss_one (ps_ret (pe_lst (pa_cons (pv 3) (pa_cons (pe_op op_add (pe_op op_add (pe_op op_add (pe_op op_mul (pe_op op_modN (pe_callB call_abs (by rfl) T.b_abs (by decide +kernel) (pa_cons (pv 2) pa_nil)) pe_int) pe_int) (pe_op op_mul pe_int (pv 1))) (pe_op op_mul pe_int (pe_callTy call_int1 (by rfl) T.b_int (by decide +kernel) (pa_cons (pe_cmpR op_lt (pv 2) pe_int (nomark _)) pa_nil)))) pe_int) (pa_cons pe_int pa_nil)))))))), ?_⟩
  refine ⟨_, rfl, _, rfl, a, _, rfl, .inl hS, _, _, rfl, rfl, _, rfl, ite2 (fun hlt => ?a) (fun hge => ?b)⟩
  case' a =>
    have hj : i < (ns.length : Int) := by
      have z := of_decide_eq_true hlt
      rw [List.length_map] at z
      exact z
    obtain ⟨j, rfl⟩ : ∃ j : Nat, i = (j : Int) := ⟨i.toNat, by omega⟩
    obtain ⟨c, hc⟩ : ∃ c, ns[j]? = some c := ⟨ns[j], List.getElem?_eq_getElem (by omega)⟩
    refine ⟨_, rfl, _, rfl, a, _, _, V.int c, rfl, rfl, hS, atI_nat (by rw [List.getElem?_map, hc]; rfl), .inl ⟨_, rfl, ?_⟩⟩
  case' b => 
    repeat' (walk_at "rd")
  all_goals
    repeat' (walk_at "rd")
    intro p hp
    exact ⟨p, _, _, _, rfl, upd_same, k p _ hp (ext_mut (ext_new (ext_refl H) hp) hp) upd_same⟩

theorem fmod_in {i n : Int} (h : 0 < n) : 0 ≤ i.fmod n ∧ i.fmod n < n := by
  rw [Int.fmod_eq_emod_of_nonneg _ (by omega)]
  exact ⟨Int.emod_nonneg _ (by omega), Int.emod_lt_of_pos _ h⟩
theorem sc_roll : FnScope ["_law_dice_here", "_law_total", "_law_found", "_law_one", "_law_two"] ["_law_dice_here", "_law_total"] (defScope s_roll) := ⟨rfl, rfl, rfl, by decide +kernel, rfl, by decide +kernel, by decide +kernel⟩
theorem ok_roll (T : Bn mg) (D : DefAt K mg "_law_roll" s_roll) : FnAt P w K mg base 1 "_law_roll" ["_law_dice_here", "_law_total"] spRoll := by
  refine fnAt D sc_roll (fun _ _ _ _ _ _ us hl => match us, hl with | [_, _], _ => rfl) (fun vs H Q E h => ?_) fun f cdv A outer s H vs Q E hr h => ?_
  · obtain ⟨a, i, rfl, _⟩ := h
    rfl
  obtain ⟨a, n, rfl, ha, h0, hz, k⟩ := h
  have n0 : n ≠ 0 := by omega
  have hd : CDivX 0 n := ⟨n0, hz.log (by decide)⟩
  have h64 : ∀ x : Int, -(2 ^ 64) < x.fmod 2305843009213693951 ∧ x.fmod 2305843009213693951 < 2 ^ 64 := fun x => by
    have := fmod_in (i := x) (n := 2305843009213693951) (by decide)
    omega
  have h64' : ∀ x : Int, -(2 ^ 64) < x.fmod 2305843009213693921 ∧ x.fmod 2305843009213693921 < 2 ^ 64 := fun x => by
    have := fmod_in (i := x) (n := 2305843009213693921) (by decide)
    omega
  refine ⟨_, pss_dice (i := 0) (pss_cons (ps_if (pt_cmpR op_gt (pe_ix ix_list (pv 0) pe_int (fun _ _ => rfl)) pe_int (nomark _)) (pss_cons (ps_set (i := 2) sc_roll.nd rfl (Or.inl rfl) (pe_op op_modN (pe_callTy call_int1 (by rfl) T.b_int (by decide +kernel) (pa_cons (pe_ix ix_list (pv 0) pe_int (fun _ _ => rfl)) pa_nil)) (pv 1)))
    (pss_cons (ps_asg (pe_op op_fdivX (pe_ix ix_list (pv 0) pe_int (fun _ _ => rfl)) (pv 1)) (pg_sub (pv 0) pe_int set_list))
    (pss_one (ps_ret (pv 2))))) pss_nil)
    (pss_cons (ps_asg (pe_op op_add (pe_ix ix_list (pv 0) pe_int (fun _ _ => rfl)) pe_int) (pg_sub (pv 0) pe_int set_list))
    (pss_cons (ps_set (i := 3) sc_roll.nd rfl (Or.inl rfl) (pe_op op_modN (pe_callTy call_int1 (by rfl) T.b_int (by decide +kernel) (pa_cons (pe_op op_add (pe_ix ix_list (pv 0) pe_int (fun _ _ => rfl)) (pe_op op_mul pe_int (pe_ix ix_list (pv 0) pe_int (fun _ _ => rfl)))) pa_nil)) pe_int))
    (pss_cons (ps_set (i := 4) sc_roll.nd rfl (Or.inl rfl) (pe_op op_add (pe_op op_mul (pe_op op_modN (pe_callTy call_int1 (by rfl) T.b_int (by decide +kernel) (pa_cons (pe_op op_add (pe_op op_mul (pv 3) (pv 3)) (pe_op op_mul pe_int (pe_ix ix_list (pv 0) pe_int (fun _ _ => rfl)))) pa_nil)) pe_int) pe_int) (pv 3)))
    (pss_one (ps_ret (pe_op op_modN (pe_callTy call_int1 (by rfl) T.b_int (by decide +kernel) (pa_cons (pe_op op_fdivX (pv 4) pe_int) pa_nil)) (pv 1)))))))), ?_⟩
  refine ⟨a, rfl, ha, fun l z c => ?_⟩
  have back : ∀ o, upd (upd (upd H a (d3 l z c)) a o) a (DiceO a) = H := fun o => by
    rw [upd_upd, upd_upd]
    funext b
    by_cases hb : b = a
    · rw [hb, upd_same, ha]
    · rw [upd_ne hb]
  repeat' (walk_at "rd")
  refine ite2 (fun h1 => ?_) (fun h2 => ?_)
  · have hdl : CDivX l n := hd
    repeat' (walk_at "rd")
    exact ⟨⟨_, _, _, upd_same⟩, (by
      show Q _ (upd (upd (upd H a _) a _) a _)
      rw [back]
      exact k _ (fmod_in h0).1 (fmod_in h0).2)⟩
  · repeat' (first | walk_at "rd" | refine ⟨.inl (h64 _), ?_⟩  | refine ⟨.inl (h64' _), ?_⟩ | refine ⟨(show CDivX _ 65536 from ⟨by decide, by decide +kernel⟩), ?_⟩ | fail)
    exact ⟨⟨_, _, _, upd_same⟩, (by
      show Q _ (upd (upd (upd H a _) a _) a _)
      rw [back]
      exact k _ (fmod_in h0).1 (fmod_in h0).2)⟩
theorem sc_pick : FnScope ["_law_dice_here", "_law_items"] ["_law_dice_here", "_law_items"] (defScope s_pick) := ⟨rfl, rfl, rfl, by decide +kernel, rfl, by decide +kernel, by decide +kernel⟩
theorem ok_pick (T : Bn mg) (D : DefAt K mg "_law_pick" s_pick) (F__law_roll : FnAt P w K mg base 1 "_law_roll" ["_law_dice_here", "_law_total"] spRoll) : FnAt P w K mg base 2 "_law_pick" ["_law_dice_here", "_law_items"] (spPick K) := by
  refine fnAt D sc_pick (fun _ _ _ _ _ _ us hl => match us, hl with | [_, _], _ => rfl) (fun vs H Q E h => ?_) fun f cdv A outer s H vs Q E hr h => ?_
  · obtain ⟨a, b, xs, rfl, _⟩ := h
    rfl
  obtain ⟨a, b, xs, rfl, ha, hb, hne, hl, k⟩ := h
  have hp : 0 < xs.length := List.length_pos_iff.mpr hne
  refine ⟨_, pss_one (ps_ret (pe_ix ix_list (pv 1) (callA F__law_roll (hr.mono (by decide)) rfl (pa_cons (pv 0) (pa_cons (pe_callB call_len_seq (by rfl) T.b_len (by decide +kernel) (pa_cons (pv 1) pa_nil)) pa_nil))) (fun _ _ => rfl))), ?_⟩
  refine ⟨_, rfl, _, rfl, _, rfl, b, xs, rfl, .inl hb, a, _, rfl, ha, by omega, ?_, fun r h0 h1 => ?_⟩
  · exact Nat.lt_of_le_of_lt (show ((xs.length : Int)).natAbs ≤ 1000000 by omega) (by decide +kernel)
  obtain ⟨j, rfl⟩ : ∃ j : Nat, r = (j : Int) := ⟨r.toNat, by omega⟩
  have hj : j < xs.length := by omega
  exact ⟨b, xs, _, xs[j], rfl, rfl, hb, atI_nat (List.getElem?_eq_getElem hj), k _ (List.getElem_mem hj)⟩
end
end My
namespace My
open PySem PySem.Spec PyProof.Rows L2
section
variable {K : PySem.W.Frag} {a D : Addr} {xs : List V} {z : Str} {tt : TT} {te : TE} {vs : List Nat} {σ : L2.St} {H1 : Hp} {j : Nat}
/-- the signs of a text -/
def signs (z : Str) : List V := z.cps.toList.map fun c => .str ⟨#[c]⟩
theorem signs_at {z : Str} {i c : Nat} (h : z.cps[i]? = some c) : (signs z)[i]? = some (.str ⟨#[c]⟩) := by
  unfold signs
  rw [List.getElem?_map, Array.getElem?_toList, h]
  rfl
theorem signs_len (z : Str) : (signs z).length = z.cps.size := by simp [signs]
theorem signs_mem {z : Str} {x : V} (h : x ∈ signs z) : ∃ c, c ∈ z.cps.toList ∧ x = .str ⟨#[c]⟩ := by
  obtain ⟨c, hc, e⟩ := List.mem_map.mp h
  exact ⟨c, hc, e.symm⟩
theorem map_str {Qd : Hp → Prop} (f : Nat → V → V) (hD : H1 D = none) (hz : z.cps.size ≤ 1000000) (hw : ∀ x, wipe ((wipe σ vs).set j (some x)) vs = wipe σ vs)
    (he : ∀ i x H', (signs z)[i]? = some x → Ext H1 H' → ∀ Q' : VK, (∀ H'', Ext H' H'' → Q' (f i x) H'') → te ((wipe σ vs).set j (some x)) H' Q') (hd : ∀ H', Ext H1 H' → H' D = some (.lst ((signs z).mapIdx f)) → Qd H') :
    Block (Its z) (gName j) tYes te vs σ H1 D Qd :=
  lc_it walk_str (Made H1 D f (signs z)) ⟨hD, ext_new (ext_refl H1) hD, upd_same⟩ (fun _ _ _ _ => trivial) (fun i x H H' hi p y => by
      obtain ⟨rfl, c, hc, rfl⟩ := y
      have q := signs_at hc
      exact ⟨hw _, made_turn (by rw [signs_len]; exact hz) q p (he i _ _ q p.2.1)⟩)
    fun H' p => hd H' p.2.1 (by
      have q := p.2.2
      rw [← signs_len, List.take_length] at q
      exact q)
/-- what a comprehension with a known test has kept behind i turns -/
def Filt (H1 : Hp) (D : Addr) (p : V → Bool) (xs : List V) (i : Nat) (H' : Hp) : Prop := H1 D = none ∧ Ext H1 H' ∧ H' D = some (.lst ((xs.take i).filter p))
theorem filt_turn {p : V → Bool} {i : Nat} {x : V} {H' : Hp} {σ2 : L2.St} (hz : xs.length ≤ 1000000) (hi : xs[i]? = some x) (q : Filt H1 D p xs i H') (ht : ∀ Q' : Bool → Hp → Prop, (∀ H'', Ext H' H'' → Q' (p x) H'') → tt σ2 H' Q') (he : ∀ (H : Hp) (Q' : VK), Q' x H → te σ2 H Q') :
    tt σ2 H' fun b H3 => if b = true then te σ2 H3 fun y H4 => ∃ acc, H4 D = some (.lst acc) ∧ acc.length < sizeLine ∧ Filt H1 D p xs (i + 1) (upd H4 D (.lst (acc ++ [y]))) else Filt H1 D p xs (i + 1) H3 := by
  obtain ⟨p1, p2, p3⟩ := q
  refine ht _ fun H'' e => ?_
  by_cases hp : p x = true
  · rw [if_pos hp]
    refine he _ _ ⟨_, e _ _ p3, ?_, p1, ext_mut (p2.trans e) p1, ?_⟩
    · have h1 : ((xs.take i).filter p).length ≤ (xs.take i).length := List.length_filter_le _ _
      rw [List.length_take] at h1
      exact Nat.lt_of_le_of_lt (Nat.le_trans h1 (Nat.le_trans (Nat.min_le_right _ _) hz)) (by decide)
    · rw [upd_same, take_next hi, List.filter_append, List.filter_cons, if_pos hp]
      rfl
  · rw [if_neg hp]
    refine ⟨p1, p2.trans e, ?_⟩
    rw [take_next hi, List.filter_append, List.filter_cons, if_neg hp]
    have := e _ _ p3
    simpa using this
theorem filt_list {Qd : Hp → Prop} (p : V → Bool) (hx : SqL K H1 a xs) (hD : H1 D = none) (hz : xs.length ≤ 1000000) (hw : ∀ x, wipe ((wipe σ vs).set j (some x)) vs = wipe σ vs)
    (ht : ∀ (i : Nat) x H', xs[i]? = some x → Ext H1 H' → ∀ Q' : Bool → Hp → Prop, (∀ H'', Ext H' H'' → Q' (p x) H'') → tt ((wipe σ vs).set j (some x)) H' Q') (he : ∀ x (H : Hp) (Q' : VK), Q' x H → te ((wipe σ vs).set j (some x)) H Q')
    (hd : ∀ H', Ext H1 H' → H' D = some (.lst (xs.filter p)) → Qd H') : Block (Itl K a) (gName j) tt te vs σ H1 D Qd :=
  lc_list (xs := xs) (Filt H1 D p xs) ⟨hD, ext_new (ext_refl H1) hD, upd_same⟩ (fun i H' _ q => hx.ext q.2.1) (fun i x H' hi q => ⟨hw x, filt_turn hz hi q (ht i x H' hi q.2.1) (he x)⟩)
    fun H' q => hd H' q.2.1 (by have z := q.2.2; rw [List.take_length] at z; exact z)
theorem filt_tup {Qd : Hp → Prop} (p : V → Bool) (hx : SqT K H1 a xs) (hD : H1 D = none) (hz : xs.length ≤ 1000000) (hw : ∀ x, wipe ((wipe σ vs).set j (some x)) vs = wipe σ vs)
    (ht : ∀ (i : Nat) x H', xs[i]? = some x → Ext H1 H' → ∀ Q' : Bool → Hp → Prop, (∀ H'', Ext H' H'' → Q' (p x) H'') → tt ((wipe σ vs).set j (some x)) H' Q') (he : ∀ x (H : Hp) (Q' : VK), Q' x H → te ((wipe σ vs).set j (some x)) H Q')
    (hd : ∀ H', Ext H1 H' → H' D = some (.lst (xs.filter p)) → Qd H') : Block (Itt K a) (gName j) tt te vs σ H1 D Qd :=
  lc_tup (xs := xs) (Filt H1 D p xs) ⟨hD, ext_new (ext_refl H1) hD, upd_same⟩ (fun i H' _ q => hx.ext q.2.1) (fun i x H' hi q => ⟨hw x, filt_turn hz hi q (ht i x H' hi q.2.1) (he x)⟩)
    fun H' q => hd H' q.2.1 (by have z := q.2.2; rw [List.take_length] at z; exact z)
theorem filt_str {Qd : Hp → Prop} (p : V → Bool) (hD : H1 D = none) (hz : z.cps.size ≤ 1000000) (hw : ∀ x, wipe ((wipe σ vs).set j (some x)) vs = wipe σ vs)
    (ht : ∀ (i : Nat) x H', (signs z)[i]? = some x → Ext H1 H' → ∀ Q' : Bool → Hp → Prop, (∀ H'', Ext H' H'' → Q' (p x) H'') → tt ((wipe σ vs).set j (some x)) H' Q') (he : ∀ x (H : Hp) (Q' : VK), Q' x H → te ((wipe σ vs).set j (some x)) H Q')
    (hd : ∀ H', Ext H1 H' → H' D = some (.lst ((signs z).filter p)) → Qd H') : Block (Its z) (gName j) tt te vs σ H1 D Qd :=
  lc_it walk_str (Filt H1 D p (signs z)) ⟨hD, ext_new (ext_refl H1) hD, upd_same⟩ (fun _ _ _ _ => trivial) (fun i x H H' hi q y => by
      obtain ⟨rfl, c, hc, rfl⟩ := y
      have e := signs_at hc
      exact ⟨hw _, filt_turn (by rw [signs_len]; exact hz) e q (ht i _ _ e q.2.1) (he _)⟩)
    fun H' q => hd H' q.2.1 (by
      have e := q.2.2
      rw [← signs_len, List.take_length] at e
      exact e)
/-- a comprehension whose test is not told: what is kept is of the source -/
def Some' (H1 : Hp) (D : Addr) (xs : List V) (i : Nat) (H' : Hp) : Prop := H1 D = none ∧ Ext H1 H' ∧ ∃ acc, H' D = some (.lst acc) ∧ acc.length ≤ i ∧ ∀ x ∈ acc, x ∈ xs
theorem some_list {Qd : Hp → Prop} (hx : SqL K H1 a xs) (hD : H1 D = none) (hz : xs.length ≤ 1000000) (hw : ∀ x, wipe ((wipe σ vs).set j (some x)) vs = wipe σ vs)
    (ht : ∀ (i : Nat) x H', xs[i]? = some x → Ext H1 H' → ∀ Q' : Bool → Hp → Prop, (∀ b H'', Ext H' H'' → Q' b H'') → tt ((wipe σ vs).set j (some x)) H' Q') (he : ∀ x (H : Hp) (Q' : VK), Q' x H → te ((wipe σ vs).set j (some x)) H Q')
    (hd : ∀ H' acc, Ext H1 H' → H' D = some (.lst acc) → acc.length ≤ xs.length → (∀ x ∈ acc, x ∈ xs) → Qd H') : Block (Itl K a) (gName j) tt te vs σ H1 D Qd :=
  lc_list (xs := xs) (Some' H1 D xs) ⟨hD, ext_new (ext_refl H1) hD, [], upd_same, Nat.le_refl _, fun _ h => by cases h⟩ (fun i H' _ q => hx.ext q.2.1) (fun i x H' hi q => ⟨hw x, by
      obtain ⟨p1, p2, acc, p3, p4, p5⟩ := q
      have hlt := (List.getElem?_eq_some_iff.mp hi).1
      refine ht i x H' hi p2 _ fun b H'' e => ?_
      by_cases hb : b = true
      · rw [if_pos hb]
        refine he _ _ _ ⟨acc, e _ _ p3, Nat.lt_of_le_of_lt (show acc.length ≤ 1000000 by omega) (by decide), p1, ext_mut (p2.trans e) p1, acc ++ [x], upd_same, by rw [List.length_append]; exact Nat.succ_le_succ p4, fun y hy => ?_⟩
        rcases List.mem_append.mp hy with hy | hy
        · exact p5 y hy
        · rw [List.mem_singleton.mp hy]
          exact List.mem_of_getElem? hi
      · rw [if_neg hb]
        exact ⟨p1, p2.trans e, acc, e _ _ p3, Nat.le_succ_of_le p4, p5⟩⟩)
    fun H' ⟨_, e, acc, q, hl, hm⟩ => hd H' acc e q hl hm
theorem map_range {Qd : Hp → Prop} {n : Nat} (g : Nat → V) (hD : H1 D = none) (hz : n ≤ 1000000) (hw : ∀ x, wipe ((wipe σ vs).set j (some x)) vs = wipe σ vs)
    (he : ∀ i H', i < n → Ext H1 H' → ∀ Q' : VK, (∀ H'', Ext H' H'' → Q' (g i) H'') → te ((wipe σ vs).set j (some (.int (0 + i)))) H' Q')
    (hd : ∀ H', Ext H1 H' → H' D = some (.lst ((List.range n).map g)) → Qd H') : Block (Itr 0 n) (gName j) tYes te vs σ H1 D Qd :=
  made_range (fun acc _ => acc = (List.range acc.length).map g) (fun _ _ _ p _ _ => p) hD hz hw (fun _ => rfl) (fun i H' acc hi e hl pv Q' k => he i H' hi e Q' fun H'' e2 => k _ _ e2 (by
      rw [List.length_append, List.length_singleton, List.range_succ, List.map_append, ← pv, hl]
      rfl))
    fun H' acc e q hl pv => hd H' e (by rw [q]; rw [hl] at pv; rw [pv])
end
end My
namespace My
open PySem PySem.Spec PyProof.Rows L2
section
variable {X : Cx}
theorem base_big (ok : X.Ok) : sysModules < X.base.objs.size := by
  obtain ⟨o, es, ep, e, _⟩ := ok.mod.glob
  exact Nat.lt_trans (by decide) (Heap.lt_size e)
theorem top_ne {pins : List (Addr × Obj)} {σ : L2.St} {H : Hp} {s : Shared} (I : Inv X pins σ H s) : s.heap.objs.size ≠ sysModules := by
  have a := base_big I.ok
  exact Nat.ne_of_gt (Nat.lt_of_lt_of_le a (Nat.le_trans I.ok.bsz I.sz))
/-- [a, b], not at the table of modules -/
theorem pe_lstN {es : List Expr} {t : TA} {pos : Pos} (h : PA X es t) : PE X (.List es pos) (fun σ H Q => t σ H fun xs H1 => xs.length ≤ sizeLine ∧ ∀ p, H1 p = none → p ≠ sysModules → Q (.ref p) (upd H1 p (.lst xs))) := by
  refine ⟨fun pins s σ H Q I hq => wpAny_List_spliced (thn (h.run pos pins s σ H _ I hq) fun us s1 ⟨xs, H1, I1, r, z, q⟩ => ⟨by rw [← r.length]; exact z, ?_⟩)⟩
  exact ⟨.ref s1.heap.objs.size, _, I1.lnew (t' := s1.toks) r z, rfl, q _ I1.fresh (top_ne I1)⟩
/-- list + list, likewise -/
theorem op_catN : OpR X (binaryOp .Add) (fun x y H Q => ∃ l b xs zs, (x = .ref l ∧ y = .ref b) ∧ (H l = some (.lst xs) ∧ H b = some (.lst zs)) ∧ xs.length + zs.length ≤ sizeLine ∧ ∀ p, H p = none → p ≠ sysModules → Q (.ref p) (upd H p (.lst (xs ++ zs)))) := by
  intro pins s σ H x y v u Q I rx ry h
  obtain ⟨l, b, xs, zs, ⟨rfl, rfl⟩, ⟨hl, hb⟩, hz, q⟩ := h
  cases rx
  cases ry
  obtain ⟨z1, is, n1, r1, e1, f1⟩ := I.lstM hl
  obtain ⟨z2, js, n2, r2, e2, f2⟩ := I.lstM hb
  refine PySem.P.add_list f1 f2 ?_ (by rw [List.size_toArray, List.size_toArray]; omega)
  rw [show is.toArray ++ js.toArray = (is ++ js).toArray by simp]
  exact ⟨.ref _, _, I.lnew (t' := s.toks) (r1.append r2) (by rw [List.length_append]; omega), rfl, q _ I.fresh (top_ne I)⟩
end
/-! ### data with a dict in it -/
mutual
inductive Rp (H : Hp) : V → PyData → Prop
  | non : Rp H .non .none
  | bl (b : Bool) : Rp H (.bl b) (.bool b)
  | int (i : Int) : Rp H (.int i) (.int i)
  | str (x : Str) : Rp H (.str x) (.str x)
  | lst {a : Addr} {xs : List V} {ds : List PyData} : H a = some (.lst xs) → a ≠ sysModules → RpAll H xs ds → Rp H (.ref a) (.list ds)
  | tup {a : Addr} {xs : List V} {ds : List PyData} : H a = some (.tup xs) → RpAll H xs ds → Rp H (.ref a) (.tuple ds)
  | dic {a : Addr} {i j : Int} : H a = some (.dK [(.inl i, .int j)]) → Rp H (.ref a) (.dict [(.int i, .int j)])
inductive RpAll (H : Hp) : List V → List PyData → Prop
  | nil : RpAll H [] []
  | cons {v : V} {vs : List V} {d : PyData} {ds : List PyData} : Rp H v d → RpAll H vs ds → RpAll H (v :: vs) (d :: ds)
end
mutual
theorem Rp.ext {H H' : Hp} (e : Ext H H') : ∀ (d : PyData) (v : V), Rp H v d → Rp H' v d
  | .none, _, h => by cases h; exact .non
  | .bool b, _, h => by cases h; exact .bl b
  | .int i, _, h => by cases h; exact .int i
  | .str x, _, h => by cases h; exact .str x
  | .list ds, _, h => by
    cases h with
    | lst a n r => exact .lst (e _ _ a) n (RpAll.ext e ds _ r)
  | .tuple ds, _, h => by
    cases h with
    | tup a r => exact .tup (e _ _ a) (RpAll.ext e ds _ r)
  | .dict _, _, h => by
    cases h with
    | dic a => exact .dic (e _ _ a)
theorem RpAll.ext {H H' : Hp} (e : Ext H H') : ∀ (ds : List PyData) (vs : List V), RpAll H vs ds → RpAll H' vs ds
  | [], _, h => by cases h; exact .nil
  | d :: ds, _, h => by
    cases h with
    | cons a r => exact .cons (Rp.ext e d _ a) (RpAll.ext e ds _ r)
end
section
variable {X : Cx} {pins : List (Addr × Obj)} {σ : L2.St} {H : Hp} {s : Shared}
mutual
theorem Rp.reads (I : Inv X pins σ H s) : ∀ (d : PyData) (v : V) (u : Value), Rp H v d → RelV v u → ∃ as, Reads s.heap u d as ∧ sysModules ∉ as
  | .none, _, _, h, r => by
    cases h; cases r
    exact ⟨_, Reads.none, List.not_mem_nil⟩
  | .bool b, _, _, h, r => by
    cases h; cases r
    exact ⟨_, Reads.bool b, List.not_mem_nil⟩
  | .int i, _, _, h, r => by
    cases h; obtain ⟨t, rfl⟩ := r
    exact ⟨_, Reads.int i t, List.not_mem_nil⟩
  | .str x, _, _, h, r => by
    cases h; obtain ⟨t, rfl⟩ := r
    exact ⟨_, Reads.str x t, List.not_mem_nil⟩
  | .list ds, _, _, h, r => by
    cases h with
    | lst ha hn hall =>
      cases r
      obtain ⟨its, rv, ⟨o, n, ho, hc, _, hd⟩, _⟩ := I.list (SqL.of ha)
      obtain ⟨as, hr, na⟩ := RpAll.reads I ds _ its hall rv
      refine ⟨_, Reads.list ho hc hd hr, fun z => ?_⟩
      rcases List.mem_cons.mp z with z | z
      · exact hn z.symm
      · exact na z
  | .tuple ds, _, _, h, r => by
    cases h with
    | tup ha hall =>
      cases r
      obtain ⟨its, rv, ⟨o, ho, hc, n, hd⟩, _⟩ := I.tuple (SqT.of ha)
      obtain ⟨as, hr, na⟩ := RpAll.reads I ds _ its hall rv
      exact ⟨_, Reads.tuple ho hc hd hr, na⟩
  | .dict _, _, _, h, r => by
    cases h with
    | @dic a i j ha =>
      cases r
      obtain ⟨_, sm, vs, kv, o, es, ep, ho, hx, hd, hk, hp, hv⟩ := dk_of I.hok ha
      cases kv with
      | @cons _ q _ qs hq ht =>
        cases ht
        obtain ⟨k1, v1⟩ := q
        obtain ⟨e1, r1⟩ := hq
        dsimp only at e1 r1
        subst e1
        obtain ⟨t1, rfl⟩ := r1
        generalize he : es.toList = l at hp
        cases hp with
        | @cons en _ _ _ hkey hval hrest =>
          cases hrest
          have hkey' : keyIs (.inl i) en.key = true := hkey
          obtain ⟨i', t', e2, e3⟩ | ⟨x, t', e2, e3⟩ := keyIs_shape hkey'
          · cases e2
            refine ⟨a :: ([] ++ []) ++ ([] ++ []), Reads.dict ho hx.1 hd (by rw [he]; exact .cons (by dsimp only; rw [e3]; exact Reads.int _ _) .nil) (by rw [he]; exact .cons (by dsimp only; rw [hval]; exact Reads.int _ _) .nil), fun z => ?_⟩
            have z' : sysModules = a := by simpa using z
            rw [z'] at sm
            simp at sm
          · cases e2
theorem RpAll.reads (I : Inv X pins σ H s) : ∀ (ds : List PyData) (vs : List V) (us : List Value), RpAll H vs ds → Vals vs us → ∃ as, ReadsAll s.heap us ds as ∧ sysModules ∉ as
  | [], _, _, h, r => by
    cases h; cases r
    exact ⟨_, ReadsAll.nil, List.not_mem_nil⟩
  | d :: ds, _, _, h, r => by
    cases h with
    | cons h1 h2 =>
      cases r with
      | cons r1 r2 =>
        obtain ⟨as, q1, n1⟩ := Rp.reads I d _ _ h1 r1
        obtain ⟨bs, q2, n2⟩ := RpAll.reads I ds _ _ h2 r2
        exact ⟨_, ReadsAll.cons q1 q2, fun z => (List.mem_append.mp z).elim n1 n2⟩
end
end
/-- the text of data -/
def repT : PyData → Str
  | .none => "None"
  | .bool b => if b then "True" else "False"
  | .int i => toString i
  | .str x => reprText x
  | d => d.shown
def okT : PyData → Bool
  | .int i => i.natAbs.log2 < 1920
  | .str x => (reprText x).length ≤ sizeLine
  | .none => true
  | .bool _ => true
  | d => d.showable && decide (d.depth < 20) && decide (d.shown.length ≤ sizeLine)
section
variable {X : Cx}
def rReprX : List V → Hp → VK → Prop := fun vs H Q => ∃ v d, vs = [v] ∧ Rp H v d ∧ okT d = true ∧ Q (.str (repT d)) H
theorem cr_reprX (hu : X.A.units + 64 < cLine) (hg : X.A.guards = some []) : CallR X (.builtin "repr") rReprX := by
  intro pins s σ H vs us Q I r h
  obtain ⟨v, d, rfl, hv, ok, q⟩ := h
  cases r with
  | cons r1 r =>
    rename_i u' us'
    cases r
    have big : ∀ (a : Addr) (e : PyData), v = .ref a → d = e → (e.showable && decide (e.depth < 20) && decide (e.shown.length ≤ sizeLine)) = true → repT e = e.shown → wpAny (model X.prog X.w) X.A (call (.builtin "repr") [u']) (EP X pins σ Q) X.xe s := fun a e ev ed ok2 et => by
      subst ev
      subst ed
      obtain ⟨as, hrd, na⟩ := Rp.reads I d _ _ hv r1
      cases r1
      simp only [Bool.and_eq_true, decide_eq_true_eq] at ok2
      rw [et] at q
      refine repr_of_reads' hrd ok2.1.1 (fun _ => na) hg (by have := ok2.1.2; omega) (fun _ _ e => e) (fun h' u tk hk => ?_) ok2.2
      exact ⟨.str _, H, I.kept hk, ⟨_, rfl⟩, q⟩
    cases hv with
    | non =>
      cases r1
      exact PySem.P.repr_of_none ⟨.str _, H, I.tok _, ⟨_, rfl⟩, q⟩
    | bl b =>
      cases r1
      exact PySem.P.repr_of_bool ⟨.str _, H, I.tok _, ⟨_, rfl⟩, q⟩
    | int i =>
      obtain ⟨t, rfl⟩ := r1
      exact PySem.P.repr_of_int (of_decide_eq_true ok) ⟨.str _, H, I.tok _, ⟨_, rfl⟩, q⟩
    | str x =>
      obtain ⟨t, rfl⟩ := r1
      exact PySem.P.repr_of_str (h := ⟨.str _, H, I.tok _, ⟨_, rfl⟩, q⟩) (hsz := of_decide_eq_true ok)
    | lst ha hn hall => exact big _ _ rfl rfl ok rfl
    | tup ha hall => exact big _ _ rfl rfl ok rfl
    | dic ha => exact big _ _ rfl rfl ok rfl
end
end My
namespace My
open PySem PySem.Spec PyProof.Rows L2
abbrev s_lletters : Stmt := top 24
theorem sc_lletters : FnScope ["_law_error", "_law_found"] ["_law_error"] (defScope s_lletters) := ⟨rfl, rfl, rfl, by decide +kernel, rfl, by decide +kernel, by decide +kernel⟩
abbrev s_lkinds : Stmt := top 25
theorem sc_lkinds : FnScope ["_law_error", "_law_found"] ["_law_error"] (defScope s_lkinds) := ⟨rfl, rfl, rfl, by decide +kernel, rfl, by decide +kernel, by decide +kernel⟩
abbrev s_lall : Stmt := top 26
theorem sc_lall : FnScope ["_law_error"] ["_law_error"] (defScope s_lall) := ⟨rfl, rfl, rfl, by decide +kernel, rfl, by decide +kernel, by decide +kernel⟩
abbrev s_lmade : Stmt := top 23
theorem sc_lmade : FnScope ["_law_found"] [] (defScope s_lmade) := ⟨rfl, rfl, rfl, by decide +kernel, rfl, by decide +kernel, by decide +kernel⟩
abbrev veT : List Value := [.type "ValueError", .type "Exception", .type "BaseException", .type "object"]
/-- whether the class c is the class j or over it -/
def subC (c j : Nat) : Bool := c == j || (j == 1 && decide (c ≤ 13))
def subB : Nat → Nat → Bool
  | 0, c => decide (c ≤ 13)
  | 1, c => c == 15
  | 2, c => c == 14
  | 3, c => c == 14 || c == 15
  | 4, c => c == 16
  | 5, c => c == 17
  | _, c => c == 17 || c == 18
def subT : List (String × (Nat → Bool)) := [("ValueError", subB 0), ("KeyError", subB 1), ("IndexError", subB 2), ("LookupError", subB 3), ("RuntimeError", subB 4), ("OverflowError", subB 5), ("ArithmeticError", subB 6)]
structure Cls (K : PySem.W.Frag) (mg : Str → Option Value) (cs : Nat → Addr) : Prop where
  g_PieceError : mg "PieceError" = some (.ref (cs 1))
  g_InvalidNumber : mg "InvalidNumber" = some (.ref (cs 2))
  g_InvalidOrder : mg "InvalidOrder" = some (.ref (cs 3))
  g_InvalidExchange : mg "InvalidExchange" = some (.ref (cs 4))
  g_InvalidLengths : mg "InvalidLengths" = some (.ref (cs 5))
  g_InvalidPoint : mg "InvalidPoint" = some (.ref (cs 6))
  g_InvalidCourse : mg "InvalidCourse" = some (.ref (cs 7))
  g_InvalidReading : mg "InvalidReading" = some (.ref (cs 8))
  g_InvalidTrace : mg "InvalidTrace" = some (.ref (cs 9))
  g_InvalidHeights : mg "InvalidHeights" = some (.ref (cs 10))
  g_InvalidProgram : mg "InvalidProgram" = some (.ref (cs 11))
  g_InvalidOperation : mg "InvalidOperation" = some (.ref (cs 12))
  g_ParseError : mg "ParseError" = some (.ref (cs 13))
  g_InvalidCount : mg "InvalidCount" = some (.ref (cs 14))
  g_UnknownName : mg "UnknownName" = some (.ref (cs 15))
  g_NothingToUndo : mg "NothingToUndo" = some (.ref (cs 16))
  g_TooMany : mg "TooMany" = some (.ref (cs 17))
  g_Refused : mg "Refused" = some (.ref (cs 18))
  x_PieceError : PySem.W.excIn K (cs 1) veT "ValueError.__new__" = true
  k_PieceError : PySem.W.keepIn K (.ref (cs 1)) = true
  x_InvalidNumber : PySem.W.excIn K (cs 2) veT "ValueError.__new__" = true
  k_InvalidNumber : PySem.W.keepIn K (.ref (cs 2)) = true
  x_InvalidOrder : PySem.W.excIn K (cs 3) veT "ValueError.__new__" = true
  k_InvalidOrder : PySem.W.keepIn K (.ref (cs 3)) = true
  x_InvalidExchange : PySem.W.excIn K (cs 4) veT "ValueError.__new__" = true
  k_InvalidExchange : PySem.W.keepIn K (.ref (cs 4)) = true
  x_InvalidLengths : PySem.W.excIn K (cs 5) veT "ValueError.__new__" = true
  k_InvalidLengths : PySem.W.keepIn K (.ref (cs 5)) = true
  x_InvalidPoint : PySem.W.excIn K (cs 6) veT "ValueError.__new__" = true
  k_InvalidPoint : PySem.W.keepIn K (.ref (cs 6)) = true
  x_InvalidCourse : PySem.W.excIn K (cs 7) veT "ValueError.__new__" = true
  k_InvalidCourse : PySem.W.keepIn K (.ref (cs 7)) = true
  x_InvalidReading : PySem.W.excIn K (cs 8) veT "ValueError.__new__" = true
  k_InvalidReading : PySem.W.keepIn K (.ref (cs 8)) = true
  x_InvalidTrace : PySem.W.excIn K (cs 9) veT "ValueError.__new__" = true
  k_InvalidTrace : PySem.W.keepIn K (.ref (cs 9)) = true
  x_InvalidHeights : PySem.W.excIn K (cs 10) veT "ValueError.__new__" = true
  k_InvalidHeights : PySem.W.keepIn K (.ref (cs 10)) = true
  x_InvalidProgram : PySem.W.excIn K (cs 11) veT "ValueError.__new__" = true
  k_InvalidProgram : PySem.W.keepIn K (.ref (cs 11)) = true
  x_InvalidOperation : PySem.W.excIn K (cs 12) veT "ValueError.__new__" = true
  k_InvalidOperation : PySem.W.keepIn K (.ref (cs 12)) = true
  b_ValueError : mg "ValueError" = none
  b_KeyError : mg "KeyError" = none
  b_IndexError : mg "IndexError" = none
  b_LookupError : mg "LookupError" = none
  b_RuntimeError : mg "RuntimeError" = none
  b_OverflowError : mg "OverflowError" = none
  b_ArithmeticError : mg "ArithmeticError" = none
  ty : ∀ c, 1 ≤ c → c ≤ 18 → PySem.W.typeIn K (.ref (cs c)) = some (.type "type")
  ec : ∀ c, 1 ≤ c → c ≤ 18 → ErrC K (cs c)
  ki : ∀ c, 1 ≤ c → c ≤ 18 → ∀ j, 1 ≤ j → j ≤ 18 → PySem.W.kitOne K (.ref (cs c)) (.ref (cs j)) = some (subC c j)
  kt : ∀ c, 1 ≤ c → c ≤ 18 → ∀ p ∈ subT, PySem.W.kitOne K (.ref (cs c)) (.type p.1) = some (p.2 c)

def tk (z : Str) (b : Bool) : Str := if b then z else Str.empty
def letT (c : Nat) : Str := ((((((((((tk "a" (subC c 2) ++ tk "b" (subC c 3)) ++ tk "c" (subC c 4)) ++ tk "d" (subC c 5)) ++ tk "e" (subC c 6)) ++ tk "f" (subC c 7)) ++ tk "g" (subC c 8)) ++ tk "h" (subC c 9)) ++ tk "i" (subC c 10)) ++ tk "j" (subC c 11)) ++ tk "k" (subC c 12))
def kinT (c : Nat) : Str := (((((((((((((tk "P" (subC c 13) ++ tk "U" (subC c 15)) ++ tk "C" (subC c 14)) ++ tk "Z" (subC c 16)) ++ tk "M" (subC c 17)) ++ tk "R" (subC c 18)) ++ tk " piece" (subC c 1)) ++ tk " value" (subB 0 c)) ++ tk " key" (subB 1 c)) ++ tk " index" (subB 2 c)) ++ tk " lookup" (subB 3 c)) ++ tk " runtime" (subB 4 c)) ++ tk " overflow" (subB 5 c)) ++ tk " arithmetic" (subB 6 c))
theorem letT_len : ∀ c, c < 19 → (letT c).length ≤ 11 ∧ (kinT c).length ≤ 60 := by decide +kernel
theorem tkl {z : Str} {b : Bool} : (if b = true then z else Str.empty).length ≤ z.length := by
  cases b
  · exact Nat.zero_le _
  · exact Nat.le_refl _
theorem appl {x y : Str} {m n : Nat} (a : x.length ≤ m) (b : y.length ≤ n) : (x ++ y).length ≤ m + n := by
  have e : (x ++ y).length = x.length + y.length := by
    show (x.cps ++ y.cps).size = _
    rw [Array.size_append]
    rfl
  omega
local macro_rules | `(tactic| walk_at "ln") => `(tactic| (refine' len_ok (Nat.le_trans (Nat.add_le_add ?a ?b) ?c); (case a => (repeat (first | exact tkl | apply appl))); (case b => exact tkl); (case c => decide +kernel)))
def bn (k : Nat) : String := (subT.map (·.1)).getD k ""
def spE (base : Heap) (cs : Nat → Addr) (f : Nat → Str) : Sp := fun vs H Q _ => ∃ (a : Addr) (c : Nat), vs = [.ref a] ∧ 1 ≤ c ∧ c ≤ 18 ∧ HeldE base H a (cs c) ∧ Q (.str (f c)) H
section
variable {P : Program} {w : World} {K : PySem.W.Frag} {mg : Str → Option Value} {base : Heap} {cs : Nat → Addr}
theorem ok_lletters (T : Bn mg) (G : Cls K mg cs) (D : DefAt K mg "_law_letters" s_lletters) : FnAt P w K mg base 1 "_law_letters" ["_law_error"] (spE base cs letT) := by
  refine fnAt D sc_lletters (fun _ _ _ _ _ _ us hl => match us, hl with | [_], _ => rfl) (fun vs H Q E h => ?_) fun f cdv A outer s H vs Q E hr h => ?_
  · obtain ⟨a, c, rfl, _⟩ := h
    rfl
  obtain ⟨a, c, rfl, h1, h2, held, k⟩ := h
  have hc : c < 19 := by omega
  refine ⟨_, (pss_cons (ps_set (i := 1) sc_lletters.nd rfl (Or.inl rfl) (pe_op op_add_str (pe_op op_taken pe_str (pe_callTy call_int1 (by rfl) T.b_int (by decide +kernel) (pa_cons (pe_callB call_isH (by rfl) T.b_isinstance (by decide +kernel) (pa_cons (pv 0) (pa_cons (pe_glob (v := .ref (cs 2)) rfl G.g_InvalidNumber rfl) pa_nil))) pa_nil))) (pe_op op_taken pe_str (pe_callTy call_int1 (by rfl) T.b_int (by decide +kernel) (pa_cons (pe_callB call_isH (by rfl) T.b_isinstance (by decide +kernel) (pa_cons (pv 0) (pa_cons (pe_glob (v := .ref (cs 3)) rfl G.g_InvalidOrder rfl) pa_nil))) pa_nil)))))
    (pss_cons (ps_set (i := 1) sc_lletters.nd rfl (Or.inl rfl) (pe_op op_add_str (pe_op op_add_str (pv 1) (pe_op op_taken pe_str (pe_callTy call_int1 (by rfl) T.b_int (by decide +kernel) (pa_cons (pe_callB call_isH (by rfl) T.b_isinstance (by decide +kernel) (pa_cons (pv 0) (pa_cons (pe_glob (v := .ref (cs 4)) rfl G.g_InvalidExchange rfl) pa_nil))) pa_nil)))) (pe_op op_taken pe_str (pe_callTy call_int1 (by rfl) T.b_int (by decide +kernel) (pa_cons (pe_callB call_isH (by rfl) T.b_isinstance (by decide +kernel) (pa_cons (pv 0) (pa_cons (pe_glob (v := .ref (cs 5)) rfl G.g_InvalidLengths rfl) pa_nil))) pa_nil)))))
    (pss_cons (ps_set (i := 1) sc_lletters.nd rfl (Or.inl rfl) (pe_op op_add_str (pe_op op_add_str (pv 1) (pe_op op_taken pe_str (pe_callTy call_int1 (by rfl) T.b_int (by decide +kernel) (pa_cons (pe_callB call_isH (by rfl) T.b_isinstance (by decide +kernel) (pa_cons (pv 0) (pa_cons (pe_glob (v := .ref (cs 6)) rfl G.g_InvalidPoint rfl) pa_nil))) pa_nil)))) (pe_op op_taken pe_str (pe_callTy call_int1 (by rfl) T.b_int (by decide +kernel) (pa_cons (pe_callB call_isH (by rfl) T.b_isinstance (by decide +kernel) (pa_cons (pv 0) (pa_cons (pe_glob (v := .ref (cs 7)) rfl G.g_InvalidCourse rfl) pa_nil))) pa_nil)))))
    (pss_cons (ps_set (i := 1) sc_lletters.nd rfl (Or.inl rfl) (pe_op op_add_str (pe_op op_add_str (pv 1) (pe_op op_taken pe_str (pe_callTy call_int1 (by rfl) T.b_int (by decide +kernel) (pa_cons (pe_callB call_isH (by rfl) T.b_isinstance (by decide +kernel) (pa_cons (pv 0) (pa_cons (pe_glob (v := .ref (cs 8)) rfl G.g_InvalidReading rfl) pa_nil))) pa_nil)))) (pe_op op_taken pe_str (pe_callTy call_int1 (by rfl) T.b_int (by decide +kernel) (pa_cons (pe_callB call_isH (by rfl) T.b_isinstance (by decide +kernel) (pa_cons (pv 0) (pa_cons (pe_glob (v := .ref (cs 9)) rfl G.g_InvalidTrace rfl) pa_nil))) pa_nil)))))
    (pss_cons (ps_set (i := 1) sc_lletters.nd rfl (Or.inl rfl) (pe_op op_add_str (pe_op op_add_str (pv 1) (pe_op op_taken pe_str (pe_callTy call_int1 (by rfl) T.b_int (by decide +kernel) (pa_cons (pe_callB call_isH (by rfl) T.b_isinstance (by decide +kernel) (pa_cons (pv 0) (pa_cons (pe_glob (v := .ref (cs 10)) rfl G.g_InvalidHeights rfl) pa_nil))) pa_nil)))) (pe_op op_taken pe_str (pe_callTy call_int1 (by rfl) T.b_int (by decide +kernel) (pa_cons (pe_callB call_isH (by rfl) T.b_isinstance (by decide +kernel) (pa_cons (pv 0) (pa_cons (pe_glob (v := .ref (cs 11)) rfl G.g_InvalidProgram rfl) pa_nil))) pa_nil)))))
    (pss_one (ps_ret (pe_op op_add_str (pv 1) (pe_op op_taken pe_str (pe_callTy call_int1 (by rfl) T.b_int (by decide +kernel) (pa_cons (pe_callB call_isH (by rfl) T.b_isinstance (by decide +kernel) (pa_cons (pv 0) (pa_cons (pe_glob (v := .ref (cs 12)) rfl G.g_InvalidOperation rfl) pa_nil))) pa_nil))))))))))), ?_⟩
  refine ⟨_, rfl, a, cs c, cs 2, _, ⟨rfl, held, G.ec c h1 h2, G.ki c h1 h2 2 (by decide) (by decide), .inr ⟨_, rfl, _, _, ⟨rfl, by decide +kernel⟩, rfl, ?_⟩⟩⟩
  refine ⟨_, rfl, a, cs c, cs 3, _, ⟨rfl, held, G.ec c h1 h2, G.ki c h1 h2 3 (by decide) (by decide), .inr ⟨_, rfl, _, _, ⟨rfl, by decide +kernel⟩, rfl, ?_⟩⟩⟩
  refine ⟨_, _, rfl, rfl, (by walk_at "ln"), ?_⟩
  refine ⟨_, rfl, ?_⟩
  refine ⟨_, rfl, a, cs c, cs 4, _, ⟨rfl, held, G.ec c h1 h2, G.ki c h1 h2 4 (by decide) (by decide), .inr ⟨_, rfl, _, _, ⟨rfl, by decide +kernel⟩, rfl, ?_⟩⟩⟩
  refine ⟨_, _, rfl, rfl, (by walk_at "ln"), ?_⟩
  refine ⟨_, rfl, a, cs c, cs 5, _, ⟨rfl, held, G.ec c h1 h2, G.ki c h1 h2 5 (by decide) (by decide), .inr ⟨_, rfl, _, _, ⟨rfl, by decide +kernel⟩, rfl, ?_⟩⟩⟩
  refine ⟨_, _, rfl, rfl, (by walk_at "ln"), ?_⟩
  refine ⟨_, rfl, ?_⟩
  refine ⟨_, rfl, a, cs c, cs 6, _, ⟨rfl, held, G.ec c h1 h2, G.ki c h1 h2 6 (by decide) (by decide), .inr ⟨_, rfl, _, _, ⟨rfl, by decide +kernel⟩, rfl, ?_⟩⟩⟩
  refine ⟨_, _, rfl, rfl, (by walk_at "ln"), ?_⟩
  refine ⟨_, rfl, a, cs c, cs 7, _, ⟨rfl, held, G.ec c h1 h2, G.ki c h1 h2 7 (by decide) (by decide), .inr ⟨_, rfl, _, _, ⟨rfl, by decide +kernel⟩, rfl, ?_⟩⟩⟩
  refine ⟨_, _, rfl, rfl, (by walk_at "ln"), ?_⟩
  refine ⟨_, rfl, ?_⟩
  refine ⟨_, rfl, a, cs c, cs 8, _, ⟨rfl, held, G.ec c h1 h2, G.ki c h1 h2 8 (by decide) (by decide), .inr ⟨_, rfl, _, _, ⟨rfl, by decide +kernel⟩, rfl, ?_⟩⟩⟩
  refine ⟨_, _, rfl, rfl, (by walk_at "ln"), ?_⟩
  refine ⟨_, rfl, a, cs c, cs 9, _, ⟨rfl, held, G.ec c h1 h2, G.ki c h1 h2 9 (by decide) (by decide), .inr ⟨_, rfl, _, _, ⟨rfl, by decide +kernel⟩, rfl, ?_⟩⟩⟩
  refine ⟨_, _, rfl, rfl, (by walk_at "ln"), ?_⟩
  refine ⟨_, rfl, ?_⟩
  refine ⟨_, rfl, a, cs c, cs 10, _, ⟨rfl, held, G.ec c h1 h2, G.ki c h1 h2 10 (by decide) (by decide), .inr ⟨_, rfl, _, _, ⟨rfl, by decide +kernel⟩, rfl, ?_⟩⟩⟩
  refine ⟨_, _, rfl, rfl, (by walk_at "ln"), ?_⟩
  refine ⟨_, rfl, a, cs c, cs 11, _, ⟨rfl, held, G.ec c h1 h2, G.ki c h1 h2 11 (by decide) (by decide), .inr ⟨_, rfl, _, _, ⟨rfl, by decide +kernel⟩, rfl, ?_⟩⟩⟩
  refine ⟨_, _, rfl, rfl, (by walk_at "ln"), ?_⟩
  refine ⟨_, rfl, ?_⟩
  refine ⟨_, rfl, a, cs c, cs 12, _, ⟨rfl, held, G.ec c h1 h2, G.ki c h1 h2 12 (by decide) (by decide), .inr ⟨_, rfl, _, _, ⟨rfl, by decide +kernel⟩, rfl, ?_⟩⟩⟩
  refine ⟨_, _, rfl, rfl, (by walk_at "ln"), ?_⟩
  exact k
theorem ok_lkinds (T : Bn mg) (G : Cls K mg cs) (D : DefAt K mg "_law_kinds" s_lkinds) : FnAt P w K mg base 1 "_law_kinds" ["_law_error"] (spE base cs kinT) := by
  refine fnAt D sc_lkinds (fun _ _ _ _ _ _ us hl => match us, hl with | [_], _ => rfl) (fun vs H Q E h => ?_) fun f cdv A outer s H vs Q E hr h => ?_
  · obtain ⟨a, c, rfl, _⟩ := h
    rfl
  obtain ⟨a, c, rfl, h1, h2, held, k⟩ := h
  have hc : c < 19 := by omega
  refine ⟨_, (pss_cons (ps_set (i := 1) sc_lkinds.nd rfl (Or.inl rfl) (pe_op op_add_str (pe_op op_taken pe_str (pe_callTy call_int1 (by rfl) T.b_int (by decide +kernel) (pa_cons (pe_callB call_isH (by rfl) T.b_isinstance (by decide +kernel) (pa_cons (pv 0) (pa_cons (pe_glob (v := .ref (cs 13)) rfl G.g_ParseError rfl) pa_nil))) pa_nil))) (pe_op op_taken pe_str (pe_callTy call_int1 (by rfl) T.b_int (by decide +kernel) (pa_cons (pe_callB call_isH (by rfl) T.b_isinstance (by decide +kernel) (pa_cons (pv 0) (pa_cons (pe_glob (v := .ref (cs 15)) rfl G.g_UnknownName rfl) pa_nil))) pa_nil)))))
    (pss_cons (ps_set (i := 1) sc_lkinds.nd rfl (Or.inl rfl) (pe_op op_add_str (pe_op op_add_str (pv 1) (pe_op op_taken pe_str (pe_callTy call_int1 (by rfl) T.b_int (by decide +kernel) (pa_cons (pe_callB call_isH (by rfl) T.b_isinstance (by decide +kernel) (pa_cons (pv 0) (pa_cons (pe_glob (v := .ref (cs 14)) rfl G.g_InvalidCount rfl) pa_nil))) pa_nil)))) (pe_op op_taken pe_str (pe_callTy call_int1 (by rfl) T.b_int (by decide +kernel) (pa_cons (pe_callB call_isH (by rfl) T.b_isinstance (by decide +kernel) (pa_cons (pv 0) (pa_cons (pe_glob (v := .ref (cs 16)) rfl G.g_NothingToUndo rfl) pa_nil))) pa_nil)))))
    (pss_cons (ps_set (i := 1) sc_lkinds.nd rfl (Or.inl rfl) (pe_op op_add_str (pe_op op_add_str (pv 1) (pe_op op_taken pe_str (pe_callTy call_int1 (by rfl) T.b_int (by decide +kernel) (pa_cons (pe_callB call_isH (by rfl) T.b_isinstance (by decide +kernel) (pa_cons (pv 0) (pa_cons (pe_glob (v := .ref (cs 17)) rfl G.g_TooMany rfl) pa_nil))) pa_nil)))) (pe_op op_taken pe_str (pe_callTy call_int1 (by rfl) T.b_int (by decide +kernel) (pa_cons (pe_callB call_isH (by rfl) T.b_isinstance (by decide +kernel) (pa_cons (pv 0) (pa_cons (pe_glob (v := .ref (cs 18)) rfl G.g_Refused rfl) pa_nil))) pa_nil)))))
    (pss_cons (ps_set (i := 1) sc_lkinds.nd rfl (Or.inl rfl) (pe_op op_add_str (pe_op op_add_str (pv 1) (pe_op op_taken pe_str (pe_callTy call_int1 (by rfl) T.b_int (by decide +kernel) (pa_cons (pe_callB call_isH (by rfl) T.b_isinstance (by decide +kernel) (pa_cons (pv 0) (pa_cons (pe_glob (v := .ref (cs 1)) rfl G.g_PieceError rfl) pa_nil))) pa_nil)))) (pe_op op_taken pe_str (pe_callTy call_int1 (by rfl) T.b_int (by decide +kernel) (pa_cons (pe_callB call_isT (by rfl) T.b_isinstance (by decide +kernel) (pa_cons (pv 0) (pa_cons (pe_bltn (v := .ty "ValueError") (by rfl) G.b_ValueError (by decide +kernel) rfl) pa_nil))) pa_nil)))))
    (pss_cons (ps_set (i := 1) sc_lkinds.nd rfl (Or.inl rfl) (pe_op op_add_str (pe_op op_add_str (pv 1) (pe_op op_taken pe_str (pe_callTy call_int1 (by rfl) T.b_int (by decide +kernel) (pa_cons (pe_callB call_isT (by rfl) T.b_isinstance (by decide +kernel) (pa_cons (pv 0) (pa_cons (pe_bltn (v := .ty "KeyError") (by rfl) G.b_KeyError (by decide +kernel) rfl) pa_nil))) pa_nil)))) (pe_op op_taken pe_str (pe_callTy call_int1 (by rfl) T.b_int (by decide +kernel) (pa_cons (pe_callB call_isT (by rfl) T.b_isinstance (by decide +kernel) (pa_cons (pv 0) (pa_cons (pe_bltn (v := .ty "IndexError") (by rfl) G.b_IndexError (by decide +kernel) rfl) pa_nil))) pa_nil)))))
    (pss_cons (ps_set (i := 1) sc_lkinds.nd rfl (Or.inl rfl) (pe_op op_add_str (pv 1) (pe_op op_taken pe_str (pe_callTy call_int1 (by rfl) T.b_int (by decide +kernel) (pa_cons (pe_callB call_isT (by rfl) T.b_isinstance (by decide +kernel) (pa_cons (pv 0) (pa_cons (pe_bltn (v := .ty "LookupError") (by rfl) G.b_LookupError (by decide +kernel) rfl) pa_nil))) pa_nil)))))
    (pss_cons (ps_set (i := 1) sc_lkinds.nd rfl (Or.inl rfl) (pe_op op_add_str (pv 1) (pe_op op_taken pe_str (pe_callTy call_int1 (by rfl) T.b_int (by decide +kernel) (pa_cons (pe_callB call_isT (by rfl) T.b_isinstance (by decide +kernel) (pa_cons (pv 0) (pa_cons (pe_bltn (v := .ty "RuntimeError") (by rfl) G.b_RuntimeError (by decide +kernel) rfl) pa_nil))) pa_nil)))))
    (pss_cons (ps_set (i := 1) sc_lkinds.nd rfl (Or.inl rfl) (pe_op op_add_str (pv 1) (pe_op op_taken pe_str (pe_callTy call_int1 (by rfl) T.b_int (by decide +kernel) (pa_cons (pe_callB call_isT (by rfl) T.b_isinstance (by decide +kernel) (pa_cons (pv 0) (pa_cons (pe_bltn (v := .ty "OverflowError") (by rfl) G.b_OverflowError (by decide +kernel) rfl) pa_nil))) pa_nil)))))
    (pss_one (ps_ret (pe_op op_add_str (pv 1) (pe_op op_taken pe_str (pe_callTy call_int1 (by rfl) T.b_int (by decide +kernel) (pa_cons (pe_callB call_isT (by rfl) T.b_isinstance (by decide +kernel) (pa_cons (pv 0) (pa_cons (pe_bltn (v := .ty "ArithmeticError") (by rfl) G.b_ArithmeticError (by decide +kernel) rfl) pa_nil))) pa_nil)))))))))))))), ?_⟩
  refine ⟨_, rfl, a, cs c, cs 13, _, ⟨rfl, held, G.ec c h1 h2, G.ki c h1 h2 13 (by decide) (by decide), .inr ⟨_, rfl, _, _, ⟨rfl, by decide +kernel⟩, rfl, ?_⟩⟩⟩
  refine ⟨_, rfl, a, cs c, cs 15, _, ⟨rfl, held, G.ec c h1 h2, G.ki c h1 h2 15 (by decide) (by decide), .inr ⟨_, rfl, _, _, ⟨rfl, by decide +kernel⟩, rfl, ?_⟩⟩⟩
  refine ⟨_, _, rfl, rfl, (by walk_at "ln"), ?_⟩
  refine ⟨_, rfl, ?_⟩
  refine ⟨_, rfl, a, cs c, cs 14, _, ⟨rfl, held, G.ec c h1 h2, G.ki c h1 h2 14 (by decide) (by decide), .inr ⟨_, rfl, _, _, ⟨rfl, by decide +kernel⟩, rfl, ?_⟩⟩⟩
  refine ⟨_, _, rfl, rfl, (by walk_at "ln"), ?_⟩
  refine ⟨_, rfl, a, cs c, cs 16, _, ⟨rfl, held, G.ec c h1 h2, G.ki c h1 h2 16 (by decide) (by decide), .inr ⟨_, rfl, _, _, ⟨rfl, by decide +kernel⟩, rfl, ?_⟩⟩⟩
  refine ⟨_, _, rfl, rfl, (by walk_at "ln"), ?_⟩
  refine ⟨_, rfl, ?_⟩
  refine ⟨_, rfl, a, cs c, cs 17, _, ⟨rfl, held, G.ec c h1 h2, G.ki c h1 h2 17 (by decide) (by decide), .inr ⟨_, rfl, _, _, ⟨rfl, by decide +kernel⟩, rfl, ?_⟩⟩⟩
  refine ⟨_, _, rfl, rfl, (by walk_at "ln"), ?_⟩
  refine ⟨_, rfl, a, cs c, cs 18, _, ⟨rfl, held, G.ec c h1 h2, G.ki c h1 h2 18 (by decide) (by decide), .inr ⟨_, rfl, _, _, ⟨rfl, by decide +kernel⟩, rfl, ?_⟩⟩⟩
  refine ⟨_, _, rfl, rfl, (by walk_at "ln"), ?_⟩
  refine ⟨_, rfl, ?_⟩
  refine ⟨_, rfl, a, cs c, cs 1, _, ⟨rfl, held, G.ec c h1 h2, G.ki c h1 h2 1 (by decide) (by decide), .inr ⟨_, rfl, _, _, ⟨rfl, by decide +kernel⟩, rfl, ?_⟩⟩⟩
  refine ⟨_, _, rfl, rfl, (by walk_at "ln"), ?_⟩
  refine ⟨_, rfl, a, cs c, bn 0, _, ⟨rfl, held, G.ec c h1 h2, G.kt c h1 h2 (bn 0, subB 0) (by simp [subT, bn]), .inr ⟨_, rfl, _, _, ⟨rfl, by decide +kernel⟩, rfl, ?_⟩⟩⟩
  refine ⟨_, _, rfl, rfl, (by walk_at "ln"), ?_⟩
  refine ⟨_, rfl, ?_⟩
  refine ⟨_, rfl, a, cs c, bn 1, _, ⟨rfl, held, G.ec c h1 h2, G.kt c h1 h2 (bn 1, subB 1) (by simp [subT, bn]), .inr ⟨_, rfl, _, _, ⟨rfl, by decide +kernel⟩, rfl, ?_⟩⟩⟩
  refine ⟨_, _, rfl, rfl, (by walk_at "ln"), ?_⟩
  refine ⟨_, rfl, a, cs c, bn 2, _, ⟨rfl, held, G.ec c h1 h2, G.kt c h1 h2 (bn 2, subB 2) (by simp [subT, bn]), .inr ⟨_, rfl, _, _, ⟨rfl, by decide +kernel⟩, rfl, ?_⟩⟩⟩
  refine ⟨_, _, rfl, rfl, (by walk_at "ln"), ?_⟩
  refine ⟨_, rfl, ?_⟩
  refine ⟨_, rfl, a, cs c, bn 3, _, ⟨rfl, held, G.ec c h1 h2, G.kt c h1 h2 (bn 3, subB 3) (by simp [subT, bn]), .inr ⟨_, rfl, _, _, ⟨rfl, by decide +kernel⟩, rfl, ?_⟩⟩⟩
  refine ⟨_, _, rfl, rfl, (by walk_at "ln"), ?_⟩
  refine ⟨_, rfl, ?_⟩
  refine ⟨_, rfl, a, cs c, bn 4, _, ⟨rfl, held, G.ec c h1 h2, G.kt c h1 h2 (bn 4, subB 4) (by simp [subT, bn]), .inr ⟨_, rfl, _, _, ⟨rfl, by decide +kernel⟩, rfl, ?_⟩⟩⟩
  refine ⟨_, _, rfl, rfl, (by walk_at "ln"), ?_⟩
  refine ⟨_, rfl, ?_⟩
  refine ⟨_, rfl, a, cs c, bn 5, _, ⟨rfl, held, G.ec c h1 h2, G.kt c h1 h2 (bn 5, subB 5) (by simp [subT, bn]), .inr ⟨_, rfl, _, _, ⟨rfl, by decide +kernel⟩, rfl, ?_⟩⟩⟩
  refine ⟨_, _, rfl, rfl, (by walk_at "ln"), ?_⟩
  refine ⟨_, rfl, ?_⟩
  refine ⟨_, rfl, a, cs c, bn 6, _, ⟨rfl, held, G.ec c h1 h2, G.kt c h1 h2 (bn 6, subB 6) (by simp [subT, bn]), .inr ⟨_, rfl, _, _, ⟨rfl, by decide +kernel⟩, rfl, ?_⟩⟩⟩
  refine ⟨_, _, rfl, rfl, (by walk_at "ln"), ?_⟩
  exact k
theorem ok_lall (D : DefAt K mg "_law_all" s_lall) (F__law_letters : FnAt P w K mg base 1 "_law_letters" ["_law_error"] (spE base cs letT)) (F__law_kinds : FnAt P w K mg base 1 "_law_kinds" ["_law_error"] (spE base cs kinT)) :
    FnAt P w K mg base 2 "_law_all" ["_law_error"] (spE base cs fun c => letT c ++ kinT c) := by
  refine fnAt D sc_lall (fun _ _ _ _ _ _ us hl => match us, hl with | [_], _ => rfl) (fun vs H Q E h => ?_) fun f cdv A outer s H vs Q E hr h => ?_
  · obtain ⟨a, c, rfl, _⟩ := h
    rfl
  obtain ⟨a, c, rfl, h1, h2, held, k⟩ := h
  have hl := letT_len c (by omega)
  refine ⟨_, (pss_one (ps_ret (pe_op op_add_str (callA F__law_letters (hr.mono (by decide)) rfl (pa_cons (pv 0) pa_nil)) (callA F__law_kinds (hr.mono (by decide)) rfl (pa_cons (pv 0) pa_nil))))), ?_⟩
  refine ⟨_, rfl, a, c, rfl, h1, h2, held, _, rfl, a, c, rfl, h1, h2, held, _, _, rfl, rfl, len_ok (by omega), k⟩
end
/-! ### the same of the error that is handled -/
def rIsP (K : PySem.W.Frag) (a C : Addr) : List V → Hp → VK → Prop := fun xs H Q => ∃ (D : Addr) (b : Bool), (xs = [.ref a, .ref D] ∧ ErrC K C ∧ PySem.W.kitOne K (.ref C) (.ref D) = some b ∧ Q (.bl b) H)
section
variable {X : Cx}
theorem call_isP {a C : Addr} {oe : Obj} (hpn : (a, oe) ∈ X.pn) (hz : Zc (.ref C) none oe) (hf : ∃ vs, oe.data = .fields vs) : CallR X (.builtin "isinstance") (rIsP X.K a C) := by
  intro pins s σ H xs us Q I r h
  obtain ⟨D, b, rfl, hC, e, q⟩ := h
  obtain ⟨u1, u2, rfl, r1, r2⟩ := vals2 r
  cases r1
  cases r2
  obtain ⟨vs, hd⟩ := hf
  refine PySem.W.kia_one (kit_err (x := a) (ox := oe) (od := none) hC) I.kIn ⟨(I.pin (a, oe) (List.mem_append_left _ hpn)).1, hz.1, ?_, ?_⟩ e (fun z => nomatch z) fun tk => ⟨.bl b, H, I.tok tk, rfl, q⟩
  · unfold PySem.W.notCls
    rw [hd] <;> rfl
  · rw [hz.2]
    trivial
end
open L2H (RoomH PinOk cxH)
/-- a def run while p is handled -/
theorem hot_run {P : Program} {w : World} {K : PySem.W.Frag} {mg : Str → Option Value} {base : Heap} {k : Nat} {f : Addr} {name qual : Str} {params : Arguments} {body : List Stmt} {scope : Scope} {dV kV doc pm cdv ct oc : Value} {an od : Option Addr} {osl : Array (Option Value)} {N ps : List Str}
    {A : Around} {outer : List Env} {s : Shared} {H : Hp} {args : Args} {us : List Value} {vs : List V} {Q : VK} {E : XK} {p : Addr × Obj} (lk : K.lookup f = some ⟨oc, od, .func (PySem.W.fnOf name qual params body scope dV kV doc pm an cdv ct), osl⟩) (hcd : PySem.W.codeIn K cdv qual = true)
    (S : FnScope N ps scope) (room : RoomH (k + 1) A) (pin : PinOk outer H s p) (e0 : Env0 P w K mg base A outer s H) (hb : BindsTo s (PySem.W.fnOf name qual params body scope dV kV doc pm an cdv ct) args (ps.zip us)) (r : Vals vs us) (hl : vs.length = ps.length)
    (inner : RoomH k (A.deeper (envOfC qual scope s.heap.objs.size f cdv)) → ∃ t, PSs (cxH CX0 P w K mg base N qual scope f cdv A outer s H E p) body t ∧ t { nx := fun _ H' => Q .non H', rt := Q } (L2.start N vs) H) : codeAny (model P w) A (.call (.ref f) args) (CR CX0 outer P w H s Q E) s := by
  have inH : K.In s.heap := e0.mod.kin.keeps fun b o e => (e0.bs b o e).1
  have noLim : s.heap.NoLimit := e0.mod.nolimit.keeps (fun b o e => (e0.bs b o e).1)
  have kinds : ∀ y ∈ ps.zip us, scope.names.lookup y.1 = some .local ∨ (scope.names.lookup y.1 = some .cell ∧ ((cellsFrom (s.heap.objs.size + 1) scope.names []).lookup y.1).isSome = true) := fun y hy => (S.par y.1 (List.of_mem_zip hy).1).elim .inl fun q => .inr ⟨q, PySem.W.cellsFrom_some _ _ _ (.inl q)⟩
  refine codeAny_call_function room.depth (inH _ _ lk) rfl S.co S.gen rfl (PySem.W.codeRec_of inH hcd) (hb _ _ _ _ (wpAny_newFunctionEnv_cells S.kind kinds fun env he s1 x => ?_))
  subst he
  refine ⟨noLim.keeps x.toInCall.keep, codeAny_func (?_)⟩
  obtain ⟨t, ht, hq⟩ := inner (room.deeper _)
  refine wpAny_mono (ht.run [] s1 (L2.start N vs) H _ (L2H.inv_startH S pin e0 hl r x) hq) (fun fl s' hs => ?_) fun e s' hs => hs
  cases fl with
  | ret u => exact let ⟨v, _, H', J, rv, q⟩ := hs; ⟨v, H', J.os, J.bare, J.base, J.hok, rv, q⟩
  | next => exact let ⟨_, H', J, q⟩ := hs; ⟨V.non, H', J.os, J.bare, J.base, J.hok, rfl, q⟩
  | brk => exact let ⟨_, _, _, q⟩ := hs; False.elim q
  | cont => exact let ⟨_, _, _, q⟩ := hs; False.elim q
/-- what _law_letters promises of the handled error -/
structure LetH (P : Program) (w : World) (K : PySem.W.Frag) (mg : Str → Option Value) (base : Heap) (cs : Nat → Addr) : Prop where
  ex : ∃ (f : Addr) (fd : FuncData), mg "_law_letters" = some (.ref f) ∧ PySem.W.keepIn K (.ref f) = true ∧ Binds K fd ["_law_error"] [] ∧
    ∀ (A : Around) (outer : List Env) (s : Shared) (H : Hp) (args : Args) (us : List Value) (Q : VK) (p : Addr × Obj) (c : Nat), RoomH 1 A → PinOk outer H s p → Env0 P w K mg base A outer s H → BindsTo s fd args ((["_law_error"] : List Str).zip us) → Vals [.ref p.1] us →
      1 ≤ c → c ≤ 18 → Zc (.ref (cs c)) none p.2 → (∃ vs, p.2.data = .fields vs) → Q (.str (letT c)) H → codeAny (model P w) A (.call (.ref f) args) (CR CX0 outer P w H s Q fun _ _ _ => False) s
section
variable {P : Program} {w : World} {K : PySem.W.Frag} {mg : Str → Option Value} {base : Heap} {cs : Nat → Addr}
theorem ok_letH (T : Bn mg) (G : Cls K mg cs) (D : DefAt K mg "_law_letters" s_lletters) : LetH P w K mg base cs := by
  obtain ⟨f, fd, hm, F⟩ := D.ex
  have kp := F.kp
  have hb := F.binds (ps := ["_law_error"]) (fun _ _ _ _ _ _ us hl => match us, hl with | [_], _ => rfl)
  refine ⟨f, fd, hm, kp, hb, ?_⟩
  obtain ⟨oc, od, kV, doc, pm, an, cdv, ct, osl, e1, lk, hcd⟩ := F.ex
  subst e1
  intro A outer s H args us Q p c room pin e0 bd r h1 h2 hz hf k
  have hc : c < 19 := by omega
  obtain ⟨a, oe⟩ := p
  refine hot_run (p := (a, oe)) lk hcd sc_lletters room pin e0 bd r rfl fun _ => ?_
  have hpn : (a, oe) ∈ [(a, oe)] := List.mem_singleton.mpr rfl
  refine ⟨_, (pss_cons (ps_set (i := 1) sc_lletters.nd rfl (Or.inl rfl) (pe_op op_add_str (pe_op op_taken pe_str (pe_callTy call_int1 (by rfl) T.b_int (by decide +kernel) (pa_cons (pe_callB (call_isP hpn hz hf) (by rfl) T.b_isinstance (by decide +kernel) (pa_cons (pv 0) (pa_cons (pe_glob (v := .ref (cs 2)) rfl G.g_InvalidNumber rfl) pa_nil))) pa_nil))) (pe_op op_taken pe_str (pe_callTy call_int1 (by rfl) T.b_int (by decide +kernel) (pa_cons (pe_callB (call_isP hpn hz hf) (by rfl) T.b_isinstance (by decide +kernel) (pa_cons (pv 0) (pa_cons (pe_glob (v := .ref (cs 3)) rfl G.g_InvalidOrder rfl) pa_nil))) pa_nil)))))
    (pss_cons (ps_set (i := 1) sc_lletters.nd rfl (Or.inl rfl) (pe_op op_add_str (pe_op op_add_str (pv 1) (pe_op op_taken pe_str (pe_callTy call_int1 (by rfl) T.b_int (by decide +kernel) (pa_cons (pe_callB (call_isP hpn hz hf) (by rfl) T.b_isinstance (by decide +kernel) (pa_cons (pv 0) (pa_cons (pe_glob (v := .ref (cs 4)) rfl G.g_InvalidExchange rfl) pa_nil))) pa_nil)))) (pe_op op_taken pe_str (pe_callTy call_int1 (by rfl) T.b_int (by decide +kernel) (pa_cons (pe_callB (call_isP hpn hz hf) (by rfl) T.b_isinstance (by decide +kernel) (pa_cons (pv 0) (pa_cons (pe_glob (v := .ref (cs 5)) rfl G.g_InvalidLengths rfl) pa_nil))) pa_nil)))))
    (pss_cons (ps_set (i := 1) sc_lletters.nd rfl (Or.inl rfl) (pe_op op_add_str (pe_op op_add_str (pv 1) (pe_op op_taken pe_str (pe_callTy call_int1 (by rfl) T.b_int (by decide +kernel) (pa_cons (pe_callB (call_isP hpn hz hf) (by rfl) T.b_isinstance (by decide +kernel) (pa_cons (pv 0) (pa_cons (pe_glob (v := .ref (cs 6)) rfl G.g_InvalidPoint rfl) pa_nil))) pa_nil)))) (pe_op op_taken pe_str (pe_callTy call_int1 (by rfl) T.b_int (by decide +kernel) (pa_cons (pe_callB (call_isP hpn hz hf) (by rfl) T.b_isinstance (by decide +kernel) (pa_cons (pv 0) (pa_cons (pe_glob (v := .ref (cs 7)) rfl G.g_InvalidCourse rfl) pa_nil))) pa_nil)))))
    (pss_cons (ps_set (i := 1) sc_lletters.nd rfl (Or.inl rfl) (pe_op op_add_str (pe_op op_add_str (pv 1) (pe_op op_taken pe_str (pe_callTy call_int1 (by rfl) T.b_int (by decide +kernel) (pa_cons (pe_callB (call_isP hpn hz hf) (by rfl) T.b_isinstance (by decide +kernel) (pa_cons (pv 0) (pa_cons (pe_glob (v := .ref (cs 8)) rfl G.g_InvalidReading rfl) pa_nil))) pa_nil)))) (pe_op op_taken pe_str (pe_callTy call_int1 (by rfl) T.b_int (by decide +kernel) (pa_cons (pe_callB (call_isP hpn hz hf) (by rfl) T.b_isinstance (by decide +kernel) (pa_cons (pv 0) (pa_cons (pe_glob (v := .ref (cs 9)) rfl G.g_InvalidTrace rfl) pa_nil))) pa_nil)))))
    (pss_cons (ps_set (i := 1) sc_lletters.nd rfl (Or.inl rfl) (pe_op op_add_str (pe_op op_add_str (pv 1) (pe_op op_taken pe_str (pe_callTy call_int1 (by rfl) T.b_int (by decide +kernel) (pa_cons (pe_callB (call_isP hpn hz hf) (by rfl) T.b_isinstance (by decide +kernel) (pa_cons (pv 0) (pa_cons (pe_glob (v := .ref (cs 10)) rfl G.g_InvalidHeights rfl) pa_nil))) pa_nil)))) (pe_op op_taken pe_str (pe_callTy call_int1 (by rfl) T.b_int (by decide +kernel) (pa_cons (pe_callB (call_isP hpn hz hf) (by rfl) T.b_isinstance (by decide +kernel) (pa_cons (pv 0) (pa_cons (pe_glob (v := .ref (cs 11)) rfl G.g_InvalidProgram rfl) pa_nil))) pa_nil)))))
    (pss_one (ps_ret (pe_op op_add_str (pv 1) (pe_op op_taken pe_str (pe_callTy call_int1 (by rfl) T.b_int (by decide +kernel) (pa_cons (pe_callB (call_isP hpn hz hf) (by rfl) T.b_isinstance (by decide +kernel) (pa_cons (pv 0) (pa_cons (pe_glob (v := .ref (cs 12)) rfl G.g_InvalidOperation rfl) pa_nil))) pa_nil))))))))))), ?_⟩
  refine ⟨_, rfl, cs 2, _, ⟨rfl, G.ec c h1 h2, G.ki c h1 h2 2 (by decide) (by decide), .inr ⟨_, rfl, _, _, ⟨rfl, by decide +kernel⟩, rfl, ?_⟩⟩⟩
  refine ⟨_, rfl, cs 3, _, ⟨rfl, G.ec c h1 h2, G.ki c h1 h2 3 (by decide) (by decide), .inr ⟨_, rfl, _, _, ⟨rfl, by decide +kernel⟩, rfl, ?_⟩⟩⟩
  refine ⟨_, _, rfl, rfl, (by walk_at "ln"), ?_⟩
  refine ⟨_, rfl, ?_⟩
  refine ⟨_, rfl, cs 4, _, ⟨rfl, G.ec c h1 h2, G.ki c h1 h2 4 (by decide) (by decide), .inr ⟨_, rfl, _, _, ⟨rfl, by decide +kernel⟩, rfl, ?_⟩⟩⟩
  refine ⟨_, _, rfl, rfl, (by walk_at "ln"), ?_⟩
  refine ⟨_, rfl, cs 5, _, ⟨rfl, G.ec c h1 h2, G.ki c h1 h2 5 (by decide) (by decide), .inr ⟨_, rfl, _, _, ⟨rfl, by decide +kernel⟩, rfl, ?_⟩⟩⟩
  refine ⟨_, _, rfl, rfl, (by walk_at "ln"), ?_⟩
  refine ⟨_, rfl, ?_⟩
  refine ⟨_, rfl, cs 6, _, ⟨rfl, G.ec c h1 h2, G.ki c h1 h2 6 (by decide) (by decide), .inr ⟨_, rfl, _, _, ⟨rfl, by decide +kernel⟩, rfl, ?_⟩⟩⟩
  refine ⟨_, _, rfl, rfl, (by walk_at "ln"), ?_⟩
  refine ⟨_, rfl, cs 7, _, ⟨rfl, G.ec c h1 h2, G.ki c h1 h2 7 (by decide) (by decide), .inr ⟨_, rfl, _, _, ⟨rfl, by decide +kernel⟩, rfl, ?_⟩⟩⟩
  refine ⟨_, _, rfl, rfl, (by walk_at "ln"), ?_⟩
  refine ⟨_, rfl, ?_⟩
  refine ⟨_, rfl, cs 8, _, ⟨rfl, G.ec c h1 h2, G.ki c h1 h2 8 (by decide) (by decide), .inr ⟨_, rfl, _, _, ⟨rfl, by decide +kernel⟩, rfl, ?_⟩⟩⟩
  refine ⟨_, _, rfl, rfl, (by walk_at "ln"), ?_⟩
  refine ⟨_, rfl, cs 9, _, ⟨rfl, G.ec c h1 h2, G.ki c h1 h2 9 (by decide) (by decide), .inr ⟨_, rfl, _, _, ⟨rfl, by decide +kernel⟩, rfl, ?_⟩⟩⟩
  refine ⟨_, _, rfl, rfl, (by walk_at "ln"), ?_⟩
  refine ⟨_, rfl, ?_⟩
  refine ⟨_, rfl, cs 10, _, ⟨rfl, G.ec c h1 h2, G.ki c h1 h2 10 (by decide) (by decide), .inr ⟨_, rfl, _, _, ⟨rfl, by decide +kernel⟩, rfl, ?_⟩⟩⟩
  refine ⟨_, _, rfl, rfl, (by walk_at "ln"), ?_⟩
  refine ⟨_, rfl, cs 11, _, ⟨rfl, G.ec c h1 h2, G.ki c h1 h2 11 (by decide) (by decide), .inr ⟨_, rfl, _, _, ⟨rfl, by decide +kernel⟩, rfl, ?_⟩⟩⟩
  refine ⟨_, _, rfl, rfl, (by walk_at "ln"), ?_⟩
  refine ⟨_, rfl, ?_⟩
  refine ⟨_, rfl, cs 12, _, ⟨rfl, G.ec c h1 h2, G.ki c h1 h2 12 (by decide) (by decide), .inr ⟨_, rfl, _, _, ⟨rfl, by decide +kernel⟩, rfl, ?_⟩⟩⟩
  refine ⟨_, _, rfl, rfl, (by walk_at "ln"), ?_⟩
  exact k
end
section
variable {X : Cx} {k : Nat} {p pos : Pos} {e : Expr} {ta : TA} {a : Addr} {oe : Obj} {cls : Value} {d : Option Addr} {cs : Nat → Addr}
def tLetH (cs : Nat → Addr) (a : Addr) (cls : Value) (d : Option Addr) (ta : TA) : TE := fun σ H Q => ta σ H fun vs H1 => vs = [.ref a] ∧ ∃ c, cls = .ref (cs c) ∧ d = none ∧ 1 ≤ c ∧ c ≤ 18 ∧ Q (.str (letT c)) H1
theorem pe_letH (F : LetH X.prog X.w X.K X.mg X.base cs) (hr : RoomH 1 X.A) (hpn : (a, oe) ∈ X.pn) (hg : Gl X "_law_letters") (hz : Zc cls d oe) (hf : ∃ vs, oe.data = .fields vs) (ha0 : PA X [e] ta)
    (hs : starEach (e :: []) X.env = (false, eval e X.env) :: starEach [] X.env := by rfl) (hpl : (backTo pos (starEach [] X.env)).any (·.1) = false := by rfl) : PE X (.Call (.Name "_law_letters" p) [e] [] pos) (tLetH cs a cls d ta) := by
  obtain ⟨f, fd, hm, hk, hb, G⟩ := F.ex
  refine ⟨fun pins s σ H Q I h => wpAny_Call_Name_kw (ld_glob I hg hm (PySem.W.callWith_K (h₀ := X.base) I.ok.mod.kin hk (thn (ha0.run pos pins s σ H _ I h) fun us s1 hh => ?_) hs hpl))⟩
  obtain ⟨ws, H1, I1, r, rfl, c, rfl, rfl, h1, h2, q⟩ := hh
  refine ⟨I1.kIn, ?_⟩
  obtain ⟨ha, na, nL, nF, nc⟩ := I1.pin (a, oe) (List.mem_append_left _ hpn)
  have nS : a ∉ frs X.stack := fun z => (List.mem_cons.mp (I1.stkSub a z)).elim nL nF
  have hl : us.length = 1 := by rw [← r.length]; rfl
  have bd := hb s1 us I1.kIn (by rw [List.append_nil]; exact hl)
  rw [List.append_nil] at bd
  refine wpAny_call (codeAny_mono (G X.A X.stack s1 H1 ⟨us, []⟩ us Q (a, oe) c hr ⟨ha, na, nS, nc⟩ I1.env0 bd r h1 h2 hz hf q) fun r2 s2 hq => ?_)
  match r2, hq with
  | .error er, hq => exact (pass0 (X := X)) pins σ H1 s1 er s2 I1 hq
  | .ok (.ret u), hq => exact I1.after hq
end
end My
/-! an own error over a class that is not ValueError, with the one field "index" -/
namespace My.LowVIndex
open PySem PySem.W PySem.Calls PyProof.Rows PySem.HandSPX
def vA (p1 p2 : Pos) : Arguments := { posonlyargs := [], args := [{ arg := "self", annotation := none, pos := p1 }, { arg := "index", annotation := none, pos := p2 }], vararg := none, kwonlyargs := [], kw_defaults := [], kwarg := none, defaults := [] }
def vB (q1 q2 q3 q4 : Pos) : List Stmt := [.Assign [.Attribute (.Name "self" q1) "index" q2] (.Name "index" q3) q4]
def vS : Scope := { kind := .function, names := [(PySem.Str.ofString "self", .local), (PySem.Str.ofString "index", .local)], isGenerator := false, isCoroutine := false, more := [] }
/-- what the written part says of the class x at C over B, and of its __init__ at fI -/
structure ErrVIndex (K : Frag) (mg : Str → Option Value) (B newId : String) (bmB : List Value) (x qn : Str) (C fI : Addr) : Prop where
  gC : mg x = some (.ref C)
  q : excInitIn K C bmB newId = true
  ov : excOver K C bmB = true
  tk : takerIn K C "index" = some none
  sa : findIn K (.ref C) "__setattr__" = some (some (.builtin "object.__setattr__"))
  ga : findIn K (.ref C) "__getattribute__" = some (some (.builtin "BaseException.__getattribute__"))
  gg : findIn K (.ref C) "__getattr__" = some none
  noN : findIn K (.ref C) "index" = some none
  iC : findIn K (.ref C) "__init__" = some (some (.ref fI))
  tC : typeIn K (.ref fI) = some (.type "function")
  kC : keepIn K (.ref C) = true
  exC : subIn K (.ref C) (.type "BaseException") = some true
  tyC : typeIn K (.ref C) = some (.type "type")
  hdC : hasDictIn K C = true
  fn : ∃ (oc : Value) (od : Option Addr) (doc pm : Value) (an : Option Addr) (cdv ct : Value) (osl : Array (Option Value)) (p1 p2 q1 q2 q3 q4 : Pos),
    K.lookup fI = some ⟨oc, od, .func (fnOf "__init__" qn (vA p1 p2) (vB q1 q2 q3 q4) vS .none .none doc pm an cdv ct), osl⟩ ∧ codeIn K cdv qn = true
theorem kept_but {K : Frag} {h h' : Heap} {x : Addr} (X : K.In h) (hx : K.lookup x = none) (k : ∀ b o, b ≠ x → h.get? b = some o → h'.get? b = some o) : K.In h' := fun a o e =>
  k a o (fun z => by rw [z, hx] at e; cases e) (X a o e)
theorem ldVIndex {M : Model} {s : Shared} {name : Str} {scope : Scope} {L a : Addr} {cd : Value} {m : Str → Option Value} {x : Str} {pos : Pos} {v : Value} {Q : Value → Shared → Prop} {A : Around} {E : Value → Shared → Prop} (hn : s.heap.Ns L m) (hv : m x = some v) (h : Q v s)
    (hk : scope.kind = .function := by rfl) (hl : (envOfC name scope L a cd).kindOf x = some .local := by rfl) (hd : (x == ("__debug__" : Str)) = false := by decide) :
    wpAny M A (eval (.Name x pos) (envOfC name scope L a cd)) Q E s := wpAny_Name (wpAny_loadName_local hk hl hn hv h) hd
/-- what __init__ leaves of a fresh error at x -/
structure InitVIndex (h h' : Heap) (x C dx t1 : Addr) (v : Value) : Prop where
  keep : ∀ b o, b ≠ x → h.get? b = some o → h'.get? b = some o
  obj : h'.get? x = some { cls := .ref C, dict := some dx, data := .fields #[.ref t1, .none, .none, .none, .bool false, .none] }
  dbig : h.objs.size ≤ dx
  dne : dx ≠ x
  ns : h'.Ns1 dx (fun y => if y = "index" then some v else none)
structure MadeVIndex (h h' : Heap) (e C d : Addr) (v : Value) : Prop where
  keep : ∀ b o, h.get? b = some o → h'.get? b = some o
  new : h.objs.size ≤ e
  obj : ∃ oe vs, h'.get? e = some oe ∧ oe.cls = .ref C ∧ oe.dict = some d ∧ oe.data = .fields vs ∧ vs[1]? = some .none
  dbig : h.objs.size ≤ d
  dne : d ≠ e
  ns : h'.Ns1 d (fun y => if y = "index" then some v else none)
section
variable {prog : Program} {w : World} {A : Around} {E : Value → Shared → Prop} {R : Result → Shared → Prop} {s : Shared} {K : Frag} {mg : Str → Option Value} {C fI : Addr} {B newId : String} {bmB : List Value} {cx qn : Str}
/-- the first store -/
theorem osa_first {BS : String} {name : Str} {tk : Tok} {v : Value} {x t0 : Addr} (SF : StoreFacts BS bmB "object.__setattr__" "object") (X : K.In s.heap) (hx : s.heap.get? x = some (excO C t0)) (ov : excOver K C bmB = true) (ht : takerIn K C name = some none) (hh : hasDictIn K C = true)
    (hq : ∀ h' tk' dx, (∀ b o, b ≠ x → s.heap.get? b = some o → h'.get? b = some o) → s.heap.objs.size ≤ dx → dx ≠ x → h'.get? x = some { cls := .ref C, dict := some dx, data := .fields #[.ref t0, .none, .none, .none, .bool false, .none] } →
      h'.Ns1 dx (fun y => if y = name then some v else none) → R (.ok (.ret .none)) { s with heap := h', toks := tk' }) :
    codeAny (model prog w) A (.call (.builtin "object.__setattr__") ⟨[.ref x, .str name tk, v], []⟩) R s := by
  refine osa_openX (od := none) SF X ⟨hx, rfl, rfl, trivial⟩ ov ht fun b => ?_
  obtain ⟨cd, hc, hd'⟩ := any_some hh
  have hxs : x ≠ s.heap.objs.size := Nat.ne_of_lt (Heap.lt_size hx)
  refine wpAny_bind (wpAny_pure (wpAny_bind (instanceDict_exc hx (looks_clsIn X hc) hd' ?_)))
  obtain ⟨hp, g, d, t, os⟩ := s
  show wpAny _ _ (Builtin.ObjectAttr.storeInDict hp.objs.size (.str name tk) name v) _ _ _
  have hx1 := Heap.get?_push_of_some (dictOf [] 0) hx
  refine store_in_new ?_ fun h' tk' hn' hs => ?_
  · exact ⟨_, #[], _, (Heap.get?_update_ne _ _ _ _ hxs.symm).trans (Heap.get?_push_at rfl rfl), rfl, fun e he => absurd he (by simp), fun _ => rfl⟩
  · refine hq h' tk' hp.objs.size (fun b o hb ho => ?_) (Nat.le_refl _) hxs.symm ?_ hn'
    · exact (hs.2 b (Nat.ne_of_lt (Heap.lt_size ho))).trans ((Heap.get?_update_ne _ _ _ _ hb).trans (Heap.get?_push_of_some _ ho))
    · exact (hs.2 x hxs).trans (Heap.get?_update_self _ hx1 rfl)
theorem init_VIndex {BS : String} (T : ErrVIndex K mg B newId bmB cx qn C fI) (SF : StoreFacts BS bmB "object.__setattr__" "object") {x t0 : Addr} {v : Value} (X : K.In s.heap) (hlim : s.heap.NoLimit) (hx : s.heap.get? x = some (excO C t0)) (hroom : A.depth < recursionLimit)
    (hq : ∀ h' tk dx, InitVIndex s.heap h' x C dx t0 v → R (.ok (.ret .none)) { s with heap := h', toks := tk }) :
    codeAny (model prog w) A (.call (.ref fI) ⟨[.ref x, v], []⟩) R s := by
  obtain ⟨oc, od, doc, pm, an, cdv, ct, osl, p1, p2, q1, q2, q3, q4, ho, hcd⟩ := T.fn
  refine Att.call_fn (binds := [("self", .ref x), ("index", v)]) X hlim ho hcd hroom (BindsTo.of_eq (by first | rfl | with_unfolding_all rfl)) (by first | rfl | decide | with_unfolding_all rfl) (fun s₁ IC => ?_) rfl rfl rfl
  obtain ⟨h₁, tk₁, rfl⟩ := IC.toInCall.same
  have k : ∀ b o, s.heap.get? b = some o → h₁.get? b = some o := IC.toInCall.keep
  have hn := IC.toInCall.ns
  have X₁ : K.In h₁ := X.keeps k
  have hx₁ := k _ _ hx
  show wpAny _ _ (execs _ _) _ _ _
  refine wpAny_execs_cons (plainObj_wpAny_Assign_Attribute ?_)
  refine ldVIndex (v := v) hn (by first | rfl | with_unfolding_all rfl | kernel_rfl) (ldVIndex (v := .ref x) hn (by first | rfl | with_unfolding_all rfl | kernel_rfl) ?_)
  refine set_plain X₁ (ox := excO C t0) (od := none) ⟨hx₁, rfl, rfl, trivial⟩ T.sa ?_
  refine osa_first SF X₁ hx₁ T.ov T.tk T.hdC (fun h₃ tk₃ dx k₃ dn dne hx₃ hn₃ => ?_)
  show wpAny _ _ (execs _ _) _ _ _
  have z : s.heap.objs.size < h₁.objs.size := hn.lt
  exact wpAny_execs_nil (hq h₃ tk₃ dx ⟨fun b o hb e => k₃ b o hb (k b o e), hx₃, Nat.le_of_lt (Nat.lt_of_lt_of_le z dn), dne, hn₃⟩)
theorem made_VIndex {BS : String} {bmF : List Value} (T : ErrVIndex K mg B newId bmB cx qn C fI) (SF : StoreFacts BS bmB "object.__setattr__" "object") {initId : String} (FB : ExcBaseFacts B newId initId bmF) (mo : LowK.MroOk bmB B) {v : Value} (X : K.In s.heap) (hlim : s.heap.NoLimit) (hroom : A.depth + 1 < recursionLimit)
    (hq : ∀ h' tk e d, MadeVIndex s.heap h' e C d v → R (.ok (.ret (.ref e))) { s with heap := h', toks := tk }) :
    codeAny (model prog w) A (.call (.ref C) ⟨[v], []⟩) R s := by
  obtain ⟨nm, N, qnm, bs, bm, hdct, sn, sub, ab, col, dd, k0, k1, k2, k3, k5, hC, hT⟩ := excInit_of X T.q
  obtain ⟨hp, g, dr, tk, os⟩ := s
  have k : ∀ b o, hp.get? b = some o → ((hp.push (kdv_tup [v])).push (excO C hp.objs.size)).get? b = some o := fun b o e => Heap.get?_push_of_some _ (Heap.get?_push_of_some _ e)
  have hget : ((hp.push (kdv_tup [v])).push (excO C hp.objs.size)).get? (hp.objs.size + 1) = some (excO C hp.objs.size) := by heap_get
  refine LowK.class_called FB (mo.of hT) hC (looks_findIn X T.iC) (fun self => bind_fn X self T.tC) (by rw [sizeLine_eq]; show 1 ≤ 16777216; decide) ?_
  refine init_VIndex (s := ⟨(hp.push (kdv_tup [v])).push (excO C hp.objs.size), g, dr, tk, os⟩) T SF (X.keeps k) (hlim.keeps k) hget ?_ fun h' tk' dx ⟨k', hx, dn, dne, hns⟩ => ?_
  · show A.depth + 1 < recursionLimit
    exact hroom
  · have old : ∀ b o, hp.get? b = some o → h'.get? b = some o := fun b o e => k' b o (Nat.ne_of_lt (Nat.lt_succ_of_lt (Heap.lt_size e))) (k b o e)
    have z : hp.objs.size + 1 + 1 ≤ dx := by
      first
        | (simpa only [Heap.size_push] using dn)
        | exact dn
        | (have q := dn; rw [Heap.size_push, Heap.size_push] at q; exact q)
    exact ⟨rfl, hq h' tk' (hp.objs.size + 1) dx ⟨old, Nat.le_succ _, ⟨_, _, hx, rfl, rfl, rfl, rfl⟩, Nat.le_trans (Nat.le_trans (Nat.le_succ _) (Nat.le_succ _)) z, dne, hns⟩⟩
theorem heldBack {BS : String} {bmF : List Value} (T : ErrVIndex K mg B newId bmB cx qn C fI) (SF : StoreFacts BS bmB "object.__setattr__" "object") {initId : String} (FB : ExcBaseFacts B newId initId bmF) (mo : LowK.MroOk bmB B) {v : Value} (X : K.In s.heap) (hlim : s.heap.NoLimit) (hroom : A.depth + 1 < recursionLimit)
    (hq : ∀ h' tk e d t1, (∀ b o, s.heap.get? b = some o → h'.get? b = some o) → s.heap.objs.size ≤ e → h'.get? e = some { cls := .ref C, dict := some d, data := .fields #[.ref t1, .none, .none, .none, .bool false, .none] } → s.heap.objs.size ≤ d → d ≠ e → h'.Ns1 d (fun y => if y = "index" then some v else none) → R (.ok (.ret (.ref e))) { s with heap := h', toks := tk }) :
    codeAny (model prog w) A (.call (.ref C) ⟨[v], []⟩) R s := by
  obtain ⟨nm, N, qnm, bs, bm, hdct, sn, sub, ab, col, dd, k0, k1, k2, k3, k5, hC, hT⟩ := excInit_of X T.q
  obtain ⟨hp, g, dr, tk, os⟩ := s
  have k : ∀ b o, hp.get? b = some o → ((hp.push (kdv_tup [v])).push (excO C hp.objs.size)).get? b = some o := fun b o e => Heap.get?_push_of_some _ (Heap.get?_push_of_some _ e)
  have hget : ((hp.push (kdv_tup [v])).push (excO C hp.objs.size)).get? (hp.objs.size + 1) = some (excO C hp.objs.size) := by heap_get
  refine LowK.class_called FB (mo.of hT) hC (looks_findIn X T.iC) (fun self => bind_fn X self T.tC) (by rw [sizeLine_eq]; show 1 ≤ 16777216; decide) ?_
  refine init_VIndex (s := ⟨(hp.push (kdv_tup [v])).push (excO C hp.objs.size), g, dr, tk, os⟩) T SF (X.keeps k) (hlim.keeps k) hget ?_ fun h' tk' dx ⟨k', hx, dn, dne, hns⟩ => ?_
  · show A.depth + 1 < recursionLimit
    exact hroom
  · have old : ∀ b o, hp.get? b = some o → h'.get? b = some o := fun b o e => k' b o (Nat.ne_of_lt (Nat.lt_succ_of_lt (Heap.lt_size e))) (k b o e)
    have z : hp.objs.size + 1 + 1 ≤ dx := by
      first
        | (simpa only [Heap.size_push] using dn)
        | exact dn
        | (have q := dn; rw [Heap.size_push, Heap.size_push] at q; exact q)
    exact ⟨rfl, hq h' tk' (hp.objs.size + 1) dx _ old (Nat.le_succ _) hx (Nat.le_trans (Nat.le_trans (Nat.le_succ _) (Nat.le_succ _)) z) dne hns⟩
end
end My.LowVIndex
namespace My
open PySem PySem.Spec PyProof.Rows L2
open LowVIndex (ErrVIndex MadeVIndex)
theorem relO_vIndex {v : V} {v' : Value} (r : RelV v v') (f : Str) : RelO (List.lookup f [(("index" : Str), v)]) (if f = "index" then some v' else none) := by
  by_cases hw : f = "index"
  · subst hw
    rw [if_pos rfl]
    have q : List.lookup ("index" : Str) [(("index" : Str), v)] = some v := by simp [List.lookup]
    rw [q]
    exact r
  · rw [if_neg hw]
    have qw : (f == ("index" : Str)) = false := by simpa using hw
    have q2 : List.lookup f [(("index" : Str), v)] = none := by simp [List.lookup, qw]
    rw [q2]
    trivial
section
variable {X : Cx} {C fI : Addr} {B newId : String} {bmB : List Value} {cx qn : Str} {initId : String}
def tMkVIndex (C : Addr) (ta : TA) : L2.St → Hp → XK → Prop := fun σ H Q => ta σ H fun vs H1 => ∃ v, vs = [v] ∧ ∀ d, H1 d = none → Q (.ref C) (some d) (upd H1 d (.xd [(("index" : Str), v)]))
theorem pmk_VIndex {BS : String} {bmF : List Value} {a : Expr} {ta : TA} {p pos : Pos} {k : Nat} (T : ErrVIndex X.K X.mg B newId bmB cx qn C fI) (SF : StoreFacts BS bmB "object.__setattr__" "object") (FB : ExcBaseFacts B newId initId bmF) (mo : LowK.MroOk bmB B) (hr : Room k X.A) (ha : PA X [a] ta) (hg : Gl X cx) (hdb : (cx == ("__debug__" : Str)) = false := by decide)
    (he : starEach (a :: []) X.env = (false, eval a X.env) :: starEach [] X.env := by rfl) (hpl : (backTo pos (starEach [] X.env)).any (·.1) = false := by rfl) :
    PMk X (.Call (.Name cx p) [a] [] pos) (tMkVIndex C ta) := by
  intro pins s σ H Q I h
  refine wpAny_Call_Name_kw (ld_glob I hg T.gC ?_ hdb)
  refine PySem.W.callWith_K (h₀ := X.base) I.ok.mod.kin T.kC (thn (ha.run pos pins s σ H _ I h) fun us s1 hh => ?_) he hpl
  obtain ⟨vs, H1, I1, r1, v, ev, q1⟩ := hh
  subst ev
  refine ⟨I1.kIn, ?_⟩
  cases r1 with
  | cons rv rn =>
    rename_i v' us'
    cases rn
    show wpAny _ _ (call (.ref C) [v']) _ _ _
    have hlim := I1.nolimit
    obtain ⟨hp, g, dr, tk, os⟩ := s1
    refine wpAny_call (LowVIndex.made_VIndex T SF FB mo I1.kIn hlim (by have := hr.dp; omega) fun h' tk' e d M => ?_)
    show MkP X pins σ Q (.ref e) ⟨h', g, dr, tk', os⟩
    obtain ⟨oe, fv, hoe, hc, hd, hdat, h1⟩ := M.obj
    have hns := M.ns
    obtain ⟨G', g1, g2⟩ := restrict h' fun b => decide (b ≠ e)
    have gk : ∀ b, b ≠ e → G'.get? b = h'.get? b := fun b hb => g1 b (decide_eq_true hb)
    have ge : G'.get? e = none := g2 e (by simp)
    have old : ∀ b o, hp.get? b = some o → G'.get? b = some o := fun b o q => (gk b (Nat.ne_of_lt (Nat.lt_of_lt_of_le (Heap.lt_size q) M.new))).trans (M.keep b o q)
    have ob : ObjOk X.prog X.w (upd H1 d (.xd [(("index" : Str), v)])) G' d (.xd [(("index" : Str), v)]) :=
      ⟨_, hns.at (fun o q => (gk d M.dne).trans q), fun f => relO_vIndex rv f⟩
    have J : Inv X pins σ (upd H1 d (.xd [(("index" : Str), v)])) ⟨G', g, dr, tk', os⟩ := I1.laid (t' := tk') old M.dbig ob
    refine ⟨e, oe, fv, ⟨G', g, dr, tk', os⟩, _, .ref C, some d, rfl, J, fun b o q => ?_, ge, hoe, ⟨hc, hd⟩, hdat, h1, ?_, rfl, I1.bare, raises_own T.exC T.tyC, q1 d (I1.hok.fresh M.dbig)⟩
    · by_cases hb : b = e
      · have q' : G'.get? b = some o := q
        rw [hb, ge] at q'; cases q'
      · exact (gk b hb).symm.trans q
    · rw [upd_ne (Ne.symm M.dne)]
      exact I1.hok.fresh M.new
/-- e.value in the suite that holds the error -/
theorem pe_valueIndex {a : Addr} {oe : Obj} {cls : Value} {d : Option Addr} {pn : List (Addr × Obj)} {e : Expr} {te : TE} {pos : Pos} (T : ErrVIndex X.K X.mg B newId bmB cx qn C fI) (hz : Zc cls d oe) (hf : ∃ vs, oe.data = .fields vs) (he : PE (X.suite a ((a, oe) :: pn)) e te)
    (hb : attributeBase e "index" X.env (eval e X.env) = eval e X.env := by rfl) :
    PE (X.suite a ((a, oe) :: pn)) (.Attribute e "index" pos) (tXf a cls d C "index" te) :=
  pe_xf ⟨T.ga, T.gg, T.exC, T.hdC⟩ T.noN hz hf he hb
def tHeldVIndex (C : Addr) (ta : TA) : TE := fun σ H Q => ta σ H fun vs H1 => ∃ v, vs = [v] ∧ ∀ e d, H1 e = none → H1 d = none → d ≠ e → Q (.ref e) (upd (upd H1 d (.xd [(("index" : Str), v)])) e (exo e C (some d)))
/-- the error made and held -/
theorem pe_heldVIndex {BS : String} {bmF : List Value} {a : Expr} {ta : TA} {p pos : Pos} {k : Nat} (T : ErrVIndex X.K X.mg B newId bmB cx qn C fI) (SF : StoreFacts BS bmB "object.__setattr__" "object") (FB : ExcBaseFacts B newId initId bmF) (mo : LowK.MroOk bmB B) (hr : Room k X.A) (ha : PA X [a] ta) (hg : Gl X cx) (hdb : (cx == ("__debug__" : Str)) = false := by decide)
    (he : starEach (a :: []) X.env = (false, eval a X.env) :: starEach [] X.env := by rfl) (hpl : (backTo pos (starEach [] X.env)).any (·.1) = false := by rfl) :
    PE X (.Call (.Name cx p) [a] [] pos) (tHeldVIndex C ta) := by
  refine ⟨fun pins s σ H Q I h => wpAny_Call_Name_kw (ld_glob I hg T.gC ?_ hdb)⟩
  refine PySem.W.callWith_K (h₀ := X.base) I.ok.mod.kin T.kC (thn (ha.run pos pins s σ H _ I h) fun us s1 hh => ?_) he hpl
  obtain ⟨vs, H1, I1, r1, v, ev, q1⟩ := hh
  subst ev
  refine ⟨I1.kIn, ?_⟩
  cases r1 with
  | cons rv rn =>
    rename_i v' us'
    cases rn
    show wpAny _ _ (call (.ref C) [v']) _ _ _
    have hlim := I1.nolimit
    obtain ⟨hp, g, dr, tk, os⟩ := s1
    refine wpAny_call (LowVIndex.heldBack T SF FB mo I1.kIn hlim (by have := hr.dp; omega) fun h' tk' e d t1 old hne hoe hd hde hns => ?_)
    show EP X pins σ Q (.ref e) ⟨h', g, dr, tk', os⟩
    obtain ⟨G', g1, g2⟩ := restrict h' fun b => decide (b ≠ e)
    have gk : ∀ b, b ≠ e → G'.get? b = h'.get? b := fun b hb => g1 b (decide_eq_true hb)
    have ge : G'.get? e = none := g2 e (by simp)
    have oldG : ∀ b o, hp.get? b = some o → G'.get? b = some o := fun b o q => (gk b (Nat.ne_of_lt (Nat.lt_of_lt_of_le (Heap.lt_size q) hne))).trans (old b o q)
    have ob : ObjOk X.prog X.w (upd H1 d (.xd [(("index" : Str), v)])) G' d (.xd [(("index" : Str), v)]) := ⟨_, hns.at (fun o q => (gk d hde).trans q), fun f => relO_vIndex rv f⟩
    have J : Inv X pins σ (upd H1 d (.xd [(("index" : Str), v)])) ⟨G', g, dr, tk', os⟩ := I1.laid (t' := tk') oldG hd ob
    have ne : (upd H1 d (.xd [(("index" : Str), v)])) e = none := by
      rw [upd_ne (Ne.symm hde)]
      exact I1.hok.fresh hne
    have up : ∀ b u, G'.get? b = some u → h'.get? b = some u := fun b u q => by
      by_cases hb : b = e
      · rw [hb, ge] at q
        cases q
      · exact (gk b hb).symm.trans q
    have J2 := J.laidN (h' := h') (a := e) (o := exo e C (some d)) (t' := tk') up ge ne ⟨⟨t1, hoe⟩, ⟨_, hoe⟩, fun _ _ ⟨t, q⟩ k => ⟨t, k _ q⟩⟩
    exact ⟨.ref e, _, J2, rfl, q1 e d (I1.hok.fresh hne) (I1.hok.fresh hd) hde⟩
end
end My
/-! an own error over a class that is not ValueError, with the one field "name" -/
namespace My.LowVName
open PySem PySem.W PySem.Calls PyProof.Rows PySem.HandSPX
def vA (p1 p2 : Pos) : Arguments := { posonlyargs := [], args := [{ arg := "self", annotation := none, pos := p1 }, { arg := "name", annotation := none, pos := p2 }], vararg := none, kwonlyargs := [], kw_defaults := [], kwarg := none, defaults := [] }
def vB (q1 q2 q3 q4 : Pos) : List Stmt := [.Assign [.Attribute (.Name "self" q1) "name" q2] (.Name "name" q3) q4]
def vS : Scope := { kind := .function, names := [(PySem.Str.ofString "self", .local), (PySem.Str.ofString "name", .local)], isGenerator := false, isCoroutine := false, more := [] }
/-- what the written part says of the class x at C over B, and of its __init__ at fI -/
structure ErrVName (K : Frag) (mg : Str → Option Value) (B newId : String) (bmB : List Value) (x qn : Str) (C fI : Addr) : Prop where
  gC : mg x = some (.ref C)
  q : excInitIn K C bmB newId = true
  ov : excOver K C bmB = true
  tk : takerIn K C "name" = some none
  sa : findIn K (.ref C) "__setattr__" = some (some (.builtin "object.__setattr__"))
  ga : findIn K (.ref C) "__getattribute__" = some (some (.builtin "BaseException.__getattribute__"))
  gg : findIn K (.ref C) "__getattr__" = some none
  noN : findIn K (.ref C) "name" = some none
  iC : findIn K (.ref C) "__init__" = some (some (.ref fI))
  tC : typeIn K (.ref fI) = some (.type "function")
  kC : keepIn K (.ref C) = true
  exC : subIn K (.ref C) (.type "BaseException") = some true
  tyC : typeIn K (.ref C) = some (.type "type")
  hdC : hasDictIn K C = true
  fn : ∃ (oc : Value) (od : Option Addr) (doc pm : Value) (an : Option Addr) (cdv ct : Value) (osl : Array (Option Value)) (p1 p2 q1 q2 q3 q4 : Pos),
    K.lookup fI = some ⟨oc, od, .func (fnOf "__init__" qn (vA p1 p2) (vB q1 q2 q3 q4) vS .none .none doc pm an cdv ct), osl⟩ ∧ codeIn K cdv qn = true
theorem kept_but {K : Frag} {h h' : Heap} {x : Addr} (X : K.In h) (hx : K.lookup x = none) (k : ∀ b o, b ≠ x → h.get? b = some o → h'.get? b = some o) : K.In h' := fun a o e =>
  k a o (fun z => by rw [z, hx] at e; cases e) (X a o e)
theorem ldVName {M : Model} {s : Shared} {name : Str} {scope : Scope} {L a : Addr} {cd : Value} {m : Str → Option Value} {x : Str} {pos : Pos} {v : Value} {Q : Value → Shared → Prop} {A : Around} {E : Value → Shared → Prop} (hn : s.heap.Ns L m) (hv : m x = some v) (h : Q v s)
    (hk : scope.kind = .function := by rfl) (hl : (envOfC name scope L a cd).kindOf x = some .local := by rfl) (hd : (x == ("__debug__" : Str)) = false := by decide) :
    wpAny M A (eval (.Name x pos) (envOfC name scope L a cd)) Q E s := wpAny_Name (wpAny_loadName_local hk hl hn hv h) hd
/-- what __init__ leaves of a fresh error at x -/
structure InitVName (h h' : Heap) (x C dx t1 : Addr) (v : Value) : Prop where
  keep : ∀ b o, b ≠ x → h.get? b = some o → h'.get? b = some o
  obj : h'.get? x = some { cls := .ref C, dict := some dx, data := .fields #[.ref t1, .none, .none, .none, .bool false, .none] }
  dbig : h.objs.size ≤ dx
  dne : dx ≠ x
  ns : h'.Ns1 dx (fun y => if y = "name" then some v else none)
structure MadeVName (h h' : Heap) (e C d : Addr) (v : Value) : Prop where
  keep : ∀ b o, h.get? b = some o → h'.get? b = some o
  new : h.objs.size ≤ e
  obj : ∃ oe vs, h'.get? e = some oe ∧ oe.cls = .ref C ∧ oe.dict = some d ∧ oe.data = .fields vs ∧ vs[1]? = some .none
  dbig : h.objs.size ≤ d
  dne : d ≠ e
  ns : h'.Ns1 d (fun y => if y = "name" then some v else none)
section
variable {prog : Program} {w : World} {A : Around} {E : Value → Shared → Prop} {R : Result → Shared → Prop} {s : Shared} {K : Frag} {mg : Str → Option Value} {C fI : Addr} {B newId : String} {bmB : List Value} {cx qn : Str}
/-- the first store -/
theorem osa_first {BS : String} {name : Str} {tk : Tok} {v : Value} {x t0 : Addr} (SF : StoreFacts BS bmB "object.__setattr__" "object") (X : K.In s.heap) (hx : s.heap.get? x = some (excO C t0)) (ov : excOver K C bmB = true) (ht : takerIn K C name = some none) (hh : hasDictIn K C = true)
    (hq : ∀ h' tk' dx, (∀ b o, b ≠ x → s.heap.get? b = some o → h'.get? b = some o) → s.heap.objs.size ≤ dx → dx ≠ x → h'.get? x = some { cls := .ref C, dict := some dx, data := .fields #[.ref t0, .none, .none, .none, .bool false, .none] } →
      h'.Ns1 dx (fun y => if y = name then some v else none) → R (.ok (.ret .none)) { s with heap := h', toks := tk' }) :
    codeAny (model prog w) A (.call (.builtin "object.__setattr__") ⟨[.ref x, .str name tk, v], []⟩) R s := by
  refine osa_openX (od := none) SF X ⟨hx, rfl, rfl, trivial⟩ ov ht fun b => ?_
  obtain ⟨cd, hc, hd'⟩ := any_some hh
  have hxs : x ≠ s.heap.objs.size := Nat.ne_of_lt (Heap.lt_size hx)
  refine wpAny_bind (wpAny_pure (wpAny_bind (instanceDict_exc hx (looks_clsIn X hc) hd' ?_)))
  obtain ⟨hp, g, d, t, os⟩ := s
  show wpAny _ _ (Builtin.ObjectAttr.storeInDict hp.objs.size (.str name tk) name v) _ _ _
  have hx1 := Heap.get?_push_of_some (dictOf [] 0) hx
  refine store_in_new ?_ fun h' tk' hn' hs => ?_
  · exact ⟨_, #[], _, (Heap.get?_update_ne _ _ _ _ hxs.symm).trans (Heap.get?_push_at rfl rfl), rfl, fun e he => absurd he (by simp), fun _ => rfl⟩
  · refine hq h' tk' hp.objs.size (fun b o hb ho => ?_) (Nat.le_refl _) hxs.symm ?_ hn'
    · exact (hs.2 b (Nat.ne_of_lt (Heap.lt_size ho))).trans ((Heap.get?_update_ne _ _ _ _ hb).trans (Heap.get?_push_of_some _ ho))
    · exact (hs.2 x hxs).trans (Heap.get?_update_self _ hx1 rfl)
theorem init_VName {BS : String} (T : ErrVName K mg B newId bmB cx qn C fI) (SF : StoreFacts BS bmB "object.__setattr__" "object") {x t0 : Addr} {v : Value} (X : K.In s.heap) (hlim : s.heap.NoLimit) (hx : s.heap.get? x = some (excO C t0)) (hroom : A.depth < recursionLimit)
    (hq : ∀ h' tk dx, InitVName s.heap h' x C dx t0 v → R (.ok (.ret .none)) { s with heap := h', toks := tk }) :
    codeAny (model prog w) A (.call (.ref fI) ⟨[.ref x, v], []⟩) R s := by
  obtain ⟨oc, od, doc, pm, an, cdv, ct, osl, p1, p2, q1, q2, q3, q4, ho, hcd⟩ := T.fn
  refine Att.call_fn (binds := [("self", .ref x), ("name", v)]) X hlim ho hcd hroom (BindsTo.of_eq (by first | rfl | with_unfolding_all rfl)) (by first | rfl | decide | with_unfolding_all rfl) (fun s₁ IC => ?_) rfl rfl rfl
  obtain ⟨h₁, tk₁, rfl⟩ := IC.toInCall.same
  have k : ∀ b o, s.heap.get? b = some o → h₁.get? b = some o := IC.toInCall.keep
  have hn := IC.toInCall.ns
  have X₁ : K.In h₁ := X.keeps k
  have hx₁ := k _ _ hx
  show wpAny _ _ (execs _ _) _ _ _
  refine wpAny_execs_cons (plainObj_wpAny_Assign_Attribute ?_)
  refine ldVName (v := v) hn (by first | rfl | with_unfolding_all rfl | kernel_rfl) (ldVName (v := .ref x) hn (by first | rfl | with_unfolding_all rfl | kernel_rfl) ?_)
  refine set_plain X₁ (ox := excO C t0) (od := none) ⟨hx₁, rfl, rfl, trivial⟩ T.sa ?_
  refine osa_first SF X₁ hx₁ T.ov T.tk T.hdC (fun h₃ tk₃ dx k₃ dn dne hx₃ hn₃ => ?_)
  show wpAny _ _ (execs _ _) _ _ _
  have z : s.heap.objs.size < h₁.objs.size := hn.lt
  exact wpAny_execs_nil (hq h₃ tk₃ dx ⟨fun b o hb e => k₃ b o hb (k b o e), hx₃, Nat.le_of_lt (Nat.lt_of_lt_of_le z dn), dne, hn₃⟩)
theorem made_VName {BS : String} {bmF : List Value} (T : ErrVName K mg B newId bmB cx qn C fI) (SF : StoreFacts BS bmB "object.__setattr__" "object") {initId : String} (FB : ExcBaseFacts B newId initId bmF) (mo : LowK.MroOk bmB B) {v : Value} (X : K.In s.heap) (hlim : s.heap.NoLimit) (hroom : A.depth + 1 < recursionLimit)
    (hq : ∀ h' tk e d, MadeVName s.heap h' e C d v → R (.ok (.ret (.ref e))) { s with heap := h', toks := tk }) :
    codeAny (model prog w) A (.call (.ref C) ⟨[v], []⟩) R s := by
  obtain ⟨nm, N, qnm, bs, bm, hdct, sn, sub, ab, col, dd, k0, k1, k2, k3, k5, hC, hT⟩ := excInit_of X T.q
  obtain ⟨hp, g, dr, tk, os⟩ := s
  have k : ∀ b o, hp.get? b = some o → ((hp.push (kdv_tup [v])).push (excO C hp.objs.size)).get? b = some o := fun b o e => Heap.get?_push_of_some _ (Heap.get?_push_of_some _ e)
  have hget : ((hp.push (kdv_tup [v])).push (excO C hp.objs.size)).get? (hp.objs.size + 1) = some (excO C hp.objs.size) := by heap_get
  refine LowK.class_called FB (mo.of hT) hC (looks_findIn X T.iC) (fun self => bind_fn X self T.tC) (by rw [sizeLine_eq]; show 1 ≤ 16777216; decide) ?_
  refine init_VName (s := ⟨(hp.push (kdv_tup [v])).push (excO C hp.objs.size), g, dr, tk, os⟩) T SF (X.keeps k) (hlim.keeps k) hget ?_ fun h' tk' dx ⟨k', hx, dn, dne, hns⟩ => ?_
  · show A.depth + 1 < recursionLimit
    exact hroom
  · have old : ∀ b o, hp.get? b = some o → h'.get? b = some o := fun b o e => k' b o (Nat.ne_of_lt (Nat.lt_succ_of_lt (Heap.lt_size e))) (k b o e)
    have z : hp.objs.size + 1 + 1 ≤ dx := by
      first
        | (simpa only [Heap.size_push] using dn)
        | exact dn
        | (have q := dn; rw [Heap.size_push, Heap.size_push] at q; exact q)
    exact ⟨rfl, hq h' tk' (hp.objs.size + 1) dx ⟨old, Nat.le_succ _, ⟨_, _, hx, rfl, rfl, rfl, rfl⟩, Nat.le_trans (Nat.le_trans (Nat.le_succ _) (Nat.le_succ _)) z, dne, hns⟩⟩
theorem heldBack {BS : String} {bmF : List Value} (T : ErrVName K mg B newId bmB cx qn C fI) (SF : StoreFacts BS bmB "object.__setattr__" "object") {initId : String} (FB : ExcBaseFacts B newId initId bmF) (mo : LowK.MroOk bmB B) {v : Value} (X : K.In s.heap) (hlim : s.heap.NoLimit) (hroom : A.depth + 1 < recursionLimit)
    (hq : ∀ h' tk e d t1, (∀ b o, s.heap.get? b = some o → h'.get? b = some o) → s.heap.objs.size ≤ e → h'.get? e = some { cls := .ref C, dict := some d, data := .fields #[.ref t1, .none, .none, .none, .bool false, .none] } → s.heap.objs.size ≤ d → d ≠ e → h'.Ns1 d (fun y => if y = "name" then some v else none) → R (.ok (.ret (.ref e))) { s with heap := h', toks := tk }) :
    codeAny (model prog w) A (.call (.ref C) ⟨[v], []⟩) R s := by
  obtain ⟨nm, N, qnm, bs, bm, hdct, sn, sub, ab, col, dd, k0, k1, k2, k3, k5, hC, hT⟩ := excInit_of X T.q
  obtain ⟨hp, g, dr, tk, os⟩ := s
  have k : ∀ b o, hp.get? b = some o → ((hp.push (kdv_tup [v])).push (excO C hp.objs.size)).get? b = some o := fun b o e => Heap.get?_push_of_some _ (Heap.get?_push_of_some _ e)
  have hget : ((hp.push (kdv_tup [v])).push (excO C hp.objs.size)).get? (hp.objs.size + 1) = some (excO C hp.objs.size) := by heap_get
  refine LowK.class_called FB (mo.of hT) hC (looks_findIn X T.iC) (fun self => bind_fn X self T.tC) (by rw [sizeLine_eq]; show 1 ≤ 16777216; decide) ?_
  refine init_VName (s := ⟨(hp.push (kdv_tup [v])).push (excO C hp.objs.size), g, dr, tk, os⟩) T SF (X.keeps k) (hlim.keeps k) hget ?_ fun h' tk' dx ⟨k', hx, dn, dne, hns⟩ => ?_
  · show A.depth + 1 < recursionLimit
    exact hroom
  · have old : ∀ b o, hp.get? b = some o → h'.get? b = some o := fun b o e => k' b o (Nat.ne_of_lt (Nat.lt_succ_of_lt (Heap.lt_size e))) (k b o e)
    have z : hp.objs.size + 1 + 1 ≤ dx := by
      first
        | (simpa only [Heap.size_push] using dn)
        | exact dn
        | (have q := dn; rw [Heap.size_push, Heap.size_push] at q; exact q)
    exact ⟨rfl, hq h' tk' (hp.objs.size + 1) dx _ old (Nat.le_succ _) hx (Nat.le_trans (Nat.le_trans (Nat.le_succ _) (Nat.le_succ _)) z) dne hns⟩
end
end My.LowVName
namespace My
open PySem PySem.Spec PyProof.Rows L2
open LowVName (ErrVName MadeVName)
theorem relO_vName {v : V} {v' : Value} (r : RelV v v') (f : Str) : RelO (List.lookup f [(("name" : Str), v)]) (if f = "name" then some v' else none) := by
  by_cases hw : f = "name"
  · subst hw
    rw [if_pos rfl]
    have q : List.lookup ("name" : Str) [(("name" : Str), v)] = some v := by simp [List.lookup]
    rw [q]
    exact r
  · rw [if_neg hw]
    have qw : (f == ("name" : Str)) = false := by simpa using hw
    have q2 : List.lookup f [(("name" : Str), v)] = none := by simp [List.lookup, qw]
    rw [q2]
    trivial
section
variable {X : Cx} {C fI : Addr} {B newId : String} {bmB : List Value} {cx qn : Str} {initId : String}
def tMkVName (C : Addr) (ta : TA) : L2.St → Hp → XK → Prop := fun σ H Q => ta σ H fun vs H1 => ∃ v, vs = [v] ∧ ∀ d, H1 d = none → Q (.ref C) (some d) (upd H1 d (.xd [(("name" : Str), v)]))
theorem pmk_VName {BS : String} {bmF : List Value} {a : Expr} {ta : TA} {p pos : Pos} {k : Nat} (T : ErrVName X.K X.mg B newId bmB cx qn C fI) (SF : StoreFacts BS bmB "object.__setattr__" "object") (FB : ExcBaseFacts B newId initId bmF) (mo : LowK.MroOk bmB B) (hr : Room k X.A) (ha : PA X [a] ta) (hg : Gl X cx) (hdb : (cx == ("__debug__" : Str)) = false := by decide)
    (he : starEach (a :: []) X.env = (false, eval a X.env) :: starEach [] X.env := by rfl) (hpl : (backTo pos (starEach [] X.env)).any (·.1) = false := by rfl) :
    PMk X (.Call (.Name cx p) [a] [] pos) (tMkVName C ta) := by
  intro pins s σ H Q I h
  refine wpAny_Call_Name_kw (ld_glob I hg T.gC ?_ hdb)
  refine PySem.W.callWith_K (h₀ := X.base) I.ok.mod.kin T.kC (thn (ha.run pos pins s σ H _ I h) fun us s1 hh => ?_) he hpl
  obtain ⟨vs, H1, I1, r1, v, ev, q1⟩ := hh
  subst ev
  refine ⟨I1.kIn, ?_⟩
  cases r1 with
  | cons rv rn =>
    rename_i v' us'
    cases rn
    show wpAny _ _ (call (.ref C) [v']) _ _ _
    have hlim := I1.nolimit
    obtain ⟨hp, g, dr, tk, os⟩ := s1
    refine wpAny_call (LowVName.made_VName T SF FB mo I1.kIn hlim (by have := hr.dp; omega) fun h' tk' e d M => ?_)
    show MkP X pins σ Q (.ref e) ⟨h', g, dr, tk', os⟩
    obtain ⟨oe, fv, hoe, hc, hd, hdat, h1⟩ := M.obj
    have hns := M.ns
    obtain ⟨G', g1, g2⟩ := restrict h' fun b => decide (b ≠ e)
    have gk : ∀ b, b ≠ e → G'.get? b = h'.get? b := fun b hb => g1 b (decide_eq_true hb)
    have ge : G'.get? e = none := g2 e (by simp)
    have old : ∀ b o, hp.get? b = some o → G'.get? b = some o := fun b o q => (gk b (Nat.ne_of_lt (Nat.lt_of_lt_of_le (Heap.lt_size q) M.new))).trans (M.keep b o q)
    have ob : ObjOk X.prog X.w (upd H1 d (.xd [(("name" : Str), v)])) G' d (.xd [(("name" : Str), v)]) :=
      ⟨_, hns.at (fun o q => (gk d M.dne).trans q), fun f => relO_vName rv f⟩
    have J : Inv X pins σ (upd H1 d (.xd [(("name" : Str), v)])) ⟨G', g, dr, tk', os⟩ := I1.laid (t' := tk') old M.dbig ob
    refine ⟨e, oe, fv, ⟨G', g, dr, tk', os⟩, _, .ref C, some d, rfl, J, fun b o q => ?_, ge, hoe, ⟨hc, hd⟩, hdat, h1, ?_, rfl, I1.bare, raises_own T.exC T.tyC, q1 d (I1.hok.fresh M.dbig)⟩
    · by_cases hb : b = e
      · have q' : G'.get? b = some o := q
        rw [hb, ge] at q'; cases q'
      · exact (gk b hb).symm.trans q
    · rw [upd_ne (Ne.symm M.dne)]
      exact I1.hok.fresh M.new
/-- e.value in the suite that holds the error -/
theorem pe_valueName {a : Addr} {oe : Obj} {cls : Value} {d : Option Addr} {pn : List (Addr × Obj)} {e : Expr} {te : TE} {pos : Pos} (T : ErrVName X.K X.mg B newId bmB cx qn C fI) (hz : Zc cls d oe) (hf : ∃ vs, oe.data = .fields vs) (he : PE (X.suite a ((a, oe) :: pn)) e te)
    (hb : attributeBase e "name" X.env (eval e X.env) = eval e X.env := by rfl) :
    PE (X.suite a ((a, oe) :: pn)) (.Attribute e "name" pos) (tXf a cls d C "name" te) :=
  pe_xf ⟨T.ga, T.gg, T.exC, T.hdC⟩ T.noN hz hf he hb
def tHeldVName (C : Addr) (ta : TA) : TE := fun σ H Q => ta σ H fun vs H1 => ∃ v, vs = [v] ∧ ∀ e d, H1 e = none → H1 d = none → d ≠ e → Q (.ref e) (upd (upd H1 d (.xd [(("name" : Str), v)])) e (exo e C (some d)))
/-- the error made and held -/
theorem pe_heldVName {BS : String} {bmF : List Value} {a : Expr} {ta : TA} {p pos : Pos} {k : Nat} (T : ErrVName X.K X.mg B newId bmB cx qn C fI) (SF : StoreFacts BS bmB "object.__setattr__" "object") (FB : ExcBaseFacts B newId initId bmF) (mo : LowK.MroOk bmB B) (hr : Room k X.A) (ha : PA X [a] ta) (hg : Gl X cx) (hdb : (cx == ("__debug__" : Str)) = false := by decide)
    (he : starEach (a :: []) X.env = (false, eval a X.env) :: starEach [] X.env := by rfl) (hpl : (backTo pos (starEach [] X.env)).any (·.1) = false := by rfl) :
    PE X (.Call (.Name cx p) [a] [] pos) (tHeldVName C ta) := by
  refine ⟨fun pins s σ H Q I h => wpAny_Call_Name_kw (ld_glob I hg T.gC ?_ hdb)⟩
  refine PySem.W.callWith_K (h₀ := X.base) I.ok.mod.kin T.kC (thn (ha.run pos pins s σ H _ I h) fun us s1 hh => ?_) he hpl
  obtain ⟨vs, H1, I1, r1, v, ev, q1⟩ := hh
  subst ev
  refine ⟨I1.kIn, ?_⟩
  cases r1 with
  | cons rv rn =>
    rename_i v' us'
    cases rn
    show wpAny _ _ (call (.ref C) [v']) _ _ _
    have hlim := I1.nolimit
    obtain ⟨hp, g, dr, tk, os⟩ := s1
    refine wpAny_call (LowVName.heldBack T SF FB mo I1.kIn hlim (by have := hr.dp; omega) fun h' tk' e d t1 old hne hoe hd hde hns => ?_)
    show EP X pins σ Q (.ref e) ⟨h', g, dr, tk', os⟩
    obtain ⟨G', g1, g2⟩ := restrict h' fun b => decide (b ≠ e)
    have gk : ∀ b, b ≠ e → G'.get? b = h'.get? b := fun b hb => g1 b (decide_eq_true hb)
    have ge : G'.get? e = none := g2 e (by simp)
    have oldG : ∀ b o, hp.get? b = some o → G'.get? b = some o := fun b o q => (gk b (Nat.ne_of_lt (Nat.lt_of_lt_of_le (Heap.lt_size q) hne))).trans (old b o q)
    have ob : ObjOk X.prog X.w (upd H1 d (.xd [(("name" : Str), v)])) G' d (.xd [(("name" : Str), v)]) := ⟨_, hns.at (fun o q => (gk d hde).trans q), fun f => relO_vName rv f⟩
    have J : Inv X pins σ (upd H1 d (.xd [(("name" : Str), v)])) ⟨G', g, dr, tk', os⟩ := I1.laid (t' := tk') oldG hd ob
    have ne : (upd H1 d (.xd [(("name" : Str), v)])) e = none := by
      rw [upd_ne (Ne.symm hde)]
      exact I1.hok.fresh hne
    have up : ∀ b u, G'.get? b = some u → h'.get? b = some u := fun b u q => by
      by_cases hb : b = e
      · rw [hb, ge] at q
        cases q
      · exact (gk b hb).symm.trans q
    have J2 := J.laidN (h' := h') (a := e) (o := exo e C (some d)) (t' := tk') up ge ne ⟨⟨t1, hoe⟩, ⟨_, hoe⟩, fun _ _ ⟨t, q⟩ k => ⟨t, k _ q⟩⟩
    exact ⟨.ref e, _, J2, rfl, q1 e d (I1.hok.fresh hne) (I1.hok.fresh hd) hde⟩
end
end My
/-! an own error over a class that is not ValueError, with the one field "value" -/
namespace My.LowVValue
open PySem PySem.W PySem.Calls PyProof.Rows PySem.HandSPX
def vA (p1 p2 : Pos) : Arguments := { posonlyargs := [], args := [{ arg := "self", annotation := none, pos := p1 }, { arg := "value", annotation := none, pos := p2 }], vararg := none, kwonlyargs := [], kw_defaults := [], kwarg := none, defaults := [] }
def vB (q1 q2 q3 q4 : Pos) : List Stmt := [.Assign [.Attribute (.Name "self" q1) "value" q2] (.Name "value" q3) q4]
def vS : Scope := { kind := .function, names := [(PySem.Str.ofString "self", .local), (PySem.Str.ofString "value", .local)], isGenerator := false, isCoroutine := false, more := [] }
/-- what the written part says of the class x at C over B, and of its __init__ at fI -/
structure ErrVValue (K : Frag) (mg : Str → Option Value) (B newId : String) (bmB : List Value) (x qn : Str) (C fI : Addr) : Prop where
  gC : mg x = some (.ref C)
  q : excInitIn K C bmB newId = true
  ov : excOver K C bmB = true
  tk : takerIn K C "value" = some none
  sa : findIn K (.ref C) "__setattr__" = some (some (.builtin "object.__setattr__"))
  ga : findIn K (.ref C) "__getattribute__" = some (some (.builtin "BaseException.__getattribute__"))
  gg : findIn K (.ref C) "__getattr__" = some none
  noN : findIn K (.ref C) "value" = some none
  iC : findIn K (.ref C) "__init__" = some (some (.ref fI))
  tC : typeIn K (.ref fI) = some (.type "function")
  kC : keepIn K (.ref C) = true
  exC : subIn K (.ref C) (.type "BaseException") = some true
  tyC : typeIn K (.ref C) = some (.type "type")
  hdC : hasDictIn K C = true
  fn : ∃ (oc : Value) (od : Option Addr) (doc pm : Value) (an : Option Addr) (cdv ct : Value) (osl : Array (Option Value)) (p1 p2 q1 q2 q3 q4 : Pos),
    K.lookup fI = some ⟨oc, od, .func (fnOf "__init__" qn (vA p1 p2) (vB q1 q2 q3 q4) vS .none .none doc pm an cdv ct), osl⟩ ∧ codeIn K cdv qn = true
theorem kept_but {K : Frag} {h h' : Heap} {x : Addr} (X : K.In h) (hx : K.lookup x = none) (k : ∀ b o, b ≠ x → h.get? b = some o → h'.get? b = some o) : K.In h' := fun a o e =>
  k a o (fun z => by rw [z, hx] at e; cases e) (X a o e)
theorem ldVValue {M : Model} {s : Shared} {name : Str} {scope : Scope} {L a : Addr} {cd : Value} {m : Str → Option Value} {x : Str} {pos : Pos} {v : Value} {Q : Value → Shared → Prop} {A : Around} {E : Value → Shared → Prop} (hn : s.heap.Ns L m) (hv : m x = some v) (h : Q v s)
    (hk : scope.kind = .function := by rfl) (hl : (envOfC name scope L a cd).kindOf x = some .local := by rfl) (hd : (x == ("__debug__" : Str)) = false := by decide) :
    wpAny M A (eval (.Name x pos) (envOfC name scope L a cd)) Q E s := wpAny_Name (wpAny_loadName_local hk hl hn hv h) hd
/-- what __init__ leaves of a fresh error at x -/
structure InitVValue (h h' : Heap) (x C dx t1 : Addr) (v : Value) : Prop where
  keep : ∀ b o, b ≠ x → h.get? b = some o → h'.get? b = some o
  obj : h'.get? x = some { cls := .ref C, dict := some dx, data := .fields #[.ref t1, .none, .none, .none, .bool false, .none] }
  dbig : h.objs.size ≤ dx
  dne : dx ≠ x
  ns : h'.Ns1 dx (fun y => if y = "value" then some v else none)
structure MadeVValue (h h' : Heap) (e C d : Addr) (v : Value) : Prop where
  keep : ∀ b o, h.get? b = some o → h'.get? b = some o
  new : h.objs.size ≤ e
  obj : ∃ oe vs, h'.get? e = some oe ∧ oe.cls = .ref C ∧ oe.dict = some d ∧ oe.data = .fields vs ∧ vs[1]? = some .none
  dbig : h.objs.size ≤ d
  dne : d ≠ e
  ns : h'.Ns1 d (fun y => if y = "value" then some v else none)
section
variable {prog : Program} {w : World} {A : Around} {E : Value → Shared → Prop} {R : Result → Shared → Prop} {s : Shared} {K : Frag} {mg : Str → Option Value} {C fI : Addr} {B newId : String} {bmB : List Value} {cx qn : Str}
/-- the first store -/
theorem osa_first {BS : String} {name : Str} {tk : Tok} {v : Value} {x t0 : Addr} (SF : StoreFacts BS bmB "object.__setattr__" "object") (X : K.In s.heap) (hx : s.heap.get? x = some (excO C t0)) (ov : excOver K C bmB = true) (ht : takerIn K C name = some none) (hh : hasDictIn K C = true)
    (hq : ∀ h' tk' dx, (∀ b o, b ≠ x → s.heap.get? b = some o → h'.get? b = some o) → s.heap.objs.size ≤ dx → dx ≠ x → h'.get? x = some { cls := .ref C, dict := some dx, data := .fields #[.ref t0, .none, .none, .none, .bool false, .none] } →
      h'.Ns1 dx (fun y => if y = name then some v else none) → R (.ok (.ret .none)) { s with heap := h', toks := tk' }) :
    codeAny (model prog w) A (.call (.builtin "object.__setattr__") ⟨[.ref x, .str name tk, v], []⟩) R s := by
  refine osa_openX (od := none) SF X ⟨hx, rfl, rfl, trivial⟩ ov ht fun b => ?_
  obtain ⟨cd, hc, hd'⟩ := any_some hh
  have hxs : x ≠ s.heap.objs.size := Nat.ne_of_lt (Heap.lt_size hx)
  refine wpAny_bind (wpAny_pure (wpAny_bind (instanceDict_exc hx (looks_clsIn X hc) hd' ?_)))
  obtain ⟨hp, g, d, t, os⟩ := s
  show wpAny _ _ (Builtin.ObjectAttr.storeInDict hp.objs.size (.str name tk) name v) _ _ _
  have hx1 := Heap.get?_push_of_some (dictOf [] 0) hx
  refine store_in_new ?_ fun h' tk' hn' hs => ?_
  · exact ⟨_, #[], _, (Heap.get?_update_ne _ _ _ _ hxs.symm).trans (Heap.get?_push_at rfl rfl), rfl, fun e he => absurd he (by simp), fun _ => rfl⟩
  · refine hq h' tk' hp.objs.size (fun b o hb ho => ?_) (Nat.le_refl _) hxs.symm ?_ hn'
    · exact (hs.2 b (Nat.ne_of_lt (Heap.lt_size ho))).trans ((Heap.get?_update_ne _ _ _ _ hb).trans (Heap.get?_push_of_some _ ho))
    · exact (hs.2 x hxs).trans (Heap.get?_update_self _ hx1 rfl)
theorem init_VValue {BS : String} (T : ErrVValue K mg B newId bmB cx qn C fI) (SF : StoreFacts BS bmB "object.__setattr__" "object") {x t0 : Addr} {v : Value} (X : K.In s.heap) (hlim : s.heap.NoLimit) (hx : s.heap.get? x = some (excO C t0)) (hroom : A.depth < recursionLimit)
    (hq : ∀ h' tk dx, InitVValue s.heap h' x C dx t0 v → R (.ok (.ret .none)) { s with heap := h', toks := tk }) :
    codeAny (model prog w) A (.call (.ref fI) ⟨[.ref x, v], []⟩) R s := by
  obtain ⟨oc, od, doc, pm, an, cdv, ct, osl, p1, p2, q1, q2, q3, q4, ho, hcd⟩ := T.fn
  refine Att.call_fn (binds := [("self", .ref x), ("value", v)]) X hlim ho hcd hroom (BindsTo.of_eq (by first | rfl | with_unfolding_all rfl)) (by first | rfl | decide | with_unfolding_all rfl) (fun s₁ IC => ?_) rfl rfl rfl
  obtain ⟨h₁, tk₁, rfl⟩ := IC.toInCall.same
  have k : ∀ b o, s.heap.get? b = some o → h₁.get? b = some o := IC.toInCall.keep
  have hn := IC.toInCall.ns
  have X₁ : K.In h₁ := X.keeps k
  have hx₁ := k _ _ hx
  show wpAny _ _ (execs _ _) _ _ _
  refine wpAny_execs_cons (plainObj_wpAny_Assign_Attribute ?_)
  refine ldVValue (v := v) hn (by first | rfl | with_unfolding_all rfl | kernel_rfl) (ldVValue (v := .ref x) hn (by first | rfl | with_unfolding_all rfl | kernel_rfl) ?_)
  refine set_plain X₁ (ox := excO C t0) (od := none) ⟨hx₁, rfl, rfl, trivial⟩ T.sa ?_
  refine osa_first SF X₁ hx₁ T.ov T.tk T.hdC (fun h₃ tk₃ dx k₃ dn dne hx₃ hn₃ => ?_)
  show wpAny _ _ (execs _ _) _ _ _
  have z : s.heap.objs.size < h₁.objs.size := hn.lt
  exact wpAny_execs_nil (hq h₃ tk₃ dx ⟨fun b o hb e => k₃ b o hb (k b o e), hx₃, Nat.le_of_lt (Nat.lt_of_lt_of_le z dn), dne, hn₃⟩)
theorem made_VValue {BS : String} {bmF : List Value} (T : ErrVValue K mg B newId bmB cx qn C fI) (SF : StoreFacts BS bmB "object.__setattr__" "object") {initId : String} (FB : ExcBaseFacts B newId initId bmF) (mo : LowK.MroOk bmB B) {v : Value} (X : K.In s.heap) (hlim : s.heap.NoLimit) (hroom : A.depth + 1 < recursionLimit)
    (hq : ∀ h' tk e d, MadeVValue s.heap h' e C d v → R (.ok (.ret (.ref e))) { s with heap := h', toks := tk }) :
    codeAny (model prog w) A (.call (.ref C) ⟨[v], []⟩) R s := by
  obtain ⟨nm, N, qnm, bs, bm, hdct, sn, sub, ab, col, dd, k0, k1, k2, k3, k5, hC, hT⟩ := excInit_of X T.q
  obtain ⟨hp, g, dr, tk, os⟩ := s
  have k : ∀ b o, hp.get? b = some o → ((hp.push (kdv_tup [v])).push (excO C hp.objs.size)).get? b = some o := fun b o e => Heap.get?_push_of_some _ (Heap.get?_push_of_some _ e)
  have hget : ((hp.push (kdv_tup [v])).push (excO C hp.objs.size)).get? (hp.objs.size + 1) = some (excO C hp.objs.size) := by heap_get
  refine LowK.class_called FB (mo.of hT) hC (looks_findIn X T.iC) (fun self => bind_fn X self T.tC) (by rw [sizeLine_eq]; show 1 ≤ 16777216; decide) ?_
  refine init_VValue (s := ⟨(hp.push (kdv_tup [v])).push (excO C hp.objs.size), g, dr, tk, os⟩) T SF (X.keeps k) (hlim.keeps k) hget ?_ fun h' tk' dx ⟨k', hx, dn, dne, hns⟩ => ?_
  · show A.depth + 1 < recursionLimit
    exact hroom
  · have old : ∀ b o, hp.get? b = some o → h'.get? b = some o := fun b o e => k' b o (Nat.ne_of_lt (Nat.lt_succ_of_lt (Heap.lt_size e))) (k b o e)
    have z : hp.objs.size + 1 + 1 ≤ dx := by
      first
        | (simpa only [Heap.size_push] using dn)
        | exact dn
        | (have q := dn; rw [Heap.size_push, Heap.size_push] at q; exact q)
    exact ⟨rfl, hq h' tk' (hp.objs.size + 1) dx ⟨old, Nat.le_succ _, ⟨_, _, hx, rfl, rfl, rfl, rfl⟩, Nat.le_trans (Nat.le_trans (Nat.le_succ _) (Nat.le_succ _)) z, dne, hns⟩⟩
theorem heldBack {BS : String} {bmF : List Value} (T : ErrVValue K mg B newId bmB cx qn C fI) (SF : StoreFacts BS bmB "object.__setattr__" "object") {initId : String} (FB : ExcBaseFacts B newId initId bmF) (mo : LowK.MroOk bmB B) {v : Value} (X : K.In s.heap) (hlim : s.heap.NoLimit) (hroom : A.depth + 1 < recursionLimit)
    (hq : ∀ h' tk e d t1, (∀ b o, s.heap.get? b = some o → h'.get? b = some o) → s.heap.objs.size ≤ e → h'.get? e = some { cls := .ref C, dict := some d, data := .fields #[.ref t1, .none, .none, .none, .bool false, .none] } → s.heap.objs.size ≤ d → d ≠ e → h'.Ns1 d (fun y => if y = "value" then some v else none) → R (.ok (.ret (.ref e))) { s with heap := h', toks := tk }) :
    codeAny (model prog w) A (.call (.ref C) ⟨[v], []⟩) R s := by
  obtain ⟨nm, N, qnm, bs, bm, hdct, sn, sub, ab, col, dd, k0, k1, k2, k3, k5, hC, hT⟩ := excInit_of X T.q
  obtain ⟨hp, g, dr, tk, os⟩ := s
  have k : ∀ b o, hp.get? b = some o → ((hp.push (kdv_tup [v])).push (excO C hp.objs.size)).get? b = some o := fun b o e => Heap.get?_push_of_some _ (Heap.get?_push_of_some _ e)
  have hget : ((hp.push (kdv_tup [v])).push (excO C hp.objs.size)).get? (hp.objs.size + 1) = some (excO C hp.objs.size) := by heap_get
  refine LowK.class_called FB (mo.of hT) hC (looks_findIn X T.iC) (fun self => bind_fn X self T.tC) (by rw [sizeLine_eq]; show 1 ≤ 16777216; decide) ?_
  refine init_VValue (s := ⟨(hp.push (kdv_tup [v])).push (excO C hp.objs.size), g, dr, tk, os⟩) T SF (X.keeps k) (hlim.keeps k) hget ?_ fun h' tk' dx ⟨k', hx, dn, dne, hns⟩ => ?_
  · show A.depth + 1 < recursionLimit
    exact hroom
  · have old : ∀ b o, hp.get? b = some o → h'.get? b = some o := fun b o e => k' b o (Nat.ne_of_lt (Nat.lt_succ_of_lt (Heap.lt_size e))) (k b o e)
    have z : hp.objs.size + 1 + 1 ≤ dx := by
      first
        | (simpa only [Heap.size_push] using dn)
        | exact dn
        | (have q := dn; rw [Heap.size_push, Heap.size_push] at q; exact q)
    exact ⟨rfl, hq h' tk' (hp.objs.size + 1) dx _ old (Nat.le_succ _) hx (Nat.le_trans (Nat.le_trans (Nat.le_succ _) (Nat.le_succ _)) z) dne hns⟩
end
end My.LowVValue
namespace My
open PySem PySem.Spec PyProof.Rows L2
open LowVValue (ErrVValue MadeVValue)
theorem relO_vValue {v : V} {v' : Value} (r : RelV v v') (f : Str) : RelO (List.lookup f [(("value" : Str), v)]) (if f = "value" then some v' else none) := by
  by_cases hw : f = "value"
  · subst hw
    rw [if_pos rfl]
    have q : List.lookup ("value" : Str) [(("value" : Str), v)] = some v := by simp [List.lookup]
    rw [q]
    exact r
  · rw [if_neg hw]
    have qw : (f == ("value" : Str)) = false := by simpa using hw
    have q2 : List.lookup f [(("value" : Str), v)] = none := by simp [List.lookup, qw]
    rw [q2]
    trivial
section
variable {X : Cx} {C fI : Addr} {B newId : String} {bmB : List Value} {cx qn : Str} {initId : String}
def tMkVValue (C : Addr) (ta : TA) : L2.St → Hp → XK → Prop := fun σ H Q => ta σ H fun vs H1 => ∃ v, vs = [v] ∧ ∀ d, H1 d = none → Q (.ref C) (some d) (upd H1 d (.xd [(("value" : Str), v)]))
theorem pmk_VValue {BS : String} {bmF : List Value} {a : Expr} {ta : TA} {p pos : Pos} {k : Nat} (T : ErrVValue X.K X.mg B newId bmB cx qn C fI) (SF : StoreFacts BS bmB "object.__setattr__" "object") (FB : ExcBaseFacts B newId initId bmF) (mo : LowK.MroOk bmB B) (hr : Room k X.A) (ha : PA X [a] ta) (hg : Gl X cx) (hdb : (cx == ("__debug__" : Str)) = false := by decide)
    (he : starEach (a :: []) X.env = (false, eval a X.env) :: starEach [] X.env := by rfl) (hpl : (backTo pos (starEach [] X.env)).any (·.1) = false := by rfl) :
    PMk X (.Call (.Name cx p) [a] [] pos) (tMkVValue C ta) := by
  intro pins s σ H Q I h
  refine wpAny_Call_Name_kw (ld_glob I hg T.gC ?_ hdb)
  refine PySem.W.callWith_K (h₀ := X.base) I.ok.mod.kin T.kC (thn (ha.run pos pins s σ H _ I h) fun us s1 hh => ?_) he hpl
  obtain ⟨vs, H1, I1, r1, v, ev, q1⟩ := hh
  subst ev
  refine ⟨I1.kIn, ?_⟩
  cases r1 with
  | cons rv rn =>
    rename_i v' us'
    cases rn
    show wpAny _ _ (call (.ref C) [v']) _ _ _
    have hlim := I1.nolimit
    obtain ⟨hp, g, dr, tk, os⟩ := s1
    refine wpAny_call (LowVValue.made_VValue T SF FB mo I1.kIn hlim (by have := hr.dp; omega) fun h' tk' e d M => ?_)
    show MkP X pins σ Q (.ref e) ⟨h', g, dr, tk', os⟩
    obtain ⟨oe, fv, hoe, hc, hd, hdat, h1⟩ := M.obj
    have hns := M.ns
    obtain ⟨G', g1, g2⟩ := restrict h' fun b => decide (b ≠ e)
    have gk : ∀ b, b ≠ e → G'.get? b = h'.get? b := fun b hb => g1 b (decide_eq_true hb)
    have ge : G'.get? e = none := g2 e (by simp)
    have old : ∀ b o, hp.get? b = some o → G'.get? b = some o := fun b o q => (gk b (Nat.ne_of_lt (Nat.lt_of_lt_of_le (Heap.lt_size q) M.new))).trans (M.keep b o q)
    have ob : ObjOk X.prog X.w (upd H1 d (.xd [(("value" : Str), v)])) G' d (.xd [(("value" : Str), v)]) :=
      ⟨_, hns.at (fun o q => (gk d M.dne).trans q), fun f => relO_vValue rv f⟩
    have J : Inv X pins σ (upd H1 d (.xd [(("value" : Str), v)])) ⟨G', g, dr, tk', os⟩ := I1.laid (t' := tk') old M.dbig ob
    refine ⟨e, oe, fv, ⟨G', g, dr, tk', os⟩, _, .ref C, some d, rfl, J, fun b o q => ?_, ge, hoe, ⟨hc, hd⟩, hdat, h1, ?_, rfl, I1.bare, raises_own T.exC T.tyC, q1 d (I1.hok.fresh M.dbig)⟩
    · by_cases hb : b = e
      · have q' : G'.get? b = some o := q
        rw [hb, ge] at q'; cases q'
      · exact (gk b hb).symm.trans q
    · rw [upd_ne (Ne.symm M.dne)]
      exact I1.hok.fresh M.new
/-- e.value in the suite that holds the error -/
theorem pe_valueValue {a : Addr} {oe : Obj} {cls : Value} {d : Option Addr} {pn : List (Addr × Obj)} {e : Expr} {te : TE} {pos : Pos} (T : ErrVValue X.K X.mg B newId bmB cx qn C fI) (hz : Zc cls d oe) (hf : ∃ vs, oe.data = .fields vs) (he : PE (X.suite a ((a, oe) :: pn)) e te)
    (hb : attributeBase e "value" X.env (eval e X.env) = eval e X.env := by rfl) :
    PE (X.suite a ((a, oe) :: pn)) (.Attribute e "value" pos) (tXf a cls d C "value" te) :=
  pe_xf ⟨T.ga, T.gg, T.exC, T.hdC⟩ T.noN hz hf he hb
def tHeldVValue (C : Addr) (ta : TA) : TE := fun σ H Q => ta σ H fun vs H1 => ∃ v, vs = [v] ∧ ∀ e d, H1 e = none → H1 d = none → d ≠ e → Q (.ref e) (upd (upd H1 d (.xd [(("value" : Str), v)])) e (exo e C (some d)))
/-- the error made and held -/
theorem pe_heldVValue {BS : String} {bmF : List Value} {a : Expr} {ta : TA} {p pos : Pos} {k : Nat} (T : ErrVValue X.K X.mg B newId bmB cx qn C fI) (SF : StoreFacts BS bmB "object.__setattr__" "object") (FB : ExcBaseFacts B newId initId bmF) (mo : LowK.MroOk bmB B) (hr : Room k X.A) (ha : PA X [a] ta) (hg : Gl X cx) (hdb : (cx == ("__debug__" : Str)) = false := by decide)
    (he : starEach (a :: []) X.env = (false, eval a X.env) :: starEach [] X.env := by rfl) (hpl : (backTo pos (starEach [] X.env)).any (·.1) = false := by rfl) :
    PE X (.Call (.Name cx p) [a] [] pos) (tHeldVValue C ta) := by
  refine ⟨fun pins s σ H Q I h => wpAny_Call_Name_kw (ld_glob I hg T.gC ?_ hdb)⟩
  refine PySem.W.callWith_K (h₀ := X.base) I.ok.mod.kin T.kC (thn (ha.run pos pins s σ H _ I h) fun us s1 hh => ?_) he hpl
  obtain ⟨vs, H1, I1, r1, v, ev, q1⟩ := hh
  subst ev
  refine ⟨I1.kIn, ?_⟩
  cases r1 with
  | cons rv rn =>
    rename_i v' us'
    cases rn
    show wpAny _ _ (call (.ref C) [v']) _ _ _
    have hlim := I1.nolimit
    obtain ⟨hp, g, dr, tk, os⟩ := s1
    refine wpAny_call (LowVValue.heldBack T SF FB mo I1.kIn hlim (by have := hr.dp; omega) fun h' tk' e d t1 old hne hoe hd hde hns => ?_)
    show EP X pins σ Q (.ref e) ⟨h', g, dr, tk', os⟩
    obtain ⟨G', g1, g2⟩ := restrict h' fun b => decide (b ≠ e)
    have gk : ∀ b, b ≠ e → G'.get? b = h'.get? b := fun b hb => g1 b (decide_eq_true hb)
    have ge : G'.get? e = none := g2 e (by simp)
    have oldG : ∀ b o, hp.get? b = some o → G'.get? b = some o := fun b o q => (gk b (Nat.ne_of_lt (Nat.lt_of_lt_of_le (Heap.lt_size q) hne))).trans (old b o q)
    have ob : ObjOk X.prog X.w (upd H1 d (.xd [(("value" : Str), v)])) G' d (.xd [(("value" : Str), v)]) := ⟨_, hns.at (fun o q => (gk d hde).trans q), fun f => relO_vValue rv f⟩
    have J : Inv X pins σ (upd H1 d (.xd [(("value" : Str), v)])) ⟨G', g, dr, tk', os⟩ := I1.laid (t' := tk') oldG hd ob
    have ne : (upd H1 d (.xd [(("value" : Str), v)])) e = none := by
      rw [upd_ne (Ne.symm hde)]
      exact I1.hok.fresh hne
    have up : ∀ b u, G'.get? b = some u → h'.get? b = some u := fun b u q => by
      by_cases hb : b = e
      · rw [hb, ge] at q
        cases q
      · exact (gk b hb).symm.trans q
    have J2 := J.laidN (h' := h') (a := e) (o := exo e C (some d)) (t' := tk') up ge ne ⟨⟨t1, hoe⟩, ⟨_, hoe⟩, fun _ _ ⟨t, q⟩ k => ⟨t, k _ q⟩⟩
    exact ⟨.ref e, _, J2, rfl, q1 e d (I1.hok.fresh hne) (I1.hok.fresh hd) hde⟩
end
end My
/-! an own error over a class that is not ValueError, with the one field "wanted" -/
namespace My.LowVWanted
open PySem PySem.W PySem.Calls PyProof.Rows PySem.HandSPX
def vA (p1 p2 : Pos) : Arguments := { posonlyargs := [], args := [{ arg := "self", annotation := none, pos := p1 }, { arg := "wanted", annotation := none, pos := p2 }], vararg := none, kwonlyargs := [], kw_defaults := [], kwarg := none, defaults := [] }
def vB (q1 q2 q3 q4 : Pos) : List Stmt := [.Assign [.Attribute (.Name "self" q1) "wanted" q2] (.Name "wanted" q3) q4]
def vS : Scope := { kind := .function, names := [(PySem.Str.ofString "self", .local), (PySem.Str.ofString "wanted", .local)], isGenerator := false, isCoroutine := false, more := [] }
/-- what the written part says of the class x at C over B, and of its __init__ at fI -/
structure ErrVWanted (K : Frag) (mg : Str → Option Value) (B newId : String) (bmB : List Value) (x qn : Str) (C fI : Addr) : Prop where
  gC : mg x = some (.ref C)
  q : excInitIn K C bmB newId = true
  ov : excOver K C bmB = true
  tk : takerIn K C "wanted" = some none
  sa : findIn K (.ref C) "__setattr__" = some (some (.builtin "object.__setattr__"))
  ga : findIn K (.ref C) "__getattribute__" = some (some (.builtin "BaseException.__getattribute__"))
  gg : findIn K (.ref C) "__getattr__" = some none
  noN : findIn K (.ref C) "wanted" = some none
  iC : findIn K (.ref C) "__init__" = some (some (.ref fI))
  tC : typeIn K (.ref fI) = some (.type "function")
  kC : keepIn K (.ref C) = true
  exC : subIn K (.ref C) (.type "BaseException") = some true
  tyC : typeIn K (.ref C) = some (.type "type")
  hdC : hasDictIn K C = true
  fn : ∃ (oc : Value) (od : Option Addr) (doc pm : Value) (an : Option Addr) (cdv ct : Value) (osl : Array (Option Value)) (p1 p2 q1 q2 q3 q4 : Pos),
    K.lookup fI = some ⟨oc, od, .func (fnOf "__init__" qn (vA p1 p2) (vB q1 q2 q3 q4) vS .none .none doc pm an cdv ct), osl⟩ ∧ codeIn K cdv qn = true
theorem kept_but {K : Frag} {h h' : Heap} {x : Addr} (X : K.In h) (hx : K.lookup x = none) (k : ∀ b o, b ≠ x → h.get? b = some o → h'.get? b = some o) : K.In h' := fun a o e =>
  k a o (fun z => by rw [z, hx] at e; cases e) (X a o e)
theorem ldVWanted {M : Model} {s : Shared} {name : Str} {scope : Scope} {L a : Addr} {cd : Value} {m : Str → Option Value} {x : Str} {pos : Pos} {v : Value} {Q : Value → Shared → Prop} {A : Around} {E : Value → Shared → Prop} (hn : s.heap.Ns L m) (hv : m x = some v) (h : Q v s)
    (hk : scope.kind = .function := by rfl) (hl : (envOfC name scope L a cd).kindOf x = some .local := by rfl) (hd : (x == ("__debug__" : Str)) = false := by decide) :
    wpAny M A (eval (.Name x pos) (envOfC name scope L a cd)) Q E s := wpAny_Name (wpAny_loadName_local hk hl hn hv h) hd
/-- what __init__ leaves of a fresh error at x -/
structure InitVWanted (h h' : Heap) (x C dx t1 : Addr) (v : Value) : Prop where
  keep : ∀ b o, b ≠ x → h.get? b = some o → h'.get? b = some o
  obj : h'.get? x = some { cls := .ref C, dict := some dx, data := .fields #[.ref t1, .none, .none, .none, .bool false, .none] }
  dbig : h.objs.size ≤ dx
  dne : dx ≠ x
  ns : h'.Ns1 dx (fun y => if y = "wanted" then some v else none)
structure MadeVWanted (h h' : Heap) (e C d : Addr) (v : Value) : Prop where
  keep : ∀ b o, h.get? b = some o → h'.get? b = some o
  new : h.objs.size ≤ e
  obj : ∃ oe vs, h'.get? e = some oe ∧ oe.cls = .ref C ∧ oe.dict = some d ∧ oe.data = .fields vs ∧ vs[1]? = some .none
  dbig : h.objs.size ≤ d
  dne : d ≠ e
  ns : h'.Ns1 d (fun y => if y = "wanted" then some v else none)
section
variable {prog : Program} {w : World} {A : Around} {E : Value → Shared → Prop} {R : Result → Shared → Prop} {s : Shared} {K : Frag} {mg : Str → Option Value} {C fI : Addr} {B newId : String} {bmB : List Value} {cx qn : Str}
/-- the first store -/
theorem osa_first {BS : String} {name : Str} {tk : Tok} {v : Value} {x t0 : Addr} (SF : StoreFacts BS bmB "object.__setattr__" "object") (X : K.In s.heap) (hx : s.heap.get? x = some (excO C t0)) (ov : excOver K C bmB = true) (ht : takerIn K C name = some none) (hh : hasDictIn K C = true)
    (hq : ∀ h' tk' dx, (∀ b o, b ≠ x → s.heap.get? b = some o → h'.get? b = some o) → s.heap.objs.size ≤ dx → dx ≠ x → h'.get? x = some { cls := .ref C, dict := some dx, data := .fields #[.ref t0, .none, .none, .none, .bool false, .none] } →
      h'.Ns1 dx (fun y => if y = name then some v else none) → R (.ok (.ret .none)) { s with heap := h', toks := tk' }) :
    codeAny (model prog w) A (.call (.builtin "object.__setattr__") ⟨[.ref x, .str name tk, v], []⟩) R s := by
  refine osa_openX (od := none) SF X ⟨hx, rfl, rfl, trivial⟩ ov ht fun b => ?_
  obtain ⟨cd, hc, hd'⟩ := any_some hh
  have hxs : x ≠ s.heap.objs.size := Nat.ne_of_lt (Heap.lt_size hx)
  refine wpAny_bind (wpAny_pure (wpAny_bind (instanceDict_exc hx (looks_clsIn X hc) hd' ?_)))
  obtain ⟨hp, g, d, t, os⟩ := s
  show wpAny _ _ (Builtin.ObjectAttr.storeInDict hp.objs.size (.str name tk) name v) _ _ _
  have hx1 := Heap.get?_push_of_some (dictOf [] 0) hx
  refine store_in_new ?_ fun h' tk' hn' hs => ?_
  · exact ⟨_, #[], _, (Heap.get?_update_ne _ _ _ _ hxs.symm).trans (Heap.get?_push_at rfl rfl), rfl, fun e he => absurd he (by simp), fun _ => rfl⟩
  · refine hq h' tk' hp.objs.size (fun b o hb ho => ?_) (Nat.le_refl _) hxs.symm ?_ hn'
    · exact (hs.2 b (Nat.ne_of_lt (Heap.lt_size ho))).trans ((Heap.get?_update_ne _ _ _ _ hb).trans (Heap.get?_push_of_some _ ho))
    · exact (hs.2 x hxs).trans (Heap.get?_update_self _ hx1 rfl)
theorem init_VWanted {BS : String} (T : ErrVWanted K mg B newId bmB cx qn C fI) (SF : StoreFacts BS bmB "object.__setattr__" "object") {x t0 : Addr} {v : Value} (X : K.In s.heap) (hlim : s.heap.NoLimit) (hx : s.heap.get? x = some (excO C t0)) (hroom : A.depth < recursionLimit)
    (hq : ∀ h' tk dx, InitVWanted s.heap h' x C dx t0 v → R (.ok (.ret .none)) { s with heap := h', toks := tk }) :
    codeAny (model prog w) A (.call (.ref fI) ⟨[.ref x, v], []⟩) R s := by
  obtain ⟨oc, od, doc, pm, an, cdv, ct, osl, p1, p2, q1, q2, q3, q4, ho, hcd⟩ := T.fn
  refine Att.call_fn (binds := [("self", .ref x), ("wanted", v)]) X hlim ho hcd hroom (BindsTo.of_eq (by first | rfl | with_unfolding_all rfl)) (by first | rfl | decide | with_unfolding_all rfl) (fun s₁ IC => ?_) rfl rfl rfl
  obtain ⟨h₁, tk₁, rfl⟩ := IC.toInCall.same
  have k : ∀ b o, s.heap.get? b = some o → h₁.get? b = some o := IC.toInCall.keep
  have hn := IC.toInCall.ns
  have X₁ : K.In h₁ := X.keeps k
  have hx₁ := k _ _ hx
  show wpAny _ _ (execs _ _) _ _ _
  refine wpAny_execs_cons (plainObj_wpAny_Assign_Attribute ?_)
  refine ldVWanted (v := v) hn (by first | rfl | with_unfolding_all rfl | kernel_rfl) (ldVWanted (v := .ref x) hn (by first | rfl | with_unfolding_all rfl | kernel_rfl) ?_)
  refine set_plain X₁ (ox := excO C t0) (od := none) ⟨hx₁, rfl, rfl, trivial⟩ T.sa ?_
  refine osa_first SF X₁ hx₁ T.ov T.tk T.hdC (fun h₃ tk₃ dx k₃ dn dne hx₃ hn₃ => ?_)
  show wpAny _ _ (execs _ _) _ _ _
  have z : s.heap.objs.size < h₁.objs.size := hn.lt
  exact wpAny_execs_nil (hq h₃ tk₃ dx ⟨fun b o hb e => k₃ b o hb (k b o e), hx₃, Nat.le_of_lt (Nat.lt_of_lt_of_le z dn), dne, hn₃⟩)
theorem made_VWanted {BS : String} {bmF : List Value} (T : ErrVWanted K mg B newId bmB cx qn C fI) (SF : StoreFacts BS bmB "object.__setattr__" "object") {initId : String} (FB : ExcBaseFacts B newId initId bmF) (mo : LowK.MroOk bmB B) {v : Value} (X : K.In s.heap) (hlim : s.heap.NoLimit) (hroom : A.depth + 1 < recursionLimit)
    (hq : ∀ h' tk e d, MadeVWanted s.heap h' e C d v → R (.ok (.ret (.ref e))) { s with heap := h', toks := tk }) :
    codeAny (model prog w) A (.call (.ref C) ⟨[v], []⟩) R s := by
  obtain ⟨nm, N, qnm, bs, bm, hdct, sn, sub, ab, col, dd, k0, k1, k2, k3, k5, hC, hT⟩ := excInit_of X T.q
  obtain ⟨hp, g, dr, tk, os⟩ := s
  have k : ∀ b o, hp.get? b = some o → ((hp.push (kdv_tup [v])).push (excO C hp.objs.size)).get? b = some o := fun b o e => Heap.get?_push_of_some _ (Heap.get?_push_of_some _ e)
  have hget : ((hp.push (kdv_tup [v])).push (excO C hp.objs.size)).get? (hp.objs.size + 1) = some (excO C hp.objs.size) := by heap_get
  refine LowK.class_called FB (mo.of hT) hC (looks_findIn X T.iC) (fun self => bind_fn X self T.tC) (by rw [sizeLine_eq]; show 1 ≤ 16777216; decide) ?_
  refine init_VWanted (s := ⟨(hp.push (kdv_tup [v])).push (excO C hp.objs.size), g, dr, tk, os⟩) T SF (X.keeps k) (hlim.keeps k) hget ?_ fun h' tk' dx ⟨k', hx, dn, dne, hns⟩ => ?_
  · show A.depth + 1 < recursionLimit
    exact hroom
  · have old : ∀ b o, hp.get? b = some o → h'.get? b = some o := fun b o e => k' b o (Nat.ne_of_lt (Nat.lt_succ_of_lt (Heap.lt_size e))) (k b o e)
    have z : hp.objs.size + 1 + 1 ≤ dx := by
      first
        | (simpa only [Heap.size_push] using dn)
        | exact dn
        | (have q := dn; rw [Heap.size_push, Heap.size_push] at q; exact q)
    exact ⟨rfl, hq h' tk' (hp.objs.size + 1) dx ⟨old, Nat.le_succ _, ⟨_, _, hx, rfl, rfl, rfl, rfl⟩, Nat.le_trans (Nat.le_trans (Nat.le_succ _) (Nat.le_succ _)) z, dne, hns⟩⟩
theorem heldBack {BS : String} {bmF : List Value} (T : ErrVWanted K mg B newId bmB cx qn C fI) (SF : StoreFacts BS bmB "object.__setattr__" "object") {initId : String} (FB : ExcBaseFacts B newId initId bmF) (mo : LowK.MroOk bmB B) {v : Value} (X : K.In s.heap) (hlim : s.heap.NoLimit) (hroom : A.depth + 1 < recursionLimit)
    (hq : ∀ h' tk e d t1, (∀ b o, s.heap.get? b = some o → h'.get? b = some o) → s.heap.objs.size ≤ e → h'.get? e = some { cls := .ref C, dict := some d, data := .fields #[.ref t1, .none, .none, .none, .bool false, .none] } → s.heap.objs.size ≤ d → d ≠ e → h'.Ns1 d (fun y => if y = "wanted" then some v else none) → R (.ok (.ret (.ref e))) { s with heap := h', toks := tk }) :
    codeAny (model prog w) A (.call (.ref C) ⟨[v], []⟩) R s := by
  obtain ⟨nm, N, qnm, bs, bm, hdct, sn, sub, ab, col, dd, k0, k1, k2, k3, k5, hC, hT⟩ := excInit_of X T.q
  obtain ⟨hp, g, dr, tk, os⟩ := s
  have k : ∀ b o, hp.get? b = some o → ((hp.push (kdv_tup [v])).push (excO C hp.objs.size)).get? b = some o := fun b o e => Heap.get?_push_of_some _ (Heap.get?_push_of_some _ e)
  have hget : ((hp.push (kdv_tup [v])).push (excO C hp.objs.size)).get? (hp.objs.size + 1) = some (excO C hp.objs.size) := by heap_get
  refine LowK.class_called FB (mo.of hT) hC (looks_findIn X T.iC) (fun self => bind_fn X self T.tC) (by rw [sizeLine_eq]; show 1 ≤ 16777216; decide) ?_
  refine init_VWanted (s := ⟨(hp.push (kdv_tup [v])).push (excO C hp.objs.size), g, dr, tk, os⟩) T SF (X.keeps k) (hlim.keeps k) hget ?_ fun h' tk' dx ⟨k', hx, dn, dne, hns⟩ => ?_
  · show A.depth + 1 < recursionLimit
    exact hroom
  · have old : ∀ b o, hp.get? b = some o → h'.get? b = some o := fun b o e => k' b o (Nat.ne_of_lt (Nat.lt_succ_of_lt (Heap.lt_size e))) (k b o e)
    have z : hp.objs.size + 1 + 1 ≤ dx := by
      first
        | (simpa only [Heap.size_push] using dn)
        | exact dn
        | (have q := dn; rw [Heap.size_push, Heap.size_push] at q; exact q)
    exact ⟨rfl, hq h' tk' (hp.objs.size + 1) dx _ old (Nat.le_succ _) hx (Nat.le_trans (Nat.le_trans (Nat.le_succ _) (Nat.le_succ _)) z) dne hns⟩
end
end My.LowVWanted
namespace My
open PySem PySem.Spec PyProof.Rows L2
open LowVWanted (ErrVWanted MadeVWanted)
theorem relO_vWanted {v : V} {v' : Value} (r : RelV v v') (f : Str) : RelO (List.lookup f [(("wanted" : Str), v)]) (if f = "wanted" then some v' else none) := by
  by_cases hw : f = "wanted"
  · subst hw
    rw [if_pos rfl]
    have q : List.lookup ("wanted" : Str) [(("wanted" : Str), v)] = some v := by simp [List.lookup]
    rw [q]
    exact r
  · rw [if_neg hw]
    have qw : (f == ("wanted" : Str)) = false := by simpa using hw
    have q2 : List.lookup f [(("wanted" : Str), v)] = none := by simp [List.lookup, qw]
    rw [q2]
    trivial
section
variable {X : Cx} {C fI : Addr} {B newId : String} {bmB : List Value} {cx qn : Str} {initId : String}
def tMkVWanted (C : Addr) (ta : TA) : L2.St → Hp → XK → Prop := fun σ H Q => ta σ H fun vs H1 => ∃ v, vs = [v] ∧ ∀ d, H1 d = none → Q (.ref C) (some d) (upd H1 d (.xd [(("wanted" : Str), v)]))
theorem pmk_VWanted {BS : String} {bmF : List Value} {a : Expr} {ta : TA} {p pos : Pos} {k : Nat} (T : ErrVWanted X.K X.mg B newId bmB cx qn C fI) (SF : StoreFacts BS bmB "object.__setattr__" "object") (FB : ExcBaseFacts B newId initId bmF) (mo : LowK.MroOk bmB B) (hr : Room k X.A) (ha : PA X [a] ta) (hg : Gl X cx) (hdb : (cx == ("__debug__" : Str)) = false := by decide)
    (he : starEach (a :: []) X.env = (false, eval a X.env) :: starEach [] X.env := by rfl) (hpl : (backTo pos (starEach [] X.env)).any (·.1) = false := by rfl) :
    PMk X (.Call (.Name cx p) [a] [] pos) (tMkVWanted C ta) := by
  intro pins s σ H Q I h
  refine wpAny_Call_Name_kw (ld_glob I hg T.gC ?_ hdb)
  refine PySem.W.callWith_K (h₀ := X.base) I.ok.mod.kin T.kC (thn (ha.run pos pins s σ H _ I h) fun us s1 hh => ?_) he hpl
  obtain ⟨vs, H1, I1, r1, v, ev, q1⟩ := hh
  subst ev
  refine ⟨I1.kIn, ?_⟩
  cases r1 with
  | cons rv rn =>
    rename_i v' us'
    cases rn
    show wpAny _ _ (call (.ref C) [v']) _ _ _
    have hlim := I1.nolimit
    obtain ⟨hp, g, dr, tk, os⟩ := s1
    refine wpAny_call (LowVWanted.made_VWanted T SF FB mo I1.kIn hlim (by have := hr.dp; omega) fun h' tk' e d M => ?_)
    show MkP X pins σ Q (.ref e) ⟨h', g, dr, tk', os⟩
    obtain ⟨oe, fv, hoe, hc, hd, hdat, h1⟩ := M.obj
    have hns := M.ns
    obtain ⟨G', g1, g2⟩ := restrict h' fun b => decide (b ≠ e)
    have gk : ∀ b, b ≠ e → G'.get? b = h'.get? b := fun b hb => g1 b (decide_eq_true hb)
    have ge : G'.get? e = none := g2 e (by simp)
    have old : ∀ b o, hp.get? b = some o → G'.get? b = some o := fun b o q => (gk b (Nat.ne_of_lt (Nat.lt_of_lt_of_le (Heap.lt_size q) M.new))).trans (M.keep b o q)
    have ob : ObjOk X.prog X.w (upd H1 d (.xd [(("wanted" : Str), v)])) G' d (.xd [(("wanted" : Str), v)]) :=
      ⟨_, hns.at (fun o q => (gk d M.dne).trans q), fun f => relO_vWanted rv f⟩
    have J : Inv X pins σ (upd H1 d (.xd [(("wanted" : Str), v)])) ⟨G', g, dr, tk', os⟩ := I1.laid (t' := tk') old M.dbig ob
    refine ⟨e, oe, fv, ⟨G', g, dr, tk', os⟩, _, .ref C, some d, rfl, J, fun b o q => ?_, ge, hoe, ⟨hc, hd⟩, hdat, h1, ?_, rfl, I1.bare, raises_own T.exC T.tyC, q1 d (I1.hok.fresh M.dbig)⟩
    · by_cases hb : b = e
      · have q' : G'.get? b = some o := q
        rw [hb, ge] at q'; cases q'
      · exact (gk b hb).symm.trans q
    · rw [upd_ne (Ne.symm M.dne)]
      exact I1.hok.fresh M.new
/-- e.value in the suite that holds the error -/
theorem pe_valueWanted {a : Addr} {oe : Obj} {cls : Value} {d : Option Addr} {pn : List (Addr × Obj)} {e : Expr} {te : TE} {pos : Pos} (T : ErrVWanted X.K X.mg B newId bmB cx qn C fI) (hz : Zc cls d oe) (hf : ∃ vs, oe.data = .fields vs) (he : PE (X.suite a ((a, oe) :: pn)) e te)
    (hb : attributeBase e "wanted" X.env (eval e X.env) = eval e X.env := by rfl) :
    PE (X.suite a ((a, oe) :: pn)) (.Attribute e "wanted" pos) (tXf a cls d C "wanted" te) :=
  pe_xf ⟨T.ga, T.gg, T.exC, T.hdC⟩ T.noN hz hf he hb
def tHeldVWanted (C : Addr) (ta : TA) : TE := fun σ H Q => ta σ H fun vs H1 => ∃ v, vs = [v] ∧ ∀ e d, H1 e = none → H1 d = none → d ≠ e → Q (.ref e) (upd (upd H1 d (.xd [(("wanted" : Str), v)])) e (exo e C (some d)))
/-- the error made and held -/
theorem pe_heldVWanted {BS : String} {bmF : List Value} {a : Expr} {ta : TA} {p pos : Pos} {k : Nat} (T : ErrVWanted X.K X.mg B newId bmB cx qn C fI) (SF : StoreFacts BS bmB "object.__setattr__" "object") (FB : ExcBaseFacts B newId initId bmF) (mo : LowK.MroOk bmB B) (hr : Room k X.A) (ha : PA X [a] ta) (hg : Gl X cx) (hdb : (cx == ("__debug__" : Str)) = false := by decide)
    (he : starEach (a :: []) X.env = (false, eval a X.env) :: starEach [] X.env := by rfl) (hpl : (backTo pos (starEach [] X.env)).any (·.1) = false := by rfl) :
    PE X (.Call (.Name cx p) [a] [] pos) (tHeldVWanted C ta) := by
  refine ⟨fun pins s σ H Q I h => wpAny_Call_Name_kw (ld_glob I hg T.gC ?_ hdb)⟩
  refine PySem.W.callWith_K (h₀ := X.base) I.ok.mod.kin T.kC (thn (ha.run pos pins s σ H _ I h) fun us s1 hh => ?_) he hpl
  obtain ⟨vs, H1, I1, r1, v, ev, q1⟩ := hh
  subst ev
  refine ⟨I1.kIn, ?_⟩
  cases r1 with
  | cons rv rn =>
    rename_i v' us'
    cases rn
    show wpAny _ _ (call (.ref C) [v']) _ _ _
    have hlim := I1.nolimit
    obtain ⟨hp, g, dr, tk, os⟩ := s1
    refine wpAny_call (LowVWanted.heldBack T SF FB mo I1.kIn hlim (by have := hr.dp; omega) fun h' tk' e d t1 old hne hoe hd hde hns => ?_)
    show EP X pins σ Q (.ref e) ⟨h', g, dr, tk', os⟩
    obtain ⟨G', g1, g2⟩ := restrict h' fun b => decide (b ≠ e)
    have gk : ∀ b, b ≠ e → G'.get? b = h'.get? b := fun b hb => g1 b (decide_eq_true hb)
    have ge : G'.get? e = none := g2 e (by simp)
    have oldG : ∀ b o, hp.get? b = some o → G'.get? b = some o := fun b o q => (gk b (Nat.ne_of_lt (Nat.lt_of_lt_of_le (Heap.lt_size q) hne))).trans (old b o q)
    have ob : ObjOk X.prog X.w (upd H1 d (.xd [(("wanted" : Str), v)])) G' d (.xd [(("wanted" : Str), v)]) := ⟨_, hns.at (fun o q => (gk d hde).trans q), fun f => relO_vWanted rv f⟩
    have J : Inv X pins σ (upd H1 d (.xd [(("wanted" : Str), v)])) ⟨G', g, dr, tk', os⟩ := I1.laid (t' := tk') oldG hd ob
    have ne : (upd H1 d (.xd [(("wanted" : Str), v)])) e = none := by
      rw [upd_ne (Ne.symm hde)]
      exact I1.hok.fresh hne
    have up : ∀ b u, G'.get? b = some u → h'.get? b = some u := fun b u q => by
      by_cases hb : b = e
      · rw [hb, ge] at q
        cases q
      · exact (gk b hb).symm.trans q
    have J2 := J.laidN (h' := h') (a := e) (o := exo e C (some d)) (t' := tk') up ge ne ⟨⟨t1, hoe⟩, ⟨_, hoe⟩, fun _ _ ⟨t, q⟩ k => ⟨t, k _ q⟩⟩
    exact ⟨.ref e, _, J2, rfl, q1 e d (I1.hok.fresh hne) (I1.hok.fresh hd) hde⟩
end
end My
/-! an own error over a class that is not ValueError, with the one field "limit" -/
namespace My.LowVLimit
open PySem PySem.W PySem.Calls PyProof.Rows PySem.HandSPX
def vA (p1 p2 : Pos) : Arguments := { posonlyargs := [], args := [{ arg := "self", annotation := none, pos := p1 }, { arg := "limit", annotation := none, pos := p2 }], vararg := none, kwonlyargs := [], kw_defaults := [], kwarg := none, defaults := [] }
def vB (q1 q2 q3 q4 : Pos) : List Stmt := [.Assign [.Attribute (.Name "self" q1) "limit" q2] (.Name "limit" q3) q4]
def vS : Scope := { kind := .function, names := [(PySem.Str.ofString "self", .local), (PySem.Str.ofString "limit", .local)], isGenerator := false, isCoroutine := false, more := [] }
/-- what the written part says of the class x at C over B, and of its __init__ at fI -/
structure ErrVLimit (K : Frag) (mg : Str → Option Value) (B newId : String) (bmB : List Value) (x qn : Str) (C fI : Addr) : Prop where
  gC : mg x = some (.ref C)
  q : excInitIn K C bmB newId = true
  ov : excOver K C bmB = true
  tk : takerIn K C "limit" = some none
  sa : findIn K (.ref C) "__setattr__" = some (some (.builtin "object.__setattr__"))
  ga : findIn K (.ref C) "__getattribute__" = some (some (.builtin "BaseException.__getattribute__"))
  gg : findIn K (.ref C) "__getattr__" = some none
  noN : findIn K (.ref C) "limit" = some none
  iC : findIn K (.ref C) "__init__" = some (some (.ref fI))
  tC : typeIn K (.ref fI) = some (.type "function")
  kC : keepIn K (.ref C) = true
  exC : subIn K (.ref C) (.type "BaseException") = some true
  tyC : typeIn K (.ref C) = some (.type "type")
  hdC : hasDictIn K C = true
  fn : ∃ (oc : Value) (od : Option Addr) (doc pm : Value) (an : Option Addr) (cdv ct : Value) (osl : Array (Option Value)) (p1 p2 q1 q2 q3 q4 : Pos),
    K.lookup fI = some ⟨oc, od, .func (fnOf "__init__" qn (vA p1 p2) (vB q1 q2 q3 q4) vS .none .none doc pm an cdv ct), osl⟩ ∧ codeIn K cdv qn = true
theorem kept_but {K : Frag} {h h' : Heap} {x : Addr} (X : K.In h) (hx : K.lookup x = none) (k : ∀ b o, b ≠ x → h.get? b = some o → h'.get? b = some o) : K.In h' := fun a o e =>
  k a o (fun z => by rw [z, hx] at e; cases e) (X a o e)
theorem ldVLimit {M : Model} {s : Shared} {name : Str} {scope : Scope} {L a : Addr} {cd : Value} {m : Str → Option Value} {x : Str} {pos : Pos} {v : Value} {Q : Value → Shared → Prop} {A : Around} {E : Value → Shared → Prop} (hn : s.heap.Ns L m) (hv : m x = some v) (h : Q v s)
    (hk : scope.kind = .function := by rfl) (hl : (envOfC name scope L a cd).kindOf x = some .local := by rfl) (hd : (x == ("__debug__" : Str)) = false := by decide) :
    wpAny M A (eval (.Name x pos) (envOfC name scope L a cd)) Q E s := wpAny_Name (wpAny_loadName_local hk hl hn hv h) hd
/-- what __init__ leaves of a fresh error at x -/
structure InitVLimit (h h' : Heap) (x C dx t1 : Addr) (v : Value) : Prop where
  keep : ∀ b o, b ≠ x → h.get? b = some o → h'.get? b = some o
  obj : h'.get? x = some { cls := .ref C, dict := some dx, data := .fields #[.ref t1, .none, .none, .none, .bool false, .none] }
  dbig : h.objs.size ≤ dx
  dne : dx ≠ x
  ns : h'.Ns1 dx (fun y => if y = "limit" then some v else none)
structure MadeVLimit (h h' : Heap) (e C d : Addr) (v : Value) : Prop where
  keep : ∀ b o, h.get? b = some o → h'.get? b = some o
  new : h.objs.size ≤ e
  obj : ∃ oe vs, h'.get? e = some oe ∧ oe.cls = .ref C ∧ oe.dict = some d ∧ oe.data = .fields vs ∧ vs[1]? = some .none
  dbig : h.objs.size ≤ d
  dne : d ≠ e
  ns : h'.Ns1 d (fun y => if y = "limit" then some v else none)
section
variable {prog : Program} {w : World} {A : Around} {E : Value → Shared → Prop} {R : Result → Shared → Prop} {s : Shared} {K : Frag} {mg : Str → Option Value} {C fI : Addr} {B newId : String} {bmB : List Value} {cx qn : Str}
/-- the first store -/
theorem osa_first {BS : String} {name : Str} {tk : Tok} {v : Value} {x t0 : Addr} (SF : StoreFacts BS bmB "object.__setattr__" "object") (X : K.In s.heap) (hx : s.heap.get? x = some (excO C t0)) (ov : excOver K C bmB = true) (ht : takerIn K C name = some none) (hh : hasDictIn K C = true)
    (hq : ∀ h' tk' dx, (∀ b o, b ≠ x → s.heap.get? b = some o → h'.get? b = some o) → s.heap.objs.size ≤ dx → dx ≠ x → h'.get? x = some { cls := .ref C, dict := some dx, data := .fields #[.ref t0, .none, .none, .none, .bool false, .none] } →
      h'.Ns1 dx (fun y => if y = name then some v else none) → R (.ok (.ret .none)) { s with heap := h', toks := tk' }) :
    codeAny (model prog w) A (.call (.builtin "object.__setattr__") ⟨[.ref x, .str name tk, v], []⟩) R s := by
  refine osa_openX (od := none) SF X ⟨hx, rfl, rfl, trivial⟩ ov ht fun b => ?_
  obtain ⟨cd, hc, hd'⟩ := any_some hh
  have hxs : x ≠ s.heap.objs.size := Nat.ne_of_lt (Heap.lt_size hx)
  refine wpAny_bind (wpAny_pure (wpAny_bind (instanceDict_exc hx (looks_clsIn X hc) hd' ?_)))
  obtain ⟨hp, g, d, t, os⟩ := s
  show wpAny _ _ (Builtin.ObjectAttr.storeInDict hp.objs.size (.str name tk) name v) _ _ _
  have hx1 := Heap.get?_push_of_some (dictOf [] 0) hx
  refine store_in_new ?_ fun h' tk' hn' hs => ?_
  · exact ⟨_, #[], _, (Heap.get?_update_ne _ _ _ _ hxs.symm).trans (Heap.get?_push_at rfl rfl), rfl, fun e he => absurd he (by simp), fun _ => rfl⟩
  · refine hq h' tk' hp.objs.size (fun b o hb ho => ?_) (Nat.le_refl _) hxs.symm ?_ hn'
    · exact (hs.2 b (Nat.ne_of_lt (Heap.lt_size ho))).trans ((Heap.get?_update_ne _ _ _ _ hb).trans (Heap.get?_push_of_some _ ho))
    · exact (hs.2 x hxs).trans (Heap.get?_update_self _ hx1 rfl)
theorem init_VLimit {BS : String} (T : ErrVLimit K mg B newId bmB cx qn C fI) (SF : StoreFacts BS bmB "object.__setattr__" "object") {x t0 : Addr} {v : Value} (X : K.In s.heap) (hlim : s.heap.NoLimit) (hx : s.heap.get? x = some (excO C t0)) (hroom : A.depth < recursionLimit)
    (hq : ∀ h' tk dx, InitVLimit s.heap h' x C dx t0 v → R (.ok (.ret .none)) { s with heap := h', toks := tk }) :
    codeAny (model prog w) A (.call (.ref fI) ⟨[.ref x, v], []⟩) R s := by
  obtain ⟨oc, od, doc, pm, an, cdv, ct, osl, p1, p2, q1, q2, q3, q4, ho, hcd⟩ := T.fn
  refine Att.call_fn (binds := [("self", .ref x), ("limit", v)]) X hlim ho hcd hroom (BindsTo.of_eq (by first | rfl | with_unfolding_all rfl)) (by first | rfl | decide | with_unfolding_all rfl) (fun s₁ IC => ?_) rfl rfl rfl
  obtain ⟨h₁, tk₁, rfl⟩ := IC.toInCall.same
  have k : ∀ b o, s.heap.get? b = some o → h₁.get? b = some o := IC.toInCall.keep
  have hn := IC.toInCall.ns
  have X₁ : K.In h₁ := X.keeps k
  have hx₁ := k _ _ hx
  show wpAny _ _ (execs _ _) _ _ _
  refine wpAny_execs_cons (plainObj_wpAny_Assign_Attribute ?_)
  refine ldVLimit (v := v) hn (by first | rfl | with_unfolding_all rfl | kernel_rfl) (ldVLimit (v := .ref x) hn (by first | rfl | with_unfolding_all rfl | kernel_rfl) ?_)
  refine set_plain X₁ (ox := excO C t0) (od := none) ⟨hx₁, rfl, rfl, trivial⟩ T.sa ?_
  refine osa_first SF X₁ hx₁ T.ov T.tk T.hdC (fun h₃ tk₃ dx k₃ dn dne hx₃ hn₃ => ?_)
  show wpAny _ _ (execs _ _) _ _ _
  have z : s.heap.objs.size < h₁.objs.size := hn.lt
  exact wpAny_execs_nil (hq h₃ tk₃ dx ⟨fun b o hb e => k₃ b o hb (k b o e), hx₃, Nat.le_of_lt (Nat.lt_of_lt_of_le z dn), dne, hn₃⟩)
theorem made_VLimit {BS : String} {bmF : List Value} (T : ErrVLimit K mg B newId bmB cx qn C fI) (SF : StoreFacts BS bmB "object.__setattr__" "object") {initId : String} (FB : ExcBaseFacts B newId initId bmF) (mo : LowK.MroOk bmB B) {v : Value} (X : K.In s.heap) (hlim : s.heap.NoLimit) (hroom : A.depth + 1 < recursionLimit)
    (hq : ∀ h' tk e d, MadeVLimit s.heap h' e C d v → R (.ok (.ret (.ref e))) { s with heap := h', toks := tk }) :
    codeAny (model prog w) A (.call (.ref C) ⟨[v], []⟩) R s := by
  obtain ⟨nm, N, qnm, bs, bm, hdct, sn, sub, ab, col, dd, k0, k1, k2, k3, k5, hC, hT⟩ := excInit_of X T.q
  obtain ⟨hp, g, dr, tk, os⟩ := s
  have k : ∀ b o, hp.get? b = some o → ((hp.push (kdv_tup [v])).push (excO C hp.objs.size)).get? b = some o := fun b o e => Heap.get?_push_of_some _ (Heap.get?_push_of_some _ e)
  have hget : ((hp.push (kdv_tup [v])).push (excO C hp.objs.size)).get? (hp.objs.size + 1) = some (excO C hp.objs.size) := by heap_get
  refine LowK.class_called FB (mo.of hT) hC (looks_findIn X T.iC) (fun self => bind_fn X self T.tC) (by rw [sizeLine_eq]; show 1 ≤ 16777216; decide) ?_
  refine init_VLimit (s := ⟨(hp.push (kdv_tup [v])).push (excO C hp.objs.size), g, dr, tk, os⟩) T SF (X.keeps k) (hlim.keeps k) hget ?_ fun h' tk' dx ⟨k', hx, dn, dne, hns⟩ => ?_
  · show A.depth + 1 < recursionLimit
    exact hroom
  · have old : ∀ b o, hp.get? b = some o → h'.get? b = some o := fun b o e => k' b o (Nat.ne_of_lt (Nat.lt_succ_of_lt (Heap.lt_size e))) (k b o e)
    have z : hp.objs.size + 1 + 1 ≤ dx := by
      first
        | (simpa only [Heap.size_push] using dn)
        | exact dn
        | (have q := dn; rw [Heap.size_push, Heap.size_push] at q; exact q)
    exact ⟨rfl, hq h' tk' (hp.objs.size + 1) dx ⟨old, Nat.le_succ _, ⟨_, _, hx, rfl, rfl, rfl, rfl⟩, Nat.le_trans (Nat.le_trans (Nat.le_succ _) (Nat.le_succ _)) z, dne, hns⟩⟩
theorem heldBack {BS : String} {bmF : List Value} (T : ErrVLimit K mg B newId bmB cx qn C fI) (SF : StoreFacts BS bmB "object.__setattr__" "object") {initId : String} (FB : ExcBaseFacts B newId initId bmF) (mo : LowK.MroOk bmB B) {v : Value} (X : K.In s.heap) (hlim : s.heap.NoLimit) (hroom : A.depth + 1 < recursionLimit)
    (hq : ∀ h' tk e d t1, (∀ b o, s.heap.get? b = some o → h'.get? b = some o) → s.heap.objs.size ≤ e → h'.get? e = some { cls := .ref C, dict := some d, data := .fields #[.ref t1, .none, .none, .none, .bool false, .none] } → s.heap.objs.size ≤ d → d ≠ e → h'.Ns1 d (fun y => if y = "limit" then some v else none) → R (.ok (.ret (.ref e))) { s with heap := h', toks := tk }) :
    codeAny (model prog w) A (.call (.ref C) ⟨[v], []⟩) R s := by
  obtain ⟨nm, N, qnm, bs, bm, hdct, sn, sub, ab, col, dd, k0, k1, k2, k3, k5, hC, hT⟩ := excInit_of X T.q
  obtain ⟨hp, g, dr, tk, os⟩ := s
  have k : ∀ b o, hp.get? b = some o → ((hp.push (kdv_tup [v])).push (excO C hp.objs.size)).get? b = some o := fun b o e => Heap.get?_push_of_some _ (Heap.get?_push_of_some _ e)
  have hget : ((hp.push (kdv_tup [v])).push (excO C hp.objs.size)).get? (hp.objs.size + 1) = some (excO C hp.objs.size) := by heap_get
  refine LowK.class_called FB (mo.of hT) hC (looks_findIn X T.iC) (fun self => bind_fn X self T.tC) (by rw [sizeLine_eq]; show 1 ≤ 16777216; decide) ?_
  refine init_VLimit (s := ⟨(hp.push (kdv_tup [v])).push (excO C hp.objs.size), g, dr, tk, os⟩) T SF (X.keeps k) (hlim.keeps k) hget ?_ fun h' tk' dx ⟨k', hx, dn, dne, hns⟩ => ?_
  · show A.depth + 1 < recursionLimit
    exact hroom
  · have old : ∀ b o, hp.get? b = some o → h'.get? b = some o := fun b o e => k' b o (Nat.ne_of_lt (Nat.lt_succ_of_lt (Heap.lt_size e))) (k b o e)
    have z : hp.objs.size + 1 + 1 ≤ dx := by
      first
        | (simpa only [Heap.size_push] using dn)
        | exact dn
        | (have q := dn; rw [Heap.size_push, Heap.size_push] at q; exact q)
    exact ⟨rfl, hq h' tk' (hp.objs.size + 1) dx _ old (Nat.le_succ _) hx (Nat.le_trans (Nat.le_trans (Nat.le_succ _) (Nat.le_succ _)) z) dne hns⟩
end
end My.LowVLimit
namespace My
open PySem PySem.Spec PyProof.Rows L2
open LowVLimit (ErrVLimit MadeVLimit)
theorem relO_vLimit {v : V} {v' : Value} (r : RelV v v') (f : Str) : RelO (List.lookup f [(("limit" : Str), v)]) (if f = "limit" then some v' else none) := by
  by_cases hw : f = "limit"
  · subst hw
    rw [if_pos rfl]
    have q : List.lookup ("limit" : Str) [(("limit" : Str), v)] = some v := by simp [List.lookup]
    rw [q]
    exact r
  · rw [if_neg hw]
    have qw : (f == ("limit" : Str)) = false := by simpa using hw
    have q2 : List.lookup f [(("limit" : Str), v)] = none := by simp [List.lookup, qw]
    rw [q2]
    trivial
section
variable {X : Cx} {C fI : Addr} {B newId : String} {bmB : List Value} {cx qn : Str} {initId : String}
def tMkVLimit (C : Addr) (ta : TA) : L2.St → Hp → XK → Prop := fun σ H Q => ta σ H fun vs H1 => ∃ v, vs = [v] ∧ ∀ d, H1 d = none → Q (.ref C) (some d) (upd H1 d (.xd [(("limit" : Str), v)]))
theorem pmk_VLimit {BS : String} {bmF : List Value} {a : Expr} {ta : TA} {p pos : Pos} {k : Nat} (T : ErrVLimit X.K X.mg B newId bmB cx qn C fI) (SF : StoreFacts BS bmB "object.__setattr__" "object") (FB : ExcBaseFacts B newId initId bmF) (mo : LowK.MroOk bmB B) (hr : Room k X.A) (ha : PA X [a] ta) (hg : Gl X cx) (hdb : (cx == ("__debug__" : Str)) = false := by decide)
    (he : starEach (a :: []) X.env = (false, eval a X.env) :: starEach [] X.env := by rfl) (hpl : (backTo pos (starEach [] X.env)).any (·.1) = false := by rfl) :
    PMk X (.Call (.Name cx p) [a] [] pos) (tMkVLimit C ta) := by
  intro pins s σ H Q I h
  refine wpAny_Call_Name_kw (ld_glob I hg T.gC ?_ hdb)
  refine PySem.W.callWith_K (h₀ := X.base) I.ok.mod.kin T.kC (thn (ha.run pos pins s σ H _ I h) fun us s1 hh => ?_) he hpl
  obtain ⟨vs, H1, I1, r1, v, ev, q1⟩ := hh
  subst ev
  refine ⟨I1.kIn, ?_⟩
  cases r1 with
  | cons rv rn =>
    rename_i v' us'
    cases rn
    show wpAny _ _ (call (.ref C) [v']) _ _ _
    have hlim := I1.nolimit
    obtain ⟨hp, g, dr, tk, os⟩ := s1
    refine wpAny_call (LowVLimit.made_VLimit T SF FB mo I1.kIn hlim (by have := hr.dp; omega) fun h' tk' e d M => ?_)
    show MkP X pins σ Q (.ref e) ⟨h', g, dr, tk', os⟩
    obtain ⟨oe, fv, hoe, hc, hd, hdat, h1⟩ := M.obj
    have hns := M.ns
    obtain ⟨G', g1, g2⟩ := restrict h' fun b => decide (b ≠ e)
    have gk : ∀ b, b ≠ e → G'.get? b = h'.get? b := fun b hb => g1 b (decide_eq_true hb)
    have ge : G'.get? e = none := g2 e (by simp)
    have old : ∀ b o, hp.get? b = some o → G'.get? b = some o := fun b o q => (gk b (Nat.ne_of_lt (Nat.lt_of_lt_of_le (Heap.lt_size q) M.new))).trans (M.keep b o q)
    have ob : ObjOk X.prog X.w (upd H1 d (.xd [(("limit" : Str), v)])) G' d (.xd [(("limit" : Str), v)]) :=
      ⟨_, hns.at (fun o q => (gk d M.dne).trans q), fun f => relO_vLimit rv f⟩
    have J : Inv X pins σ (upd H1 d (.xd [(("limit" : Str), v)])) ⟨G', g, dr, tk', os⟩ := I1.laid (t' := tk') old M.dbig ob
    refine ⟨e, oe, fv, ⟨G', g, dr, tk', os⟩, _, .ref C, some d, rfl, J, fun b o q => ?_, ge, hoe, ⟨hc, hd⟩, hdat, h1, ?_, rfl, I1.bare, raises_own T.exC T.tyC, q1 d (I1.hok.fresh M.dbig)⟩
    · by_cases hb : b = e
      · have q' : G'.get? b = some o := q
        rw [hb, ge] at q'; cases q'
      · exact (gk b hb).symm.trans q
    · rw [upd_ne (Ne.symm M.dne)]
      exact I1.hok.fresh M.new
/-- e.value in the suite that holds the error -/
theorem pe_valueLimit {a : Addr} {oe : Obj} {cls : Value} {d : Option Addr} {pn : List (Addr × Obj)} {e : Expr} {te : TE} {pos : Pos} (T : ErrVLimit X.K X.mg B newId bmB cx qn C fI) (hz : Zc cls d oe) (hf : ∃ vs, oe.data = .fields vs) (he : PE (X.suite a ((a, oe) :: pn)) e te)
    (hb : attributeBase e "limit" X.env (eval e X.env) = eval e X.env := by rfl) :
    PE (X.suite a ((a, oe) :: pn)) (.Attribute e "limit" pos) (tXf a cls d C "limit" te) :=
  pe_xf ⟨T.ga, T.gg, T.exC, T.hdC⟩ T.noN hz hf he hb
def tHeldVLimit (C : Addr) (ta : TA) : TE := fun σ H Q => ta σ H fun vs H1 => ∃ v, vs = [v] ∧ ∀ e d, H1 e = none → H1 d = none → d ≠ e → Q (.ref e) (upd (upd H1 d (.xd [(("limit" : Str), v)])) e (exo e C (some d)))
/-- the error made and held -/
theorem pe_heldVLimit {BS : String} {bmF : List Value} {a : Expr} {ta : TA} {p pos : Pos} {k : Nat} (T : ErrVLimit X.K X.mg B newId bmB cx qn C fI) (SF : StoreFacts BS bmB "object.__setattr__" "object") (FB : ExcBaseFacts B newId initId bmF) (mo : LowK.MroOk bmB B) (hr : Room k X.A) (ha : PA X [a] ta) (hg : Gl X cx) (hdb : (cx == ("__debug__" : Str)) = false := by decide)
    (he : starEach (a :: []) X.env = (false, eval a X.env) :: starEach [] X.env := by rfl) (hpl : (backTo pos (starEach [] X.env)).any (·.1) = false := by rfl) :
    PE X (.Call (.Name cx p) [a] [] pos) (tHeldVLimit C ta) := by
  refine ⟨fun pins s σ H Q I h => wpAny_Call_Name_kw (ld_glob I hg T.gC ?_ hdb)⟩
  refine PySem.W.callWith_K (h₀ := X.base) I.ok.mod.kin T.kC (thn (ha.run pos pins s σ H _ I h) fun us s1 hh => ?_) he hpl
  obtain ⟨vs, H1, I1, r1, v, ev, q1⟩ := hh
  subst ev
  refine ⟨I1.kIn, ?_⟩
  cases r1 with
  | cons rv rn =>
    rename_i v' us'
    cases rn
    show wpAny _ _ (call (.ref C) [v']) _ _ _
    have hlim := I1.nolimit
    obtain ⟨hp, g, dr, tk, os⟩ := s1
    refine wpAny_call (LowVLimit.heldBack T SF FB mo I1.kIn hlim (by have := hr.dp; omega) fun h' tk' e d t1 old hne hoe hd hde hns => ?_)
    show EP X pins σ Q (.ref e) ⟨h', g, dr, tk', os⟩
    obtain ⟨G', g1, g2⟩ := restrict h' fun b => decide (b ≠ e)
    have gk : ∀ b, b ≠ e → G'.get? b = h'.get? b := fun b hb => g1 b (decide_eq_true hb)
    have ge : G'.get? e = none := g2 e (by simp)
    have oldG : ∀ b o, hp.get? b = some o → G'.get? b = some o := fun b o q => (gk b (Nat.ne_of_lt (Nat.lt_of_lt_of_le (Heap.lt_size q) hne))).trans (old b o q)
    have ob : ObjOk X.prog X.w (upd H1 d (.xd [(("limit" : Str), v)])) G' d (.xd [(("limit" : Str), v)]) := ⟨_, hns.at (fun o q => (gk d hde).trans q), fun f => relO_vLimit rv f⟩
    have J : Inv X pins σ (upd H1 d (.xd [(("limit" : Str), v)])) ⟨G', g, dr, tk', os⟩ := I1.laid (t' := tk') oldG hd ob
    have ne : (upd H1 d (.xd [(("limit" : Str), v)])) e = none := by
      rw [upd_ne (Ne.symm hde)]
      exact I1.hok.fresh hne
    have up : ∀ b u, G'.get? b = some u → h'.get? b = some u := fun b u q => by
      by_cases hb : b = e
      · rw [hb, ge] at q
        cases q
      · exact (gk b hb).symm.trans q
    have J2 := J.laidN (h' := h') (a := e) (o := exo e C (some d)) (t' := tk') up ge ne ⟨⟨t1, hoe⟩, ⟨_, hoe⟩, fun _ _ ⟨t, q⟩ k => ⟨t, k _ q⟩⟩
    exact ⟨.ref e, _, J2, rfl, q1 e d (I1.hok.fresh hne) (I1.hok.fresh hd) hde⟩
end
end My
/-! an own error over a class that is not ValueError, with the one field "reason" -/
namespace My.LowVReason
open PySem PySem.W PySem.Calls PyProof.Rows PySem.HandSPX
def vA (p1 p2 : Pos) : Arguments := { posonlyargs := [], args := [{ arg := "self", annotation := none, pos := p1 }, { arg := "reason", annotation := none, pos := p2 }], vararg := none, kwonlyargs := [], kw_defaults := [], kwarg := none, defaults := [] }
def vB (q1 q2 q3 q4 : Pos) : List Stmt := [.Assign [.Attribute (.Name "self" q1) "reason" q2] (.Name "reason" q3) q4]
def vS : Scope := { kind := .function, names := [(PySem.Str.ofString "self", .local), (PySem.Str.ofString "reason", .local)], isGenerator := false, isCoroutine := false, more := [] }
/-- what the written part says of the class x at C over B, and of its __init__ at fI -/
structure ErrVReason (K : Frag) (mg : Str → Option Value) (B newId : String) (bmB : List Value) (x qn : Str) (C fI : Addr) : Prop where
  gC : mg x = some (.ref C)
  q : excInitIn K C bmB newId = true
  ov : excOver K C bmB = true
  tk : takerIn K C "reason" = some none
  sa : findIn K (.ref C) "__setattr__" = some (some (.builtin "object.__setattr__"))
  ga : findIn K (.ref C) "__getattribute__" = some (some (.builtin "BaseException.__getattribute__"))
  gg : findIn K (.ref C) "__getattr__" = some none
  noN : findIn K (.ref C) "reason" = some none
  iC : findIn K (.ref C) "__init__" = some (some (.ref fI))
  tC : typeIn K (.ref fI) = some (.type "function")
  kC : keepIn K (.ref C) = true
  exC : subIn K (.ref C) (.type "BaseException") = some true
  tyC : typeIn K (.ref C) = some (.type "type")
  hdC : hasDictIn K C = true
  fn : ∃ (oc : Value) (od : Option Addr) (doc pm : Value) (an : Option Addr) (cdv ct : Value) (osl : Array (Option Value)) (p1 p2 q1 q2 q3 q4 : Pos),
    K.lookup fI = some ⟨oc, od, .func (fnOf "__init__" qn (vA p1 p2) (vB q1 q2 q3 q4) vS .none .none doc pm an cdv ct), osl⟩ ∧ codeIn K cdv qn = true
theorem kept_but {K : Frag} {h h' : Heap} {x : Addr} (X : K.In h) (hx : K.lookup x = none) (k : ∀ b o, b ≠ x → h.get? b = some o → h'.get? b = some o) : K.In h' := fun a o e =>
  k a o (fun z => by rw [z, hx] at e; cases e) (X a o e)
theorem ldVReason {M : Model} {s : Shared} {name : Str} {scope : Scope} {L a : Addr} {cd : Value} {m : Str → Option Value} {x : Str} {pos : Pos} {v : Value} {Q : Value → Shared → Prop} {A : Around} {E : Value → Shared → Prop} (hn : s.heap.Ns L m) (hv : m x = some v) (h : Q v s)
    (hk : scope.kind = .function := by rfl) (hl : (envOfC name scope L a cd).kindOf x = some .local := by rfl) (hd : (x == ("__debug__" : Str)) = false := by decide) :
    wpAny M A (eval (.Name x pos) (envOfC name scope L a cd)) Q E s := wpAny_Name (wpAny_loadName_local hk hl hn hv h) hd
/-- what __init__ leaves of a fresh error at x -/
structure InitVReason (h h' : Heap) (x C dx t1 : Addr) (v : Value) : Prop where
  keep : ∀ b o, b ≠ x → h.get? b = some o → h'.get? b = some o
  obj : h'.get? x = some { cls := .ref C, dict := some dx, data := .fields #[.ref t1, .none, .none, .none, .bool false, .none] }
  dbig : h.objs.size ≤ dx
  dne : dx ≠ x
  ns : h'.Ns1 dx (fun y => if y = "reason" then some v else none)
structure MadeVReason (h h' : Heap) (e C d : Addr) (v : Value) : Prop where
  keep : ∀ b o, h.get? b = some o → h'.get? b = some o
  new : h.objs.size ≤ e
  obj : ∃ oe vs, h'.get? e = some oe ∧ oe.cls = .ref C ∧ oe.dict = some d ∧ oe.data = .fields vs ∧ vs[1]? = some .none
  dbig : h.objs.size ≤ d
  dne : d ≠ e
  ns : h'.Ns1 d (fun y => if y = "reason" then some v else none)
section
variable {prog : Program} {w : World} {A : Around} {E : Value → Shared → Prop} {R : Result → Shared → Prop} {s : Shared} {K : Frag} {mg : Str → Option Value} {C fI : Addr} {B newId : String} {bmB : List Value} {cx qn : Str}
/-- the first store -/
theorem osa_first {BS : String} {name : Str} {tk : Tok} {v : Value} {x t0 : Addr} (SF : StoreFacts BS bmB "object.__setattr__" "object") (X : K.In s.heap) (hx : s.heap.get? x = some (excO C t0)) (ov : excOver K C bmB = true) (ht : takerIn K C name = some none) (hh : hasDictIn K C = true)
    (hq : ∀ h' tk' dx, (∀ b o, b ≠ x → s.heap.get? b = some o → h'.get? b = some o) → s.heap.objs.size ≤ dx → dx ≠ x → h'.get? x = some { cls := .ref C, dict := some dx, data := .fields #[.ref t0, .none, .none, .none, .bool false, .none] } →
      h'.Ns1 dx (fun y => if y = name then some v else none) → R (.ok (.ret .none)) { s with heap := h', toks := tk' }) :
    codeAny (model prog w) A (.call (.builtin "object.__setattr__") ⟨[.ref x, .str name tk, v], []⟩) R s := by
  refine osa_openX (od := none) SF X ⟨hx, rfl, rfl, trivial⟩ ov ht fun b => ?_
  obtain ⟨cd, hc, hd'⟩ := any_some hh
  have hxs : x ≠ s.heap.objs.size := Nat.ne_of_lt (Heap.lt_size hx)
  refine wpAny_bind (wpAny_pure (wpAny_bind (instanceDict_exc hx (looks_clsIn X hc) hd' ?_)))
  obtain ⟨hp, g, d, t, os⟩ := s
  show wpAny _ _ (Builtin.ObjectAttr.storeInDict hp.objs.size (.str name tk) name v) _ _ _
  have hx1 := Heap.get?_push_of_some (dictOf [] 0) hx
  refine store_in_new ?_ fun h' tk' hn' hs => ?_
  · exact ⟨_, #[], _, (Heap.get?_update_ne _ _ _ _ hxs.symm).trans (Heap.get?_push_at rfl rfl), rfl, fun e he => absurd he (by simp), fun _ => rfl⟩
  · refine hq h' tk' hp.objs.size (fun b o hb ho => ?_) (Nat.le_refl _) hxs.symm ?_ hn'
    · exact (hs.2 b (Nat.ne_of_lt (Heap.lt_size ho))).trans ((Heap.get?_update_ne _ _ _ _ hb).trans (Heap.get?_push_of_some _ ho))
    · exact (hs.2 x hxs).trans (Heap.get?_update_self _ hx1 rfl)
theorem init_VReason {BS : String} (T : ErrVReason K mg B newId bmB cx qn C fI) (SF : StoreFacts BS bmB "object.__setattr__" "object") {x t0 : Addr} {v : Value} (X : K.In s.heap) (hlim : s.heap.NoLimit) (hx : s.heap.get? x = some (excO C t0)) (hroom : A.depth < recursionLimit)
    (hq : ∀ h' tk dx, InitVReason s.heap h' x C dx t0 v → R (.ok (.ret .none)) { s with heap := h', toks := tk }) :
    codeAny (model prog w) A (.call (.ref fI) ⟨[.ref x, v], []⟩) R s := by
  obtain ⟨oc, od, doc, pm, an, cdv, ct, osl, p1, p2, q1, q2, q3, q4, ho, hcd⟩ := T.fn
  refine Att.call_fn (binds := [("self", .ref x), ("reason", v)]) X hlim ho hcd hroom (BindsTo.of_eq (by first | rfl | with_unfolding_all rfl)) (by first | rfl | decide | with_unfolding_all rfl) (fun s₁ IC => ?_) rfl rfl rfl
  obtain ⟨h₁, tk₁, rfl⟩ := IC.toInCall.same
  have k : ∀ b o, s.heap.get? b = some o → h₁.get? b = some o := IC.toInCall.keep
  have hn := IC.toInCall.ns
  have X₁ : K.In h₁ := X.keeps k
  have hx₁ := k _ _ hx
  show wpAny _ _ (execs _ _) _ _ _
  refine wpAny_execs_cons (plainObj_wpAny_Assign_Attribute ?_)
  refine ldVReason (v := v) hn (by first | rfl | with_unfolding_all rfl | kernel_rfl) (ldVReason (v := .ref x) hn (by first | rfl | with_unfolding_all rfl | kernel_rfl) ?_)
  refine set_plain X₁ (ox := excO C t0) (od := none) ⟨hx₁, rfl, rfl, trivial⟩ T.sa ?_
  refine osa_first SF X₁ hx₁ T.ov T.tk T.hdC (fun h₃ tk₃ dx k₃ dn dne hx₃ hn₃ => ?_)
  show wpAny _ _ (execs _ _) _ _ _
  have z : s.heap.objs.size < h₁.objs.size := hn.lt
  exact wpAny_execs_nil (hq h₃ tk₃ dx ⟨fun b o hb e => k₃ b o hb (k b o e), hx₃, Nat.le_of_lt (Nat.lt_of_lt_of_le z dn), dne, hn₃⟩)
theorem made_VReason {BS : String} {bmF : List Value} (T : ErrVReason K mg B newId bmB cx qn C fI) (SF : StoreFacts BS bmB "object.__setattr__" "object") {initId : String} (FB : ExcBaseFacts B newId initId bmF) (mo : LowK.MroOk bmB B) {v : Value} (X : K.In s.heap) (hlim : s.heap.NoLimit) (hroom : A.depth + 1 < recursionLimit)
    (hq : ∀ h' tk e d, MadeVReason s.heap h' e C d v → R (.ok (.ret (.ref e))) { s with heap := h', toks := tk }) :
    codeAny (model prog w) A (.call (.ref C) ⟨[v], []⟩) R s := by
  obtain ⟨nm, N, qnm, bs, bm, hdct, sn, sub, ab, col, dd, k0, k1, k2, k3, k5, hC, hT⟩ := excInit_of X T.q
  obtain ⟨hp, g, dr, tk, os⟩ := s
  have k : ∀ b o, hp.get? b = some o → ((hp.push (kdv_tup [v])).push (excO C hp.objs.size)).get? b = some o := fun b o e => Heap.get?_push_of_some _ (Heap.get?_push_of_some _ e)
  have hget : ((hp.push (kdv_tup [v])).push (excO C hp.objs.size)).get? (hp.objs.size + 1) = some (excO C hp.objs.size) := by heap_get
  refine LowK.class_called FB (mo.of hT) hC (looks_findIn X T.iC) (fun self => bind_fn X self T.tC) (by rw [sizeLine_eq]; show 1 ≤ 16777216; decide) ?_
  refine init_VReason (s := ⟨(hp.push (kdv_tup [v])).push (excO C hp.objs.size), g, dr, tk, os⟩) T SF (X.keeps k) (hlim.keeps k) hget ?_ fun h' tk' dx ⟨k', hx, dn, dne, hns⟩ => ?_
  · show A.depth + 1 < recursionLimit
    exact hroom
  · have old : ∀ b o, hp.get? b = some o → h'.get? b = some o := fun b o e => k' b o (Nat.ne_of_lt (Nat.lt_succ_of_lt (Heap.lt_size e))) (k b o e)
    have z : hp.objs.size + 1 + 1 ≤ dx := by
      first
        | (simpa only [Heap.size_push] using dn)
        | exact dn
        | (have q := dn; rw [Heap.size_push, Heap.size_push] at q; exact q)
    exact ⟨rfl, hq h' tk' (hp.objs.size + 1) dx ⟨old, Nat.le_succ _, ⟨_, _, hx, rfl, rfl, rfl, rfl⟩, Nat.le_trans (Nat.le_trans (Nat.le_succ _) (Nat.le_succ _)) z, dne, hns⟩⟩
theorem heldBack {BS : String} {bmF : List Value} (T : ErrVReason K mg B newId bmB cx qn C fI) (SF : StoreFacts BS bmB "object.__setattr__" "object") {initId : String} (FB : ExcBaseFacts B newId initId bmF) (mo : LowK.MroOk bmB B) {v : Value} (X : K.In s.heap) (hlim : s.heap.NoLimit) (hroom : A.depth + 1 < recursionLimit)
    (hq : ∀ h' tk e d t1, (∀ b o, s.heap.get? b = some o → h'.get? b = some o) → s.heap.objs.size ≤ e → h'.get? e = some { cls := .ref C, dict := some d, data := .fields #[.ref t1, .none, .none, .none, .bool false, .none] } → s.heap.objs.size ≤ d → d ≠ e → h'.Ns1 d (fun y => if y = "reason" then some v else none) → R (.ok (.ret (.ref e))) { s with heap := h', toks := tk }) :
    codeAny (model prog w) A (.call (.ref C) ⟨[v], []⟩) R s := by
  obtain ⟨nm, N, qnm, bs, bm, hdct, sn, sub, ab, col, dd, k0, k1, k2, k3, k5, hC, hT⟩ := excInit_of X T.q
  obtain ⟨hp, g, dr, tk, os⟩ := s
  have k : ∀ b o, hp.get? b = some o → ((hp.push (kdv_tup [v])).push (excO C hp.objs.size)).get? b = some o := fun b o e => Heap.get?_push_of_some _ (Heap.get?_push_of_some _ e)
  have hget : ((hp.push (kdv_tup [v])).push (excO C hp.objs.size)).get? (hp.objs.size + 1) = some (excO C hp.objs.size) := by heap_get
  refine LowK.class_called FB (mo.of hT) hC (looks_findIn X T.iC) (fun self => bind_fn X self T.tC) (by rw [sizeLine_eq]; show 1 ≤ 16777216; decide) ?_
  refine init_VReason (s := ⟨(hp.push (kdv_tup [v])).push (excO C hp.objs.size), g, dr, tk, os⟩) T SF (X.keeps k) (hlim.keeps k) hget ?_ fun h' tk' dx ⟨k', hx, dn, dne, hns⟩ => ?_
  · show A.depth + 1 < recursionLimit
    exact hroom
  · have old : ∀ b o, hp.get? b = some o → h'.get? b = some o := fun b o e => k' b o (Nat.ne_of_lt (Nat.lt_succ_of_lt (Heap.lt_size e))) (k b o e)
    have z : hp.objs.size + 1 + 1 ≤ dx := by
      first
        | (simpa only [Heap.size_push] using dn)
        | exact dn
        | (have q := dn; rw [Heap.size_push, Heap.size_push] at q; exact q)
    exact ⟨rfl, hq h' tk' (hp.objs.size + 1) dx _ old (Nat.le_succ _) hx (Nat.le_trans (Nat.le_trans (Nat.le_succ _) (Nat.le_succ _)) z) dne hns⟩
end
end My.LowVReason
namespace My
open PySem PySem.Spec PyProof.Rows L2
open LowVReason (ErrVReason MadeVReason)
theorem relO_vReason {v : V} {v' : Value} (r : RelV v v') (f : Str) : RelO (List.lookup f [(("reason" : Str), v)]) (if f = "reason" then some v' else none) := by
  by_cases hw : f = "reason"
  · subst hw
    rw [if_pos rfl]
    have q : List.lookup ("reason" : Str) [(("reason" : Str), v)] = some v := by simp [List.lookup]
    rw [q]
    exact r
  · rw [if_neg hw]
    have qw : (f == ("reason" : Str)) = false := by simpa using hw
    have q2 : List.lookup f [(("reason" : Str), v)] = none := by simp [List.lookup, qw]
    rw [q2]
    trivial
section
variable {X : Cx} {C fI : Addr} {B newId : String} {bmB : List Value} {cx qn : Str} {initId : String}
def tMkVReason (C : Addr) (ta : TA) : L2.St → Hp → XK → Prop := fun σ H Q => ta σ H fun vs H1 => ∃ v, vs = [v] ∧ ∀ d, H1 d = none → Q (.ref C) (some d) (upd H1 d (.xd [(("reason" : Str), v)]))
theorem pmk_VReason {BS : String} {bmF : List Value} {a : Expr} {ta : TA} {p pos : Pos} {k : Nat} (T : ErrVReason X.K X.mg B newId bmB cx qn C fI) (SF : StoreFacts BS bmB "object.__setattr__" "object") (FB : ExcBaseFacts B newId initId bmF) (mo : LowK.MroOk bmB B) (hr : Room k X.A) (ha : PA X [a] ta) (hg : Gl X cx) (hdb : (cx == ("__debug__" : Str)) = false := by decide)
    (he : starEach (a :: []) X.env = (false, eval a X.env) :: starEach [] X.env := by rfl) (hpl : (backTo pos (starEach [] X.env)).any (·.1) = false := by rfl) :
    PMk X (.Call (.Name cx p) [a] [] pos) (tMkVReason C ta) := by
  intro pins s σ H Q I h
  refine wpAny_Call_Name_kw (ld_glob I hg T.gC ?_ hdb)
  refine PySem.W.callWith_K (h₀ := X.base) I.ok.mod.kin T.kC (thn (ha.run pos pins s σ H _ I h) fun us s1 hh => ?_) he hpl
  obtain ⟨vs, H1, I1, r1, v, ev, q1⟩ := hh
  subst ev
  refine ⟨I1.kIn, ?_⟩
  cases r1 with
  | cons rv rn =>
    rename_i v' us'
    cases rn
    show wpAny _ _ (call (.ref C) [v']) _ _ _
    have hlim := I1.nolimit
    obtain ⟨hp, g, dr, tk, os⟩ := s1
    refine wpAny_call (LowVReason.made_VReason T SF FB mo I1.kIn hlim (by have := hr.dp; omega) fun h' tk' e d M => ?_)
    show MkP X pins σ Q (.ref e) ⟨h', g, dr, tk', os⟩
    obtain ⟨oe, fv, hoe, hc, hd, hdat, h1⟩ := M.obj
    have hns := M.ns
    obtain ⟨G', g1, g2⟩ := restrict h' fun b => decide (b ≠ e)
    have gk : ∀ b, b ≠ e → G'.get? b = h'.get? b := fun b hb => g1 b (decide_eq_true hb)
    have ge : G'.get? e = none := g2 e (by simp)
    have old : ∀ b o, hp.get? b = some o → G'.get? b = some o := fun b o q => (gk b (Nat.ne_of_lt (Nat.lt_of_lt_of_le (Heap.lt_size q) M.new))).trans (M.keep b o q)
    have ob : ObjOk X.prog X.w (upd H1 d (.xd [(("reason" : Str), v)])) G' d (.xd [(("reason" : Str), v)]) :=
      ⟨_, hns.at (fun o q => (gk d M.dne).trans q), fun f => relO_vReason rv f⟩
    have J : Inv X pins σ (upd H1 d (.xd [(("reason" : Str), v)])) ⟨G', g, dr, tk', os⟩ := I1.laid (t' := tk') old M.dbig ob
    refine ⟨e, oe, fv, ⟨G', g, dr, tk', os⟩, _, .ref C, some d, rfl, J, fun b o q => ?_, ge, hoe, ⟨hc, hd⟩, hdat, h1, ?_, rfl, I1.bare, raises_own T.exC T.tyC, q1 d (I1.hok.fresh M.dbig)⟩
    · by_cases hb : b = e
      · have q' : G'.get? b = some o := q
        rw [hb, ge] at q'; cases q'
      · exact (gk b hb).symm.trans q
    · rw [upd_ne (Ne.symm M.dne)]
      exact I1.hok.fresh M.new
/-- e.value in the suite that holds the error -/
theorem pe_valueReason {a : Addr} {oe : Obj} {cls : Value} {d : Option Addr} {pn : List (Addr × Obj)} {e : Expr} {te : TE} {pos : Pos} (T : ErrVReason X.K X.mg B newId bmB cx qn C fI) (hz : Zc cls d oe) (hf : ∃ vs, oe.data = .fields vs) (he : PE (X.suite a ((a, oe) :: pn)) e te)
    (hb : attributeBase e "reason" X.env (eval e X.env) = eval e X.env := by rfl) :
    PE (X.suite a ((a, oe) :: pn)) (.Attribute e "reason" pos) (tXf a cls d C "reason" te) :=
  pe_xf ⟨T.ga, T.gg, T.exC, T.hdC⟩ T.noN hz hf he hb
def tHeldVReason (C : Addr) (ta : TA) : TE := fun σ H Q => ta σ H fun vs H1 => ∃ v, vs = [v] ∧ ∀ e d, H1 e = none → H1 d = none → d ≠ e → Q (.ref e) (upd (upd H1 d (.xd [(("reason" : Str), v)])) e (exo e C (some d)))
/-- the error made and held -/
theorem pe_heldVReason {BS : String} {bmF : List Value} {a : Expr} {ta : TA} {p pos : Pos} {k : Nat} (T : ErrVReason X.K X.mg B newId bmB cx qn C fI) (SF : StoreFacts BS bmB "object.__setattr__" "object") (FB : ExcBaseFacts B newId initId bmF) (mo : LowK.MroOk bmB B) (hr : Room k X.A) (ha : PA X [a] ta) (hg : Gl X cx) (hdb : (cx == ("__debug__" : Str)) = false := by decide)
    (he : starEach (a :: []) X.env = (false, eval a X.env) :: starEach [] X.env := by rfl) (hpl : (backTo pos (starEach [] X.env)).any (·.1) = false := by rfl) :
    PE X (.Call (.Name cx p) [a] [] pos) (tHeldVReason C ta) := by
  refine ⟨fun pins s σ H Q I h => wpAny_Call_Name_kw (ld_glob I hg T.gC ?_ hdb)⟩
  refine PySem.W.callWith_K (h₀ := X.base) I.ok.mod.kin T.kC (thn (ha.run pos pins s σ H _ I h) fun us s1 hh => ?_) he hpl
  obtain ⟨vs, H1, I1, r1, v, ev, q1⟩ := hh
  subst ev
  refine ⟨I1.kIn, ?_⟩
  cases r1 with
  | cons rv rn =>
    rename_i v' us'
    cases rn
    show wpAny _ _ (call (.ref C) [v']) _ _ _
    have hlim := I1.nolimit
    obtain ⟨hp, g, dr, tk, os⟩ := s1
    refine wpAny_call (LowVReason.heldBack T SF FB mo I1.kIn hlim (by have := hr.dp; omega) fun h' tk' e d t1 old hne hoe hd hde hns => ?_)
    show EP X pins σ Q (.ref e) ⟨h', g, dr, tk', os⟩
    obtain ⟨G', g1, g2⟩ := restrict h' fun b => decide (b ≠ e)
    have gk : ∀ b, b ≠ e → G'.get? b = h'.get? b := fun b hb => g1 b (decide_eq_true hb)
    have ge : G'.get? e = none := g2 e (by simp)
    have oldG : ∀ b o, hp.get? b = some o → G'.get? b = some o := fun b o q => (gk b (Nat.ne_of_lt (Nat.lt_of_lt_of_le (Heap.lt_size q) hne))).trans (old b o q)
    have ob : ObjOk X.prog X.w (upd H1 d (.xd [(("reason" : Str), v)])) G' d (.xd [(("reason" : Str), v)]) := ⟨_, hns.at (fun o q => (gk d hde).trans q), fun f => relO_vReason rv f⟩
    have J : Inv X pins σ (upd H1 d (.xd [(("reason" : Str), v)])) ⟨G', g, dr, tk', os⟩ := I1.laid (t' := tk') oldG hd ob
    have ne : (upd H1 d (.xd [(("reason" : Str), v)])) e = none := by
      rw [upd_ne (Ne.symm hde)]
      exact I1.hok.fresh hne
    have up : ∀ b u, G'.get? b = some u → h'.get? b = some u := fun b u q => by
      by_cases hb : b = e
      · rw [hb, ge] at q
        cases q
      · exact (gk b hb).symm.trans q
    have J2 := J.laidN (h' := h') (a := e) (o := exo e C (some d)) (t' := tk') up ge ne ⟨⟨t1, hoe⟩, ⟨_, hoe⟩, fun _ _ ⟨t, q⟩ k => ⟨t, k _ q⟩⟩
    exact ⟨.ref e, _, J2, rfl, q1 e d (I1.hok.fresh hne) (I1.hok.fresh hd) hde⟩
end
end My
namespace My
open PySem PySem.Spec PyProof.Rows L2
abbrev s_lkept : Stmt := top 27
theorem sc_lkept : FnScope ["_law_worth", "_law_index", "_law_parse", "_law_unknown", "_law_wrong", "_law_undo", "_law_much", "_law_refused", "_law_found"] ["_law_worth", "_law_index"] (defScope s_lkept) := ⟨rfl, rfl, rfl, by decide +kernel, rfl, by decide +kernel, by decide +kernel⟩
/-- the errors that keep something -/
structure Kpt (K : PySem.W.Frag) (mg : Str → Option Value) (cs fs : Nat → Addr) : Prop where
  eIndex : LowVIndex.ErrVIndex K mg "ValueError" "ValueError.__new__" veT "ParseError" "ParseError.__init__" (cs 13) (fs 13)
  eValue : LowVValue.ErrVValue K mg "IndexError" "IndexError.__new__" [.type "IndexError", .type "LookupError", .type "Exception", .type "BaseException", .type "object"] "InvalidCount" "InvalidCount.__init__" (cs 14) (fs 14)
  eName : LowVName.ErrVName K mg "LookupError" "LookupError.__new__" [.type "KeyError", .type "LookupError", .type "Exception", .type "BaseException", .type "object"] "UnknownName" "UnknownName.__init__" (cs 15) (fs 15)
  eWanted : LowVWanted.ErrVWanted K mg "RuntimeError" "RuntimeError.__new__" [.type "RuntimeError", .type "Exception", .type "BaseException", .type "object"] "NothingToUndo" "NothingToUndo.__init__" (cs 16) (fs 16)
  eLimit : LowVLimit.ErrVLimit K mg "OverflowError" "OverflowError.__new__" [.type "OverflowError", .type "ArithmeticError", .type "Exception", .type "BaseException", .type "object"] "TooMany" "TooMany.__init__" (cs 17) (fs 17)
  eReason : LowVReason.ErrVReason K mg "ArithmeticError" "ArithmeticError.__new__" [.type "ArithmeticError", .type "Exception", .type "BaseException", .type "object"] "Refused" "Refused.__init__" (cs 18) (fs 18)
theorem mIndex : LowK.MroOk veT "ValueError" := ⟨by decide, by decide, by decide⟩
theorem mValue : LowK.MroOk [.type "IndexError", .type "LookupError", .type "Exception", .type "BaseException", .type "object"] "IndexError" := ⟨by decide, by decide, by decide⟩
theorem mName : LowK.MroOk [.type "KeyError", .type "LookupError", .type "Exception", .type "BaseException", .type "object"] "LookupError" := ⟨by decide, by decide, by decide⟩
theorem mWanted : LowK.MroOk [.type "RuntimeError", .type "Exception", .type "BaseException", .type "object"] "RuntimeError" := ⟨by decide, by decide, by decide⟩
theorem mLimit : LowK.MroOk [.type "OverflowError", .type "ArithmeticError", .type "Exception", .type "BaseException", .type "object"] "OverflowError" := ⟨by decide, by decide, by decide⟩
theorem mReason : LowK.MroOk [.type "ArithmeticError", .type "Exception", .type "BaseException", .type "object"] "ArithmeticError" := ⟨by decide, by decide, by decide⟩
theorem xfc {K : PySem.W.Frag} {C : Addr} (h : ErrC K C) : XfC K C := ⟨h.hg, h.hk, h.hs, h.hd⟩
def pairS (t : Str) (v : V) : List V := [.str t, v]
def keptD (d i : PyData) : PyData := .list [.tuple [.str "P piece value", i], .tuple [.str "U key lookup", d], .tuple [.str "C index lookup", d], .tuple [.str "Z runtime", d], .tuple [.str "M overflow arithmetic", d], .tuple [.str "R arithmetic", d]]
theorem held_mk {H : Hp} {e d C : Addr} {fs : List (Str × V)} (ne : H e = none) (nd : H d = none) (dn : d ≠ e) : Ext H (upd (upd H d (.xd fs)) e (exo e C (some d))) ∧ upd (upd H d (.xd fs)) e (exo e C (some d)) e = some (exo e C (some d)) ∧ upd (upd H d (.xd fs)) e (exo e C (some d)) d = some (.xd fs) := by
  have x1 := ext_new (o := .xd fs) (ext_refl H) nd
  have n2 : upd H d (.xd fs) e = none := by
    rw [upd_ne (Ne.symm dn)]
    exact ne
  refine ⟨ext_new x1 n2, upd_same, ?_⟩
  rw [upd_ne dn]
  exact upd_same
theorem lk1 {f : Str} {v : V} : List.lookup f [(f, v)] = some v := by simp [List.lookup]
def spKept : Sp := fun vs H Q _ => ∃ v i d e, vs = [v, i] ∧ Rp H v d ∧ Rp H i e ∧ ∀ p H', Ext H H' → Rp H' (.ref p) (keptD d e) → Q (.ref p) H'
section
variable {P : Program} {w : World} {K : PySem.W.Frag} {mg : Str → Option Value} {base : Heap} {cs fs : Nat → Addr}
theorem ok_lkept (T : Bn mg) (G : Cls K mg cs) (E : Kpt K mg cs fs) (D : DefAt K mg "_law_kept" s_lkept) (F__law_all : FnAt P w K mg base 2 "_law_all" ["_law_error"] (spE base cs fun c => letT c ++ kinT c)) : FnAt P w K mg base 3 "_law_kept" ["_law_worth", "_law_index"] spKept := by
  refine fnAt D sc_lkept (fun _ _ _ _ _ _ us hl => match us, hl with | [_, _], _ => rfl) (fun vs H Q E h => ?_) fun f cdv A outer s H vs Q E' hr h => ?_
  · obtain ⟨v, i, d, e, rfl, _⟩ := h
    rfl
  obtain ⟨v, i, d, e, rfl, hv, hi, k⟩ := h
  refine ⟨_, (pss_cons (ps_par3 (i := 2) (j := 3) (l := 4) rfl sc_lkept.nd rfl rfl rfl (by decide) (by decide) (by decide) rfl rfl rfl (pa_cons (pe_heldVIndex E.eIndex PySem.F.store_ValueError PySem.F.excBase_ValueError mIndex hr (pa_cons (pv 1) pa_nil) rfl) (pa_cons (pe_heldVName E.eName LowK.store_KeyError PySem.F.excBase_LookupError mName hr (pa_cons (pv 0) pa_nil) rfl) (pa_cons (pe_heldVValue E.eValue PySem.F.store_IndexError PySem.F.excBase_IndexError mValue hr (pa_cons (pv 0) pa_nil) rfl) pa_nil))) (by rfl))
    (pss_cons (ps_par3 (i := 5) (j := 6) (l := 7) rfl sc_lkept.nd rfl rfl rfl (by decide) (by decide) (by decide) rfl rfl rfl (pa_cons (pe_heldVWanted E.eWanted PySem.F.store_RuntimeError PySem.F.excBase_RuntimeError mWanted hr (pa_cons (pv 0) pa_nil) rfl) (pa_cons (pe_heldVLimit E.eLimit PySem.F.store_OverflowError PySem.F.excBase_OverflowError mLimit hr (pa_cons (pv 0) pa_nil) rfl) (pa_cons (pe_heldVReason E.eReason PySem.F.store_ArithmeticError PySem.F.excBase_ArithmeticError mReason hr (pa_cons (pv 0) pa_nil) rfl) pa_nil))) (by rfl))
    (pss_cons (ps_set (i := 8) sc_lkept.nd rfl (Or.inl rfl) (pe_lst (pa_cons (pe_tup (pa_cons (callA F__law_all (hr.mono (by decide)) rfl (pa_cons (pv 2) pa_nil)) (pa_cons (pe_heldF (pv 2)) pa_nil))) (pa_cons (pe_tup (pa_cons (callA F__law_all (hr.mono (by decide)) rfl (pa_cons (pv 3) pa_nil)) (pa_cons (pe_heldF (pv 3)) pa_nil))) (pa_cons (pe_tup (pa_cons (callA F__law_all (hr.mono (by decide)) rfl (pa_cons (pv 4) pa_nil)) (pa_cons (pe_heldF (pv 4)) pa_nil))) pa_nil)))))
    (pss_cons (ps_set (i := 8) sc_lkept.nd rfl (Or.inl rfl) (pe_op op_catN (pv 8) (pe_lst (pa_cons (pe_tup (pa_cons (callA F__law_all (hr.mono (by decide)) rfl (pa_cons (pv 5) pa_nil)) (pa_cons (pe_heldF (pv 5)) pa_nil))) (pa_cons (pe_tup (pa_cons (callA F__law_all (hr.mono (by decide)) rfl (pa_cons (pv 6) pa_nil)) (pa_cons (pe_heldF (pv 6)) pa_nil))) pa_nil)))))
    (pss_one (ps_ret (pe_op op_catN (pv 8) (pe_lst (pa_cons (pe_tup (pa_cons (callA F__law_all (hr.mono (by decide)) rfl (pa_cons (pv 7) pa_nil)) (pa_cons (pe_heldF (pv 7)) pa_nil))) pa_nil))))))))), ?_⟩
  have k0 := ext_refl H
  refine ⟨_, rfl, _, rfl, fun e13 d13 ne nd dn => ?_⟩
  have z := held_mk (C := cs 13) (fs := [(("index" : Str), i)]) ne nd dn
  generalize upd (upd H d13 (.xd [(("index" : Str), i)])) e13 (exo e13 (cs 13) (some d13)) = H13 at z ⊢
  obtain ⟨x, o13, p13⟩ := z
  have hv := Rp.ext x _ _ hv
  have hi := Rp.ext x _ _ hi
  have k0 := k0.trans x
  refine ⟨_, rfl, _, rfl, fun e15 d15 ne nd dn => ?_⟩
  have z := held_mk (C := cs 15) (fs := [(("name" : Str), v)]) ne nd dn
  generalize upd (upd H13 d15 (.xd [(("name" : Str), v)])) e15 (exo e15 (cs 15) (some d15)) = H15 at z ⊢
  obtain ⟨x, o15, p15⟩ := z
  have hv := Rp.ext x _ _ hv
  have hi := Rp.ext x _ _ hi
  have k0 := k0.trans x
  have o13 := x _ _ o13
  have p13 := x _ _ p13
  refine ⟨_, rfl, _, rfl, fun e14 d14 ne nd dn => ?_⟩
  have z := held_mk (C := cs 14) (fs := [(("value" : Str), v)]) ne nd dn
  generalize upd (upd H15 d14 (.xd [(("value" : Str), v)])) e14 (exo e14 (cs 14) (some d14)) = H14 at z ⊢
  obtain ⟨x, o14, p14⟩ := z
  have hv := Rp.ext x _ _ hv
  have hi := Rp.ext x _ _ hi
  have k0 := k0.trans x
  have o13 := x _ _ o13
  have p13 := x _ _ p13
  have o15 := x _ _ o15
  have p15 := x _ _ p15
  refine ⟨_, _, _, rfl, ?_⟩
  refine ⟨_, rfl, _, rfl, fun e16 d16 ne nd dn => ?_⟩
  have z := held_mk (C := cs 16) (fs := [(("wanted" : Str), v)]) ne nd dn
  generalize upd (upd H14 d16 (.xd [(("wanted" : Str), v)])) e16 (exo e16 (cs 16) (some d16)) = H16 at z ⊢
  obtain ⟨x, o16, p16⟩ := z
  have hv := Rp.ext x _ _ hv
  have hi := Rp.ext x _ _ hi
  have k0 := k0.trans x
  have o13 := x _ _ o13
  have p13 := x _ _ p13
  have o15 := x _ _ o15
  have p15 := x _ _ p15
  have o14 := x _ _ o14
  have p14 := x _ _ p14
  refine ⟨_, rfl, _, rfl, fun e17 d17 ne nd dn => ?_⟩
  have z := held_mk (C := cs 17) (fs := [(("limit" : Str), v)]) ne nd dn
  generalize upd (upd H16 d17 (.xd [(("limit" : Str), v)])) e17 (exo e17 (cs 17) (some d17)) = H17 at z ⊢
  obtain ⟨x, o17, p17⟩ := z
  have hv := Rp.ext x _ _ hv
  have hi := Rp.ext x _ _ hi
  have k0 := k0.trans x
  have o13 := x _ _ o13
  have p13 := x _ _ p13
  have o15 := x _ _ o15
  have p15 := x _ _ p15
  have o14 := x _ _ o14
  have p14 := x _ _ p14
  have o16 := x _ _ o16
  have p16 := x _ _ p16
  refine ⟨_, rfl, _, rfl, fun e18 d18 ne nd dn => ?_⟩
  have z := held_mk (C := cs 18) (fs := [(("reason" : Str), v)]) ne nd dn
  generalize upd (upd H17 d18 (.xd [(("reason" : Str), v)])) e18 (exo e18 (cs 18) (some d18)) = H18 at z ⊢
  obtain ⟨x, o18, p18⟩ := z
  have hv := Rp.ext x _ _ hv
  have hi := Rp.ext x _ _ hi
  have k0 := k0.trans x
  have o13 := x _ _ o13
  have p13 := x _ _ p13
  have o15 := x _ _ o15
  have p15 := x _ _ p15
  have o14 := x _ _ o14
  have p14 := x _ _ p14
  have o16 := x _ _ o16
  have p16 := x _ _ p16
  have o17 := x _ _ o17
  have p17 := x _ _ p17
  refine ⟨_, _, _, rfl, ?_⟩
  refine ⟨_, rfl, e13, 13, rfl, by decide, by decide, .kept d13 _ o13 p13, ?_⟩
  refine ⟨_, rfl, e13, cs 13, d13, _, i, rfl, xfc (G.ec 13 (by decide) (by decide)), E.eIndex.noN, o13, p13, lk1, len_ok (Nat.le_of_ble_eq_true rfl), fun t13 nt => ?_⟩
  have x := ext_new (o := .tup [.str (letT 13 ++ kinT 13), i]) (ext_refl _) nt
  have q13 : upd H18 t13 (.tup [.str (letT 13 ++ kinT 13), i]) t13 = some (.tup [.str (letT 13 ++ kinT 13), i]) := upd_same
  generalize upd H18 t13 (.tup [.str (letT 13 ++ kinT 13), i]) = K13 at x q13 ⊢
  have hv := Rp.ext x _ _ hv
  have hi := Rp.ext x _ _ hi
  have k0 := k0.trans x
  have o13 := x _ _ o13
  have p13 := x _ _ p13
  have o15 := x _ _ o15
  have p15 := x _ _ p15
  have o14 := x _ _ o14
  have p14 := x _ _ p14
  have o16 := x _ _ o16
  have p16 := x _ _ p16
  have o17 := x _ _ o17
  have p17 := x _ _ p17
  have o18 := x _ _ o18
  have p18 := x _ _ p18
  refine ⟨_, rfl, e15, 15, rfl, by decide, by decide, .kept d15 _ o15 p15, ?_⟩
  refine ⟨_, rfl, e15, cs 15, d15, _, v, rfl, xfc (G.ec 15 (by decide) (by decide)), E.eName.noN, o15, p15, lk1, len_ok (Nat.le_of_ble_eq_true rfl), fun t15 nt => ?_⟩
  have x := ext_new (o := .tup [.str (letT 15 ++ kinT 15), v]) (ext_refl _) nt
  have q15 : upd K13 t15 (.tup [.str (letT 15 ++ kinT 15), v]) t15 = some (.tup [.str (letT 15 ++ kinT 15), v]) := upd_same
  generalize upd K13 t15 (.tup [.str (letT 15 ++ kinT 15), v]) = K15 at x q15 ⊢
  have hv := Rp.ext x _ _ hv
  have hi := Rp.ext x _ _ hi
  have k0 := k0.trans x
  have o13 := x _ _ o13
  have p13 := x _ _ p13
  have o15 := x _ _ o15
  have p15 := x _ _ p15
  have o14 := x _ _ o14
  have p14 := x _ _ p14
  have o16 := x _ _ o16
  have p16 := x _ _ p16
  have o17 := x _ _ o17
  have p17 := x _ _ p17
  have o18 := x _ _ o18
  have p18 := x _ _ p18
  have q13 := x _ _ q13
  refine ⟨_, rfl, e14, 14, rfl, by decide, by decide, .kept d14 _ o14 p14, ?_⟩
  refine ⟨_, rfl, e14, cs 14, d14, _, v, rfl, xfc (G.ec 14 (by decide) (by decide)), E.eValue.noN, o14, p14, lk1, len_ok (Nat.le_of_ble_eq_true rfl), fun t14 nt => ?_⟩
  have x := ext_new (o := .tup [.str (letT 14 ++ kinT 14), v]) (ext_refl _) nt
  have q14 : upd K15 t14 (.tup [.str (letT 14 ++ kinT 14), v]) t14 = some (.tup [.str (letT 14 ++ kinT 14), v]) := upd_same
  generalize upd K15 t14 (.tup [.str (letT 14 ++ kinT 14), v]) = K14 at x q14 ⊢
  have hv := Rp.ext x _ _ hv
  have hi := Rp.ext x _ _ hi
  have k0 := k0.trans x
  have o13 := x _ _ o13
  have p13 := x _ _ p13
  have o15 := x _ _ o15
  have p15 := x _ _ p15
  have o14 := x _ _ o14
  have p14 := x _ _ p14
  have o16 := x _ _ o16
  have p16 := x _ _ p16
  have o17 := x _ _ o17
  have p17 := x _ _ p17
  have o18 := x _ _ o18
  have p18 := x _ _ p18
  have q13 := x _ _ q13
  have q15 := x _ _ q15
  refine ⟨len_ok (Nat.le_of_ble_eq_true rfl), fun a1 np => ?_⟩
  have x := ext_new (o := .lst [.ref t13, .ref t15, .ref t14]) (ext_refl _) np
  have oa1 : upd K14 a1 (.lst [.ref t13, .ref t15, .ref t14]) a1 = some (.lst [.ref t13, .ref t15, .ref t14]) := upd_same
  generalize upd K14 a1 (.lst [.ref t13, .ref t15, .ref t14]) = Ma1 at x oa1 ⊢
  have hv := Rp.ext x _ _ hv
  have hi := Rp.ext x _ _ hi
  have k0 := k0.trans x
  have o13 := x _ _ o13
  have p13 := x _ _ p13
  have o15 := x _ _ o15
  have p15 := x _ _ p15
  have o14 := x _ _ o14
  have p14 := x _ _ p14
  have o16 := x _ _ o16
  have p16 := x _ _ p16
  have o17 := x _ _ o17
  have p17 := x _ _ p17
  have o18 := x _ _ o18
  have p18 := x _ _ p18
  have q13 := x _ _ q13
  have q15 := x _ _ q15
  have q14 := x _ _ q14
  refine ⟨_, rfl, ?_⟩
  refine ⟨_, rfl, e16, 16, rfl, by decide, by decide, .kept d16 _ o16 p16, ?_⟩
  refine ⟨_, rfl, e16, cs 16, d16, _, v, rfl, xfc (G.ec 16 (by decide) (by decide)), E.eWanted.noN, o16, p16, lk1, len_ok (Nat.le_of_ble_eq_true rfl), fun t16 nt => ?_⟩
  have x := ext_new (o := .tup [.str (letT 16 ++ kinT 16), v]) (ext_refl _) nt
  have q16 : upd Ma1 t16 (.tup [.str (letT 16 ++ kinT 16), v]) t16 = some (.tup [.str (letT 16 ++ kinT 16), v]) := upd_same
  generalize upd Ma1 t16 (.tup [.str (letT 16 ++ kinT 16), v]) = K16 at x q16 ⊢
  have hv := Rp.ext x _ _ hv
  have hi := Rp.ext x _ _ hi
  have k0 := k0.trans x
  have o13 := x _ _ o13
  have p13 := x _ _ p13
  have o15 := x _ _ o15
  have p15 := x _ _ p15
  have o14 := x _ _ o14
  have p14 := x _ _ p14
  have o16 := x _ _ o16
  have p16 := x _ _ p16
  have o17 := x _ _ o17
  have p17 := x _ _ p17
  have o18 := x _ _ o18
  have p18 := x _ _ p18
  have q13 := x _ _ q13
  have q15 := x _ _ q15
  have q14 := x _ _ q14
  have oa1 := x _ _ oa1
  refine ⟨_, rfl, e17, 17, rfl, by decide, by decide, .kept d17 _ o17 p17, ?_⟩
  refine ⟨_, rfl, e17, cs 17, d17, _, v, rfl, xfc (G.ec 17 (by decide) (by decide)), E.eLimit.noN, o17, p17, lk1, len_ok (Nat.le_of_ble_eq_true rfl), fun t17 nt => ?_⟩
  have x := ext_new (o := .tup [.str (letT 17 ++ kinT 17), v]) (ext_refl _) nt
  have q17 : upd K16 t17 (.tup [.str (letT 17 ++ kinT 17), v]) t17 = some (.tup [.str (letT 17 ++ kinT 17), v]) := upd_same
  generalize upd K16 t17 (.tup [.str (letT 17 ++ kinT 17), v]) = K17 at x q17 ⊢
  have hv := Rp.ext x _ _ hv
  have hi := Rp.ext x _ _ hi
  have k0 := k0.trans x
  have o13 := x _ _ o13
  have p13 := x _ _ p13
  have o15 := x _ _ o15
  have p15 := x _ _ p15
  have o14 := x _ _ o14
  have p14 := x _ _ p14
  have o16 := x _ _ o16
  have p16 := x _ _ p16
  have o17 := x _ _ o17
  have p17 := x _ _ p17
  have o18 := x _ _ o18
  have p18 := x _ _ p18
  have q13 := x _ _ q13
  have q15 := x _ _ q15
  have q14 := x _ _ q14
  have oa1 := x _ _ oa1
  have q16 := x _ _ q16
  refine ⟨len_ok (Nat.le_of_ble_eq_true rfl), fun a2 np => ?_⟩
  have x := ext_new (o := .lst [.ref t16, .ref t17]) (ext_refl _) np
  have oa2 : upd K17 a2 (.lst [.ref t16, .ref t17]) a2 = some (.lst [.ref t16, .ref t17]) := upd_same
  generalize upd K17 a2 (.lst [.ref t16, .ref t17]) = Ma2 at x oa2 ⊢
  have hv := Rp.ext x _ _ hv
  have hi := Rp.ext x _ _ hi
  have k0 := k0.trans x
  have o13 := x _ _ o13
  have p13 := x _ _ p13
  have o15 := x _ _ o15
  have p15 := x _ _ p15
  have o14 := x _ _ o14
  have p14 := x _ _ p14
  have o16 := x _ _ o16
  have p16 := x _ _ p16
  have o17 := x _ _ o17
  have p17 := x _ _ p17
  have o18 := x _ _ o18
  have p18 := x _ _ p18
  have q13 := x _ _ q13
  have q15 := x _ _ q15
  have q14 := x _ _ q14
  have oa1 := x _ _ oa1
  have q16 := x _ _ q16
  have q17 := x _ _ q17
  refine ⟨_, _, _, _, ⟨rfl, rfl⟩, ⟨oa1, oa2⟩, len_ok (Nat.le_of_ble_eq_true rfl), fun a3 np nsa3 => ?_⟩
  have x := ext_new (o := .lst [.ref t13, .ref t15, .ref t14, .ref t16, .ref t17]) (ext_refl _) np
  have oa3 : upd Ma2 a3 (.lst [.ref t13, .ref t15, .ref t14, .ref t16, .ref t17]) a3 = some (.lst [.ref t13, .ref t15, .ref t14, .ref t16, .ref t17]) := upd_same
  dsimp only [List.cons_append, List.nil_append]
  generalize upd Ma2 a3 (.lst [.ref t13, .ref t15, .ref t14, .ref t16, .ref t17]) = Ma3 at x oa3 ⊢
  have hv := Rp.ext x _ _ hv
  have hi := Rp.ext x _ _ hi
  have k0 := k0.trans x
  have o13 := x _ _ o13
  have p13 := x _ _ p13
  have o15 := x _ _ o15
  have p15 := x _ _ p15
  have o14 := x _ _ o14
  have p14 := x _ _ p14
  have o16 := x _ _ o16
  have p16 := x _ _ p16
  have o17 := x _ _ o17
  have p17 := x _ _ p17
  have o18 := x _ _ o18
  have p18 := x _ _ p18
  have q13 := x _ _ q13
  have q15 := x _ _ q15
  have q14 := x _ _ q14
  have oa1 := x _ _ oa1
  have q16 := x _ _ q16
  have q17 := x _ _ q17
  have oa2 := x _ _ oa2
  refine ⟨_, rfl, ?_⟩
  refine ⟨_, rfl, e18, 18, rfl, by decide, by decide, .kept d18 _ o18 p18, ?_⟩
  refine ⟨_, rfl, e18, cs 18, d18, _, v, rfl, xfc (G.ec 18 (by decide) (by decide)), E.eReason.noN, o18, p18, lk1, len_ok (Nat.le_of_ble_eq_true rfl), fun t18 nt => ?_⟩
  have x := ext_new (o := .tup [.str (letT 18 ++ kinT 18), v]) (ext_refl _) nt
  have q18 : upd Ma3 t18 (.tup [.str (letT 18 ++ kinT 18), v]) t18 = some (.tup [.str (letT 18 ++ kinT 18), v]) := upd_same
  generalize upd Ma3 t18 (.tup [.str (letT 18 ++ kinT 18), v]) = K18 at x q18 ⊢
  have hv := Rp.ext x _ _ hv
  have hi := Rp.ext x _ _ hi
  have k0 := k0.trans x
  have o13 := x _ _ o13
  have p13 := x _ _ p13
  have o15 := x _ _ o15
  have p15 := x _ _ p15
  have o14 := x _ _ o14
  have p14 := x _ _ p14
  have o16 := x _ _ o16
  have p16 := x _ _ p16
  have o17 := x _ _ o17
  have p17 := x _ _ p17
  have o18 := x _ _ o18
  have p18 := x _ _ p18
  have q13 := x _ _ q13
  have q15 := x _ _ q15
  have q14 := x _ _ q14
  have oa1 := x _ _ oa1
  have q16 := x _ _ q16
  have q17 := x _ _ q17
  have oa2 := x _ _ oa2
  have oa3 := x _ _ oa3
  refine ⟨len_ok (Nat.le_of_ble_eq_true rfl), fun a4 np => ?_⟩
  have x := ext_new (o := .lst [.ref t18]) (ext_refl _) np
  have oa4 : upd K18 a4 (.lst [.ref t18]) a4 = some (.lst [.ref t18]) := upd_same
  generalize upd K18 a4 (.lst [.ref t18]) = Ma4 at x oa4 ⊢
  have hv := Rp.ext x _ _ hv
  have hi := Rp.ext x _ _ hi
  have k0 := k0.trans x
  have o13 := x _ _ o13
  have p13 := x _ _ p13
  have o15 := x _ _ o15
  have p15 := x _ _ p15
  have o14 := x _ _ o14
  have p14 := x _ _ p14
  have o16 := x _ _ o16
  have p16 := x _ _ p16
  have o17 := x _ _ o17
  have p17 := x _ _ p17
  have o18 := x _ _ o18
  have p18 := x _ _ p18
  have q13 := x _ _ q13
  have q15 := x _ _ q15
  have q14 := x _ _ q14
  have oa1 := x _ _ oa1
  have q16 := x _ _ q16
  have q17 := x _ _ q17
  have oa2 := x _ _ oa2
  have oa3 := x _ _ oa3
  have q18 := x _ _ q18
  refine ⟨_, _, _, _, ⟨rfl, rfl⟩, ⟨oa3, oa4⟩, len_ok (Nat.le_of_ble_eq_true rfl), fun a5 np nsa5 => ?_⟩
  have x := ext_new (o := .lst [.ref t13, .ref t15, .ref t14, .ref t16, .ref t17, .ref t18]) (ext_refl _) np
  have oa5 : upd Ma4 a5 (.lst [.ref t13, .ref t15, .ref t14, .ref t16, .ref t17, .ref t18]) a5 = some (.lst [.ref t13, .ref t15, .ref t14, .ref t16, .ref t17, .ref t18]) := upd_same
  dsimp only [List.cons_append, List.nil_append]
  generalize upd Ma4 a5 (.lst [.ref t13, .ref t15, .ref t14, .ref t16, .ref t17, .ref t18]) = Ma5 at x oa5 ⊢
  have hv := Rp.ext x _ _ hv
  have hi := Rp.ext x _ _ hi
  have k0 := k0.trans x
  have o13 := x _ _ o13
  have p13 := x _ _ p13
  have o15 := x _ _ o15
  have p15 := x _ _ p15
  have o14 := x _ _ o14
  have p14 := x _ _ p14
  have o16 := x _ _ o16
  have p16 := x _ _ p16
  have o17 := x _ _ o17
  have p17 := x _ _ p17
  have o18 := x _ _ o18
  have p18 := x _ _ p18
  have q13 := x _ _ q13
  have q15 := x _ _ q15
  have q14 := x _ _ q14
  have oa1 := x _ _ oa1
  have q16 := x _ _ q16
  have q17 := x _ _ q17
  have oa2 := x _ _ oa2
  have oa3 := x _ _ oa3
  have q18 := x _ _ q18
  have oa4 := x _ _ oa4
  have w13 : letT 13 ++ kinT 13 = "P piece value" := by decide +kernel
  rw [w13] at q13
  have w15 : letT 15 ++ kinT 15 = "U key lookup" := by decide +kernel
  rw [w15] at q15
  have w14 : letT 14 ++ kinT 14 = "C index lookup" := by decide +kernel
  rw [w14] at q14
  have w16 : letT 16 ++ kinT 16 = "Z runtime" := by decide +kernel
  rw [w16] at q16
  have w17 : letT 17 ++ kinT 17 = "M overflow arithmetic" := by decide +kernel
  rw [w17] at q17
  have w18 : letT 18 ++ kinT 18 = "R arithmetic" := by decide +kernel
  rw [w18] at q18
  exact k _ _ k0 (.lst oa5 nsa5 (.cons (.tup q13 (.cons (.str _) (.cons hi .nil))) (.cons (.tup q15 (.cons (.str _) (.cons hv .nil))) (.cons (.tup q14 (.cons (.str _) (.cons hv .nil))) (.cons (.tup q16 (.cons (.str _) (.cons hv .nil))) (.cons (.tup q17 (.cons (.str _) (.cons hv .nil))) (.cons (.tup q18 (.cons (.str _) (.cons hv .nil))) (.nil))))))))
end
end My
namespace My
open PySem PySem.Spec PyProof.Rows L2
abbrev s_lcaught : Stmt := top 28
theorem sc_lcaught : FnScope ["_law_worth", "_law_way", "e"] ["_law_worth", "_law_way"] (defScope s_lcaught) := ⟨rfl, rfl, rfl, by decide +kernel, rfl, by decide +kernel, by decide +kernel⟩
def spMade (base : Heap) (cs : Nat → Addr) : Sp := fun vs H Q _ => vs = [] ∧ ∀ (p : Addr) (H' : Hp) (as : Nat → Addr), Ext H H' → H' p = some (.lst ([2, 3, 4, 5, 6, 7, 8, 9, 10, 11, 12].map fun c => V.ref (as c))) → (∀ c, 2 ≤ c → c ≤ 12 → HeldE base H' (as c) (cs c)) → Q (.ref p) H'
section
variable {P : Program} {w : World} {K : PySem.W.Frag} {mg : Str → Option Value} {base : Heap} {cs fs : Nat → Addr}
theorem ok_lmade (T : Bn mg) (G : Cls K mg cs) (D : DefAt K mg "_law_made_all" s_lmade) : FnAt P w K mg base 1 "_law_made_all" [] (spMade base cs) := by
  refine fnAt D sc_lmade (fun _ _ _ _ _ _ us hl => match us, hl with | [], _ => rfl) (fun vs H Q E h => ?_) fun f cdv A outer s H vs Q E hr h => ?_
  · obtain ⟨rfl, _⟩ := h
    rfl
  obtain ⟨rfl, k⟩ := h
  refine ⟨_, (pss_cons (ps_set (i := 0) sc_lmade.nd rfl (Or.inl rfl) (pe_lst (pa_cons (pe_exc1 PySem.F.excBase_ValueError G.x_InvalidNumber G.g_InvalidNumber G.k_InvalidNumber rfl pe_str) (pa_cons (pe_exc1 PySem.F.excBase_ValueError G.x_InvalidOrder G.g_InvalidOrder G.k_InvalidOrder rfl pe_str) (pa_cons (pe_exc1 PySem.F.excBase_ValueError G.x_InvalidExchange G.g_InvalidExchange G.k_InvalidExchange rfl pe_str) (pa_cons (pe_exc1 PySem.F.excBase_ValueError G.x_InvalidLengths G.g_InvalidLengths G.k_InvalidLengths rfl pe_str) (pa_cons (pe_exc1 PySem.F.excBase_ValueError G.x_InvalidPoint G.g_InvalidPoint G.k_InvalidPoint rfl pe_str) pa_nil)))))))
    (pss_cons (ps_set (i := 0) sc_lmade.nd rfl (Or.inl rfl) (pe_op op_catN (pv 0) (pe_lst (pa_cons (pe_exc1 PySem.F.excBase_ValueError G.x_InvalidCourse G.g_InvalidCourse G.k_InvalidCourse rfl pe_str) (pa_cons (pe_exc1 PySem.F.excBase_ValueError G.x_InvalidReading G.g_InvalidReading G.k_InvalidReading rfl pe_str) (pa_cons (pe_exc1 PySem.F.excBase_ValueError G.x_InvalidTrace G.g_InvalidTrace G.k_InvalidTrace rfl pe_str) (pa_cons (pe_exc1 PySem.F.excBase_ValueError G.x_InvalidHeights G.g_InvalidHeights G.k_InvalidHeights rfl pe_str) pa_nil)))))))
    (pss_one (ps_ret (pe_op op_catN (pv 0) (pe_lst (pa_cons (pe_exc1 PySem.F.excBase_ValueError G.x_InvalidProgram G.g_InvalidProgram G.k_InvalidProgram rfl pe_str) (pa_cons (pe_exc1 PySem.F.excBase_ValueError G.x_InvalidOperation G.g_InvalidOperation G.k_InvalidOperation rfl pe_str) pa_nil)))))))), ?_⟩
  have k0 := ext_refl H
  refine fun a2 n => ?_
  have x := ext_new (o := ExO (.ref (cs 2)) a2) (ext_refl _) n
  have o2 : upd H a2 (ExO (.ref (cs 2)) a2) a2 = some (ExO (.ref (cs 2)) a2) := upd_same
  generalize upd H a2 (ExO (.ref (cs 2)) a2) = H2 at x o2 ⊢
  have k0 := k0.trans x
  refine fun a3 n => ?_
  have x := ext_new (o := ExO (.ref (cs 3)) a3) (ext_refl _) n
  have o3 : upd H2 a3 (ExO (.ref (cs 3)) a3) a3 = some (ExO (.ref (cs 3)) a3) := upd_same
  generalize upd H2 a3 (ExO (.ref (cs 3)) a3) = H3 at x o3 ⊢
  have k0 := k0.trans x
  have o2 := x _ _ o2
  refine fun a4 n => ?_
  have x := ext_new (o := ExO (.ref (cs 4)) a4) (ext_refl _) n
  have o4 : upd H3 a4 (ExO (.ref (cs 4)) a4) a4 = some (ExO (.ref (cs 4)) a4) := upd_same
  generalize upd H3 a4 (ExO (.ref (cs 4)) a4) = H4 at x o4 ⊢
  have k0 := k0.trans x
  have o2 := x _ _ o2
  have o3 := x _ _ o3
  refine fun a5 n => ?_
  have x := ext_new (o := ExO (.ref (cs 5)) a5) (ext_refl _) n
  have o5 : upd H4 a5 (ExO (.ref (cs 5)) a5) a5 = some (ExO (.ref (cs 5)) a5) := upd_same
  generalize upd H4 a5 (ExO (.ref (cs 5)) a5) = H5 at x o5 ⊢
  have k0 := k0.trans x
  have o2 := x _ _ o2
  have o3 := x _ _ o3
  have o4 := x _ _ o4
  refine fun a6 n => ?_
  have x := ext_new (o := ExO (.ref (cs 6)) a6) (ext_refl _) n
  have o6 : upd H5 a6 (ExO (.ref (cs 6)) a6) a6 = some (ExO (.ref (cs 6)) a6) := upd_same
  generalize upd H5 a6 (ExO (.ref (cs 6)) a6) = H6 at x o6 ⊢
  have k0 := k0.trans x
  have o2 := x _ _ o2
  have o3 := x _ _ o3
  have o4 := x _ _ o4
  have o5 := x _ _ o5
  refine ⟨len_ok (Nat.le_of_ble_eq_true rfl), fun p1 np => ?_⟩
  have x := ext_new (o := .lst [.ref a2, .ref a3, .ref a4, .ref a5, .ref a6]) (ext_refl _) np
  have op1 : upd H6 p1 (.lst [.ref a2, .ref a3, .ref a4, .ref a5, .ref a6]) p1 = some (.lst [.ref a2, .ref a3, .ref a4, .ref a5, .ref a6]) := upd_same
  generalize upd H6 p1 (.lst [.ref a2, .ref a3, .ref a4, .ref a5, .ref a6]) = Mp1 at x op1 ⊢
  have k0 := k0.trans x
  have o2 := x _ _ o2
  have o3 := x _ _ o3
  have o4 := x _ _ o4
  have o5 := x _ _ o5
  have o6 := x _ _ o6
  refine ⟨_, rfl, ?_⟩
  refine fun a7 n => ?_
  have x := ext_new (o := ExO (.ref (cs 7)) a7) (ext_refl _) n
  have o7 : upd Mp1 a7 (ExO (.ref (cs 7)) a7) a7 = some (ExO (.ref (cs 7)) a7) := upd_same
  generalize upd Mp1 a7 (ExO (.ref (cs 7)) a7) = H7 at x o7 ⊢
  have k0 := k0.trans x
  have o2 := x _ _ o2
  have o3 := x _ _ o3
  have o4 := x _ _ o4
  have o5 := x _ _ o5
  have o6 := x _ _ o6
  have op1 := x _ _ op1
  refine fun a8 n => ?_
  have x := ext_new (o := ExO (.ref (cs 8)) a8) (ext_refl _) n
  have o8 : upd H7 a8 (ExO (.ref (cs 8)) a8) a8 = some (ExO (.ref (cs 8)) a8) := upd_same
  generalize upd H7 a8 (ExO (.ref (cs 8)) a8) = H8 at x o8 ⊢
  have k0 := k0.trans x
  have o2 := x _ _ o2
  have o3 := x _ _ o3
  have o4 := x _ _ o4
  have o5 := x _ _ o5
  have o6 := x _ _ o6
  have op1 := x _ _ op1
  have o7 := x _ _ o7
  refine fun a9 n => ?_
  have x := ext_new (o := ExO (.ref (cs 9)) a9) (ext_refl _) n
  have o9 : upd H8 a9 (ExO (.ref (cs 9)) a9) a9 = some (ExO (.ref (cs 9)) a9) := upd_same
  generalize upd H8 a9 (ExO (.ref (cs 9)) a9) = H9 at x o9 ⊢
  have k0 := k0.trans x
  have o2 := x _ _ o2
  have o3 := x _ _ o3
  have o4 := x _ _ o4
  have o5 := x _ _ o5
  have o6 := x _ _ o6
  have op1 := x _ _ op1
  have o7 := x _ _ o7
  have o8 := x _ _ o8
  refine fun a10 n => ?_
  have x := ext_new (o := ExO (.ref (cs 10)) a10) (ext_refl _) n
  have o10 : upd H9 a10 (ExO (.ref (cs 10)) a10) a10 = some (ExO (.ref (cs 10)) a10) := upd_same
  generalize upd H9 a10 (ExO (.ref (cs 10)) a10) = H10 at x o10 ⊢
  have k0 := k0.trans x
  have o2 := x _ _ o2
  have o3 := x _ _ o3
  have o4 := x _ _ o4
  have o5 := x _ _ o5
  have o6 := x _ _ o6
  have op1 := x _ _ op1
  have o7 := x _ _ o7
  have o8 := x _ _ o8
  have o9 := x _ _ o9
  refine ⟨len_ok (Nat.le_of_ble_eq_true rfl), fun p2 np => ?_⟩
  have x := ext_new (o := .lst [.ref a7, .ref a8, .ref a9, .ref a10]) (ext_refl _) np
  have op2 : upd H10 p2 (.lst [.ref a7, .ref a8, .ref a9, .ref a10]) p2 = some (.lst [.ref a7, .ref a8, .ref a9, .ref a10]) := upd_same
  generalize upd H10 p2 (.lst [.ref a7, .ref a8, .ref a9, .ref a10]) = Mp2 at x op2 ⊢
  have k0 := k0.trans x
  have o2 := x _ _ o2
  have o3 := x _ _ o3
  have o4 := x _ _ o4
  have o5 := x _ _ o5
  have o6 := x _ _ o6
  have op1 := x _ _ op1
  have o7 := x _ _ o7
  have o8 := x _ _ o8
  have o9 := x _ _ o9
  have o10 := x _ _ o10
  refine ⟨_, _, _, _, ⟨rfl, rfl⟩, ⟨op1, op2⟩, len_ok (Nat.le_of_ble_eq_true rfl), fun p3 np _ => ?_⟩
  have x := ext_new (o := .lst [.ref a2, .ref a3, .ref a4, .ref a5, .ref a6, .ref a7, .ref a8, .ref a9, .ref a10]) (ext_refl _) np
  have op3 : upd Mp2 p3 (.lst [.ref a2, .ref a3, .ref a4, .ref a5, .ref a6, .ref a7, .ref a8, .ref a9, .ref a10]) p3 = some (.lst [.ref a2, .ref a3, .ref a4, .ref a5, .ref a6, .ref a7, .ref a8, .ref a9, .ref a10]) := upd_same
  dsimp only [List.cons_append, List.nil_append]
  generalize upd Mp2 p3 (.lst [.ref a2, .ref a3, .ref a4, .ref a5, .ref a6, .ref a7, .ref a8, .ref a9, .ref a10]) = Mp3 at x op3 ⊢
  have k0 := k0.trans x
  have o2 := x _ _ o2
  have o3 := x _ _ o3
  have o4 := x _ _ o4
  have o5 := x _ _ o5
  have o6 := x _ _ o6
  have op1 := x _ _ op1
  have o7 := x _ _ o7
  have o8 := x _ _ o8
  have o9 := x _ _ o9
  have o10 := x _ _ o10
  have op2 := x _ _ op2
  refine ⟨_, rfl, ?_⟩
  refine fun a11 n => ?_
  have x := ext_new (o := ExO (.ref (cs 11)) a11) (ext_refl _) n
  have o11 : upd Mp3 a11 (ExO (.ref (cs 11)) a11) a11 = some (ExO (.ref (cs 11)) a11) := upd_same
  generalize upd Mp3 a11 (ExO (.ref (cs 11)) a11) = H11 at x o11 ⊢
  have k0 := k0.trans x
  have o2 := x _ _ o2
  have o3 := x _ _ o3
  have o4 := x _ _ o4
  have o5 := x _ _ o5
  have o6 := x _ _ o6
  have op1 := x _ _ op1
  have o7 := x _ _ o7
  have o8 := x _ _ o8
  have o9 := x _ _ o9
  have o10 := x _ _ o10
  have op2 := x _ _ op2
  have op3 := x _ _ op3
  refine fun a12 n => ?_
  have x := ext_new (o := ExO (.ref (cs 12)) a12) (ext_refl _) n
  have o12 : upd H11 a12 (ExO (.ref (cs 12)) a12) a12 = some (ExO (.ref (cs 12)) a12) := upd_same
  generalize upd H11 a12 (ExO (.ref (cs 12)) a12) = H12 at x o12 ⊢
  have k0 := k0.trans x
  have o2 := x _ _ o2
  have o3 := x _ _ o3
  have o4 := x _ _ o4
  have o5 := x _ _ o5
  have o6 := x _ _ o6
  have op1 := x _ _ op1
  have o7 := x _ _ o7
  have o8 := x _ _ o8
  have o9 := x _ _ o9
  have o10 := x _ _ o10
  have op2 := x _ _ op2
  have op3 := x _ _ op3
  have o11 := x _ _ o11
  refine ⟨len_ok (Nat.le_of_ble_eq_true rfl), fun p4 np => ?_⟩
  have x := ext_new (o := .lst [.ref a11, .ref a12]) (ext_refl _) np
  have op4 : upd H12 p4 (.lst [.ref a11, .ref a12]) p4 = some (.lst [.ref a11, .ref a12]) := upd_same
  generalize upd H12 p4 (.lst [.ref a11, .ref a12]) = Mp4 at x op4 ⊢
  have k0 := k0.trans x
  have o2 := x _ _ o2
  have o3 := x _ _ o3
  have o4 := x _ _ o4
  have o5 := x _ _ o5
  have o6 := x _ _ o6
  have op1 := x _ _ op1
  have o7 := x _ _ o7
  have o8 := x _ _ o8
  have o9 := x _ _ o9
  have o10 := x _ _ o10
  have op2 := x _ _ op2
  have op3 := x _ _ op3
  have o11 := x _ _ o11
  have o12 := x _ _ o12
  refine ⟨_, _, _, _, ⟨rfl, rfl⟩, ⟨op3, op4⟩, len_ok (Nat.le_of_ble_eq_true rfl), fun p5 np _ => ?_⟩
  have x := ext_new (o := .lst [.ref a2, .ref a3, .ref a4, .ref a5, .ref a6, .ref a7, .ref a8, .ref a9, .ref a10, .ref a11, .ref a12]) (ext_refl _) np
  have op5 : upd Mp4 p5 (.lst [.ref a2, .ref a3, .ref a4, .ref a5, .ref a6, .ref a7, .ref a8, .ref a9, .ref a10, .ref a11, .ref a12]) p5 = some (.lst [.ref a2, .ref a3, .ref a4, .ref a5, .ref a6, .ref a7, .ref a8, .ref a9, .ref a10, .ref a11, .ref a12]) := upd_same
  dsimp only [List.cons_append, List.nil_append]
  generalize upd Mp4 p5 (.lst [.ref a2, .ref a3, .ref a4, .ref a5, .ref a6, .ref a7, .ref a8, .ref a9, .ref a10, .ref a11, .ref a12]) = Mp5 at x op5 ⊢
  have k0 := k0.trans x
  have o2 := x _ _ o2
  have o3 := x _ _ o3
  have o4 := x _ _ o4
  have o5 := x _ _ o5
  have o6 := x _ _ o6
  have op1 := x _ _ op1
  have o7 := x _ _ o7
  have o8 := x _ _ o8
  have o9 := x _ _ o9
  have o10 := x _ _ o10
  have op2 := x _ _ op2
  have op3 := x _ _ op3
  have o11 := x _ _ o11
  have o12 := x _ _ o12
  have op4 := x _ _ op4
  refine k p5 _ (fun c => match c with | 2 => a2 | 3 => a3 | 4 => a4 | 5 => a5 | 6 => a6 | 7 => a7 | 8 => a8 | 9 => a9 | 10 => a10 | 11 => a11 | _ => a12) k0 op5 fun c h1 h2 => ?_
  obtain rfl | rfl | rfl | rfl | rfl | rfl | rfl | rfl | rfl | rfl | rfl : c = 2 ∨ c = 3 ∨ c = 4 ∨ c = 5 ∨ c = 6 ∨ c = 7 ∨ c = 8 ∨ c = 9 ∨ c = 10 ∨ c = 11 ∨ c = 12 := by omega
  · exact .bare o2
  · exact .bare o3
  · exact .bare o4
  · exact .bare o5
  · exact .bare o6
  · exact .bare o7
  · exact .bare o8
  · exact .bare o9
  · exact .bare o10
  · exact .bare o11
  · exact .bare o12
def caughtT (d : PyData) (i : Nat) : Str := if i = 0 then "base g" else if i = 1 then "refused " ++ repT d else "many " ++ repT d
def spCaught : Sp := fun vs H Q _ => ∃ v d i, vs = [v, .int ((i : Nat) : Int)] ∧ i < 3 ∧ Rp H v d ∧ okT d = true ∧ (repT d).length ≤ 200 ∧ ∀ H', Ext H H' → Q (.str (caughtT d i)) H'
/-- how the raised ones are caught -/
structure Ctc (K : PySem.W.Frag) (cs : Nat → Addr) : Prop where
  x8 : PySem.W.exmOne K (.ref (cs 8)) (.ref (cs 1)) = some true
  x18 : PySem.W.exmOne K (.ref (cs 18)) (.ref (cs 1)) = some false
  y18 : PySem.W.exmOne K (.ref (cs 18)) (.ref (cs 18)) = some true
  x17 : PySem.W.exmOne K (.ref (cs 17)) (.ref (cs 1)) = some false
  y17 : PySem.W.exmOne K (.ref (cs 17)) (.ref (cs 18)) = some false
  z17 : PySem.W.exmOne K (.ref (cs 17)) (.ref (cs 17)) = some true
theorem room_mark {k : Nat} {A : Around} {x : Option Value} (h : Room k A) : L2H.RoomH k (A.mark x) := ⟨h.dp, h.un⟩
abbrev addS : R2 := fun x y H Q => ∃ i j, x = V.str i ∧ y = V.str j ∧ i.length + j.length ≤ sizeLine ∧ Q (.str (i ++ j)) H
theorem ok_lcaught (T : Bn mg) (G : Cls K mg cs) (E : Kpt K mg cs fs) (C : Ctc K cs) (D : DefAt K mg "_law_caught" s_lcaught) (LH : LetH P w K mg base cs) : FgAt P w K mg base 3 "_law_caught" ["_law_worth", "_law_way"] spCaught := by
  refine fgAt D sc_lcaught (fun _ _ _ _ _ _ us hl => match us, hl with | [_, _], _ => rfl) (fun vs H Q E h => ?_) fun f cdv A outer s H vs Q E' gd hr h => ?_
  · obtain ⟨v, d, i, rfl, _⟩ := h
    rfl
  obtain ⟨v, d, i, rfl, h3, hv, ok, hl, k⟩ := h
  refine ⟨_, pss_one (ps_try_as3 (X := (cxOf CX0 P w K mg base ["_law_worth", "_law_way", "e"] "_law_caught" (defScope s_lcaught) f cdv A outer s H E').nox) (i := 2) (c := .ref (cs 1)) (c2 := .ref (cs 18)) (c3 := .ref (cs 17))
      (ts := fun a cls d => tRet (tOp addS (tC (.str "base ")) (tLetH cs a cls d (tCons (tVar 2) tNil))))
      (ts2 := fun a cls d => tRet (tOp addS (tC (.str "refused ")) (tCB rReprX (tCons (tXf a cls d (cs 18) "reason" (tVar 2)) tNil))))
      (ts3 := fun a cls d => tRet (tOp addS (tC (.str "many ")) (tCB rReprX (tCons (tXf a cls d (cs 17) "limit" (tVar 2)) tNil))))
      rfl rfl sc_lcaught.nd rfl rfl ⟨rfl, by decide, .inl G.g_PieceError⟩ ⟨rfl, by decide, .inl G.g_Refused⟩ ⟨rfl, by decide, .inl G.g_TooMany⟩ LamX.takes0
      (fun W pn xe tk _ => pss_cons (ps_if (pt_cmpR op_eq (pv 1) pe_int (nomark _)) (pss_one (ps_raise rfl tk (pmk_own PySem.F.excBase_ValueError G.x_InvalidReading G.g_InvalidReading G.k_InvalidReading (raises_own (G.ec 8 (by decide) (by decide)).hs (G.ty 8 (by decide) (by decide))) rfl))) pss_nil)
        (pss_cons (ps_if (pt_cmpR op_eq (pv 1) pe_int (nomark _)) (pss_one (ps_raise rfl tk (pmk_VReason E.eReason PySem.F.store_ArithmeticError PySem.F.excBase_ArithmeticError mReason hr (pa_cons (pv 0) pa_nil) rfl))) pss_nil)
        (pss_one (ps_raise rfl tk (pmk_VLimit E.eLimit PySem.F.store_OverflowError PySem.F.excBase_OverflowError mLimit hr (pa_cons (pv 0) pa_nil) rfl)))))
      (fun a oe cls d pn hz hf => pss_one (ps_ret (pe_op op_add_str pe_str (pe_letH LH (room_mark (hr.mono (show 1 ≤ 2 by decide))) (List.mem_cons_self ..) rfl hz hf (pa_cons (pv 2) pa_nil)))))
      (fun a oe cls d pn hz hf => pss_one (ps_ret (pe_op op_add_str pe_str (pe_callB (cr_reprX hr.units gd) (by rfl) T.b_repr (by decide +kernel) (pa_cons (pe_valueReason E.eReason hz hf (pv 2)) pa_nil)))))
      (fun a oe cls d pn hz hf => pss_one (ps_ret (pe_op op_add_str pe_str (pe_callB (cr_reprX hr.units gd) (by rfl) T.b_repr (by decide +kernel) (pa_cons (pe_valueLimit E.eLimit hz hf (pv 2)) pa_nil)))))), ?_⟩
  have hi : i = 0 ∨ i = 1 ∨ i = 2 := by omega
  rcases hi with rfl | rfl | rfl
  · refine ⟨_, rfl, rfl, _, rfl, iteT ?_⟩
    refine ⟨true, C.x8, fun _ hlen a na => ?_, fun z => by cases z⟩
    refine ⟨_, rfl, rfl, 8, rfl, rfl, by decide, by decide, _, _, rfl, rfl, len_ok (by decide +kernel), ?_⟩
    have e : "base " ++ letT 8 = caughtT d 0 := by
      show _ = ("base g" : Str)
      decide +kernel
    rw [e]
    exact k _ (ext_refl _)
  · refine ⟨_, rfl, rfl, _, rfl, iteF ?_⟩
    refine ⟨_, rfl, rfl, _, rfl, iteT ?_⟩
    refine ⟨_, rfl, v, rfl, fun dx nd => ?_⟩
    have x := ext_new (o := .xd [(("reason" : Str), v)]) (ext_refl H) nd
    have o : upd H dx (.xd [(("reason" : Str), v)]) dx = some (.xd [(("reason" : Str), v)]) := upd_same
    generalize upd H dx (.xd [(("reason" : Str), v)]) = H1 at x o ⊢
    refine ⟨false, C.x18, (fun z => by cases z), fun _ => ⟨true, C.y18, fun _ hlen a na => ?_, fun z => by cases z⟩⟩
    refine ⟨_, rfl, rfl, rfl, dx, _, v, rfl, o, lk1, v, d, rfl, Rp.ext x _ _ hv, ok, _, _, rfl, rfl, ?_, k _ x⟩
    exact len_ok (show 8 + (repT d).length ≤ 1000 by omega)
  · refine ⟨_, rfl, rfl, _, rfl, iteF ?_⟩
    refine ⟨_, rfl, rfl, _, rfl, iteF ?_⟩
    refine ⟨_, rfl, v, rfl, fun dx nd => ?_⟩
    have x := ext_new (o := .xd [(("limit" : Str), v)]) (ext_refl H) nd
    have o : upd H dx (.xd [(("limit" : Str), v)]) dx = some (.xd [(("limit" : Str), v)]) := upd_same
    generalize upd H dx (.xd [(("limit" : Str), v)]) = H1 at x o ⊢
    refine ⟨false, C.x17, (fun z => by cases z), fun _ => ⟨false, C.y17, (fun z => by cases z), fun _ => ⟨true, C.z17, fun _ hlen a na => ?_, fun z => by cases z⟩⟩⟩
    refine ⟨_, rfl, rfl, rfl, dx, _, v, rfl, o, lk1, v, d, rfl, Rp.ext x _ _ hv, ok, _, _, rfl, rfl, ?_, k _ x⟩
    exact len_ok (show 5 + (repT d).length ≤ 1000 by omega)
end
end My
namespace My
open PySem PySem.Spec PyProof.Rows L2
abbrev s_lright : Stmt := top 29
theorem sc_lright : FnScope ["_law_worth", "_law_index", "_law_error", "_law_letter", "_law_due", "_law_told", "_law_way"] ["_law_worth", "_law_index"] (defScope s_lright) := ⟨rfl, rfl, rfl, by decide +kernel, rfl, by decide +kernel, by decide +kernel⟩
abbrev s_law : Stmt := top 30
theorem sc_law : FnScope ["_law_script", "_law_spot", "_law_dice_here", "_law_some"] ["_law_script"] (defScope s_law) := ⟨rfl, rfl, rfl, by decide +kernel, rfl, by decide +kernel, by decide +kernel⟩
section
variable {X : Cx} {k : Nat} {sp : Sp} {x : Str} {p pos : Pos}
theorem call0A (F : FnAt X.prog X.w X.K X.mg X.base k x [] sp) (hr : Room k X.A) (hg : Gl X x) (hdb : (x == ("__debug__" : Str)) = false := by decide) : PE X (.Call (.Name x p) [] [] pos) (tCall sp [] E0 tNil) := by
  obtain ⟨f, fd, hm, hk, hb, G⟩ := F.ex
  exact pe_call0 G hr hg hm hk hb .nil pass0 hdb
end
def worthD : List PyData := [.none, .bool true, .int 0, .str "7", .str "", .tuple [.int 4, .int 6], .list [.int 7], .dict [(.int 7, .int 7)], .tuple [.tuple [], .tuple [.str "a", .int 1]], .str "a b / b a", .int (10 ^ 40)]
def indexD : List PyData := [.none, .int 0, .int 3, .int (10 ^ 30)]
theorem worth_ok : ∀ d ∈ worthD, okT d = true ∧ (repT d).length ≤ 200 ∧ ∀ e ∈ indexD, okT (keptD d e) = true := by decide +kernel
def toldD (d : PyData) : PyData := .list [.str "base g", .str ("refused " ++ repT d), .str ("many " ++ repT d)]
theorem told_ok : ∀ d ∈ worthD, SeqAt.shaped (toldD d) = true := by decide +kernel
theorem ne_same {A B : Prop} {v : V} (h : B) : if (!decide (v = v)) = true then A else B := by
  rw [decide_eq_true rfl]
  exact iteF h
theorem ne_eq {A B : Prop} {x y : V} {i : Decidable (x = y)} (e : x = y) (h : B) : if (!@decide (x = y) i) = true then A else B := by
  rw [decide_eq_true e]
  exact iteF h
theorem dpStrs {K : PySem.W.Frag} {H : Hp} : ∀ zs : List Str, DpAll K H (zs.map V.str) (zs.map PyData.str)
  | [] => .nil
  | z :: zs => .cons (.str z) (dpStrs zs)
def allS (i : Nat) : Str := letT (i + 2) ++ kinT (i + 2)
def spRight : Sp := fun vs H Q _ => ∃ v i d e, vs = [v, i] ∧ Rp H v d ∧ Rp H i e ∧ d ∈ worthD ∧ e ∈ indexD ∧ ∀ H', Ext H H' → Q (.bl true) H'
section
variable {P : Program} {w : World} {K : PySem.W.Frag} {mg : Str → Option Value} {base : Heap} {cs fs : Nat → Addr}
theorem ok_lright (T : Bn mg) (G : Cls K mg cs) (D : DefAt K mg "_law_right" s_lright) (F__law_all : FnAt P w K mg base 2 "_law_all" ["_law_error"] (spE base cs fun c => letT c ++ kinT c)) (F__law_made_all : FnAt P w K mg base 1 "_law_made_all" [] (spMade base cs))
    (F__law_kept : FnAt P w K mg base 3 "_law_kept" ["_law_worth", "_law_index"] spKept) (F__law_caught : FgAt P w K mg base 3 "_law_caught" ["_law_worth", "_law_way"] spCaught) : FgAt P w K mg base 4 "_law_right" ["_law_worth", "_law_index"] spRight := by
  refine fgAt D sc_lright (fun _ _ _ _ _ _ us hl => match us, hl with | [_, _], _ => rfl) (fun vs H Q E h => ?_) fun f cdv A outer s H vs Q E' gd hr h => ?_
  · obtain ⟨v, i, d, e, rfl, _⟩ := h
    rfl
  obtain ⟨v, i, d, e, rfl, hv, hi, hd, he, k⟩ := h
  obtain ⟨okd, lend, oke⟩ := worth_ok d hd
  have oke := oke e he
  refine ⟨_, (pss_cons (ps_if (pt_cmpR (op_neD (hu64 hr)) (pe_lc (own := [("_law_error", 2)]) (g := gName 2) (tt := tYes) rfl sc_lright.nd (pi_list (call0A F__law_made_all (hr.mono (by decide)) rfl)) (blkOk_by (N := ["_law_worth", "_law_index", "_law_error", "_law_letter", "_law_due", "_law_told", "_law_way"]) (sc := defScope s_lright) (by decide +kernel)) (fun _ _ _ _ _ => pg_name (i := 2) sc_lright.nd rfl (Or.inl rfl)) (fun _ _ _ _ _ => pts_nil) (fun _ _ _ _ _ => (callA F__law_all (hr.mono (by decide)) rfl (pa_cons (pv 2) pa_nil)))) (pe_lc (own := [("_law_letter", 3)]) (g := gName 3) (tt := tYes) rfl sc_lright.nd (pi_str pe_str) (blkOk_by (N := ["_law_worth", "_law_index", "_law_error", "_law_letter", "_law_due", "_law_told", "_law_way"]) (sc := defScope s_lright) (by decide +kernel)) (fun _ _ _ _ _ => pg_name (i := 3) sc_lright.nd rfl (Or.inl rfl)) (fun _ _ _ _ _ => pts_nil) (fun _ _ _ _ _ => (pe_op op_add_str (pv 3) pe_str))) (nomark _)) (pss_one (ps_ret pe_bl)) pss_nil)
    (pss_cons (ps_set (i := 4) sc_lright.nd rfl (Or.inl rfl) (pe_lst (pa_cons (pe_tup (pa_cons pe_str (pa_cons (pv 1) pa_nil))) (pa_cons (pe_tup (pa_cons pe_str (pa_cons (pv 0) pa_nil))) (pa_cons (pe_tup (pa_cons pe_str (pa_cons (pv 0) pa_nil))) (pa_cons (pe_tup (pa_cons pe_str (pa_cons (pv 0) pa_nil))) pa_nil))))))
    (pss_cons (ps_set (i := 4) sc_lright.nd rfl (Or.inl rfl) (pe_op op_catN (pv 4) (pe_lst (pa_cons (pe_tup (pa_cons pe_str (pa_cons (pv 0) pa_nil))) (pa_cons (pe_tup (pa_cons pe_str (pa_cons (pv 0) pa_nil))) pa_nil)))))
    (pss_cons (ps_if (PW.pt (pw_or (pt_cmpR op_ne (pe_callB (cr_reprX hr.units gd) (by rfl) T.b_repr (by decide +kernel) (pa_cons (callA F__law_kept (hr.mono (by decide)) rfl (pa_cons (pv 0) (pa_cons (pv 1) pa_nil))) pa_nil)) (pe_callB (cr_reprX hr.units gd) (by rfl) T.b_repr (by decide +kernel) (pa_cons (pv 4) pa_nil)) (nomark _)) (pw_or1 (pt_cmpR op_ne (callA F__law_all (hr.mono (by decide)) rfl (pa_cons (pe_exc1 PySem.F.excBase_ValueError G.x_PieceError G.g_PieceError G.k_PieceError rfl pe_str) pa_nil)) pe_str (nomark _))))) (pss_one (ps_ret pe_bl)) pss_nil)
    (pss_cons (ps_setLc (i := 5) (own := [("_law_way", 6)]) (g := gName 6) (tt := tYes) rfl sc_lright.nd rfl rfl (sw_true rfl rfl rfl (by decide +kernel)) (pi_range1 (by rfl) T.b_range (pa_cons pe_int pa_nil)) (blkOk_by (N := ["_law_worth", "_law_index", "_law_error", "_law_letter", "_law_due", "_law_told", "_law_way"]) (sc := defScope s_lright) (by decide +kernel)) (fun _ _ _ _ _ => pg_name (i := 6) sc_lright.nd rfl (Or.inl rfl)) (fun _ _ _ _ _ => pts_nil) (fun _ _ _ _ _ => (callB F__law_caught gd (hr.mono (by decide)) rfl (pa_cons (pv 0) (pa_cons (pv 6) pa_nil)))))
    (pss_one (ps_ret (pe_cmpR (op_eqD (hu64 hr)) (pv 5) (pe_lst (pa_cons pe_str (pa_cons (pe_op op_add_str pe_str (pe_callB (cr_reprX hr.units gd) (by rfl) T.b_repr (by decide +kernel) (pa_cons (pv 0) pa_nil))) (pa_cons (pe_op op_add_str pe_str (pe_callB (cr_reprX hr.units gd) (by rfl) T.b_repr (by decide +kernel) (pa_cons (pv 0) pa_nil))) pa_nil)))) (nomark _))))))))), ?_⟩
  refine ⟨rfl, fun p H1 as k1 op held => ?_⟩
  refine ⟨p, rfl, ⟨_, SqL.of op⟩, fun D1 nD1 => made_list (fun acc _ => acc = (List.range acc.length).map fun i => V.str (allS i)) (fun _ _ _ p _ _ => p) (SqL.of op) nD1 (by simp) (fun _ => rfl) (fun _ => rfl) (fun j x H' acc hj e1 hl pv Q' k' => ?_) fun H2 acc e2 oD1 hl1 pv1 => ?_⟩
  · have hj11 : j < 11 := (List.getElem?_eq_some_iff.mp hj).1
    have hx : x = .ref (as (j + 2)) := by
      obtain rfl | rfl | rfl | rfl | rfl | rfl | rfl | rfl | rfl | rfl | rfl : j = 0 ∨ j = 1 ∨ j = 2 ∨ j = 3 ∨ j = 4 ∨ j = 5 ∨ j = 6 ∨ j = 7 ∨ j = 8 ∨ j = 9 ∨ j = 10 := by omega
      all_goals (cases hj; rfl)
    subst hx
    refine ⟨_, rfl, as (j + 2), j + 2, rfl, by omega, by omega, (held (j + 2) (by omega) (by omega)).ext e1, k' _ _ (ext_refl _) ?_⟩
    rw [List.length_append, List.length_singleton, List.range_succ, List.map_append, ← pv, hl]
    rfl
  rw [hl1] at pv1
  subst pv1
  have hv := Rp.ext (k1.trans e2) _ _ hv
  have hi := Rp.ext (k1.trans e2) _ _ hi
  have k1 := k1.trans e2
  refine ⟨_, rfl, fun D2 nD2 => map_str (fun _ x => match x with | .str s => .str (s ++ " piece value") | v => v) nD2 (by decide) (fun _ => rfl) (fun j x H' hj e3 Q' k' => ?_) fun H3 e3 oD2 => ?_⟩
  · have hz : ∃ z : Str, x = .str z ∧ z.length ≤ 1 := by
      obtain ⟨c, _, rfl⟩ := signs_mem (List.mem_of_getElem? hj)
      exact ⟨_, rfl, Nat.le_refl _⟩
    obtain ⟨z, rfl, hz⟩ := hz
    refine ⟨_, rfl, _, _, rfl, rfl, len_ok (show z.length + 12 ≤ 1000 by omega), k' _ (ext_refl _)⟩
  have hm : (signs "abcdefghijk").mapIdx (fun (_ : Nat) (x : V) => match x with | .str s => .str (s ++ " piece value") | v => v) = ((List.range 11).map allS).map V.str := by decide +kernel
  rw [hm] at oD2
  have oD1 := e3 _ _ oD1
  rw [show (List.range ((List.map (fun c => V.ref (as c)) [2, 3, 4, 5, 6, 7, 8, 9, 10, 11, 12]).length)).map (fun i => V.str (allS i)) = ((List.range 11).map allS).map V.str by rw [List.map_map]; rfl] at oD1
  have hv := Rp.ext e3 _ _ hv
  have hi := Rp.ext e3 _ _ hi
  have k0 := k1.trans e3
  have ev : PyData.eqv (.list (((List.range 11).map allS).map PyData.str)) (.list (((List.range 11).map allS).map PyData.str)) = true := by decide +kernel
  refine ⟨.list (((List.range 11).map allS).map PyData.str), .list (((List.range 11).map allS).map PyData.str), .lst (SqL.of oD1) (dpStrs _), .lst (SqL.of oD2) (dpStrs _), by decide +kernel, by decide +kernel, _, rfl, ?_⟩
  rw [ev]
  refine iteF ?_
  refine ⟨_, rfl, len_ok (Nat.le_of_ble_eq_true rfl), fun t13 nt => ?_⟩
  have x := ext_new (o := (.tup [.str "P piece value", i])) (ext_refl _) nt
  have q13 : upd H3 t13 (.tup [.str "P piece value", i]) t13 = some (.tup [.str "P piece value", i]) := upd_same
  generalize upd H3 t13 (.tup [.str "P piece value", i]) = K13 at x q13 ⊢
  have hv := Rp.ext x _ _ hv
  have hi := Rp.ext x _ _ hi
  have k0 := k0.trans x
  refine ⟨_, rfl, len_ok (Nat.le_of_ble_eq_true rfl), fun t15 nt => ?_⟩
  have x := ext_new (o := (.tup [.str "U key lookup", v])) (ext_refl _) nt
  have q15 : upd K13 t15 (.tup [.str "U key lookup", v]) t15 = some (.tup [.str "U key lookup", v]) := upd_same
  generalize upd K13 t15 (.tup [.str "U key lookup", v]) = K15 at x q15 ⊢
  have hv := Rp.ext x _ _ hv
  have hi := Rp.ext x _ _ hi
  have k0 := k0.trans x
  have q13 := x _ _ q13
  refine ⟨_, rfl, len_ok (Nat.le_of_ble_eq_true rfl), fun t14 nt => ?_⟩
  have x := ext_new (o := (.tup [.str "C index lookup", v])) (ext_refl _) nt
  have q14 : upd K15 t14 (.tup [.str "C index lookup", v]) t14 = some (.tup [.str "C index lookup", v]) := upd_same
  generalize upd K15 t14 (.tup [.str "C index lookup", v]) = K14 at x q14 ⊢
  have hv := Rp.ext x _ _ hv
  have hi := Rp.ext x _ _ hi
  have k0 := k0.trans x
  have q13 := x _ _ q13
  have q15 := x _ _ q15
  refine ⟨_, rfl, len_ok (Nat.le_of_ble_eq_true rfl), fun t16 nt => ?_⟩
  have x := ext_new (o := (.tup [.str "Z runtime", v])) (ext_refl _) nt
  have q16 : upd K14 t16 (.tup [.str "Z runtime", v]) t16 = some (.tup [.str "Z runtime", v]) := upd_same
  generalize upd K14 t16 (.tup [.str "Z runtime", v]) = K16 at x q16 ⊢
  have hv := Rp.ext x _ _ hv
  have hi := Rp.ext x _ _ hi
  have k0 := k0.trans x
  have q13 := x _ _ q13
  have q15 := x _ _ q15
  have q14 := x _ _ q14
  refine ⟨len_ok (Nat.le_of_ble_eq_true rfl), fun a1 np => ?_⟩
  have x := ext_new (o := .lst [.ref t13, .ref t15, .ref t14, .ref t16]) (ext_refl _) np
  have oa1 : upd K16 a1 (.lst [.ref t13, .ref t15, .ref t14, .ref t16]) a1 = some (.lst [.ref t13, .ref t15, .ref t14, .ref t16]) := upd_same
  dsimp only [List.cons_append, List.nil_append]
  generalize upd K16 a1 (.lst [.ref t13, .ref t15, .ref t14, .ref t16]) = Ma1 at x oa1 ⊢
  have hv := Rp.ext x _ _ hv
  have hi := Rp.ext x _ _ hi
  have k0 := k0.trans x
  have q13 := x _ _ q13
  have q15 := x _ _ q15
  have q14 := x _ _ q14
  have q16 := x _ _ q16
  refine ⟨_, rfl, ?_⟩
  refine ⟨_, rfl, len_ok (Nat.le_of_ble_eq_true rfl), fun t17 nt => ?_⟩
  have x := ext_new (o := (.tup [.str "M overflow arithmetic", v])) (ext_refl _) nt
  have q17 : upd Ma1 t17 (.tup [.str "M overflow arithmetic", v]) t17 = some (.tup [.str "M overflow arithmetic", v]) := upd_same
  generalize upd Ma1 t17 (.tup [.str "M overflow arithmetic", v]) = K17 at x q17 ⊢
  have hv := Rp.ext x _ _ hv
  have hi := Rp.ext x _ _ hi
  have k0 := k0.trans x
  have q13 := x _ _ q13
  have q15 := x _ _ q15
  have q14 := x _ _ q14
  have q16 := x _ _ q16
  have oa1 := x _ _ oa1
  refine ⟨_, rfl, len_ok (Nat.le_of_ble_eq_true rfl), fun t18 nt => ?_⟩
  have x := ext_new (o := (.tup [.str "R arithmetic", v])) (ext_refl _) nt
  have q18 : upd K17 t18 (.tup [.str "R arithmetic", v]) t18 = some (.tup [.str "R arithmetic", v]) := upd_same
  generalize upd K17 t18 (.tup [.str "R arithmetic", v]) = K18 at x q18 ⊢
  have hv := Rp.ext x _ _ hv
  have hi := Rp.ext x _ _ hi
  have k0 := k0.trans x
  have q13 := x _ _ q13
  have q15 := x _ _ q15
  have q14 := x _ _ q14
  have q16 := x _ _ q16
  have oa1 := x _ _ oa1
  have q17 := x _ _ q17
  refine ⟨len_ok (Nat.le_of_ble_eq_true rfl), fun a2 np => ?_⟩
  have x := ext_new (o := .lst [.ref t17, .ref t18]) (ext_refl _) np
  have oa2 : upd K18 a2 (.lst [.ref t17, .ref t18]) a2 = some (.lst [.ref t17, .ref t18]) := upd_same
  dsimp only [List.cons_append, List.nil_append]
  generalize upd K18 a2 (.lst [.ref t17, .ref t18]) = Ma2 at x oa2 ⊢
  have hv := Rp.ext x _ _ hv
  have hi := Rp.ext x _ _ hi
  have k0 := k0.trans x
  have q13 := x _ _ q13
  have q15 := x _ _ q15
  have q14 := x _ _ q14
  have q16 := x _ _ q16
  have oa1 := x _ _ oa1
  have q17 := x _ _ q17
  have q18 := x _ _ q18
  refine ⟨_, _, _, _, ⟨rfl, rfl⟩, ⟨oa1, oa2⟩, len_ok (Nat.le_of_ble_eq_true rfl), fun a3 np nm => ?_⟩
  have x := ext_new (o := .lst [.ref t13, .ref t15, .ref t14, .ref t16, .ref t17, .ref t18]) (ext_refl _) np
  have oa3 : upd Ma2 a3 (.lst [.ref t13, .ref t15, .ref t14, .ref t16, .ref t17, .ref t18]) a3 = some (.lst [.ref t13, .ref t15, .ref t14, .ref t16, .ref t17, .ref t18]) := upd_same
  dsimp only [List.cons_append, List.nil_append]
  generalize upd Ma2 a3 (.lst [.ref t13, .ref t15, .ref t14, .ref t16, .ref t17, .ref t18]) = Ma3 at x oa3 ⊢
  have hv := Rp.ext x _ _ hv
  have hi := Rp.ext x _ _ hi
  have k0 := k0.trans x
  have q13 := x _ _ q13
  have q15 := x _ _ q15
  have q14 := x _ _ q14
  have q16 := x _ _ q16
  have oa1 := x _ _ oa1
  have q17 := x _ _ q17
  have q18 := x _ _ q18
  have oa2 := x _ _ oa2
  have due : Rp Ma3 (.ref a3) (keptD d e) := .lst oa3 nm (.cons (.tup q13 (.cons (.str _) (.cons hi .nil))) (.cons (.tup q15 (.cons (.str _) (.cons hv .nil))) (.cons (.tup q14 (.cons (.str _) (.cons hv .nil))) (.cons (.tup q16 (.cons (.str _) (.cons hv .nil))) (.cons (.tup q17 (.cons (.str _) (.cons hv .nil))) (.cons (.tup q18 (.cons (.str _) (.cons hv .nil))) (.nil)))))))
  refine ⟨_, rfl, _, rfl, v, i, d, e, rfl, hv, hi, fun p5 H5 x rp5 => ?_⟩
  have hv := Rp.ext x _ _ hv
  have k0 := k0.trans x
  have due := Rp.ext x _ _ due
  refine ⟨_, _, rfl, rp5, oke, _, rfl, _, _, rfl, due, oke, rfl, _, rfl, ne_same ?_⟩
  refine fun a6 n6 => ?_
  have x := ext_new (o := ExO (.ref (cs 1)) a6) (ext_refl _) n6
  have o6 : upd H5 a6 (ExO (.ref (cs 1)) a6) a6 = some (ExO (.ref (cs 1)) a6) := upd_same
  generalize upd H5 a6 (ExO (.ref (cs 1)) a6) = H6 at x o6 ⊢
  have hv := Rp.ext x _ _ hv
  have k0 := k0.trans x
  have e1 : letT 1 ++ kinT 1 = " piece value" := by decide +kernel
  refine ⟨a6, 1, rfl, by decide, by decide, .bare o6, rfl, _, rfl, ?_⟩
  refine ne_eq (congrArg V.str e1) ?_
  refine ⟨3, rfl, by decide, by decide, fun D3 nD3 => map_range (n := 3) (fun j => .str (caughtT d j)) nD3 (by decide) (fun _ => rfl) (fun j H' hj e7 Q' k' => ?_) fun H7 e7 oD3 => ?_⟩
  · refine ⟨_, rfl, _, rfl, v, d, j, congrArg (fun z => [v, V.int z]) (Int.zero_add _), hj, Rp.ext e7 _ _ hv, okd, lend, k'⟩
  have hv := Rp.ext e7 _ _ hv
  have k0 := k0.trans e7
  refine ⟨_, rfl, _, rfl, v, d, rfl, hv, okd, _, _, rfl, rfl, len_ok (show 8 + (repT d).length ≤ 1000 by omega), _, rfl, v, d, rfl, hv, okd, _, _, rfl, rfl, len_ok (show 5 + (repT d).length ≤ 1000 by omega), len_ok (Nat.le_of_ble_eq_true rfl), fun l nl => ?_⟩
  have x := ext_new (o := .lst [.str "base g", .str ("refused " ++ repT d), .str ("many " ++ repT d)]) (ext_refl _) nl
  have oD3 := x _ _ oD3
  have ol : upd H7 l (.lst [.str "base g", .str ("refused " ++ repT d), .str ("many " ++ repT d)]) l = some (.lst [.str "base g", .str ("refused " ++ repT d), .str ("many " ++ repT d)]) := upd_same
  generalize upd H7 l (.lst [.str "base g", .str ("refused " ++ repT d), .str ("many " ++ repT d)]) = H8 at x oD3 ol ⊢
  have ev2 : PyData.eqv (.list [.str "base g", .str ("refused " ++ repT d), .str ("many " ++ repT d)]) (.list [.str "base g", .str ("refused " ++ repT d), .str ("many " ++ repT d)]) = true := by
    rw [PyData.eqv]
    exact (eqv_strs ["base g", "refused " ++ repT d, "many " ++ repT d] ["base g", "refused " ++ repT d, "many " ++ repT d]).trans (decide_eq_true rfl)
  refine ⟨.list [.str "base g", .str ("refused " ++ repT d), .str ("many " ++ repT d)], .list [.str "base g", .str ("refused " ++ repT d), .str ("many " ++ repT d)], .lst (SqL.of oD3) (.cons (.str _) (.cons (.str _) (.cons (.str _) .nil))), .lst (SqL.of ol) (.cons (.str _) (.cons (.str _) (.cons (.str _) .nil))), told_ok d hd, told_ok d hd, ?_⟩
  rw [ev2]
  exact k _ (k0.trans x)
def spLaw (K : PySem.W.Frag) : Sp := fun vs H Q _ => ∃ (a : Addr) (ns : List Int), vs = [.ref a] ∧ SqL K H a (ns.map V.int) ∧ ns.length ≤ 63 ∧ ∀ H', Q (.bl true) H'
theorem law_binds {fa : Addr} {fd : FuncData} (F : Fun K "law" "law" s_law fa fd) (s : Shared) (u : Value) : BindsTo s fd ⟨[u], []⟩ [("_law_script", u)] := by
  obtain ⟨oc, od, kV, doc, pm, an, cdv, ct, osl, rfl, lk, hcd⟩ := F.ex
  exact .of_eq rfl
theorem ok_law {fa : Addr} {fd : FuncData} (T : Bn mg) (D : Fun K "law" "law" s_law fa fd) (F__law_dice : FnAt P w K mg base 1 "_law_dice" ["_law_script", "_law_spot"] (spDice K)) (F__law_pick : FnAt P w K mg base 2 "_law_pick" ["_law_dice_here", "_law_items"] (spPick K))
    (F__law_right : FgAt P w K mg base 4 "_law_right" ["_law_worth", "_law_index"] spRight) : FnG P w K mg base CX0 9 fa fd ["_law_script"] (spLaw K) := by
  refine okG D sc_law (fun vs H Q E h => ?_) fun cdv A outer s H vs Q E gd hr h => ?_
  · obtain ⟨a, ns, rfl, _⟩ := h
    rfl
  obtain ⟨a, ns, rfl, hS, hl, k⟩ := h
  refine ⟨_, (pss_cons (ps_for PassesOwn.never rfl (pi_range1 (by rfl) T.b_range (pa_cons (pe_callB (call_max2 rfl) (by rfl) T.b_max (by decide +kernel) (pa_cons pe_int (pa_cons (pe_callB (call_min2 rfl) (by rfl) T.b_min (by decide +kernel) (pa_cons pe_int (pa_cons (pe_callB call_len_seq (by rfl) T.b_len (by decide +kernel) (pa_cons (pv 0) pa_nil)) pa_nil))) pa_nil))) pa_nil)) (pg_name (i := 1) sc_law.nd rfl (Or.inl rfl))
      (pss_cons (ps_set (i := 2) sc_law.nd rfl (Or.inl rfl) (callA F__law_dice (hr.mono (by decide)) rfl (pa_cons (pv 0) (pa_cons (pv 1) pa_nil))))
    (pss_cons (ps_set (i := 3) sc_law.nd rfl (Or.inl rfl) (pe_lst (pa_cons pe_non (pa_cons pe_bl (pa_cons pe_int (pa_cons pe_str (pa_cons pe_str (pa_cons (pe_tup (pa_cons pe_int (pa_cons pe_int pa_nil))) (pa_cons (pe_lstN (pa_cons pe_int pa_nil)) (pa_cons (pe_disp (pps_cons pe_int pe_int pps_nil) rfl rfl (by decide) (by decide)) (pa_cons (pe_tup (pa_cons (pe_tup pa_nil) (pa_cons (pe_tup (pa_cons pe_str (pa_cons pe_int pa_nil))) pa_nil))) (pa_cons pe_str (pa_cons (pe_op op_pow pe_int pe_int) pa_nil)))))))))))))
    (pss_one (ps_if (pt_not (pt_val (callB F__law_right gd (hr.mono (by decide)) rfl (pa_cons (callA F__law_pick (hr.mono (by decide)) rfl (pa_cons (pv 2) (pa_cons (pv 3) pa_nil))) (pa_cons (callA F__law_pick (hr.mono (by decide)) rfl (pa_cons (pv 2) (pa_cons (pe_lst (pa_cons pe_non (pa_cons pe_int (pa_cons pe_int (pa_cons (pe_op op_pow pe_int pe_int) pa_nil))))) pa_nil))) pa_nil))))) (pss_one (ps_ret pe_bl)) pss_nil)))))
    (pss_one (ps_ret pe_bl))), ?_⟩
  have hb : ∀ L : Int, 0 ≤ L → 1 ≤ (if (if L < 2 then L else 2) > 1 then (if L < 2 then L else 2) else 1) ∧ (if (if L < 2 then L else 2) > 1 then (if L < 2 then L else 2) else 1) ≤ 2 := by
    intro L h
    split <;> split <;> omega
  have hb := hb (((ns.map V.int).length : Nat) : Int) (by omega)
  refine ⟨_, rfl, a, _, rfl, .inl hS, _, _, rfl, _, _, rfl, _, rfl, by omega, by omega, for_range (lo := 0) (fun i σ H' => Ext H H' ∧ ∃ x y z, σ = [some (.ref a), x, y, z]) ⟨ext_refl H, _, _, _, rfl⟩ ?_ ?_⟩
  · rintro i σ H' hi ⟨e, x, y, z, rfl⟩
    refine ⟨_, rfl, _, rfl, a, _, ns, rfl, hS.ext e, by omega, by omega, fun p H1 hp e1 hd => ?_⟩
    have k0 := e.trans e1
    refine ⟨len_ok (Nat.le_of_ble_eq_true rfl), fun t1 n => ?_⟩
    have x := ext_new (o := .tup [.int 4, .int 6]) (ext_refl _) n
    have ot1 : upd H1 t1 (.tup [.int 4, .int 6]) t1 = some (.tup [.int 4, .int 6]) := upd_same
    generalize upd H1 t1 (.tup [.int 4, .int 6]) = Mt1 at x ot1 ⊢
    have hd := x _ _ hd
    have k0 := k0.trans x
    refine ⟨len_ok (Nat.le_of_ble_eq_true rfl), fun l1 n s1 => ?_⟩
    have x := ext_new (o := .lst [.int 7]) (ext_refl _) n
    have ol1 : upd Mt1 l1 (.lst [.int 7]) l1 = some (.lst [.int 7]) := upd_same
    generalize upd Mt1 l1 (.lst [.int 7]) = Ml1 at x ol1 ⊢
    have hd := x _ _ hd
    have k0 := k0.trans x
    have ot1 := x _ _ ot1
    refine fun d1 n => ⟨upd_same, [(.inl 7, .int 7)], rfl, by decide, ?_⟩
    have x : Ext Ml1 (upd (upd Ml1 d1 (.dK [])) d1 (.dK (mergeK [] [(.inl 7, .int 7)]))) := ext_mut (ext_new (ext_refl _) n) n
    have od1 : upd (upd Ml1 d1 (.dK [])) d1 (.dK (mergeK [] [(.inl 7, .int 7)])) d1 = some (.dK [(.inl 7, .int 7)]) := upd_same
    generalize upd (upd Ml1 d1 (.dK [])) d1 (.dK (mergeK [] [(.inl 7, .int 7)])) = Md1 at x od1 ⊢
    have hd := x _ _ hd
    have k0 := k0.trans x
    have ot1 := x _ _ ot1
    have ol1 := x _ _ ol1
    refine ⟨len_ok (Nat.le_of_ble_eq_true rfl), fun t2 n => ?_⟩
    have x := ext_new (o := .tup []) (ext_refl _) n
    have ot2 : upd Md1 t2 (.tup []) t2 = some (.tup []) := upd_same
    generalize upd Md1 t2 (.tup []) = Mt2 at x ot2 ⊢
    have hd := x _ _ hd
    have k0 := k0.trans x
    have ot1 := x _ _ ot1
    have ol1 := x _ _ ol1
    have od1 := x _ _ od1
    refine ⟨len_ok (Nat.le_of_ble_eq_true rfl), fun t3 n => ?_⟩
    have x := ext_new (o := .tup [.str "a", .int 1]) (ext_refl _) n
    have ot3 : upd Mt2 t3 (.tup [.str "a", .int 1]) t3 = some (.tup [.str "a", .int 1]) := upd_same
    generalize upd Mt2 t3 (.tup [.str "a", .int 1]) = Mt3 at x ot3 ⊢
    have hd := x _ _ hd
    have k0 := k0.trans x
    have ot1 := x _ _ ot1
    have ol1 := x _ _ ol1
    have od1 := x _ _ od1
    have ot2 := x _ _ ot2
    refine ⟨len_ok (Nat.le_of_ble_eq_true rfl), fun t4 n => ?_⟩
    have x := ext_new (o := .tup [.ref t2, .ref t3]) (ext_refl _) n
    have ot4 : upd Mt3 t4 (.tup [.ref t2, .ref t3]) t4 = some (.tup [.ref t2, .ref t3]) := upd_same
    generalize upd Mt3 t4 (.tup [.ref t2, .ref t3]) = Mt4 at x ot4 ⊢
    have hd := x _ _ hd
    have k0 := k0.trans x
    have ot1 := x _ _ ot1
    have ol1 := x _ _ ol1
    have od1 := x _ _ od1
    have ot2 := x _ _ ot2
    have ot3 := x _ _ ot3
    refine ⟨_, _, rfl, rfl, (by exact ⟨by decide, by decide, by decide⟩), ?_⟩
    refine ⟨len_ok (Nat.le_of_ble_eq_true rfl), fun l2 n => ?_⟩
    have x := ext_new (o := .lst [.non, .bl true, .int 0, .str "7", .str "", .ref t1, .ref l1, .ref d1, .ref t4, .str "a b / b a", .int (10 ^ (40 : Int).toNat)]) (ext_refl _) n
    have ol2 : upd Mt4 l2 (.lst [.non, .bl true, .int 0, .str "7", .str "", .ref t1, .ref l1, .ref d1, .ref t4, .str "a b / b a", .int (10 ^ (40 : Int).toNat)]) l2 = some (.lst [.non, .bl true, .int 0, .str "7", .str "", .ref t1, .ref l1, .ref d1, .ref t4, .str "a b / b a", .int (10 ^ (40 : Int).toNat)]) := upd_same
    generalize upd Mt4 l2 (.lst [.non, .bl true, .int 0, .str "7", .str "", .ref t1, .ref l1, .ref d1, .ref t4, .str "a b / b a", .int (10 ^ (40 : Int).toNat)]) = Ml2 at x ol2 ⊢
    have hd := x _ _ hd
    have k0 := k0.trans x
    have ot1 := x _ _ ot1
    have ol1 := x _ _ ol1
    have od1 := x _ _ od1
    have ot2 := x _ _ ot2
    have ot3 := x _ _ ot3
    have ot4 := x _ _ ot4
    refine ⟨_, rfl, _, rfl, p, l2, _, rfl, hd, SqL.of ol2, by simp, Nat.le_of_ble_eq_true rfl, fun v hv => ?_⟩
    obtain ⟨d, rv, md⟩ : ∃ d, Rp Ml2 v d ∧ d ∈ worthD := by
      simp only [List.mem_cons, List.not_mem_nil, or_false] at hv
      rcases hv with rfl | rfl | rfl | rfl | rfl | rfl | rfl | rfl | rfl | rfl | rfl
      · exact ⟨_, .non, by simp [worthD]⟩
      · exact ⟨_, .bl _, by simp [worthD]⟩
      · exact ⟨_, .int _, by simp [worthD]⟩
      · exact ⟨_, .str _, by simp [worthD]⟩
      · exact ⟨_, .str _, by simp [worthD]⟩
      · exact ⟨_, .tup ot1 (.cons (.int _) (.cons (.int _) .nil)), by simp [worthD]⟩
      · exact ⟨_, .lst ol1 s1 (.cons (.int _) .nil), by simp [worthD]⟩
      · exact ⟨_, .dic od1, by simp [worthD]⟩
      · exact ⟨_, .tup ot4 (.cons (.tup ot2 .nil) (.cons (.tup ot3 (.cons (.str _) (.cons (.int _) .nil))) .nil)), by simp [worthD]⟩
      · exact ⟨_, .str _, by simp [worthD]⟩
      · exact ⟨_, .int _, by simp [worthD]⟩
    refine ⟨_, rfl, _, _, rfl, rfl, (by exact ⟨by decide, by decide, by decide⟩), ?_⟩
    refine ⟨len_ok (Nat.le_of_ble_eq_true rfl), fun l3 n => ?_⟩
    have x := ext_new (o := .lst [.non, .int 0, .int 3, .int (10 ^ (30 : Int).toNat)]) (ext_refl _) n
    have ol3 : upd Ml2 l3 (.lst [.non, .int 0, .int 3, .int (10 ^ (30 : Int).toNat)]) l3 = some (.lst [.non, .int 0, .int 3, .int (10 ^ (30 : Int).toNat)]) := upd_same
    generalize upd Ml2 l3 (.lst [.non, .int 0, .int 3, .int (10 ^ (30 : Int).toNat)]) = Ml3 at x ol3 ⊢
    have hd := x _ _ hd
    have k0 := k0.trans x
    have ot1 := x _ _ ot1
    have ol1 := x _ _ ol1
    have od1 := x _ _ od1
    have ot2 := x _ _ ot2
    have ot3 := x _ _ ot3
    have ot4 := x _ _ ot4
    have ol2 := x _ _ ol2
    refine ⟨p, l3, _, rfl, hd, SqL.of ol3, by simp, Nat.le_of_ble_eq_true rfl, fun u hu => ?_⟩
    obtain ⟨e', ru, me⟩ : ∃ e', Rp Ml3 u e' ∧ e' ∈ indexD := by
      simp only [List.mem_cons, List.not_mem_nil, or_false] at hu
      rcases hu with rfl | rfl | rfl | rfl
      · exact ⟨_, .non, by simp [indexD]⟩
      · exact ⟨_, .int _, by simp [indexD]⟩
      · exact ⟨_, .int _, by simp [indexD]⟩
      · exact ⟨_, .int _, by simp [indexD]⟩
    exact ⟨v, u, d, e', rfl, Rp.ext x _ _ rv, ru, md, me, fun H9 e9 => ⟨_, rfl, iteF ⟨k0.trans e9, _, _, _, rfl⟩⟩⟩
  rintro σ H' ⟨e, x, y, z, rfl⟩
  exact k _
end
end My
namespace My
open PySem PySem.Spec PyProof.Rows L2
section
variable {K : PySem.W.Frag} {h : Heap} {mg : Str → Option Value}
theorem defAt_mk {x : Str} {st : Stmt} {f : Addr} {oc : Value} {od an : Option Addr} {osl : Array (Option Value)} {kV doc pm cdv ct : Value} (X : K.In h) (G : h.Ns mainGlobals mg) (a : PySem.W.nsIn K mainGlobals x = some (some (.ref f)))
    (l : K.lookup f = some ⟨oc, od, .func (PySem.W.fnOf x x (defArgs st) (defBody st) (defScope st) .none kV doc pm an cdv ct), osl⟩) (c : PySem.W.codeIn K cdv x = true) (k : PySem.W.keepIn K (.ref f) = true) : DefAt K mg x st :=
  ⟨f, _, PySem.W.mg_of X G a, fun_mk l c k⟩
theorem g_mk {C : Addr} {x : Str} (X : K.In h) (G : h.Ns mainGlobals mg) (a : PySem.W.nsIn K mainGlobals x = some (some (.ref C))) : mg x = some (.ref C) := PySem.W.mg_of X G a
/-- what is seen of an error's class: its mro behind itself -/
structure Row (K : PySem.W.Frag) (C : Addr) (m : List Value) : Prop where
  l : ∃ dd cd sl, K.lookup C = some ⟨.type "type", dd, .cls cd, sl⟩ ∧ cd.hasDict = true ∧ cd.mro = .ref C :: m
  hg : PySem.W.findIn K (.ref C) "__getattribute__" = some (some (.builtin "BaseException.__getattribute__"))
  hk : PySem.W.findIn K (.ref C) "__getattr__" = some none
  ha : PySem.W.findIn K (.ref C) "__class__" = some (some (.builtin "object.__class__"))
theorem row_mk {C : Addr} {m : List Value} {dd : Option Addr} {cd : ClassData} {sl : Array (Option Value)} (l : K.lookup C = some ⟨.type "type", dd, .cls cd, sl⟩) (h1 : cd.hasDict = true) (h2 : cd.mro = .ref C :: m)
    (hg : PySem.W.findIn K (.ref C) "__getattribute__" = some (some (.builtin "BaseException.__getattribute__"))) (hk : PySem.W.findIn K (.ref C) "__getattr__" = some none) (ha : PySem.W.findIn K (.ref C) "__class__" = some (some (.builtin "object.__class__"))) : Row K C m := ⟨⟨dd, cd, sl, l, h1, h2⟩, hg, hk, ha⟩
theorem Row.cls {C : Addr} {m : List Value} (r : Row K C m) : ∃ cd, PySem.W.clsIn K C = some cd ∧ cd.hasDict = true ∧ cd.mro = .ref C :: m := by
  obtain ⟨dd, cd, sl, l, h1, h2⟩ := r.l
  refine ⟨cd, ?_, h1, h2⟩
  unfold PySem.W.clsIn
  rw [l]
theorem Row.mro {C : Addr} {m : List Value} (r : Row K C m) (b : Value) : PySem.W.mroIn K C b = some ((Value.ref C :: m).contains b) := by
  obtain ⟨cd, e, _, e2⟩ := r.cls
  unfold PySem.W.mroIn
  rw [e]
  show (if cd.mro.isEmpty = true then none else some (cd.mro.contains b)) = _
  rw [e2]
  rfl
theorem Row.sub {C : Addr} {m : List Value} (r : Row K C m) (b : Value) : PySem.W.subIn K (.ref C) b = some ((Value.ref C :: m).contains b) := r.mro b
theorem Row.ty {C : Addr} {m : List Value} (r : Row K C m) : PySem.W.typeIn K (.ref C) = some (.type "type") := by
  obtain ⟨dd, cd, sl, l, _⟩ := r.l
  show Option.map (·.cls) (List.lookup C K) = _
  rw [l]
  rfl
theorem Row.dict {C : Addr} {m : List Value} (r : Row K C m) : PySem.W.hasDictIn K C = true := by
  obtain ⟨cd, e, e1, _⟩ := r.cls
  unfold PySem.W.hasDictIn
  rw [e]
  exact e1
theorem Row.kitR {C D : Addr} {m n : List Value} (r : Row K C m) (q : Row K D n) : PySem.W.kitCls K (.ref C) (.ref D) = some ((Value.ref C :: m).contains (.ref D)) := by
  obtain ⟨cd, e, _⟩ := q.cls
  unfold PySem.W.kitCls
  dsimp only
  rw [e, q.ty, if_pos (by simp)]
  exact r.sub _
theorem Row.oneR {C D : Addr} {m n : List Value} (r : Row K C m) (q : Row K D n) : PySem.W.kitOne K (.ref C) (.ref D) = some ((Value.ref C :: m).contains (.ref D)) := by
  unfold PySem.W.kitOne
  by_cases e : C = D
  · subst e
    rw [if_pos (by simp)]
    simp
  · rw [if_neg (by simpa using e)]
    exact r.kitR q
theorem Row.oneT {C : Addr} {m : List Value} {n : String} (r : Row K C m) (hm : PySem.W.kitMeta n = true) : PySem.W.kitOne K (.ref C) (.type n) = some ((Value.ref C :: m).contains (.type n)) := by
  unfold PySem.W.kitOne
  rw [if_neg (by simp)]
  unfold PySem.W.kitCls
  dsimp only
  rw [if_pos hm]
  exact r.sub _
theorem Row.exm {C D : Addr} {m n : List Value} (r : Row K C m) (q : Row K D n) (hb : n.contains (.type "BaseException") = true) : PySem.W.exmOne K (.ref C) (.ref D) = some ((Value.ref C :: m).contains (.ref D)) := by
  unfold PySem.W.exmOne
  rw [q.sub, List.contains_cons, hb, Bool.or_true, if_pos (by simp)]
  exact r.kitR q
theorem Row.err {C : Addr} {m : List Value} (r : Row K C m) (hb : m.contains (.type "BaseException") = true) (ho : m.contains (.type "object") = true) (hn : PySem.W.specialIn K (.builtin "object.__class__") "__get__" = some (some (.builtin "getset_descriptor.__get__"))) (ht : PySem.W.takesIn K (.builtin "object.__class__") = some true) : ErrC K C :=
  ⟨r.hg, r.hk, by rw [r.sub, List.contains_cons, hb, Bool.or_true], r.dict, r.ha, hn, ht, by rw [r.mro, List.contains_cons, ho, Bool.or_true]⟩
theorem excInit_mk {C : Addr} {o : Obj} {bmB : List Value} {newId : String} (l : K.lookup C = some o) (m : PySem.W.excInitIn [(C, o)] C bmB newId = true) : PySem.W.excInitIn K C bmB newId = true := by
  have e : List.lookup C [(C, o)] = some o := by simp [List.lookup]
  unfold PySem.W.excInitIn at m ⊢
  rw [e] at m
  rw [l]
  exact m
theorem excOver_mk {C : Addr} {o : Obj} {bmB : List Value} (l : K.lookup C = some o) (m : PySem.W.excOver [(C, o)] C bmB = true) : PySem.W.excOver K C bmB = true := by
  have e : List.lookup C [(C, o)] = some o := by simp [List.lookup]
  unfold PySem.W.excOver PySem.W.clsIn at m ⊢
  rw [e] at m
  rw [l]
  exact m
end
def csOf (l : List Addr) (c : Nat) : Addr := l.getD (c - 1) 0
def fsOf (l : List Addr) (c : Nat) : Addr := l.getD (c - 13) 0
/-- the mro behind the class c -/
def tailOf (p : Addr) (c : Nat) : List Value := if c = 1 then veT else if c ≤ 13 then .ref p :: veT else if c = 14 then [.type "IndexError", .type "LookupError", .type "Exception", .type "BaseException", .type "object"]
  else if c = 15 then [.type "KeyError", .type "LookupError", .type "Exception", .type "BaseException", .type "object"] else if c = 16 then [.type "RuntimeError", .type "Exception", .type "BaseException", .type "object"]
  else if c = 17 then [.type "OverflowError", .type "ArithmeticError", .type "Exception", .type "BaseException", .type "object"] else [.type "ArithmeticError", .type "Exception", .type "BaseException", .type "object"]
theorem eIndex_mk {K : PySem.W.Frag} {h : Heap} {mg : Str → Option Value} {C fI : Addr} {m : List Value} {o : Obj} {oc : Value} {od : Option Addr} {doc pm : Value} {an : Option Addr} {cdv ct : Value} {osl : Array (Option Value)} {p1 p2 q1 q2 q3 q4 : Pos} {bmB : List Value} (X : K.In h) (G : h.Ns mainGlobals mg) (r : Row K C m) (hm : m.contains (.type "BaseException") = true)
    (gC : PySem.W.nsIn K mainGlobals "ParseError" = some (some (.ref C))) (iC : PySem.W.findIn K (.ref C) "__init__" = some (some (.ref fI))) (l : K.lookup fI = some ⟨oc, od, .func (PySem.W.fnOf "__init__" "ParseError.__init__" (LowVIndex.vA p1 p2) (LowVIndex.vB q1 q2 q3 q4) LowVIndex.vS .none .none doc pm an cdv ct), osl⟩)
    (c : PySem.W.codeIn K cdv "ParseError.__init__" = true) (lC : K.lookup C = some o) (q : PySem.W.excInitIn [(C, o)] C bmB "ValueError.__new__" = true) (ov : PySem.W.excOver [(C, o)] C bmB = true) (tk : PySem.W.takerIn K C "index" = some none) (sa : PySem.W.findIn K (.ref C) "__setattr__" = some (some (.builtin "object.__setattr__")))
    (noN : PySem.W.findIn K (.ref C) "index" = some none) (tC : PySem.W.typeIn K (.ref fI) = some (.type "function")) (kC : PySem.W.keepIn K (.ref C) = true) : LowVIndex.ErrVIndex K mg "ValueError" "ValueError.__new__" bmB "ParseError" "ParseError.__init__" C fI :=
  ⟨PySem.W.mg_of X G gC, excInit_mk lC q, excOver_mk lC ov, tk, sa, r.hg, r.hk, noN, iC, tC, kC, by rw [r.sub, List.contains_cons, hm, Bool.or_true], r.ty, r.dict, oc, od, doc, pm, an, cdv, ct, osl, p1, p2, q1, q2, q3, q4, l, c⟩
theorem eValue_mk {K : PySem.W.Frag} {h : Heap} {mg : Str → Option Value} {C fI : Addr} {m : List Value} {o : Obj} {oc : Value} {od : Option Addr} {doc pm : Value} {an : Option Addr} {cdv ct : Value} {osl : Array (Option Value)} {p1 p2 q1 q2 q3 q4 : Pos} {bmB : List Value} (X : K.In h) (G : h.Ns mainGlobals mg) (r : Row K C m) (hm : m.contains (.type "BaseException") = true)
    (gC : PySem.W.nsIn K mainGlobals "InvalidCount" = some (some (.ref C))) (iC : PySem.W.findIn K (.ref C) "__init__" = some (some (.ref fI))) (l : K.lookup fI = some ⟨oc, od, .func (PySem.W.fnOf "__init__" "InvalidCount.__init__" (LowVValue.vA p1 p2) (LowVValue.vB q1 q2 q3 q4) LowVValue.vS .none .none doc pm an cdv ct), osl⟩)
    (c : PySem.W.codeIn K cdv "InvalidCount.__init__" = true) (lC : K.lookup C = some o) (q : PySem.W.excInitIn [(C, o)] C bmB "IndexError.__new__" = true) (ov : PySem.W.excOver [(C, o)] C bmB = true) (tk : PySem.W.takerIn K C "value" = some none) (sa : PySem.W.findIn K (.ref C) "__setattr__" = some (some (.builtin "object.__setattr__")))
    (noN : PySem.W.findIn K (.ref C) "value" = some none) (tC : PySem.W.typeIn K (.ref fI) = some (.type "function")) (kC : PySem.W.keepIn K (.ref C) = true) : LowVValue.ErrVValue K mg "IndexError" "IndexError.__new__" bmB "InvalidCount" "InvalidCount.__init__" C fI :=
  ⟨PySem.W.mg_of X G gC, excInit_mk lC q, excOver_mk lC ov, tk, sa, r.hg, r.hk, noN, iC, tC, kC, by rw [r.sub, List.contains_cons, hm, Bool.or_true], r.ty, r.dict, oc, od, doc, pm, an, cdv, ct, osl, p1, p2, q1, q2, q3, q4, l, c⟩
theorem eName_mk {K : PySem.W.Frag} {h : Heap} {mg : Str → Option Value} {C fI : Addr} {m : List Value} {o : Obj} {oc : Value} {od : Option Addr} {doc pm : Value} {an : Option Addr} {cdv ct : Value} {osl : Array (Option Value)} {p1 p2 q1 q2 q3 q4 : Pos} {bmB : List Value} (X : K.In h) (G : h.Ns mainGlobals mg) (r : Row K C m) (hm : m.contains (.type "BaseException") = true)
    (gC : PySem.W.nsIn K mainGlobals "UnknownName" = some (some (.ref C))) (iC : PySem.W.findIn K (.ref C) "__init__" = some (some (.ref fI))) (l : K.lookup fI = some ⟨oc, od, .func (PySem.W.fnOf "__init__" "UnknownName.__init__" (LowVName.vA p1 p2) (LowVName.vB q1 q2 q3 q4) LowVName.vS .none .none doc pm an cdv ct), osl⟩)
    (c : PySem.W.codeIn K cdv "UnknownName.__init__" = true) (lC : K.lookup C = some o) (q : PySem.W.excInitIn [(C, o)] C bmB "LookupError.__new__" = true) (ov : PySem.W.excOver [(C, o)] C bmB = true) (tk : PySem.W.takerIn K C "name" = some none) (sa : PySem.W.findIn K (.ref C) "__setattr__" = some (some (.builtin "object.__setattr__")))
    (noN : PySem.W.findIn K (.ref C) "name" = some none) (tC : PySem.W.typeIn K (.ref fI) = some (.type "function")) (kC : PySem.W.keepIn K (.ref C) = true) : LowVName.ErrVName K mg "LookupError" "LookupError.__new__" bmB "UnknownName" "UnknownName.__init__" C fI :=
  ⟨PySem.W.mg_of X G gC, excInit_mk lC q, excOver_mk lC ov, tk, sa, r.hg, r.hk, noN, iC, tC, kC, by rw [r.sub, List.contains_cons, hm, Bool.or_true], r.ty, r.dict, oc, od, doc, pm, an, cdv, ct, osl, p1, p2, q1, q2, q3, q4, l, c⟩
theorem eWanted_mk {K : PySem.W.Frag} {h : Heap} {mg : Str → Option Value} {C fI : Addr} {m : List Value} {o : Obj} {oc : Value} {od : Option Addr} {doc pm : Value} {an : Option Addr} {cdv ct : Value} {osl : Array (Option Value)} {p1 p2 q1 q2 q3 q4 : Pos} {bmB : List Value} (X : K.In h) (G : h.Ns mainGlobals mg) (r : Row K C m) (hm : m.contains (.type "BaseException") = true)
    (gC : PySem.W.nsIn K mainGlobals "NothingToUndo" = some (some (.ref C))) (iC : PySem.W.findIn K (.ref C) "__init__" = some (some (.ref fI))) (l : K.lookup fI = some ⟨oc, od, .func (PySem.W.fnOf "__init__" "NothingToUndo.__init__" (LowVWanted.vA p1 p2) (LowVWanted.vB q1 q2 q3 q4) LowVWanted.vS .none .none doc pm an cdv ct), osl⟩)
    (c : PySem.W.codeIn K cdv "NothingToUndo.__init__" = true) (lC : K.lookup C = some o) (q : PySem.W.excInitIn [(C, o)] C bmB "RuntimeError.__new__" = true) (ov : PySem.W.excOver [(C, o)] C bmB = true) (tk : PySem.W.takerIn K C "wanted" = some none) (sa : PySem.W.findIn K (.ref C) "__setattr__" = some (some (.builtin "object.__setattr__")))
    (noN : PySem.W.findIn K (.ref C) "wanted" = some none) (tC : PySem.W.typeIn K (.ref fI) = some (.type "function")) (kC : PySem.W.keepIn K (.ref C) = true) : LowVWanted.ErrVWanted K mg "RuntimeError" "RuntimeError.__new__" bmB "NothingToUndo" "NothingToUndo.__init__" C fI :=
  ⟨PySem.W.mg_of X G gC, excInit_mk lC q, excOver_mk lC ov, tk, sa, r.hg, r.hk, noN, iC, tC, kC, by rw [r.sub, List.contains_cons, hm, Bool.or_true], r.ty, r.dict, oc, od, doc, pm, an, cdv, ct, osl, p1, p2, q1, q2, q3, q4, l, c⟩
theorem eLimit_mk {K : PySem.W.Frag} {h : Heap} {mg : Str → Option Value} {C fI : Addr} {m : List Value} {o : Obj} {oc : Value} {od : Option Addr} {doc pm : Value} {an : Option Addr} {cdv ct : Value} {osl : Array (Option Value)} {p1 p2 q1 q2 q3 q4 : Pos} {bmB : List Value} (X : K.In h) (G : h.Ns mainGlobals mg) (r : Row K C m) (hm : m.contains (.type "BaseException") = true)
    (gC : PySem.W.nsIn K mainGlobals "TooMany" = some (some (.ref C))) (iC : PySem.W.findIn K (.ref C) "__init__" = some (some (.ref fI))) (l : K.lookup fI = some ⟨oc, od, .func (PySem.W.fnOf "__init__" "TooMany.__init__" (LowVLimit.vA p1 p2) (LowVLimit.vB q1 q2 q3 q4) LowVLimit.vS .none .none doc pm an cdv ct), osl⟩)
    (c : PySem.W.codeIn K cdv "TooMany.__init__" = true) (lC : K.lookup C = some o) (q : PySem.W.excInitIn [(C, o)] C bmB "OverflowError.__new__" = true) (ov : PySem.W.excOver [(C, o)] C bmB = true) (tk : PySem.W.takerIn K C "limit" = some none) (sa : PySem.W.findIn K (.ref C) "__setattr__" = some (some (.builtin "object.__setattr__")))
    (noN : PySem.W.findIn K (.ref C) "limit" = some none) (tC : PySem.W.typeIn K (.ref fI) = some (.type "function")) (kC : PySem.W.keepIn K (.ref C) = true) : LowVLimit.ErrVLimit K mg "OverflowError" "OverflowError.__new__" bmB "TooMany" "TooMany.__init__" C fI :=
  ⟨PySem.W.mg_of X G gC, excInit_mk lC q, excOver_mk lC ov, tk, sa, r.hg, r.hk, noN, iC, tC, kC, by rw [r.sub, List.contains_cons, hm, Bool.or_true], r.ty, r.dict, oc, od, doc, pm, an, cdv, ct, osl, p1, p2, q1, q2, q3, q4, l, c⟩
theorem eReason_mk {K : PySem.W.Frag} {h : Heap} {mg : Str → Option Value} {C fI : Addr} {m : List Value} {o : Obj} {oc : Value} {od : Option Addr} {doc pm : Value} {an : Option Addr} {cdv ct : Value} {osl : Array (Option Value)} {p1 p2 q1 q2 q3 q4 : Pos} {bmB : List Value} (X : K.In h) (G : h.Ns mainGlobals mg) (r : Row K C m) (hm : m.contains (.type "BaseException") = true)
    (gC : PySem.W.nsIn K mainGlobals "Refused" = some (some (.ref C))) (iC : PySem.W.findIn K (.ref C) "__init__" = some (some (.ref fI))) (l : K.lookup fI = some ⟨oc, od, .func (PySem.W.fnOf "__init__" "Refused.__init__" (LowVReason.vA p1 p2) (LowVReason.vB q1 q2 q3 q4) LowVReason.vS .none .none doc pm an cdv ct), osl⟩)
    (c : PySem.W.codeIn K cdv "Refused.__init__" = true) (lC : K.lookup C = some o) (q : PySem.W.excInitIn [(C, o)] C bmB "ArithmeticError.__new__" = true) (ov : PySem.W.excOver [(C, o)] C bmB = true) (tk : PySem.W.takerIn K C "reason" = some none) (sa : PySem.W.findIn K (.ref C) "__setattr__" = some (some (.builtin "object.__setattr__")))
    (noN : PySem.W.findIn K (.ref C) "reason" = some none) (tC : PySem.W.typeIn K (.ref fI) = some (.type "function")) (kC : PySem.W.keepIn K (.ref C) = true) : LowVReason.ErrVReason K mg "ArithmeticError" "ArithmeticError.__new__" bmB "Refused" "Refused.__init__" C fI :=
  ⟨PySem.W.mg_of X G gC, excInit_mk lC q, excOver_mk lC ov, tk, sa, r.hg, r.hk, noN, iC, tC, kC, by rw [r.sub, List.contains_cons, hm, Bool.or_true], r.ty, r.dict, oc, od, doc, pm, an, cdv, ct, osl, p1, p2, q1, q2, q3, q4, l, c⟩
structure Facts (K : PySem.W.Frag) (mg : Str → Option Value) (c1 c2 c3 c4 c5 c6 c7 c8 c9 c10 c11 c12 c13 c14 c15 c16 c17 c18 f13 f14 f15 f16 f17 f18 : Addr) : Prop where
  T : Bn mg
  r1 : Row K c1 (tailOf c1 1)
  r2 : Row K c2 (tailOf c1 2)
  r3 : Row K c3 (tailOf c1 3)
  r4 : Row K c4 (tailOf c1 4)
  r5 : Row K c5 (tailOf c1 5)
  r6 : Row K c6 (tailOf c1 6)
  r7 : Row K c7 (tailOf c1 7)
  r8 : Row K c8 (tailOf c1 8)
  r9 : Row K c9 (tailOf c1 9)
  r10 : Row K c10 (tailOf c1 10)
  r11 : Row K c11 (tailOf c1 11)
  r12 : Row K c12 (tailOf c1 12)
  r13 : Row K c13 (tailOf c1 13)
  r14 : Row K c14 (tailOf c1 14)
  r15 : Row K c15 (tailOf c1 15)
  r16 : Row K c16 (tailOf c1 16)
  r17 : Row K c17 (tailOf c1 17)
  r18 : Row K c18 (tailOf c1 18)
  g1 : mg "PieceError" = some (.ref c1)
  g2 : mg "InvalidNumber" = some (.ref c2)
  g3 : mg "InvalidOrder" = some (.ref c3)
  g4 : mg "InvalidExchange" = some (.ref c4)
  g5 : mg "InvalidLengths" = some (.ref c5)
  g6 : mg "InvalidPoint" = some (.ref c6)
  g7 : mg "InvalidCourse" = some (.ref c7)
  g8 : mg "InvalidReading" = some (.ref c8)
  g9 : mg "InvalidTrace" = some (.ref c9)
  g10 : mg "InvalidHeights" = some (.ref c10)
  g11 : mg "InvalidProgram" = some (.ref c11)
  g12 : mg "InvalidOperation" = some (.ref c12)
  g13 : mg "ParseError" = some (.ref c13)
  g14 : mg "InvalidCount" = some (.ref c14)
  g15 : mg "UnknownName" = some (.ref c15)
  g16 : mg "NothingToUndo" = some (.ref c16)
  g17 : mg "TooMany" = some (.ref c17)
  g18 : mg "Refused" = some (.ref c18)
  x1 : PySem.W.excIn K c1 veT "ValueError.__new__" = true
  k1 : PySem.W.keepIn K (.ref c1) = true
  x2 : PySem.W.excIn K c2 veT "ValueError.__new__" = true
  k2 : PySem.W.keepIn K (.ref c2) = true
  x3 : PySem.W.excIn K c3 veT "ValueError.__new__" = true
  k3 : PySem.W.keepIn K (.ref c3) = true
  x4 : PySem.W.excIn K c4 veT "ValueError.__new__" = true
  k4 : PySem.W.keepIn K (.ref c4) = true
  x5 : PySem.W.excIn K c5 veT "ValueError.__new__" = true
  k5 : PySem.W.keepIn K (.ref c5) = true
  x6 : PySem.W.excIn K c6 veT "ValueError.__new__" = true
  k6 : PySem.W.keepIn K (.ref c6) = true
  x7 : PySem.W.excIn K c7 veT "ValueError.__new__" = true
  k7 : PySem.W.keepIn K (.ref c7) = true
  x8 : PySem.W.excIn K c8 veT "ValueError.__new__" = true
  k8 : PySem.W.keepIn K (.ref c8) = true
  x9 : PySem.W.excIn K c9 veT "ValueError.__new__" = true
  k9 : PySem.W.keepIn K (.ref c9) = true
  x10 : PySem.W.excIn K c10 veT "ValueError.__new__" = true
  k10 : PySem.W.keepIn K (.ref c10) = true
  x11 : PySem.W.excIn K c11 veT "ValueError.__new__" = true
  k11 : PySem.W.keepIn K (.ref c11) = true
  x12 : PySem.W.excIn K c12 veT "ValueError.__new__" = true
  k12 : PySem.W.keepIn K (.ref c12) = true
  b_ValueError : mg "ValueError" = none
  b_KeyError : mg "KeyError" = none
  b_IndexError : mg "IndexError" = none
  b_LookupError : mg "LookupError" = none
  b_RuntimeError : mg "RuntimeError" = none
  b_OverflowError : mg "OverflowError" = none
  b_ArithmeticError : mg "ArithmeticError" = none
  e13 : LowVIndex.ErrVIndex K mg "ValueError" "ValueError.__new__" veT "ParseError" "ParseError.__init__" c13 f13
  e14 : LowVValue.ErrVValue K mg "IndexError" "IndexError.__new__" [.type "IndexError", .type "LookupError", .type "Exception", .type "BaseException", .type "object"] "InvalidCount" "InvalidCount.__init__" c14 f14
  e15 : LowVName.ErrVName K mg "LookupError" "LookupError.__new__" [.type "KeyError", .type "LookupError", .type "Exception", .type "BaseException", .type "object"] "UnknownName" "UnknownName.__init__" c15 f15
  e16 : LowVWanted.ErrVWanted K mg "RuntimeError" "RuntimeError.__new__" [.type "RuntimeError", .type "Exception", .type "BaseException", .type "object"] "NothingToUndo" "NothingToUndo.__init__" c16 f16
  e17 : LowVLimit.ErrVLimit K mg "OverflowError" "OverflowError.__new__" [.type "OverflowError", .type "ArithmeticError", .type "Exception", .type "BaseException", .type "object"] "TooMany" "TooMany.__init__" c17 f17
  e18 : LowVReason.ErrVReason K mg "ArithmeticError" "ArithmeticError.__new__" [.type "ArithmeticError", .type "Exception", .type "BaseException", .type "object"] "Refused" "Refused.__init__" c18 f18
  hn : PySem.W.specialIn K (.builtin "object.__class__") "__get__" = some (some (.builtin "getset_descriptor.__get__"))
  ht : PySem.W.takesIn K (.builtin "object.__class__") = some true
  nd : ∀ i, i < 18 → ∀ j, j < 18 → [c1, c2, c3, c4, c5, c6, c7, c8, c9, c10, c11, c12, c13, c14, c15, c16, c17, c18].getD i 0 = [c1, c2, c3, c4, c5, c6, c7, c8, c9, c10, c11, c12, c13, c14, c15, c16, c17, c18].getD j 0 → i = j
  d20 : DefAt K mg "_law_dice" (top 20)
  d21 : DefAt K mg "_law_roll" (top 21)
  d22 : DefAt K mg "_law_pick" (top 22)
  d23 : DefAt K mg "_law_made_all" (top 23)
  d24 : DefAt K mg "_law_letters" (top 24)
  d25 : DefAt K mg "_law_kinds" (top 25)
  d26 : DefAt K mg "_law_all" (top 26)
  d27 : DefAt K mg "_law_kept" (top 27)
  d28 : DefAt K mg "_law_caught" (top 28)
  d29 : DefAt K mg "_law_right" (top 29)
  d30 : DefAt K mg "law" (top 30)
section
variable {K : PySem.W.Frag} {mg : Str → Option Value} {c1 c2 c3 c4 c5 c6 c7 c8 c9 c10 c11 c12 c13 c14 c15 c16 c17 c18 f13 f14 f15 f16 f17 f18 : Addr}
theorem Facts.row (F : Facts K mg c1 c2 c3 c4 c5 c6 c7 c8 c9 c10 c11 c12 c13 c14 c15 c16 c17 c18 f13 f14 f15 f16 f17 f18) : ∀ c, 1 ≤ c → c ≤ 18 → Row K (csOf [c1, c2, c3, c4, c5, c6, c7, c8, c9, c10, c11, c12, c13, c14, c15, c16, c17, c18] c) (tailOf c1 c) := fun c h1 h2 => by
  obtain rfl | rfl | rfl | rfl | rfl | rfl | rfl | rfl | rfl | rfl | rfl | rfl | rfl | rfl | rfl | rfl | rfl | rfl : c = 1 ∨ c = 2 ∨ c = 3 ∨ c = 4 ∨ c = 5 ∨ c = 6 ∨ c = 7 ∨ c = 8 ∨ c = 9 ∨ c = 10 ∨ c = 11 ∨ c = 12 ∨ c = 13 ∨ c = 14 ∨ c = 15 ∨ c = 16 ∨ c = 17 ∨ c = 18 := by omega
  · exact F.r1
  · exact F.r2
  · exact F.r3
  · exact F.r4
  · exact F.r5
  · exact F.r6
  · exact F.r7
  · exact F.r8
  · exact F.r9
  · exact F.r10
  · exact F.r11
  · exact F.r12
  · exact F.r13
  · exact F.r14
  · exact F.r15
  · exact F.r16
  · exact F.r17
  · exact F.r18
theorem Facts.inj (F : Facts K mg c1 c2 c3 c4 c5 c6 c7 c8 c9 c10 c11 c12 c13 c14 c15 c16 c17 c18 f13 f14 f15 f16 f17 f18) : ∀ c, 1 ≤ c → c ≤ 18 → ∀ j, 1 ≤ j → j ≤ 18 → (csOf [c1, c2, c3, c4, c5, c6, c7, c8, c9, c10, c11, c12, c13, c14, c15, c16, c17, c18] c = csOf [c1, c2, c3, c4, c5, c6, c7, c8, c9, c10, c11, c12, c13, c14, c15, c16, c17, c18] j ↔ c = j) := fun c h1 h2 j g1 g2 => by
  refine ⟨fun e => ?_, fun e => by rw [e]⟩
  have q := F.nd (c - 1) (by omega) (j - 1) (by omega) e
  omega
theorem Facts.has (F : Facts K mg c1 c2 c3 c4 c5 c6 c7 c8 c9 c10 c11 c12 c13 c14 c15 c16 c17 c18 f13 f14 f15 f16 f17 f18) : ∀ c, 1 ≤ c → c ≤ 18 → ∀ j, 1 ≤ j → j ≤ 18 → (Value.ref (csOf [c1, c2, c3, c4, c5, c6, c7, c8, c9, c10, c11, c12, c13, c14, c15, c16, c17, c18] c) :: tailOf c1 c).contains (.ref (csOf [c1, c2, c3, c4, c5, c6, c7, c8, c9, c10, c11, c12, c13, c14, c15, c16, c17, c18] j)) = subC c j := fun c h1 h2 j g1 g2 => by
  have e1 : c1 = csOf [c1, c2, c3, c4, c5, c6, c7, c8, c9, c10, c11, c12, c13, c14, c15, c16, c17, c18] 1 := rfl
  have i1 := F.inj c h1 h2 j g1 g2
  have i2 := F.inj 1 (by decide) (by decide) j g1 g2
  rw [← e1] at i2
  have key : ∀ l : List Value, (∀ v ∈ l, ∃ n, v = .type n) → l.contains (.ref (csOf [c1, c2, c3, c4, c5, c6, c7, c8, c9, c10, c11, c12, c13, c14, c15, c16, c17, c18] j)) = false := fun l hl => by
    rw [Bool.eq_false_iff]
    intro z
    obtain ⟨n, e⟩ := hl _ (List.contains_iff_mem.mp z)
    cases e
  have first : (Value.ref (csOf [c1, c2, c3, c4, c5, c6, c7, c8, c9, c10, c11, c12, c13, c14, c15, c16, c17, c18] j) == Value.ref (csOf [c1, c2, c3, c4, c5, c6, c7, c8, c9, c10, c11, c12, c13, c14, c15, c16, c17, c18] c)) = (c == j) := by
    rw [Bool.eq_iff_iff, beq_iff_eq, beq_iff_eq]
    exact ⟨fun z => i1.mp (Value.ref.inj z).symm, fun z => by rw [z]⟩
  have second : (Value.ref (csOf [c1, c2, c3, c4, c5, c6, c7, c8, c9, c10, c11, c12, c13, c14, c15, c16, c17, c18] j) == Value.ref c1) = (j == 1) := by
    rw [Bool.eq_iff_iff, beq_iff_eq, beq_iff_eq]
    exact ⟨fun z => (i2.mp (Value.ref.inj z).symm).symm, fun z => by rw [z]; rfl⟩
  rw [List.contains_cons, first]
  unfold subC tailOf
  by_cases a : c = 1
  · subst a
    rw [if_pos rfl, key veT (by simp [veT])]
    have q : ((1 : Nat) == j) = (j == 1) := by rw [Bool.eq_iff_iff, beq_iff_eq, beq_iff_eq]; exact eq_comm
    rw [q]
    cases (j == 1) <;> rfl
  rw [if_neg a]
  by_cases b : c ≤ 13
  · rw [if_pos b, List.contains_cons, second, key veT (by simp [veT]), decide_eq_true b, Bool.or_false, Bool.and_true]
  rw [if_neg b, decide_eq_false b, Bool.and_false]
  congr 1
  split
  · exact key _ (by simp)
  split
  · exact key _ (by simp)
  split
  · exact key _ (by simp)
  split
  · exact key _ (by simp)
  · exact key _ (by simp)
theorem Facts.hasT (F : Facts K mg c1 c2 c3 c4 c5 c6 c7 c8 c9 c10 c11 c12 c13 c14 c15 c16 c17 c18 f13 f14 f15 f16 f17 f18) : ∀ c, 1 ≤ c → c ≤ 18 → ∀ p ∈ subT, (Value.ref (csOf [c1, c2, c3, c4, c5, c6, c7, c8, c9, c10, c11, c12, c13, c14, c15, c16, c17, c18] c) :: tailOf c1 c).contains (.type p.1) = p.2 c := fun c h1 h2 p hp => by
  have skip : ∀ (a : Addr) (l : List Value) (n : String), (Value.ref a :: l).contains (.type n) = l.contains (.type n) := fun a l n => by
    rw [List.contains_cons]
    rfl
  have veq : ∀ n : String, (tailOf c1 c).contains (.type n) = (tailOf 0 c).contains (.type n) := fun n => by
    unfold tailOf
    split
    · rfl
    split
    · rw [skip, skip]
    rfl
  rw [skip, veq]
  have fin : ∀ c, c < 19 → ∀ p ∈ subT, 1 ≤ c → (tailOf 0 c).contains (.type p.1) = p.2 c := by decide +kernel
  exact fin c (by omega) p hp h1
end
theorem tail_base (p : Addr) (c : Nat) : (tailOf p c).contains (.type "BaseException") = true ∧ (tailOf p c).contains (.type "object") = true := by
  unfold tailOf
  split
  · exact ⟨by decide, by decide⟩
  split
  · exact ⟨by rw [List.contains_cons]; exact (Bool.or_true _), by rw [List.contains_cons]; exact (Bool.or_true _)⟩
  split
  · exact ⟨by decide, by decide⟩
  split
  · exact ⟨by decide, by decide⟩
  split
  · exact ⟨by decide, by decide⟩
  split
  · exact ⟨by decide, by decide⟩
  · exact ⟨by decide, by decide⟩
theorem final {K : PySem.W.Frag} {h : Heap} {mg : Str → Option Value} {c1 c2 c3 c4 c5 c6 c7 c8 c9 c10 c11 c12 c13 c14 c15 c16 c17 c18 f13 f14 f15 f16 f17 f18 fa : Addr} {P : Program} {w : World} (KX : K.In h) (G0 : h.Ns mainGlobals mg) (hmg : mg "law" = some (.ref fa)) (F : Facts K mg c1 c2 c3 c4 c5 c6 c7 c8 c9 c10 c11 c12 c13 c14 c15 c16 c17 c18 f13 f14 f15 f16 f17 f18) :
    ∃ fd : FuncData, (∀ (s : Shared) (u : Value), BindsTo s fd ⟨[u], []⟩ [("_law_script", u)]) ∧ ∀ base : Heap, K.In base → base.Ns mainGlobals mg → FnG P w K mg base CX0 9 fa fd ["_law_script"] (spLaw K) := by
  obtain ⟨f, fd, hm, D⟩ := F.d30.ex
  have ef : f = fa := by
    have := hm.symm.trans hmg
    cases this
    rfl
  subst ef
  refine ⟨fd, law_binds D, fun base _ _ => ?_⟩
  have T := F.T
  have G : Cls K mg (csOf [c1, c2, c3, c4, c5, c6, c7, c8, c9, c10, c11, c12, c13, c14, c15, c16, c17, c18]) :=
    { g_PieceError := F.g1
      g_InvalidNumber := F.g2
      g_InvalidOrder := F.g3
      g_InvalidExchange := F.g4
      g_InvalidLengths := F.g5
      g_InvalidPoint := F.g6
      g_InvalidCourse := F.g7
      g_InvalidReading := F.g8
      g_InvalidTrace := F.g9
      g_InvalidHeights := F.g10
      g_InvalidProgram := F.g11
      g_InvalidOperation := F.g12
      g_ParseError := F.g13
      g_InvalidCount := F.g14
      g_UnknownName := F.g15
      g_NothingToUndo := F.g16
      g_TooMany := F.g17
      g_Refused := F.g18
      x_PieceError := F.x1
      k_PieceError := F.k1
      x_InvalidNumber := F.x2
      k_InvalidNumber := F.k2
      x_InvalidOrder := F.x3
      k_InvalidOrder := F.k3
      x_InvalidExchange := F.x4
      k_InvalidExchange := F.k4
      x_InvalidLengths := F.x5
      k_InvalidLengths := F.k5
      x_InvalidPoint := F.x6
      k_InvalidPoint := F.k6
      x_InvalidCourse := F.x7
      k_InvalidCourse := F.k7
      x_InvalidReading := F.x8
      k_InvalidReading := F.k8
      x_InvalidTrace := F.x9
      k_InvalidTrace := F.k9
      x_InvalidHeights := F.x10
      k_InvalidHeights := F.k10
      x_InvalidProgram := F.x11
      k_InvalidProgram := F.k11
      x_InvalidOperation := F.x12
      k_InvalidOperation := F.k12
      b_ValueError := F.b_ValueError
      b_KeyError := F.b_KeyError
      b_IndexError := F.b_IndexError
      b_LookupError := F.b_LookupError
      b_RuntimeError := F.b_RuntimeError
      b_OverflowError := F.b_OverflowError
      b_ArithmeticError := F.b_ArithmeticError
      ty := fun c h1 h2 => (F.row c h1 h2).ty
      ec := fun c h1 h2 => (F.row c h1 h2).err (tail_base c1 c).1 (tail_base c1 c).2 F.hn F.ht
      ki := fun c h1 h2 j g1 g2 => by rw [(F.row c h1 h2).oneR (F.row j g1 g2), F.has c h1 h2 j g1 g2]
      kt := fun c h1 h2 p hp => by
        have m : ∀ p ∈ subT, PySem.W.kitMeta p.1 = true := by decide +kernel
        rw [(F.row c h1 h2).oneT (m p hp), F.hasT c h1 h2 p hp] }
  have ex : ∀ c, 1 ≤ c → c ≤ 18 → ∀ j, 1 ≤ j → j ≤ 18 → PySem.W.exmOne K (.ref (csOf [c1, c2, c3, c4, c5, c6, c7, c8, c9, c10, c11, c12, c13, c14, c15, c16, c17, c18] c)) (.ref (csOf [c1, c2, c3, c4, c5, c6, c7, c8, c9, c10, c11, c12, c13, c14, c15, c16, c17, c18] j)) = some (subC c j) := fun c h1 h2 j g1 g2 => by rw [(F.row c h1 h2).exm (F.row j g1 g2) (tail_base c1 j).1, F.has c h1 h2 j g1 g2]
  have C : Ctc K (csOf [c1, c2, c3, c4, c5, c6, c7, c8, c9, c10, c11, c12, c13, c14, c15, c16, c17, c18]) := ⟨ex 8 (by decide) (by decide) 1 (by decide) (by decide), ex 18 (by decide) (by decide) 1 (by decide) (by decide), ex 18 (by decide) (by decide) 18 (by decide) (by decide), ex 17 (by decide) (by decide) 1 (by decide) (by decide), ex 17 (by decide) (by decide) 18 (by decide) (by decide), ex 17 (by decide) (by decide) 17 (by decide) (by decide)⟩
  have E : Kpt K mg (csOf [c1, c2, c3, c4, c5, c6, c7, c8, c9, c10, c11, c12, c13, c14, c15, c16, c17, c18]) (fsOf [f13, f14, f15, f16, f17, f18]) := ⟨F.e13, F.e14, F.e15, F.e16, F.e17, F.e18⟩
  have a_dice := ok_dice (P := P) (w := w) (base := base) T F.d20
  have a_roll := ok_roll (P := P) (w := w) (base := base) T F.d21
  have a_pick := ok_pick T F.d22 a_roll
  have a_let := ok_lletters (P := P) (w := w) (base := base) T G F.d24
  have a_kin := ok_lkinds (P := P) (w := w) (base := base) T G F.d25
  have a_all := ok_lall F.d26 a_let a_kin
  have a_made := ok_lmade (P := P) (w := w) (base := base) T G F.d23
  have a_kept := ok_lkept T G E F.d27 a_all
  have a_hot := ok_letH (P := P) (w := w) (base := base) T G F.d24
  have a_cau := ok_lcaught T G E C F.d28 a_hot
  have a_right := ok_lright T G F.d29 a_all a_made a_kept a_cau
  exact ok_law T D a_dice a_pick a_right
end My
open PySem PySem.W PyProof.Rows
set_option maxHeartbeats 0 in
theorem PySem.Challenge.cw_pieceround_k01_errors_and_what_they_keep_holds : PySem.Challenge.rw_pieceround_k01_errors_and_what_they_keep.Holds := by
  w_on; o_law; k_head; (case hw => w_witness2)
  k_fill
  refine My.walkG (l := PySem.Challenge.rw_pieceround_k01_errors_and_what_they_keep) (n := 63) (k := 9) (x := "_law_script") (sp := fun K => My.spLaw K) rfl (by decide) rfl ⟨rfl, by decide, by decide⟩ (fun w h Y => PySem.W.kIn_of Y) ?F ?S
  case S => exact fun K H a ns hl hO hS => ⟨a, ns, rfl, hS, hl, fun _ => rfl⟩
  case F =>
    intro w mg fa h KX G hmg
    refine My.final (c1 := ?n1) (c2 := ?n2) (c3 := ?n3) (c4 := ?n4) (c5 := ?n5) (c6 := ?n6) (c7 := ?n7) (c8 := ?n8) (c9 := ?n9) (c10 := ?n10) (c11 := ?n11) (c12 := ?n12) (c13 := ?n13) (c14 := ?n14) (c15 := ?n15) (c16 := ?n16) (c17 := ?n17) (c18 := ?n18) (f13 := ?m13) (f14 := ?m14) (f15 := ?m15) (f16 := ?m16) (f17 := ?m17) (f18 := ?m18) KX G hmg ?FF
    case FF =>
      have T : My.Bn mg := by constructor <;> exact PySem.W.mg_none_of KX G (by k_is)
      refine { T := T, r1 := ?r1, r2 := ?r2, r3 := ?r3, r4 := ?r4, r5 := ?r5, r6 := ?r6, r7 := ?r7, r8 := ?r8, r9 := ?r9, r10 := ?r10, r11 := ?r11, r12 := ?r12, r13 := ?r13, r14 := ?r14, r15 := ?r15, r16 := ?r16, r17 := ?r17, r18 := ?r18, g1 := ?g1, g2 := ?g2, g3 := ?g3, g4 := ?g4, g5 := ?g5, g6 := ?g6, g7 := ?g7, g8 := ?g8, g9 := ?g9, g10 := ?g10, g11 := ?g11, g12 := ?g12, g13 := ?g13, g14 := ?g14, g15 := ?g15, g16 := ?g16, g17 := ?g17, g18 := ?g18, x1 := ?x1, k1 := ?k1, x2 := ?x2, k2 := ?k2, x3 := ?x3, k3 := ?k3, x4 := ?x4, k4 := ?k4, x5 := ?x5, k5 := ?k5, x6 := ?x6, k6 := ?k6, x7 := ?x7, k7 := ?k7, x8 := ?x8, k8 := ?k8, x9 := ?x9, k9 := ?k9, x10 := ?x10, k10 := ?k10, x11 := ?x11, k11 := ?k11, x12 := ?x12, k12 := ?k12, b_ValueError := ?b_ValueError, b_KeyError := ?b_KeyError, b_IndexError := ?b_IndexError, b_LookupError := ?b_LookupError, b_RuntimeError := ?b_RuntimeError, b_OverflowError := ?b_OverflowError, b_ArithmeticError := ?b_ArithmeticError, e13 := ?e13, e14 := ?e14, e15 := ?e15, e16 := ?e16, e17 := ?e17, e18 := ?e18, hn := ?hn, ht := ?ht, nd := ?nd, d20 := ?d20, d21 := ?d21, d22 := ?d22, d23 := ?d23, d24 := ?d24, d25 := ?d25, d26 := ?d26, d27 := ?d27, d28 := ?d28, d29 := ?d29, d30 := ?d30 }
      case g1 => (refine' My.g_mk (by assumption) (by assumption) ?qga; (case qga => k_is))
      case g2 => (refine' My.g_mk (by assumption) (by assumption) ?qga; (case qga => k_is))
      case g3 => (refine' My.g_mk (by assumption) (by assumption) ?qga; (case qga => k_is))
      case g4 => (refine' My.g_mk (by assumption) (by assumption) ?qga; (case qga => k_is))
      case g5 => (refine' My.g_mk (by assumption) (by assumption) ?qga; (case qga => k_is))
      case g6 => (refine' My.g_mk (by assumption) (by assumption) ?qga; (case qga => k_is))
      case g7 => (refine' My.g_mk (by assumption) (by assumption) ?qga; (case qga => k_is))
      case g8 => (refine' My.g_mk (by assumption) (by assumption) ?qga; (case qga => k_is))
      case g9 => (refine' My.g_mk (by assumption) (by assumption) ?qga; (case qga => k_is))
      case g10 => (refine' My.g_mk (by assumption) (by assumption) ?qga; (case qga => k_is))
      case g11 => (refine' My.g_mk (by assumption) (by assumption) ?qga; (case qga => k_is))
      case g12 => (refine' My.g_mk (by assumption) (by assumption) ?qga; (case qga => k_is))
      case g13 => (refine' My.g_mk (by assumption) (by assumption) ?qga; (case qga => k_is))
      case g14 => (refine' My.g_mk (by assumption) (by assumption) ?qga; (case qga => k_is))
      case g15 => (refine' My.g_mk (by assumption) (by assumption) ?qga; (case qga => k_is))
      case g16 => (refine' My.g_mk (by assumption) (by assumption) ?qga; (case qga => k_is))
      case g17 => (refine' My.g_mk (by assumption) (by assumption) ?qga; (case qga => k_is))
      case g18 => (refine' My.g_mk (by assumption) (by assumption) ?qga; (case qga => k_is))
      case r1 => (refine' My.row_mk ?qrl ?qrh ?qrm ?qrg ?qrk ?qra; (case qrl => k_is); (case qrh => exact rfl); (case qrm => exact rfl); (case qrg => k_is); (case qrk => k_is); (case qra => k_is))
      case r2 => (refine' My.row_mk ?qrl ?qrh ?qrm ?qrg ?qrk ?qra; (case qrl => k_is); (case qrh => exact rfl); (case qrm => exact rfl); (case qrg => k_is); (case qrk => k_is); (case qra => k_is))
      case r3 => (refine' My.row_mk ?qrl ?qrh ?qrm ?qrg ?qrk ?qra; (case qrl => k_is); (case qrh => exact rfl); (case qrm => exact rfl); (case qrg => k_is); (case qrk => k_is); (case qra => k_is))
      case r4 => (refine' My.row_mk ?qrl ?qrh ?qrm ?qrg ?qrk ?qra; (case qrl => k_is); (case qrh => exact rfl); (case qrm => exact rfl); (case qrg => k_is); (case qrk => k_is); (case qra => k_is))
      case r5 => (refine' My.row_mk ?qrl ?qrh ?qrm ?qrg ?qrk ?qra; (case qrl => k_is); (case qrh => exact rfl); (case qrm => exact rfl); (case qrg => k_is); (case qrk => k_is); (case qra => k_is))
      case r6 => (refine' My.row_mk ?qrl ?qrh ?qrm ?qrg ?qrk ?qra; (case qrl => k_is); (case qrh => exact rfl); (case qrm => exact rfl); (case qrg => k_is); (case qrk => k_is); (case qra => k_is))
      case r7 => (refine' My.row_mk ?qrl ?qrh ?qrm ?qrg ?qrk ?qra; (case qrl => k_is); (case qrh => exact rfl); (case qrm => exact rfl); (case qrg => k_is); (case qrk => k_is); (case qra => k_is))
      case r8 => (refine' My.row_mk ?qrl ?qrh ?qrm ?qrg ?qrk ?qra; (case qrl => k_is); (case qrh => exact rfl); (case qrm => exact rfl); (case qrg => k_is); (case qrk => k_is); (case qra => k_is))
      case r9 => (refine' My.row_mk ?qrl ?qrh ?qrm ?qrg ?qrk ?qra; (case qrl => k_is); (case qrh => exact rfl); (case qrm => exact rfl); (case qrg => k_is); (case qrk => k_is); (case qra => k_is))
      case r10 => (refine' My.row_mk ?qrl ?qrh ?qrm ?qrg ?qrk ?qra; (case qrl => k_is); (case qrh => exact rfl); (case qrm => exact rfl); (case qrg => k_is); (case qrk => k_is); (case qra => k_is))
      case r11 => (refine' My.row_mk ?qrl ?qrh ?qrm ?qrg ?qrk ?qra; (case qrl => k_is); (case qrh => exact rfl); (case qrm => exact rfl); (case qrg => k_is); (case qrk => k_is); (case qra => k_is))
      case r12 => (refine' My.row_mk ?qrl ?qrh ?qrm ?qrg ?qrk ?qra; (case qrl => k_is); (case qrh => exact rfl); (case qrm => exact rfl); (case qrg => k_is); (case qrk => k_is); (case qra => k_is))
      case r13 => (refine' My.row_mk ?qrl ?qrh ?qrm ?qrg ?qrk ?qra; (case qrl => k_is); (case qrh => exact rfl); (case qrm => exact rfl); (case qrg => k_is); (case qrk => k_is); (case qra => k_is))
      case r14 => (refine' My.row_mk ?qrl ?qrh ?qrm ?qrg ?qrk ?qra; (case qrl => k_is); (case qrh => exact rfl); (case qrm => exact rfl); (case qrg => k_is); (case qrk => k_is); (case qra => k_is))
      case r15 => (refine' My.row_mk ?qrl ?qrh ?qrm ?qrg ?qrk ?qra; (case qrl => k_is); (case qrh => exact rfl); (case qrm => exact rfl); (case qrg => k_is); (case qrk => k_is); (case qra => k_is))
      case r16 => (refine' My.row_mk ?qrl ?qrh ?qrm ?qrg ?qrk ?qra; (case qrl => k_is); (case qrh => exact rfl); (case qrm => exact rfl); (case qrg => k_is); (case qrk => k_is); (case qra => k_is))
      case r17 => (refine' My.row_mk ?qrl ?qrh ?qrm ?qrg ?qrk ?qra; (case qrl => k_is); (case qrh => exact rfl); (case qrm => exact rfl); (case qrg => k_is); (case qrk => k_is); (case qra => k_is))
      case r18 => (refine' My.row_mk ?qrl ?qrh ?qrm ?qrg ?qrk ?qra; (case qrl => k_is); (case qrh => exact rfl); (case qrm => exact rfl); (case qrg => k_is); (case qrk => k_is); (case qra => k_is))
      case x1 => k_exc
      case k1 => k_is
      case x2 => k_exc
      case k2 => k_is
      case x3 => k_exc
      case k3 => k_is
      case x4 => k_exc
      case k4 => k_is
      case x5 => k_exc
      case k5 => k_is
      case x6 => k_exc
      case k6 => k_is
      case x7 => k_exc
      case k7 => k_is
      case x8 => k_exc
      case k8 => k_is
      case x9 => k_exc
      case k9 => k_is
      case x10 => k_exc
      case k10 => k_is
      case x11 => k_exc
      case k11 => k_is
      case x12 => k_exc
      case k12 => k_is
      case b_ValueError => exact PySem.W.mg_none_of KX G (by k_is)
      case b_KeyError => exact PySem.W.mg_none_of KX G (by k_is)
      case b_IndexError => exact PySem.W.mg_none_of KX G (by k_is)
      case b_LookupError => exact PySem.W.mg_none_of KX G (by k_is)
      case b_RuntimeError => exact PySem.W.mg_none_of KX G (by k_is)
      case b_OverflowError => exact PySem.W.mg_none_of KX G (by k_is)
      case b_ArithmeticError => exact PySem.W.mg_none_of KX G (by k_is)
      case e13 => (refine' My.eIndex_mk (by assumption) (by assumption) ?qer ?qeb ?qeg ?qei ?qel ?qec ?qeC ?qeq ?qeo ?qet ?qes ?qen ?qef ?qek; (case qer => (refine' My.row_mk ?qrl ?qrh ?qrm ?qrg ?qrk ?qra; (case qrl => k_is); (case qrh => exact rfl); (case qrm => exact rfl); (case qrg => k_is); (case qrk => k_is); (case qra => k_is))); (case qeb => decide +kernel); (case qeg => k_is); (case qei => k_is); (case qel => k_is); (case qec => k_is); (case qeC => k_is); (case qeq => decide +kernel); (case qeo => decide +kernel); (case qet => k_is); (case qes => k_is); (case qen => k_is); (case qef => k_is); (case qek => k_is))
      case e14 => (refine' My.eValue_mk (by assumption) (by assumption) ?qer ?qeb ?qeg ?qei ?qel ?qec ?qeC ?qeq ?qeo ?qet ?qes ?qen ?qef ?qek; (case qer => (refine' My.row_mk ?qrl ?qrh ?qrm ?qrg ?qrk ?qra; (case qrl => k_is); (case qrh => exact rfl); (case qrm => exact rfl); (case qrg => k_is); (case qrk => k_is); (case qra => k_is))); (case qeb => decide +kernel); (case qeg => k_is); (case qei => k_is); (case qel => k_is); (case qec => k_is); (case qeC => k_is); (case qeq => decide +kernel); (case qeo => decide +kernel); (case qet => k_is); (case qes => k_is); (case qen => k_is); (case qef => k_is); (case qek => k_is))
      case e15 => (refine' My.eName_mk (by assumption) (by assumption) ?qer ?qeb ?qeg ?qei ?qel ?qec ?qeC ?qeq ?qeo ?qet ?qes ?qen ?qef ?qek; (case qer => (refine' My.row_mk ?qrl ?qrh ?qrm ?qrg ?qrk ?qra; (case qrl => k_is); (case qrh => exact rfl); (case qrm => exact rfl); (case qrg => k_is); (case qrk => k_is); (case qra => k_is))); (case qeb => decide +kernel); (case qeg => k_is); (case qei => k_is); (case qel => k_is); (case qec => k_is); (case qeC => k_is); (case qeq => decide +kernel); (case qeo => decide +kernel); (case qet => k_is); (case qes => k_is); (case qen => k_is); (case qef => k_is); (case qek => k_is))
      case e16 => (refine' My.eWanted_mk (by assumption) (by assumption) ?qer ?qeb ?qeg ?qei ?qel ?qec ?qeC ?qeq ?qeo ?qet ?qes ?qen ?qef ?qek; (case qer => (refine' My.row_mk ?qrl ?qrh ?qrm ?qrg ?qrk ?qra; (case qrl => k_is); (case qrh => exact rfl); (case qrm => exact rfl); (case qrg => k_is); (case qrk => k_is); (case qra => k_is))); (case qeb => decide +kernel); (case qeg => k_is); (case qei => k_is); (case qel => k_is); (case qec => k_is); (case qeC => k_is); (case qeq => decide +kernel); (case qeo => decide +kernel); (case qet => k_is); (case qes => k_is); (case qen => k_is); (case qef => k_is); (case qek => k_is))
      case e17 => (refine' My.eLimit_mk (by assumption) (by assumption) ?qer ?qeb ?qeg ?qei ?qel ?qec ?qeC ?qeq ?qeo ?qet ?qes ?qen ?qef ?qek; (case qer => (refine' My.row_mk ?qrl ?qrh ?qrm ?qrg ?qrk ?qra; (case qrl => k_is); (case qrh => exact rfl); (case qrm => exact rfl); (case qrg => k_is); (case qrk => k_is); (case qra => k_is))); (case qeb => decide +kernel); (case qeg => k_is); (case qei => k_is); (case qel => k_is); (case qec => k_is); (case qeC => k_is); (case qeq => decide +kernel); (case qeo => decide +kernel); (case qet => k_is); (case qes => k_is); (case qen => k_is); (case qef => k_is); (case qek => k_is))
      case e18 => (refine' My.eReason_mk (by assumption) (by assumption) ?qer ?qeb ?qeg ?qei ?qel ?qec ?qeC ?qeq ?qeo ?qet ?qes ?qen ?qef ?qek; (case qer => (refine' My.row_mk ?qrl ?qrh ?qrm ?qrg ?qrk ?qra; (case qrl => k_is); (case qrh => exact rfl); (case qrm => exact rfl); (case qrg => k_is); (case qrk => k_is); (case qra => k_is))); (case qeb => decide +kernel); (case qeg => k_is); (case qei => k_is); (case qel => k_is); (case qec => k_is); (case qeC => k_is); (case qeq => decide +kernel); (case qeo => decide +kernel); (case qet => k_is); (case qes => k_is); (case qen => k_is); (case qef => k_is); (case qek => k_is))
      case hn => k_is
      case ht => k_is
      case nd => decide +kernel
      case d20 => (refine' My.defAt_mk (by assumption) (by assumption) ?qda ?qdl ?qdc ?qdk; (case qda => k_is); (case qdl => k_is); (case qdc => k_is); (case qdk => k_is))
      case d21 => (refine' My.defAt_mk (by assumption) (by assumption) ?qda ?qdl ?qdc ?qdk; (case qda => k_is); (case qdl => k_is); (case qdc => k_is); (case qdk => k_is))
      case d22 => (refine' My.defAt_mk (by assumption) (by assumption) ?qda ?qdl ?qdc ?qdk; (case qda => k_is); (case qdl => k_is); (case qdc => k_is); (case qdk => k_is))
      case d23 => (refine' My.defAt_mk (by assumption) (by assumption) ?qda ?qdl ?qdc ?qdk; (case qda => k_is); (case qdl => k_is); (case qdc => k_is); (case qdk => k_is))
      case d24 => (refine' My.defAt_mk (by assumption) (by assumption) ?qda ?qdl ?qdc ?qdk; (case qda => k_is); (case qdl => k_is); (case qdc => k_is); (case qdk => k_is))
      case d25 => (refine' My.defAt_mk (by assumption) (by assumption) ?qda ?qdl ?qdc ?qdk; (case qda => k_is); (case qdl => k_is); (case qdc => k_is); (case qdk => k_is))
      case d26 => (refine' My.defAt_mk (by assumption) (by assumption) ?qda ?qdl ?qdc ?qdk; (case qda => k_is); (case qdl => k_is); (case qdc => k_is); (case qdk => k_is))
      case d27 => (refine' My.defAt_mk (by assumption) (by assumption) ?qda ?qdl ?qdc ?qdk; (case qda => k_is); (case qdl => k_is); (case qdc => k_is); (case qdk => k_is))
      case d28 => (refine' My.defAt_mk (by assumption) (by assumption) ?qda ?qdl ?qdc ?qdk; (case qda => k_is); (case qdl => k_is); (case qdc => k_is); (case qdk => k_is))
      case d29 => (refine' My.defAt_mk (by assumption) (by assumption) ?qda ?qdl ?qdc ?qdk; (case qda => k_is); (case qdl => k_is); (case qdc => k_is); (case qdk => k_is))
      case d30 => (refine' My.defAt_mk (by assumption) (by assumption) ?qda ?qdl ?qdc ?qdk; (case qda => k_is); (case qdl => k_is); (case qdc => k_is); (case qdk => k_is))
