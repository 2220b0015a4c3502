import PyProof.Rows.All
import Wide.All
import OpenK.AllK
import Wide.FinOn
import HandS.ForMost
import HandS.Wide
import HandS.Gcd
import HandS.Property
import HandS.MakeKwOnly
import HandS.IsInst
import HandS.OwnEq
import HandS.Evl
import KE.KOpsOwn
import KE.KMathG
import PyProof.InstNe
import PyProof.ReprRoads
import HandS.Lambda
import HandS.WideBits
import PyProof.Rows.PlainNe
import HandS.RaiseMore
import HandS.TryMany
import HandS.ExcField
import HandS.ExcInit
import KE.KExcInit
import HandS.ExcOwn
import HandS.WordsExc
import HandS.TryOnly
import HandS.EndTab
import KE.KNestM
import HandS.Walk
import HandS.Iter
import HandS.Codes
import HandS.Dict
import PyProof.CallFns
import HandS.Text
import HandS.TupMul
import HandS.Style
import HandS.EndBits
import PySem.Challenge.RW_pieceround_k00_words
set_option Elab.async false
set_option exponentiation.threshold 20000
set_option linter.all false
set_option maxHeartbeats 4000000
set_option maxRecDepth 100000
namespace My
open PySem PySem.Spec PyProof.Rows L2

theorem cmpBack_of {P : Value → Shared → Prop} {z : V} {w : Value} {s : Shared} (r : RelV z w) (h : P w s) : PySem.W.CmpBack P w s := by
  cases z with
  | non => cases r; exact h
  | bl _ => cases r; exact h
  | int _ => obtain ⟨t, rfl⟩ := r; exact h
  | str _ => obtain ⟨t, rfl⟩ := r; exact h
  | byt _ => obtain ⟨t, rfl⟩ := r; exact h
  | flt _ => obtain ⟨t, rfl⟩ := r; exact h
  | ref _ => cases r; exact h
  | ty _ => cases r; exact h

/-- the class at C has the def at f as its operator -/
structure OwnOp (K : PySem.W.Frag) (C : Addr) (op : Operator) (f : Addr) : Prop where
  sf : PySem.W.selfFirst K C = true
  at_ : PySem.W.findIn K (.ref C) (PySem.dunder op.info.2) = some (some (.ref f))
  fn : PySem.W.isFn K (.ref f) = true
  rr : PySem.W.findIn K (.ref C) (dunderR op.info.2) = some none
  i1 : ∃ fo, PySem.W.findIn K (.type "int") (PySem.dunder op.info.2) = some fo
  i2 : ∃ ro, PySem.W.findIn K (.type "int") (dunderR op.info.2) = some ro
  sub : PySem.W.subIn K (.type "int") (.ref C) = some false

/-- x op y, x an instance, y an instance or an int -/
def rOwn (C : Addr) (sp : Sp) (E : XK) : R2 := fun x y H Q => ∃ a dx fs, x = .ref a ∧ H a = some (.ins C dx fs) ∧ ((∃ i, y = .int i) ∨ ∃ b dy gs, y = .ref b ∧ H b = some (.ins C dy gs)) ∧ sp [.ref a, y] H Q E

section
variable {X : Cx} {CX : CXT} {k : Nat} {f C : Addr} {fd : FuncData} {ps : List Str} {sp : Sp} {E : XK} {op : Operator}
theorem op_own (W : OwnOp X.K C op f) (F : FnOk X.prog X.w X.K X.mg X.base CX k f fd ps sp) (hr : Room k X.A) (hb : Binds X.K fd ps []) (hx : Passes CX X E) : OpR X (binaryOp op) (rOwn C sp E) := by
  intro pins s σ H x y v u Q I rx ry hq
  obtain ⟨a, dx, fs, rfl, ea, hy, hsp⟩ := hq
  cases rx
  obtain ⟨mA, O, _⟩ := ins_get I.hok ea
  obtain ⟨od, J, _⟩ := O.look
  obtain ⟨m, hF⟩ := I.fr
  have hcall : wpAny (model X.prog X.w) X.A (call (.ref f) [.ref a, u]) (PySem.W.CmpBack (EP X pins σ Q)) X.xe s := by
    refine wpAny_mono (run_fn (us := [.ref a, u]) (vs := [.ref a, y]) (dvs := []) (ds := []) F hr hb .nil hx I (.cons rfl (.cons ry .nil)) hsp) (fun w s' hw => ?_) fun _ _ e => e
    obtain ⟨z, H', I', rz, q⟩ := hw
    exact cmpBack_of rz ⟨z, H', I', rz, q⟩
  rcases hy with ⟨i, rfl⟩ | ⟨b, dy, gs, rfl, eb⟩
  · obtain ⟨t, rfl⟩ := ry
    obtain ⟨fo, h1⟩ := W.i1
    obtain ⟨ro, h2⟩ := W.i2
    exact PySem.W.ksp_binT (T := "int") hF I.ok.mod.kin J (by rfl) W.sf W.at_ W.fn W.rr (.inl rfl) h1 h2 W.sub hcall
  · cases ry
    obtain ⟨mB, O', _⟩ := ins_get I.hok eb
    obtain ⟨od', J', _⟩ := O'.look
    exact PySem.W.binop_K hF I.ok.mod.kin J J'.type W.sf W.at_ W.fn hcall

/-- -x -/
def rOwnU (C : Addr) (sp : Sp) (E : XK) : V → Hp → VK → Prop := fun x H Q => ∃ a dx fs, x = .ref a ∧ H a = some (.ins C dx fs) ∧ sp [.ref a] H Q E
theorem un_ownNeg (hs : PySem.W.findIn X.K (.ref C) "__neg__" = some (some (.ref f))) (hf : PySem.W.isFn X.K (.ref f) = true) (F : FnOk X.prog X.w X.K X.mg X.base CX k f fd ps sp) (hr : Room k X.A) (hb : Binds X.K fd ps []) (hx : Passes CX X E) : UnR X (unaryOp .USub) (rOwnU C sp E) := by
  intro pins s σ H x v Q I rx hq
  obtain ⟨a, dx, fs, rfl, ea, hsp⟩ := hq
  cases rx
  obtain ⟨mA, O, _⟩ := ins_get I.hok ea
  obtain ⟨od, J, _⟩ := O.look
  obtain ⟨m, hF⟩ := I.fr
  exact PySem.W.ksp_neg hF I.ok.mod.kin J hs hf (run_fn (us := [.ref a]) (vs := [.ref a]) (dvs := []) (ds := []) F hr hb .nil hx I (.cons rfl .nil) hsp)

/-- x == y of two instances, by the class's own def, whatever the answer -/
def rOwnEq (C : Addr) (sp : Sp) (E : XK) : R2 := fun x y H Q => ∃ a dx fs b dy gs, x = .ref a ∧ H a = some (.ins C dx fs) ∧ y = .ref b ∧ H b = some (.ins C dy gs) ∧ sp [.ref a, .ref b] H Q E
theorem op_ownEq (hs : PySem.W.findIn X.K (.ref C) "__eq__" = some (some (.ref f))) (hf : PySem.W.isFn X.K (.ref f) = true) (F : FnOk X.prog X.w X.K X.mg X.base CX k f fd ps sp) (hr : Room k X.A) (hb : Binds X.K fd ps []) (hx : Passes CX X E) : OpR X (compareOp .Eq) (rOwnEq C sp E) := by
  intro pins s σ H x y v u Q I rx ry hq
  obtain ⟨a, dx, fs, b, dy, gs, rfl, ea, rfl, eb, hsp⟩ := hq
  cases rx
  cases ry
  obtain ⟨mA, O, _⟩ := ins_get I.hok ea
  obtain ⟨od, J, _⟩ := O.look
  obtain ⟨mB, O', _⟩ := ins_get I.hok eb
  obtain ⟨od', J', _⟩ := O'.look
  obtain ⟨m, hF⟩ := I.fr
  show wpAny (model X.prog X.w) X.A (richCompare .Eq (.ref a) (.ref b)) (EP X pins σ Q) X.xe s
  refine PySem.W.cmp_K (op := .Eq) (tb := .ref C) hr.units0 hF I.ok.mod.kin J J'.type (by simp [PySem.W.notFirst]) hs hf ?_
  refine wpAny_mono (run_fn (us := [.ref a, .ref b]) (vs := [.ref a, .ref b]) (dvs := []) (ds := []) F hr hb .nil hx I (.cons rfl (.cons rfl .nil)) hsp) (fun w s' hw => ?_) fun _ _ e => e
  obtain ⟨z, H', I', rz, q⟩ := hw
  exact cmpBack_of rz ⟨z, H', I', rz, q⟩
end

/-! ### math -/
theorem args_gcd3 (a b c : Value) : argsOk "math.gcd" ⟨[a, b, c], []⟩ := by unfold argsOk; kernel_rfl
theorem run_gcd3 (a : Int) (t : Tok) (b : Int) (u : Tok) (c : Int) (w : Tok) :
    Gives (Builtin.«math.gcd» ⟨[.int a t, .int b u, .int c w], []⟩) (.int ((((((Nat.gcd 0 a.natAbs).gcd b.natAbs).gcd c.natAbs) : Nat) : Int))) :=
  .of_wp fun M A E s Q h => by obtain ⟨hp, g, d, tk, os⟩ := s; wp_walk; exact ⟨_, rfl, h⟩
def rGcd3 : List V → Hp → VK → Prop := fun vs H Q => ∃ a b c : Int, vs = [.int a, .int b, .int c] ∧ Q (.int ((Nat.gcd (Nat.gcd a.natAbs b.natAbs) c.natAbs : Nat) : Int)) H
def rSqrt : List V → Hp → VK → Prop := fun vs H Q => ∃ a : Int, vs = [.int a] ∧ 0 ≤ a ∧ a.toNat < 2 ^ 13000 ∧ Q (.int ((Float64.isqrt a.toNat : Nat) : Int)) H
section
variable {X : Cx}
theorem cr_gcd3 : CallR X (.builtin "math.gcd") rGcd3 := by
  intro pins s σ H vs us Q I r h
  obtain ⟨a, b, c, rfl, q⟩ := h
  cases r with
  | cons r1 r => cases r with
    | cons r2 r => cases r with
      | cons r3 r =>
        cases r
        obtain ⟨t1, rfl⟩ := r1
        obtain ⟨t2, rfl⟩ := r2
        obtain ⟨t3, rfl⟩ := r3
        have g := run_gcd3 a t1 b t2 c t3
        rw [Nat.gcd_zero_left] at g
        exact call_function_meets PySem.W.MGF.kind_gcd PySem.W.MGF.plain_gcd PySem.W.MGF.entry_gcd (args_gcd3 _ _ _) g.meets ⟨.int _, H, I.tok _, ⟨_, rfl⟩, q⟩
theorem cr_isqrt : CallR X (.builtin "math.isqrt") rSqrt := by
  intro pins s σ H vs us Q I r h
  obtain ⟨a, rfl, h0, h1, q⟩ := h
  cases r with
  | cons r1 r =>
    cases r
    obtain ⟨t1, rfl⟩ := r1
    have hl : a.toNat.log2 < 13000 := PySem.Flt.log2_lt_of (by decide) h1
    have g := PySem.W.mg_run_isqrt a t1 (by omega) (by omega) (by omega)
    exact call_function_meets PySem.W.MGF.kind_isqrt PySem.W.MGF.plain_isqrt PySem.W.MGF.entry_isqrt (PySem.W.MGF.args_isqrt _) g.meets ⟨.int _, H, I.tok _, ⟨_, rfl⟩, q⟩
end

/-! ### repr of data -/
section
variable {X : Cx}
def rRepr (K : PySem.W.Frag) : List V → Hp → VK → Prop := fun vs H Q => ∃ v d, vs = [v] ∧ (∃ a, v = .ref a) ∧ Dp K H v d ∧ d.showable = true ∧ d.hasDict = false ∧ d.depth < 20 ∧ d.shown.length ≤ sizeLine ∧ Q (.str d.shown) H
theorem cr_repr {k : Nat} (hr : Room k X.A) (hg : X.A.guards = some []) : CallR X (.builtin "repr") (rRepr X.K) := by
  intro pins s σ H vs us Q I r h
  obtain ⟨v, d, rfl, ⟨a, rfl⟩, hd, hs, hn, hdp, hz, q⟩ := h
  cases r with
  | cons r1 r =>
    cases r
    cases r1
    obtain ⟨as, hrd⟩ := Dp.reads I d (.ref a) (.ref a) hd rfl
    refine repr_of_reads' hrd hs (fun z => by rw [hn] at z; cases z) hg (by have := hr.un; omega) (fun _ _ e => e) (fun h' u tk hk => ?_) hz
    exact ⟨.str d.shown, H, I.kept hk, ⟨_, rfl⟩, q⟩
end
end My
namespace My
open PySem PySem.Spec PyProof.Rows L2

/-! ### a def's promise where no builtin's repr is under way -/
structure FnG (P : Program) (w : World) (K : PySem.W.Frag) (mg : Str → Option Value) (base : Heap) (CX : CXT) (k : Nat) (f : Addr) (fd : FuncData) (ps : List Str) (sp : Sp) : Prop where
  size : ∀ vs H Q E, sp vs H Q E → vs.length = ps.length
  go : ∀ (A : Around) (outer : List Env) (s : Shared) (H : Hp) (args : Args) (us : List Value) (vs : List V) (Q : VK) (E : XK), A.guards = some [] → Room k A → Env0 P w K mg base A outer s H → BindsTo s fd args (ps.zip us) → Vals vs us → sp vs H Q E →
    codeAny (model P w) A (.call (.ref f) args) (CR CX outer P w H s Q E) s
theorem FnG.mono {P : Program} {w : World} {K : PySem.W.Frag} {mg : Str → Option Value} {base : Heap} {CX : CXT} {j k : Nat} {f : Addr} {fd : FuncData} {ps : List Str} {sp : Sp} (F : FnG P w K mg base CX j f fd ps sp) (h : j ≤ k) : FnG P w K mg base CX k f fd ps sp :=
  ⟨F.size, fun A outer s H args us vs Q E g hr => F.go A outer s H args us vs Q E g (hr.mono h)⟩
section
variable {P : Program} {w : World} {K : PySem.W.Frag} {mg : Str → Option Value} {base : Heap}
theorem okG {x qual : Str} {st : Stmt} {f : Addr} {fd : FuncData} {N ps : List Str} {k : Nat} {sp : Sp} (F : Fun K x qual st f fd) (S : FnScope N ps (defScope st)) (len : ∀ vs H Q E, sp vs H Q E → vs.length = ps.length)
    (hbody : ∀ (cdv : Value) (A : Around) (outer : List Env) (s : Shared) (H : Hp) (vs : List V) (Q : VK) (E : XK), (A.deeper (envOfC qual (defScope st) s.heap.objs.size f cdv)).guards = some [] → Room k (A.deeper (envOfC qual (defScope st) s.heap.objs.size f cdv)) → sp vs H Q E →
      ∃ t, PSs (cxOf CX0 P w K mg base N qual (defScope st) f cdv A outer s H E).nox (defBody st) t ∧ t { nx := fun _ H' => Q .non H', rt := Q } (start N vs) H) : FnG P w K mg base CX0 (k + 1) f fd ps sp := by
  obtain ⟨oc, od, kV, doc, pm, an, cdv, ct, osl, e1, lk, hcd⟩ := F.ex
  subst e1
  refine ⟨len, fun A outer s H args us vs Q E g hr e0 hb r hsp => LamX.run_ofS lk hcd S hr e0 hb r (len _ _ _ _ hsp) fun hr' => ?_⟩
  obtain ⟨t, h, q⟩ := hbody cdv A outer s H vs Q E g hr' hsp
  exact ⟨t, h.nox, q⟩
end
section
variable {X : Cx} {CX : CXT} {k : Nat} {f : Addr} {fd : FuncData} {ps : List Str} {sp : Sp} {E : XK} {x : Str} {p pos : Pos} {e : Expr} {es : List Expr} {t : TA}
theorem callG (F : FnG X.prog X.w X.K X.mg X.base CX k f fd ps sp) (g : X.A.guards = some []) (hr : Room k X.A) (hg : Gl X x) (hm : X.mg x = some (.ref f)) (hk : PySem.W.keepIn X.K (.ref f) = true) (hb : Binds X.K fd ps []) (hx : Passes CX X E)
    (ha : PA X (e :: es) t) (hdb : (x == ("__debug__" : Str)) = false := by decide) (he : starEach (e :: es) X.env = (false, eval e X.env) :: starEach es X.env := by rfl) (hpl : (backTo pos (starEach es X.env)).any (·.1) = false := by rfl) :
    PE X (.Call (.Name x p) (e :: es) [] pos) (tCall sp [] E t) := by
  refine ⟨fun pins s σ H Q I h => wpAny_Call_Name_kw (ld_glob I hg hm (PySem.W.callWith_K (h₀ := X.base) I.ok.mod.kin hk (thn (ha.run pos pins s σ H _ I h) fun us s1 hh => ?_) he hpl) hdb)⟩
  obtain ⟨vs, H1, I1, r, q⟩ := hh
  refine ⟨I1.kIn, ?_⟩
  have q0 : sp vs H1 Q E := by
    have z := q
    rw [List.append_nil] at z
    exact z
  have hl : us.length = ps.length := by rw [← r.length]; exact F.size _ _ _ _ q0
  have bd : BindsTo s1 fd ⟨us, []⟩ (ps.zip us) := by
    have z := hb s1 us I1.kIn (by rw [List.append_nil]; exact hl)
    rw [List.append_nil] at z
    exact z
  refine wpAny_call (codeAny_mono (F.go X.A X.stack s1 H1 ⟨us, []⟩ us vs Q E g hr I1.env0 bd r q0) fun r2 s2 hq => ?_)
  match r2, hq with
  | .error er, hq => exact hx pins σ H1 s1 er s2 I1 hq
  | .ok (.ret u), hq => exact I1.after hq
end
/-- the law's own head, from such a promise -/
theorem lawG {P : Program} {w : World} {K : PySem.W.Frag} {mg mb : Str → Option Value} {k : Nat} {fa a : Addr} {fd : FuncData} {x : Str} {sp : Sp} {z : Shared} {vs : List Value} {ns : List Int}
    (KX : K.In z.heap) (hns : z.heap.Ns mainGlobals mg) (hb : z.heap.Ns builtinsNs mb) (hbb : ∀ x : Str, x ≠ "__name__" → mb x = bootBuiltins x) (hlim : z.heap.NoLimit) (hg : z.gens = #[])
    (ha : z.heap.get? a = some { cls := .type "list", data := .seq vs.toArray }) (hi : IntsAre vs ns) (hl : ns.length ≤ sizeLine) (hr : Room k callerA)
    (F : ∀ base : Heap, K.In base → base.Ns mainGlobals mg → FnG P w K mg base CX0 k fa fd [x] sp) (hbind : ∀ (s : Shared) (u : Value), BindsTo s fd ⟨[u], []⟩ [(x, u)])
    (hsp : ∀ H : Hp, Only H → SqL K H a (ns.map V.int) → sp [.ref a] H (fun v _ => v = .bl true) fun _ _ _ => False) :
    codeAny (model P w) callerA (.call (.ref fa) ⟨[.ref a], []⟩) (fun r s' => r = .ok (.ret (.bool true)) ∧ OldK z.heap s'.heap ∧ s'.os = z.os ∧ AllBare s'.gens) z := by
  have run : ∀ H : Hp, Only H → SqL K H a (ns.map V.int) → HOk P w H z.heap → (∀ b, H b ≠ none → b = a ∧ K.lookup a = none) →
      codeAny (model P w) callerA (.call (.ref fa) ⟨[.ref a], []⟩) (fun r s' => r = .ok (.ret (.bool true)) ∧ OldK z.heap s'.heap ∧ s'.os = z.os ∧ AllBare s'.gens) z := by
    intro H hO hS hok hA
    have free : ∀ {b : Addr}, b ≠ a → H b = none := fun {b} hb => Classical.byContradiction fun q => hb (hA b q).1
    have nsOk : ∀ {b : Addr} {m : Str → Option Value}, z.heap.Ns b m → (hidT z.heap H).Ns b m := fun {b m} hn => by
      obtain ⟨o, es, ep, e, d, r⟩ := hn
      refine ⟨o, es, ep, hidT_get e (free fun q => ?_), d, r⟩
      rw [q, ha] at e
      have d2 : Data.seq vs.toArray = Data.dict es ep := by
        rw [← d, ← Option.some.inj e]
      cases d2
    have kin : K.In (hidT z.heap H) := fun b o e => hidT_get (KX b o e) (Classical.byContradiction fun q => by
      obtain ⟨e1, e2⟩ := hA b q
      rw [e1, e2] at e
      cases e)
    have md : Mod K mg (hidT z.heap H) := ⟨kin, nsOk hns, ⟨mb, nsOk hb, hbb⟩, let ⟨mc, h1, h2⟩ := hlim; ⟨mc, nsOk h1, h2⟩⟩
    have en : Env0 P w K mg (hidT z.heap H) callerA [] z H := ⟨rfl, md, fun b o e => of_hidT e, Nat.le_of_eq (hidT_size _ _), trivial, fun b hb => absurd hb List.not_mem_nil, hok, .of_eq hg⟩
    have fin := (F _ kin (nsOk hns)).go callerA [] z H ⟨[.ref a], []⟩ [.ref a] [.ref a] _ _ rfl hr en (hbind z (.ref a)) (.cons rfl .nil) (hsp H hO hS)
    refine codeAny_mono fin fun r s' h => ?_
    match r, h with
    | .error e, h => exact absurd h id
    | .ok (.ret u), h =>
      obtain ⟨v, H', os, bare, un, hok', r', q⟩ := h
      have q' : v = .bl true := q
      rw [q'] at r'
      have ru : u = Value.bool true := r'
      refine ⟨by rw [ru], OldK.of_keep fun b o e => ?_, os, bare⟩
      rcases hO b with y | ⟨ob, xs, y⟩
      · exact un.keep b o e y List.not_mem_nil List.not_mem_nil
      · obtain ⟨e2, _⟩ := hok' b _ (un.frzs b ob _ y)
        obtain ⟨e1, _⟩ := hok b _ y
        rw [e] at e1
        rw [Option.some.inj e1]
        exact e2
  have rv := vals_ints hi
  by_cases hk : K.lookup a = none
  · refine run (fun b => if b = a then some (.frz { cls := .type "list", data := .seq vs.toArray } (.lst (ns.map V.int))) else none) (fun b => ?_) (.inl (.inr ⟨_, if_pos rfl⟩)) (fun b u y => ?_) fun b y => ?_
    · by_cases hb : b = a
      · exact .inr ⟨_, _, if_pos hb⟩
      · exact .inl (if_neg hb)
    · by_cases q : b = a
      · rw [q] at y ⊢
        have y2 := (if_pos rfl).symm.trans y
        rw [← Option.some.inj y2]
        exact ⟨ha, by rw [List.length_map]; exact hl, vs, _, rv, ha⟩
      · cases (if_neg q).symm.trans y
    · by_cases q : b = a
      · exact ⟨q, hk⟩
      · exact absurd (if_neg q) y
  · obtain ⟨o, ho⟩ := Option.ne_none_iff_exists'.mp hk
    have e := KX a o ho
    rw [ha] at e
    cases e
    exact run (fun _ => none) (fun _ => .inl rfl) (.inr ⟨_, vs.toArray, _, ho, rfl, rfl, rfl, by rw [List.size_toArray, hi.length]; exact hl, by simpa using rv⟩) (fun b u y => nomatch y) fun b y => absurd rfl y
theorem walkG {l : PySem.W.OpenLaw} {n k : Nat} {q : Program} {loose : List Str} {XP : (Str → Option Value) → Heap → Prop} {YP : World → Heap → Prop} {d : DefRec} {K : Params → PySem.W.Frag} {sp : PySem.W.Frag → Sp} {x : Str}
    (hn : l.most = some n) (hn2 : n ≤ sizeLine) (hdf : d.params.defaults = []) (hr : Room k callerA)
    (hY : ∀ (w : World) (h : Heap), YP w h → (K w.params).In h)
    (F : ∀ (w : World) (mg : Str → Option Value) (fa : Addr) (h : Heap), (K w.params).In h → h.Ns mainGlobals mg → mg d.name = some (.ref fa) →
      ∃ fd : FuncData, (∀ (s : Shared) (u : Value), BindsTo s fd ⟨[u], []⟩ [(x, u)]) ∧ ∀ base : Heap, (K w.params).In base → base.Ns mainGlobals mg → FnG l.prog w (K w.params) mg base CX0 k fa fd [x] (sp (K w.params)))
    (hsp : ∀ (K : PySem.W.Frag) (H : Hp) (a : Addr) (ns : List Int), ns.length ≤ n → Only H → SqL K H a (ns.map V.int) → sp K [.ref a] H (fun v _ => v = .bl true) fun _ _ _ => False) :
    PySem.W.WalkO q loose XP YP l.row.toRowW d [] (fun f vs => PySem.call f vs) := by
  refine Att.attach_call hn hdf fun w s₀ z mg mb fa o pm cd doc a vs ns G Y ho hd hcd hmg hobj hints hlen hg => ?_
  have KX := hY w _ Y
  have ⟨fd, hb, hF⟩ := F w mg fa _ KX G.T.g hmg
  exact lawG KX G.T.g G.T.b G.T.builtins G.T.nolimit hg hobj hints (Nat.le_trans hlen hn2) hr hF hb fun H hO hS => hsp (K w.params) H a ns hlen hO hS

/-! ### a list of three ints that is told by its kind alone: the dice -/
def DiceO (a : Addr) : HO := .ext fun h => ∃ (l s c : Int) (t1 t2 t3 : Tok) (n : Nat), h.get? a = some { cls := .type "list", data := .seq #[.int l t1, .int s t2, .int c t3] n }
def d3 (l s c : Int) : HO := .lst [.int l, .int s, .int c]
section
variable {X : Cx} {pins : List (Addr × Obj)} {σ : L2.St} {H : Hp} {s : Shared} {a : Addr} {o : HO}
theorem recast (I : Inv X pins σ H s) (hm : Mut (H a)) (ex : ∃ u, s.heap.get? a = some u) (new : ObjOk X.prog X.w (upd H a o) s.heap a o) : Inv X pins σ (upd H a o) s := by
  obtain ⟨hp, g, d, t, os⟩ := s
  exact I.write (h' := hp) (t' := t) (x := a) (e := a) hm (.inl rfl) (fun _ _ _ e => e) ex new
theorem dice_ok {P : Program} {w : World} {H : Hp} {h : Heap} {l s c : Int} {t1 t2 t3 : Tok} {n : Nat} (e : h.get? a = some { cls := .type "list", data := .seq #[.int l t1, .int s t2, .int c t3] n }) : ObjOk P w H h a (DiceO a) :=
  ⟨⟨l, s, c, t1, t2, t3, n, e⟩, ⟨_, e⟩, fun h1 h2 ⟨l, s, c, t1, t2, t3, n, q⟩ k => ⟨l, s, c, t1, t2, t3, n, k _ q⟩⟩
theorem dice_open (I : Inv X pins σ H s) (e : H a = some (DiceO a)) : ∃ l z c, Inv X pins σ (upd H a (d3 l z c)) s := by
  have x : ObjOk X.prog X.w H s.heap a (.ext fun h => ∃ (l s c : Int) (t1 t2 t3 : Tok) (n : Nat), h.get? a = some { cls := .type "list", data := .seq #[.int l t1, .int s t2, .int c t3] n }) := I.hok a _ e
  obtain ⟨l, z, c, t1, t2, t3, n, q⟩ := x.1
  exact ⟨l, z, c, recast I (by rw [e]; exact True.intro) ⟨_, q⟩ ⟨by show 3 ≤ sizeLine; decide, [.int l t1, .int z t2, .int c t3], n, .cons ⟨_, rfl⟩ (.cons ⟨_, rfl⟩ (.cons ⟨_, rfl⟩ .nil)), q⟩⟩
theorem dice_close {l z c : Int} (I : Inv X pins σ H s) (e : H a = some (d3 l z c)) : Inv X pins σ (upd H a (DiceO a)) s := by
  obtain ⟨_, its, n, r, q⟩ := (show ObjOk X.prog X.w H s.heap a (.lst [.int l, .int z, .int c]) from I.hok a _ e)
  refine recast I (by rw [e]; exact True.intro) ⟨_, q⟩ ?_
  cases r with
  | cons r1 r => cases r with
    | cons r2 r => cases r with
      | cons r3 r =>
        cases r
        obtain ⟨t1, rfl⟩ := r1
        obtain ⟨t2, rfl⟩ := r2
        obtain ⟨t3, rfl⟩ := r3
        exact dice_ok q
end
/-- the body may see the dice (the slot i) as a list; it leaves them as dice -/
def tDice (i : Nat) (t : TS) : TS := fun D σ H => ∃ a, σ[i]? = some (some (.ref a)) ∧ H a = some (DiceO a) ∧ ∀ l z c, t
  { nx := fun σ' H' => (∃ l z c, H' a = some (d3 l z c)) ∧ D.nx σ' (upd H' a (DiceO a)), rt := fun v H' => (∃ l z c, H' a = some (d3 l z c)) ∧ D.rt v (upd H' a (DiceO a)),
    bk := fun σ' H' => (∃ l z c, H' a = some (d3 l z c)) ∧ D.bk σ' (upd H' a (DiceO a)), ct := fun σ' H' => (∃ l z c, H' a = some (d3 l z c)) ∧ D.ct σ' (upd H' a (DiceO a)) } σ (upd H a (d3 l z c))
theorem pss_dice {X : Cx} {i : Nat} {body : List Stmt} {t : TS} (h : PSs X body t) : PSs X body (tDice i t) := by
  refine ⟨fun pins s σ H D I hq => ?_⟩
  obtain ⟨a, _, e, q⟩ := hq
  obtain ⟨l, z, c, I1⟩ := dice_open I e
  refine wpAny_mono (h.run pins s σ _ _ I1 (q l z c)) (fun f s' hs => ?_) fun _ _ e => e
  match f, hs with
  | .next, hs => obtain ⟨σ', H', J, ⟨l, z, c, e⟩, w⟩ := hs; exact ⟨σ', _, dice_close J e, w⟩
  | .brk, hs => obtain ⟨σ', H', J, ⟨l, z, c, e⟩, w⟩ := hs; exact ⟨σ', _, dice_close J e, w⟩
  | .cont, hs => obtain ⟨σ', H', J, ⟨l, z, c, e⟩, w⟩ := hs; exact ⟨σ', _, dice_close J e, w⟩
  | .ret u, hs => obtain ⟨v, σ', H', J, r, ⟨l, z, c, e⟩, w⟩ := hs; exact ⟨v, σ', _, dice_close J e, r, w⟩
/-- the body hands back new dice -/
def tDiced (t : TS) : TS := fun D σ H => t { nx := D.nx, rt := fun v H' => ∃ a l z c, v = .ref a ∧ H' a = some (d3 l z c) ∧ D.rt v (upd H' a (DiceO a)), bk := D.bk, ct := D.ct } σ H
theorem pss_diced {X : Cx} {body : List Stmt} {t : TS} (h : PSs X body t) : PSs X body (tDiced t) := by
  refine ⟨fun pins s σ H D I hq => wpAny_mono (h.run pins s σ H _ I hq) (fun f s' hs => ?_) fun _ _ e => e⟩
  match f, hs with
  | .next, hs => exact hs
  | .brk, hs => exact hs
  | .cont, hs => exact hs
  | .ret u, hs => obtain ⟨v, σ', H', J, r, a, l, z, c, ev, e, w⟩ := hs; exact ⟨v, σ', _, dice_close J e, r, w⟩
end My
namespace My
open PySem PySem.Spec PyProof.Rows L2

/-- a def of the module, by its name, with its promise -/
structure FnAt (P : Program) (w : World) (K : PySem.W.Frag) (mg : Str → Option Value) (base : Heap) (k : Nat) (x : Str) (ps : List Str) (sp : Sp) : Prop where
  ex : ∃ (f : Addr) (fd : FuncData), mg x = some (.ref f) ∧ PySem.W.keepIn K (.ref f) = true ∧ Binds K fd ps [] ∧ FnOk P w K mg base CX0 k f fd ps sp
structure FgAt (P : Program) (w : World) (K : PySem.W.Frag) (mg : Str → Option Value) (base : Heap) (k : Nat) (x : Str) (ps : List Str) (sp : Sp) : Prop where
  ex : ∃ (f : Addr) (fd : FuncData), mg x = some (.ref f) ∧ PySem.W.keepIn K (.ref f) = true ∧ Binds K fd ps [] ∧ FnG P w K mg base CX0 k f fd ps sp
/-- a def of the module, by its name, with its text -/
structure DefAt (K : PySem.W.Frag) (mg : Str → Option Value) (x : Str) (st : Stmt) : Prop where
  ex : ∃ (f : Addr) (fd : FuncData), mg x = some (.ref f) ∧ Fun K x x st f fd
section
variable {X : Cx} {k j : Nat} {ps : List Str} {sp : Sp} {x : Str} {p pos : Pos} {e : Expr} {es : List Expr} {t : TA}
theorem callA (F : FnAt X.prog X.w X.K X.mg X.base k x ps sp) (hr : Room k X.A) (hg : Gl X x) (ha : PA X (e :: es) t) (hdb : (x == ("__debug__" : Str)) = false := by decide)
    (he : starEach (e :: es) X.env = (false, eval e X.env) :: starEach es X.env := by rfl) (hpl : (backTo pos (starEach es X.env)).any (·.1) = false := by rfl) : PE X (.Call (.Name x p) (e :: es) [] pos) (tCall sp [] E0 t) := by
  obtain ⟨f, fd, hm, hk, hb, G⟩ := F.ex
  exact pe_call G hr hg hm hk hb .nil pass0 ha hdb he hpl
theorem callB (F : FgAt X.prog X.w X.K X.mg X.base k x ps sp) (gd : X.A.guards = some []) (hr : Room k X.A) (hg : Gl X x) (ha : PA X (e :: es) t) (hdb : (x == ("__debug__" : Str)) = false := by decide)
    (he : starEach (e :: es) X.env = (false, eval e X.env) :: starEach es X.env := by rfl) (hpl : (backTo pos (starEach es X.env)).any (·.1) = false := by rfl) : PE X (.Call (.Name x p) (e :: es) [] pos) (tCall sp [] E0 t) := by
  obtain ⟨f, fd, hm, hk, hb, G⟩ := F.ex
  exact callG G gd hr hg hm hk hb pass0 ha hdb he hpl
end
section
variable {P : Program} {w : World} {K : PySem.W.Frag} {mg : Str → Option Value} {base : Heap}
theorem fnAt {x : Str} {st : Stmt} {N ps : List Str} {k : Nat} {sp : Sp} (D : DefAt K mg x st) (S : FnScope N ps (defScope st))
    (hbind : ∀ (kV doc pm : Value) (an : Option Addr) (cdv ct : Value) (us : List Value), us.length = ps.length → bindArgs (PySem.W.fnOf x x (defArgs st) (defBody st) (defScope st) .none kV doc pm an cdv ct) ⟨us, []⟩ = pure (ps.zip us))
    (len : ∀ vs H Q E, sp vs H Q E → vs.length = ps.length)
    (hbody : ∀ (f : Addr) (cdv : Value) (A : Around) (outer : List Env) (s : Shared) (H : Hp) (vs : List V) (Q : VK) (E : XK), Room k (A.deeper (envOfC x (defScope st) s.heap.objs.size f cdv)) → sp vs H Q E →
      ∃ t, PSs (cxOf CX0 P w K mg base N x (defScope st) f cdv A outer s H E).nox (defBody st) t ∧ t { nx := fun _ H' => Q .non H', rt := Q } (start N vs) H) : FnAt P w K mg base (k + 1) x ps sp := by
  obtain ⟨f, fd, hm, F⟩ := D.ex
  exact ⟨f, fd, hm, F.kp, F.binds hbind, F.ok S len fun cdv A outer s H vs Q E hr h => hbody f cdv A outer s H vs Q E hr h⟩
theorem fgAt {x : Str} {st : Stmt} {N ps : List Str} {k : Nat} {sp : Sp} (D : DefAt K mg x st) (S : FnScope N ps (defScope st))
    (hbind : ∀ (kV doc pm : Value) (an : Option Addr) (cdv ct : Value) (us : List Value), us.length = ps.length → bindArgs (PySem.W.fnOf x x (defArgs st) (defBody st) (defScope st) .none kV doc pm an cdv ct) ⟨us, []⟩ = pure (ps.zip us))
    (len : ∀ vs H Q E, sp vs H Q E → vs.length = ps.length)
    (hbody : ∀ (f : Addr) (cdv : Value) (A : Around) (outer : List Env) (s : Shared) (H : Hp) (vs : List V) (Q : VK) (E : XK), (A.deeper (envOfC x (defScope st) s.heap.objs.size f cdv)).guards = some [] → Room k (A.deeper (envOfC x (defScope st) s.heap.objs.size f cdv)) → sp vs H Q E →
      ∃ t, PSs (cxOf CX0 P w K mg base N x (defScope st) f cdv A outer s H E).nox (defBody st) t ∧ t { nx := fun _ H' => Q .non H', rt := Q } (start N vs) H) : FgAt P w K mg base (k + 1) x ps sp := by
  obtain ⟨f, fd, hm, F⟩ := D.ex
  exact ⟨f, fd, hm, F.kp, F.binds hbind, okG F S len fun cdv A outer s H vs Q E gd hr h => hbody f cdv A outer s H vs Q E gd hr h⟩
end
/-- the built-in names that are free -/
structure Bn (mg : Str → Option Value) : Prop where
  b_len : mg "len" = none
  b_int : mg "int" = none
  b_bool : mg "bool" = none
  b_str : mg "str" = none
  b_list : mg "list" = none
  b_tuple : mg "tuple" = none
  b_max : mg "max" = none
  b_abs : mg "abs" = none
  b_min : mg "min" = none
  b_range : mg "range" = none
  b_repr : mg "repr" = none
  b_isinstance : mg "isinstance" = none
  b_all : mg "all" = none
  b_set : mg "set" = none
  b_sum : mg "sum" = none
  b_any : mg "any" = none
  b_sorted : mg "sorted" = none
  b_zip : mg "zip" = none
  b_enumerate : mg "enumerate" = none
  b_dict : mg "dict" = none
  b_reversed : mg "reversed" = none
  b_divmod : mg "divmod" = none
  b_ord : mg "ord" = none
theorem hu64 {A : Around} {k : Nat} (hr : Room k A) : A.units + 64 < cLine := hr.units

/-! ### whole numbers of any size, divided by any divisor but 0 of at most 9000 bits -/
def CDivX (_ j : Int) : Prop := j ≠ 0 ∧ j.natAbs.log2 < 9000
section
variable {X : Cx}
theorem op_fdivX : OpR X (binaryOp .FloorDiv) (rI CDivX fun i j => .int (i.fdiv j)) := opI fun i j _ _ _ _ _ hc q => floordiv_int hc.1 q (.inl (PyProof.noPylong_of_log2 hc.2))
end
/-- at most n bits -/
def Sz (n : Nat) (i : Int) : Prop := i.natAbs < 2 ^ n
theorem Sz.mono {n m : Nat} {i : Int} (h : Sz n i) (l : n ≤ m) : Sz m i := Nat.lt_of_lt_of_le h (Nat.pow_le_pow_right (by decide) l)
theorem Sz.mul {n m : Nat} {i j : Int} (h : Sz n i) (g : Sz m j) : Sz (n + m) (i * j) := wide_lt h g
theorem Sz.neg {n : Nat} {i : Int} (h : Sz n i) : Sz n (-i) := by unfold Sz; rw [Int.natAbs_neg]; exact h
theorem Sz.add {n : Nat} {i j : Int} (h : Sz n i) (g : Sz n j) : Sz (n + 1) (i + j) := by
  unfold Sz at *
  have e : 2 ^ (n + 1) = 2 ^ n + 2 ^ n := by rw [Nat.pow_succ]; omega
  have := Int.natAbs_add_le i j
  omega
theorem Sz.sub {n : Nat} {i j : Int} (h : Sz n i) (g : Sz n j) : Sz (n + 1) (i - j) := by
  rw [Int.sub_eq_add_neg]
  exact h.add g.neg
theorem Sz.ofLt {n : Nat} {i b : Int} (h : i.natAbs ≤ b.natAbs) (g : Sz n b) : Sz n i := Nat.lt_of_le_of_lt h g
theorem Sz.log {n : Nat} {i : Int} (h : Sz n i) (h0 : 0 < n) : i.natAbs.log2 < n := PySem.Flt.log2_lt_of h0 h
theorem Sz.cmul {n m : Nat} {i j : Int} (h : Sz n i) (g : Sz m j) (hn : 0 < n) (hm : 0 < m) (l : n + m ≤ 1000000) : CMulW i j := wide_mul h g hn hm l
theorem Sz.cdiv {n : Nat} {i j : Int} (h0 : j ≠ 0) (h : Sz n j) (hn : 0 < n) (l : n ≤ 9000) : CDivX i j := ⟨h0, Nat.lt_of_lt_of_le (h.log hn) l⟩
/-- a number of the law's own head -/
theorem ext_refl (H : Hp) : Ext H H := fun _ _ h => h
theorem ext_new {H H1 : Hp} {p : Addr} {o : HO} (e : Ext H H1) (h : H1 p = none) : Ext H (upd H1 p o) := Ext.upd' e h
theorem ext_none {H H1 : Hp} {p : Addr} (e : Ext H H1) (h : H1 p = none) : H p = none := by
  cases q : H p with
  | none => rfl
  | some o => rw [e p o q] at h; cases h
/-- a new object changed: what stood before stands -/
theorem ext_mut {H H1 : Hp} {p : Addr} {o : HO} (e : Ext H H1) (h : H p = none) : Ext H (upd H1 p o) := fun a u q => by
  rw [upd_ne (ne_of_none q h)]
  exact e a u q
end My
namespace My
open PySem PySem.Spec PyProof.Rows L2
theorem len_ok {n : Nat} (h : n ≤ 1000) : n ≤ sizeLine := Nat.le_trans h (by decide)
theorem len_lt {n : Nat} (h : n ≤ 1000) : n < sizeLine := Nat.lt_of_le_of_lt h (by decide)
end My
namespace My
open PySem PySem.Spec PyProof.Rows L2
section
variable {K : PySem.W.Frag} {a D : Addr} {xs : List V} {te : TE} {vs : List Nat} {σ : L2.St} {H1 : Hp} {j : Nat}
theorem take_next {α : Type} {l : List α} {i : Nat} {x : α} (h : l[i]? = some x) : l.take (i + 1) = l.take i ++ [x] := by
  rw [List.take_succ, h]
  rfl
/-- what a comprehension without a test has made behind i turns -/
def Made (H1 : Hp) (D : Addr) (f : Nat → V → V) (xs : List V) (i : Nat) (H' : Hp) : Prop := H1 D = none ∧ Ext H1 H' ∧ H' D = some (.lst ((xs.take i).mapIdx f))
theorem made_turn {f : Nat → V → V} {i : Nat} {x : V} {H' : Hp} {σ2 : L2.St} (hz : xs.length ≤ 1000000) (hi : xs[i]? = some x) (p : Made H1 D f xs i H') (he : ∀ Q' : VK, (∀ H'', Ext H' H'' → Q' (f i x) H'') → te σ2 H' Q') :
    tYes σ2 H' fun b H3 => if b = true then te σ2 H3 fun y H4 => ∃ acc, H4 D = some (.lst acc) ∧ acc.length < sizeLine ∧ Made H1 D f xs (i + 1) (upd H4 D (.lst (acc ++ [y]))) else Made H1 D f xs (i + 1) H3 := by
  obtain ⟨p1, p2, p3⟩ := p
  unfold tYes
  dsimp only
  rw [if_pos rfl]
  refine he _ fun H'' e => ⟨_, e _ _ p3, ?_, p1, ext_mut (p2.trans e) p1, ?_⟩
  · rw [List.length_mapIdx, List.length_take]
    exact Nat.lt_of_le_of_lt (Nat.le_trans (Nat.min_le_right _ _) hz) (by decide)
  · have hl : i < xs.length := (List.getElem?_eq_some_iff.mp hi).1
    rw [upd_same, take_next hi, List.mapIdx_append]
    have e1 : (xs.take i).length = i := by rw [List.length_take]; omega
    simp [e1]
abbrev Block (J : It) (g : TG) (tt : TT) (te : TE) (vs : List Nat) (σ : L2.St) (H1 : Hp) (D : Addr) (Qd : Hp → Prop) : Prop := ∃ W : Nat → Nat → Hp → Prop, (∃ m, W 0 m (upd H1 D (.lst []))) ∧ ∀ i m H, W i m H →
  (J.stop i H ∧ Qd H) ∨ (J.go i H ∧ ∃ Nx : Hp → Prop, (∀ H', Nx H' → ∃ m', m' < m ∧ W (i + 1) m' H') ∧ ∀ x H', J.yld i H x H' → g x (wipe σ vs) H' fun σ2 H2 => wipe σ2 vs = wipe σ vs ∧ tt σ2 H2 fun b H3 =>
    if b = true then te σ2 H3 fun y H4 => ∃ acc, H4 D = some (.lst acc) ∧ acc.length < sizeLine ∧ Nx (upd H4 D (.lst (acc ++ [y]))) else Nx H3)
theorem map_list {Qd : Hp → Prop} (f : Nat → V → V) (hx : SqL K H1 a xs) (hD : H1 D = none) (hz : xs.length ≤ 1000000) (hw : ∀ x, wipe ((wipe σ vs).set j (some x)) vs = wipe σ vs)
    (he : ∀ i x H', xs[i]? = some x → Ext H1 H' → ∀ Q' : VK, (∀ H'', Ext H' H'' → Q' (f i x) H'') → te ((wipe σ vs).set j (some x)) H' Q') (hd : ∀ H', Ext H1 H' → H' D = some (.lst (xs.mapIdx f)) → Qd H') :
    Block (Itl K a) (gName j) tYes te vs σ H1 D Qd :=
  lc_list (xs := xs) (Made H1 D f xs) ⟨hD, ext_new (ext_refl H1) hD, upd_same⟩ (fun i H' _ p => hx.ext p.2.1) (fun i x H' hi p => ⟨hw x, made_turn hz hi p (he i x H' hi p.2.1)⟩) fun H' p => hd H' p.2.1 (by have q := p.2.2; rw [List.take_length] at q; exact q)
theorem map_tup {Qd : Hp → Prop} (f : Nat → V → V) (hx : SqT K H1 a xs) (hD : H1 D = none) (hz : xs.length ≤ 1000000) (hw : ∀ x, wipe ((wipe σ vs).set j (some x)) vs = wipe σ vs)
    (he : ∀ i x H', xs[i]? = some x → Ext H1 H' → ∀ Q' : VK, (∀ H'', Ext H' H'' → Q' (f i x) H'') → te ((wipe σ vs).set j (some x)) H' Q') (hd : ∀ H', Ext H1 H' → H' D = some (.lst (xs.mapIdx f)) → Qd H') :
    Block (Itt K a) (gName j) tYes te vs σ H1 D Qd :=
  lc_tup (xs := xs) (Made H1 D f xs) ⟨hD, ext_new (ext_refl H1) hD, upd_same⟩ (fun i H' _ p => hx.ext p.2.1) (fun i x H' hi p => ⟨hw x, made_turn hz hi p (he i x H' hi p.2.1)⟩) fun H' p => hd H' p.2.1 (by have q := p.2.2; rw [List.take_length] at q; exact q)
end
end My
namespace My
open PySem PySem.Spec PyProof.Rows L2
/-- the class has the def at f as __eq__ and no __ne__ -/
structure NeK (K : PySem.W.Frag) (C f : Addr) : Prop where
  cls : ∃ nm q N bs hdct sn sub ab col dd k0 k1 k2 k3 k5 newId, K.lookup C = some (excClassObj nm q C N bs [.type "object"] hdct sn sub ab col dd k0 k1 k2 k3 k5 newId) ∧ PySem.W.nsOkIn K N = true ∧
    PySem.W.nsIn K N "__eq__" = some (some (.ref f)) ∧ PySem.W.nsIn K N "__ne__" = some none
  fn : ∃ od fd sl, K.lookup f = some ⟨.type "function", od, .func fd, sl⟩
theorem ty_eq : ∃ y, typeLookup (.type "object") ("__eq__" : Str) = pure y := ⟨some (.builtin "object.__eq__"), by kernel_rfl⟩
theorem ns_some {K : PySem.W.Frag} {h : Heap} {N : Addr} {mg : Str → Option Value} {n : Str} {v : Value} (X : K.In h) (G : h.Ns N mg) (e : PySem.W.nsIn K N n = some (some v)) : mg n = some v := by
  obtain ⟨o, es, ep, ho, hd, _, hf⟩ := G
  cases q : K.lookup N with
  | none => unfold PySem.W.nsIn at e; rw [q] at e; cases e
  | some on =>
    have z := X _ _ q
    rw [ho] at z
    cases z
    obtain ⟨cl, od, dt, sl⟩ := o
    dsimp only at hd
    subst hd
    unfold PySem.W.nsIn at e
    rw [q] at e
    dsimp only at e
    cases he : es.toList.find? (·.key.isStr n) with
    | none => rw [he] at e; dsimp only at e; split at e <;> cases e
    | some en =>
      rw [he] at e
      cases e
      rw [← hf]
      unfold nsFind findBy
      rw [← Array.find?_toList, he]
      rfl
section
variable {X : Cx} {CX : CXT} {k : Nat} {f C : Addr} {fd : FuncData} {ps : List Str} {sp : Sp} {E : XK}
def rOwnNe (C : Addr) (sp : Sp) (E : XK) : R2 := fun x y H Q => ∃ a dx fs b dy gs, x = .ref a ∧ H a = some (.ins C dx fs) ∧ y = .ref b ∧ H b = some (.ins C dy gs) ∧ sp [.ref a, .ref b] H (fun v H' => ∃ c, v = .bl c ∧ Q (.bl (!c)) H') E
theorem op_ownNe (T : NeK X.K C f) (F : FnOk X.prog X.w X.K X.mg X.base CX k f fd ps sp) (hr : Room (k + 1) X.A) (hb : Binds X.K fd ps []) (hx : Passes CX X E) : OpR X (compareOp .NotEq) (rOwnNe C sp E) := by
  intro pins s σ H x y v u Q I rx ry hq
  obtain ⟨a, dx, fs, b, dy, gs, rfl, ea, rfl, eb, hsp⟩ := hq
  cases rx
  cases ry
  obtain ⟨mA, O, _⟩ := ins_get I.hok ea
  obtain ⟨od, J, _⟩ := O.look
  obtain ⟨mB, O', _⟩ := ins_get I.hok eb
  obtain ⟨od', J', _⟩ := O'.look
  obtain ⟨nm, q, N, bs, hdct, sn, sub, ab, col, dd, k0, k1, k2, k3, k5, nid, hC, hok, heq, hne⟩ := T.cls
  obtain ⟨ofd, fdd, sl, hf⟩ := T.fn
  obtain ⟨yv, hy⟩ := ty_eq
  have X0 := I.kIn
  have hns : s.heap.Ns N (s.heap.nsMap N) := .of_isNs (PySem.W.isNs_of_in X0 hok)
  have Y : s.heap.OwnEqNoNe a C f "object" [.type "object"] :=
    ⟨_, _, nm, q, N, bs, hdct, sn, sub, ab, col, dd, k0, k1, k2, k3, k5, nid, _, yv, J.at_, J.cls, X0 _ _ hC, hns, ns_some X0 hns heq, X0 _ _ hf, rfl, PySem.F.mro_object, hy, PySem.W.ns_none_of X0 hns hne⟩
  obtain ⟨hp, g, d, t, os⟩ := s
  have fr : FnOk X.prog X.w X.K X.mg X.base CX k f fd ps sp := F
  refine compareOp_ne_ownEq PySem.F.cmp_object Y J'.at_ J'.cls (by have := hr.un; omega) ?_
  refine wpAny_call ?_
  have hl : ([Value.ref a, Value.ref b] : List Value).length = ps.length := by
    have := F.len _ _ _ _ hsp
    exact this
  have bd : BindsTo ⟨hp, g, d, t, os⟩ fd ⟨[.ref a, .ref b], []⟩ (ps.zip [.ref a, .ref b]) := by
    have z := hb ⟨hp, g, d, t, os⟩ [.ref a, .ref b] I.kIn (by rw [List.append_nil]; exact hl)
    rw [List.append_nil] at z
    exact z
  refine codeAny_mono (F.run X.A.in1 X.stack ⟨hp, g, d, t, os⟩ H ⟨[.ref a, .ref b], []⟩ [.ref a, .ref b] [.ref a, .ref b] _ E hr.in1 I.env0.in1 bd (.cons rfl (.cons rfl .nil)) hsp) fun r2 s2 hq => ?_
  match r2, hq with
  | .error er, hq => exact hx pins σ H _ er s2 I hq
  | .ok (.ret u), hq =>
    obtain ⟨z, H', I', rz, c, ez, q⟩ := I.after hq
    subst ez
    cases rz
    exact ⟨c, rfl, .bl (!c), H', I', rfl, q⟩
end
end My
namespace My
open PySem PySem.Spec PyProof.Rows L2
section
variable {prog : Program} {w : World} {A : Around} {E : Value → Shared → Prop} {h : Heap} {g : Array GenState} {d : Drawn} {t : Nat} {os : OsState} {C x f : Addr} {B : String} {bm : List Value} {v tb : Value} {K : PySem.W.Frag}
theorem neA_entry (X : h.OwnEqNoNe x C f B bm) (hu : A.units < cLine) {Q : Fin → Shared → Prop}
    (hcall : wpAny (model prog w) A (call (.ref f) [.ref x, v]) (fun v s' => ∃ b, v = .bool b ∧ Q (.done (.ret (.bool (!b)))) s') E ⟨h, g, d, t, os⟩) :
    wpAny (model prog w) A (Builtin.«object.__ne__» ⟨[.ref x, v], []⟩) Q E ⟨h, g, d, t, os⟩ := by
  unfold Builtin.«object.__ne__»
  repeat (first
    | with_reducible refine wpAny_cRoomFor hu ?_
    | (refine wpAny_bind (m := callSpecialIfBound? (.ref x) (Str.ofString "__eq__") [v])
        (wpAny_callSpecialIfBound?_own X.ownEq (wpAny_mono hcall (fun r s' hr => by
          obtain ⟨b, rfl, hq⟩ := hr
          repeat (first | exact hq | exact wpAny_pure hq | exact wpAny_truthy_bool hq | (refine wpAny_bind (m := truthy (.bool _)) (wpAny_truthy_bool ?_)) | wp_step)) fun _ _ e => e)))
    | wp_step)
theorem neA_try (FB : CmpFacts B bm) (X : h.OwnEqNoNe x C f B bm) (hu : A.units + 1 < cLine) {Q : Option Value → Shared → Prop}
    (hcall : wpAny (model prog w) A.in1 (call (.ref f) [.ref x, v]) (fun v s' => ∃ b, v = .bool b ∧ Q (some (.bool (!b))) s') E ⟨h, g, d, t, os⟩) :
    wpAny (model prog w) A (tryCompare (.ref x) "__ne__" v) Q E ⟨h, g, d, t, os⟩ := by
  obtain ⟨o, of, nm, q, N, bs, hdct, sn, sub, ab, col, dd, k0, k1, k2, k3, k5, newId, mN, yv, hx, hc, hC, hn, _, _, _, _, _, hne⟩ := id X
  simp only [tryCompare]
  refine wpAny_bind (wpAny_callSpecialIfBound?_inst hx hc hC hn hne FB.mro FB.ne (wpAny_call (codeAny_call_builtin FB.ne.plain F.cmpEntry_ne
    (wpAny_check_slot_inst F.cmpKind_ne F.cmpSplit_ne (F.cmpArgs_ne _ _) FB.hasObject hx hc hC
      (neA_entry (A := A.in1) X hu (wpAny_mono hcall (fun v s' hv => ?_) fun _ _ e => e))))))
  obtain ⟨b, rfl, hq⟩ := hv
  first | exact ⟨b, rfl, wpAny_pure hq⟩ | exact ⟨b, rfl, wpAny_pure (wpAny_pure hq)⟩ | exact ⟨b, rfl, hq⟩
theorem neA_cmp (FB : CmpFacts B bm) (X : h.OwnEqNoNe x C f B bm) (KX : K.In h) (hb : PySem.W.Looks (model prog w) h (typeOf v) tb) (hn : PySem.W.notFirst K C tb = true) (hu : A.units + 1 < cLine) {Q : Value → Shared → Prop}
    (hcall : wpAny (model prog w) A.in1 (call (.ref f) [.ref x, v]) (fun v s' => ∃ b, v = .bool b ∧ Q (.bool (!b)) s') E ⟨h, g, d, t, os⟩) :
    wpAny (model prog w) A (compareOp .NotEq (.ref x) v) Q E ⟨h, g, d, t, os⟩ := by
  have X' := X
  obtain ⟨o, of, nm, q, N, bs, hdct, sn, sub, ab, col, dd, k0, k1, k2, k3, k5, newId, mN, yv, hx, hc, _⟩ := X'
  unfold compareOp
  show wpAny (model prog w) A (richCompare .NotEq (.ref x) v) Q E _
  unfold richCompare
  simp only [oneThing_ref]
  refine wpAny_holding ?_
  refine wpAny_bind (wpAny_cRoomFor (Nat.lt_of_succ_lt hu) ?_)
  rw [cmpInfo_NotEq]
  dsimp only
  refine wpAny_bind (wpAny_typeOf_ref hx ?_)
  rw [hc]
  refine wpAny_bind (hb.here ?_)
  have fin : wpAny (model prog w) A (tryCompare (.ref x) "__ne__" v) (fun r s' => ∃ b, r = some (.bool b) ∧ Q (.bool b) s') E ⟨h, g, d, t, os⟩ := neA_try FB X hu (wpAny_mono hcall (fun v s' hv => by
    obtain ⟨b, rfl, hq⟩ := hv
    exact ⟨b, rfl, _, rfl, hq⟩) fun _ _ e => e)
  split
  · rename_i q
    have e : PySem.W.subIn K tb (.ref C) = some false := by
      rcases Bool.or_eq_true_iff.mp hn with e | e
      · rw [beq_iff_eq.mp e] at q; simp at q
      · exact beq_iff_eq.mp e
    refine wpAny_bind ((PySem.W.looks_subIn KX e).here ?_)
    simp only [Bool.false_eq_true, if_false]
    refine wpAny_bind (wpAny_mono fin (fun r s' z => ?_) fun _ _ e => e)
    obtain ⟨b, rfl, hq⟩ := z
    exact wpAny_pure hq
  · refine wpAny_bind (wpAny_pure ?_)
    simp only [Bool.false_eq_true, if_false]
    refine wpAny_bind (wpAny_mono fin (fun r s' z => ?_) fun _ _ e => e)
    obtain ⟨b, rfl, hq⟩ := z
    exact wpAny_pure hq
end
section
variable {X : Cx} {CX : CXT} {k : Nat} {f C : Addr} {fd : FuncData} {ps : List Str} {sp : Sp} {E : XK}
/-- x == y, x an instance, y of any kind that does not go first -/
def rOwnEqA (K : PySem.W.Frag) (C : Addr) (sp : Sp) (E : XK) : R2 := fun x y H Q => ∃ a dx fs t, x = .ref a ∧ H a = some (.ins C dx fs) ∧ TyX K H y t ∧ PySem.W.notFirst K C t = true ∧ sp [.ref a, y] H Q E
theorem op_ownEqA (hs : PySem.W.findIn X.K (.ref C) "__eq__" = some (some (.ref f))) (hf : PySem.W.isFn X.K (.ref f) = true) (F : FnOk X.prog X.w X.K X.mg X.base CX k f fd ps sp) (hr : Room k X.A) (hb : Binds X.K fd ps []) (hx : Passes CX X E) : OpR X (compareOp .Eq) (rOwnEqA X.K C sp E) := by
  intro pins s σ H x y v u Q I rx ry hq
  obtain ⟨a, dx, fs, t, rfl, ea, ty, hn, hsp⟩ := hq
  cases rx
  obtain ⟨mA, O, _⟩ := ins_get I.hok ea
  obtain ⟨od, J, _⟩ := O.look
  obtain ⟨P, Z, p, _⟩ := kit_of I ry ty
  obtain ⟨m, hF⟩ := I.fr
  show wpAny (model X.prog X.w) X.A (richCompare .Eq (.ref a) u) (EP X pins σ Q) X.xe s
  refine PySem.W.cmp_K (op := .Eq) (tb := t) hr.units0 hF I.ok.mod.kin J (Z.ty _ _ I.kIn p) hn hs hf ?_
  refine wpAny_mono (run_fn (us := [.ref a, u]) (vs := [.ref a, y]) (dvs := []) (ds := []) F hr hb .nil hx I (.cons rfl (.cons ry .nil)) hsp) (fun w s' hw => ?_) fun _ _ e => e
  obtain ⟨z, H', I', rz, q⟩ := hw
  exact cmpBack_of rz ⟨z, H', I', rz, q⟩
def rOwnNeA (K : PySem.W.Frag) (C : Addr) (sp : Sp) (E : XK) : R2 := fun x y H Q => ∃ a dx fs t, x = .ref a ∧ H a = some (.ins C dx fs) ∧ TyX K H y t ∧ PySem.W.notFirst K C t = true ∧ sp [.ref a, y] H (fun v H' => ∃ c, v = .bl c ∧ Q (.bl (!c)) H') E
theorem op_ownNeA (T : NeK X.K C f) (F : FnOk X.prog X.w X.K X.mg X.base CX k f fd ps sp) (hr : Room (k + 1) X.A) (hb : Binds X.K fd ps []) (hx : Passes CX X E) : OpR X (compareOp .NotEq) (rOwnNeA X.K C sp E) := by
  intro pins s σ H x y v u Q I rx ry hq
  obtain ⟨a, dx, fs, ty, rfl, ea, tyx, hnf, hsp⟩ := hq
  cases rx
  obtain ⟨mA, O, _⟩ := ins_get I.hok ea
  obtain ⟨od, J, _⟩ := O.look
  obtain ⟨P, Z, p, _⟩ := kit_of I ry tyx
  obtain ⟨nm, q, N, bs, hdct, sn, sub, ab, col, dd, k0, k1, k2, k3, k5, nid, hC, hok, heq, hne⟩ := T.cls
  obtain ⟨ofd, fdd, sl, hf⟩ := T.fn
  obtain ⟨yv, hy⟩ := ty_eq
  have X0 := I.kIn
  have hns : s.heap.Ns N (s.heap.nsMap N) := .of_isNs (PySem.W.isNs_of_in X0 hok)
  have Y : s.heap.OwnEqNoNe a C f "object" [.type "object"] :=
    ⟨_, _, nm, q, N, bs, hdct, sn, sub, ab, col, dd, k0, k1, k2, k3, k5, nid, _, yv, J.at_, J.cls, X0 _ _ hC, hns, ns_some X0 hns heq, X0 _ _ hf, rfl, PySem.F.mro_object, hy, PySem.W.ns_none_of X0 hns hne⟩
  have Lk := Z.ty (model X.prog X.w) s.heap I.kIn p
  obtain ⟨hp, g, d, t, os⟩ := s
  refine neA_cmp PySem.F.cmp_object Y X0 Lk hnf (by have := hr.un; omega) ?_
  refine wpAny_call ?_
  have hl : ([Value.ref a, u] : List Value).length = ps.length := by
    have := F.len _ _ _ _ hsp
    exact this
  have bd : BindsTo ⟨hp, g, d, t, os⟩ fd ⟨[.ref a, u], []⟩ (ps.zip [.ref a, u]) := by
    have z := hb ⟨hp, g, d, t, os⟩ [.ref a, u] I.kIn (by rw [List.append_nil]; exact hl)
    rw [List.append_nil] at z
    exact z
  refine codeAny_mono (F.run X.A.in1 X.stack ⟨hp, g, d, t, os⟩ H ⟨[.ref a, u], []⟩ [.ref a, u] [.ref a, y] _ E hr.in1 I.env0.in1 bd (.cons rfl (.cons ry .nil)) hsp) fun r2 s2 hq => ?_
  match r2, hq with
  | .error er, hq => exact hx pins σ H _ er s2 I hq
  | .ok (.ret u), hq =>
    obtain ⟨z, H', I', rz, c, ez, q⟩ := I.after hq
    subst ez
    cases rz
    exact ⟨c, rfl, .bl (!c), H', I', rfl, q⟩
end
end My
namespace My
open PySem PySem.Spec PyProof.Rows L2
section
variable {K : PySem.W.Frag} {a D : Addr} {xs : List V} {te : TE} {vs : List Nat} {σ : L2.St} {H1 : Hp} {j : Nat}
/-- what is said of the list D survives, when only D changes -/
def Keeps (D : Addr) (Pv : List V → Hp → Prop) : Prop := ∀ acc H H', Pv acc H → (∃ l, H D = some (.lst l)) → (∀ a u, H a = some u → a ≠ D → H' a = some u) → Pv acc H'
def MadeP (H1 : Hp) (D : Addr) (Pv : List V → Hp → Prop) (i : Nat) (H' : Hp) : Prop := H1 D = none ∧ Ext H1 H' ∧ ∃ acc, H' D = some (.lst acc) ∧ acc.length = i ∧ Pv acc H'
theorem madeP_turn {Pv : List V → Hp → Prop} {i : Nat} {H' : Hp} {σ2 : L2.St} (hz : i ≤ 1000000) (kp : Keeps D Pv) (p : MadeP H1 D Pv i H')
    (he : ∀ acc, acc.length = i → Pv acc H' → Ext H1 H' → ∀ Q' : VK, (∀ y H'', Ext H' H'' → Pv (acc ++ [y]) H'' → Q' y H'') → te σ2 H' Q') :
    tYes σ2 H' fun b H3 => if b = true then te σ2 H3 fun y H4 => ∃ acc, H4 D = some (.lst acc) ∧ acc.length < sizeLine ∧ MadeP H1 D Pv (i + 1) (upd H4 D (.lst (acc ++ [y]))) else MadeP H1 D Pv (i + 1) H3 := by
  obtain ⟨p1, p2, acc, p3, p4, p5⟩ := p
  unfold tYes
  dsimp only
  rw [if_pos rfl]
  refine he acc p4 p5 p2 _ fun y H'' e pv => ⟨acc, e _ _ p3, ?_, p1, ext_mut (p2.trans e) p1, acc ++ [y], upd_same, by simp [p4], ?_⟩
  · rw [p4]
    exact Nat.lt_of_le_of_lt hz (by decide)
  · exact kp _ _ _ pv ⟨_, e _ _ p3⟩ fun a u q ne => by rw [upd_ne ne]; exact q
theorem made_range {Qd : Hp → Prop} {n : Nat} (Pv : List V → Hp → Prop) (kp : Keeps D Pv) (hD : H1 D = none) (hz : n ≤ 1000000) (hw : ∀ x, wipe ((wipe σ vs).set j (some x)) vs = wipe σ vs) (h0 : ∀ H, Pv [] H)
    (he : ∀ i H' acc, i < n → Ext H1 H' → acc.length = i → Pv acc H' → ∀ Q' : VK, (∀ y H'', Ext H' H'' → Pv (acc ++ [y]) H'' → Q' y H'') → te ((wipe σ vs).set j (some (.int (0 + i)))) H' Q')
    (hd : ∀ H' acc, Ext H1 H' → H' D = some (.lst acc) → acc.length = n → Pv acc H' → Qd H') :
    Block (Itr 0 n) (gName j) tYes te vs σ H1 D Qd :=
  lc_range (MadeP H1 D Pv) ⟨hD, ext_new (ext_refl H1) hD, [], upd_same, rfl, h0 _⟩ (fun i H' hi p => ⟨hw _, madeP_turn (by omega) kp p fun acc hl pv e Q' k => he i H' acc hi e hl pv Q' k⟩) fun H' ⟨_, e, acc, q, hl, pv⟩ => hd H' acc e q hl pv
theorem made_list {Qd : Hp → Prop} (Pv : List V → Hp → Prop) (kp : Keeps D Pv) (hx : SqL K H1 a xs) (hD : H1 D = none) (hz : xs.length ≤ 1000000) (hw : ∀ x, wipe ((wipe σ vs).set j (some x)) vs = wipe σ vs) (h0 : ∀ H, Pv [] H)
    (he : ∀ i x H' acc, xs[i]? = some x → Ext H1 H' → acc.length = i → Pv acc H' → ∀ Q' : VK, (∀ y H'', Ext H' H'' → Pv (acc ++ [y]) H'' → Q' y H'') → te ((wipe σ vs).set j (some x)) H' Q')
    (hd : ∀ H' acc, Ext H1 H' → H' D = some (.lst acc) → acc.length = xs.length → Pv acc H' → Qd H') :
    Block (Itl K a) (gName j) tYes te vs σ H1 D Qd :=
  lc_list (xs := xs) (MadeP H1 D Pv) ⟨hD, ext_new (ext_refl H1) hD, [], upd_same, rfl, h0 _⟩ (fun i H' _ p => hx.ext p.2.1)
    (fun i x H' hi p => ⟨hw _, madeP_turn (Nat.le_trans (Nat.le_of_lt (List.getElem?_eq_some_iff.mp hi).1) hz) kp p fun acc hl pv e Q' k => he i x H' acc hi e hl pv Q' k⟩) fun H' ⟨_, e, acc, q, hl, pv⟩ => hd H' acc e q hl pv
end
end My
namespace My
open PySem PySem.Spec PyProof.Rows L2
def top (i : Nat) : Stmt := PySem.Challenge.pw_pieceround_k00_words.main.body.getD i (.Pass ⟨0, 0, 0, 0⟩)
abbrev s_dice : Stmt := top 20
abbrev s_roll : Stmt := top 21
abbrev s_pick : Stmt := top 22

local macro_rules | `(tactic| walk_at "side") => `(tactic| first | assumption | decide | exact Or.inl ⟨by decide, by decide⟩ | exact Or.inr ⟨by decide, by decide⟩ | exact ⟨by decide, by decide, by decide⟩ | omega | (unfold CMulW; decide +kernel) | (dsimp only; first | assumption | omega | decide +kernel) | exact len_ok (Nat.le_of_ble_eq_true rfl) | fail "side")
local macro_rules | `(tactic| walk_at "rd") => `(tactic| first
  | refine ⟨_, _, _, _, rfl, rfl, SqL.of upd_same, atI_nat (j := 0) rfl, ?_⟩ | refine ⟨_, _, _, _, rfl, rfl, SqL.of upd_same, atI_nat (j := 1) rfl, ?_⟩ | refine ⟨_, _, _, _, rfl, rfl, SqL.of upd_same, atI_nat (j := 2) rfl, ?_⟩
  | refine ⟨_, _, _, _, rfl, rfl, upd_same, rfl, ?_⟩
  | refine ⟨_, _, rfl, rfl, ?_⟩ | refine ⟨_, rfl, ?_⟩ | refine ⟨_, _, rfl, ?_⟩ | refine Or.inl ⟨_, rfl, ?_⟩ | refine Or.inr ⟨_, rfl, ?_⟩ | refine ⟨(by walk_at "side"), ?_⟩ | fail "rd")
def spDice (K : PySem.W.Frag) : Sp := fun vs H Q _ => ∃ (a : Addr) (i : Int) (ns : List Int), vs = [.ref a, .int i] ∧ SqL K H a (ns.map V.int) ∧ 0 ≤ i ∧ i < 1000 ∧
  ∀ p H', H p = none → Ext H H' → H' p = some (DiceO p) → Q (.ref p) H'
def spRoll : Sp := fun vs H Q _ => ∃ (a : Addr) (n : Int), vs = [.ref a, .int n] ∧ H a = some (DiceO a) ∧ 0 < n ∧ Sz 9000 n ∧ ∀ r : Int, 0 ≤ r → r < n → Q (.int r) H
def spPick (K : PySem.W.Frag) : Sp := fun vs H Q _ => ∃ (a b : Addr) (xs : List V), vs = [.ref a, .ref b] ∧ H a = some (DiceO a) ∧ SqL K H b xs ∧ xs ≠ [] ∧ xs.length ≤ 1000000 ∧ ∀ x, x ∈ xs → Q x H

section
variable {P : Program} {w : World} {K : PySem.W.Frag} {mg : Str → Option Value} {base : Heap}
theorem sc_dice : FnScope ["_law_script", "_law_spot", "_law_cell", "_law_left"] ["_law_script", "_law_spot"] (defScope s_dice) := ⟨rfl, rfl, rfl, by decide +kernel, rfl, by decide +kernel, by decide +kernel⟩
theorem ok_dice (T : Bn mg) (D : DefAt K mg "_law_dice" s_dice) : FnAt P w K mg base 1 "_law_dice" ["_law_script", "_law_spot"] (spDice K) := by
  refine fnAt D sc_dice (fun _ _ _ _ _ _ us hl => match us, hl with | [_, _], _ => rfl) (fun vs H Q E h => ?_) fun f cdv A outer s H vs Q E hr h => ?_
  · obtain ⟨a, i, ns, rfl, _⟩ := h
    rfl
  obtain ⟨a, i, ns, rfl, hS, h0, h1, k⟩ := h
  refine ⟨_, pss_diced (pss_cons (ps_set (i := 2) sc_dice.nd rfl (Or.inl rfl) (pe_ifExp (pt_cmpR op_lt (pv 1) (pe_callB call_len_seq (by rfl) T.b_len (by decide +kernel) (pa_cons (pv 0) pa_nil)) (nomark _)) (pe_callTy call_int1 (by rfl) T.b_int (by decide +kernel) (pa_cons (pe_ix ix_list (pv 0) (pv 1) (fun _ _ => rfl)) pa_nil)) (pe_op op_add (pe_op op_mul pe_int (pv 1)) pe_int)))
    (pss_cons (ps_set (i := 3) sc_dice.nd rfl (Or.inl rfl) (pe_op op_modN (pe_callB (call_max2 rfl) (by rfl) T.b_max (by decide +kernel) (pa_cons pe_int (pa_cons (pe_op op_sub (pe_callB call_abs (by rfl) T.b_abs (by decide +kernel) (pa_cons (pv 2) pa_nil)) (pe_op op_pow pe_int pe_int)) pa_nil))) (pe_op op_mulW (pe_op op_pow pe_int pe_int) (pe_op op_pow pe_int pe_int))))
    (pss_one (ps_ret (pe_lst (pa_cons (pv 3) (pa_cons (pe_op op_add (pe_op op_add (pe_op op_add (pe_op op_mul (pe_op op_modN (pe_callB call_abs (by rfl) T.b_abs (by decide +kernel) (pa_cons (pv 2) pa_nil)) pe_int) pe_int) (pe_op op_mul pe_int (pv 1))) (pe_op op_mul pe_int (pe_callTy call_int1 (by rfl) T.b_int (by decide +kernel) (pa_cons (pe_cmpR op_lt (pv 2) pe_int (nomark _)) pa_nil)))) pe_int) (pa_cons pe_int pa_nil)))))))), ?_⟩
  refine ⟨_, rfl, _, rfl, a, _, rfl, .inl hS, _, _, rfl, rfl, _, rfl, ite2 (fun hlt => ?a) (fun hge => ?b)⟩
  case' a =>
    have hj : i < (ns.length : Int) := by
      have z := of_decide_eq_true hlt
      rw [List.length_map] at z
      exact z
    obtain ⟨j, rfl⟩ : ∃ j : Nat, i = (j : Int) := ⟨i.toNat, by omega⟩
    obtain ⟨c, hc⟩ : ∃ c, ns[j]? = some c := ⟨ns[j], List.getElem?_eq_getElem (by omega)⟩
    refine ⟨_, rfl, _, rfl, a, _, _, V.int c, rfl, rfl, hS, atI_nat (by rw [List.getElem?_map, hc]; rfl), .inl ⟨_, rfl, ?_⟩⟩
  case' b => 
    repeat' (walk_at "rd")
  all_goals
    repeat' (walk_at "rd")
    intro p hp
    exact ⟨p, _, _, _, rfl, upd_same, k p _ hp (ext_mut (ext_new (ext_refl H) hp) hp) upd_same⟩

theorem fmod_in {i n : Int} (h : 0 < n) : 0 ≤ i.fmod n ∧ i.fmod n < n := by
  rw [Int.fmod_eq_emod_of_nonneg _ (by omega)]
  exact ⟨Int.emod_nonneg _ (by omega), Int.emod_lt_of_pos _ h⟩
theorem sc_roll : FnScope ["_law_dice_here", "_law_total", "_law_found", "_law_one", "_law_two"] ["_law_dice_here", "_law_total"] (defScope s_roll) := ⟨rfl, rfl, rfl, by decide +kernel, rfl, by decide +kernel, by decide +kernel⟩
theorem ok_roll (T : Bn mg) (D : DefAt K mg "_law_roll" s_roll) : FnAt P w K mg base 1 "_law_roll" ["_law_dice_here", "_law_total"] spRoll := by
  refine fnAt D sc_roll (fun _ _ _ _ _ _ us hl => match us, hl with | [_, _], _ => rfl) (fun vs H Q E h => ?_) fun f cdv A outer s H vs Q E hr h => ?_
  · obtain ⟨a, i, rfl, _⟩ := h
    rfl
  obtain ⟨a, n, rfl, ha, h0, hz, k⟩ := h
  have n0 : n ≠ 0 := by omega
  have hd : CDivX 0 n := ⟨n0, hz.log (by decide)⟩
  have h64 : ∀ x : Int, -(2 ^ 64) < x.fmod 2305843009213693951 ∧ x.fmod 2305843009213693951 < 2 ^ 64 := fun x => by
    have := fmod_in (i := x) (n := 2305843009213693951) (by decide)
    omega
  have h64' : ∀ x : Int, -(2 ^ 64) < x.fmod 2305843009213693921 ∧ x.fmod 2305843009213693921 < 2 ^ 64 := fun x => by
    have := fmod_in (i := x) (n := 2305843009213693921) (by decide)
    omega
  refine ⟨_, pss_dice (i := 0) (pss_cons (ps_if (pt_cmpR op_gt (pe_ix ix_list (pv 0) pe_int (fun _ _ => rfl)) pe_int (nomark _)) (pss_cons (ps_set (i := 2) sc_roll.nd rfl (Or.inl rfl) (pe_op op_modN (pe_callTy call_int1 (by rfl) T.b_int (by decide +kernel) (pa_cons (pe_ix ix_list (pv 0) pe_int (fun _ _ => rfl)) pa_nil)) (pv 1)))
    (pss_cons (ps_asg (pe_op op_fdivX (pe_ix ix_list (pv 0) pe_int (fun _ _ => rfl)) (pv 1)) (pg_sub (pv 0) pe_int set_list))
    (pss_one (ps_ret (pv 2))))) pss_nil)
    (pss_cons (ps_asg (pe_op op_add (pe_ix ix_list (pv 0) pe_int (fun _ _ => rfl)) pe_int) (pg_sub (pv 0) pe_int set_list))
    (pss_cons (ps_set (i := 3) sc_roll.nd rfl (Or.inl rfl) (pe_op op_modN (pe_callTy call_int1 (by rfl) T.b_int (by decide +kernel) (pa_cons (pe_op op_add (pe_ix ix_list (pv 0) pe_int (fun _ _ => rfl)) (pe_op op_mul pe_int (pe_ix ix_list (pv 0) pe_int (fun _ _ => rfl)))) pa_nil)) pe_int))
    (pss_cons (ps_set (i := 4) sc_roll.nd rfl (Or.inl rfl) (pe_op op_add (pe_op op_mul (pe_op op_modN (pe_callTy call_int1 (by rfl) T.b_int (by decide +kernel) (pa_cons (pe_op op_add (pe_op op_mul (pv 3) (pv 3)) (pe_op op_mul pe_int (pe_ix ix_list (pv 0) pe_int (fun _ _ => rfl)))) pa_nil)) pe_int) pe_int) (pv 3)))
    (pss_one (ps_ret (pe_op op_modN (pe_callTy call_int1 (by rfl) T.b_int (by decide +kernel) (pa_cons (pe_op op_fdivX (pv 4) pe_int) pa_nil)) (pv 1)))))))), ?_⟩
  refine ⟨a, rfl, ha, fun l z c => ?_⟩
  have back : ∀ o, upd (upd (upd H a (d3 l z c)) a o) a (DiceO a) = H := fun o => by
    rw [upd_upd, upd_upd]
    funext b
    by_cases hb : b = a
    · rw [hb, upd_same, ha]
    · rw [upd_ne hb]
  repeat' (walk_at "rd")
  refine ite2 (fun h1 => ?_) (fun h2 => ?_)
  · have hdl : CDivX l n := hd
    repeat' (walk_at "rd")
    exact ⟨⟨_, _, _, upd_same⟩, (by
      show Q _ (upd (upd (upd H a _) a _) a _)
      rw [back]
      exact k _ (fmod_in h0).1 (fmod_in h0).2)⟩
  · repeat' (first | walk_at "rd" | refine ⟨.inl (h64 _), ?_⟩  | refine ⟨.inl (h64' _), ?_⟩ | refine ⟨(show CDivX _ 65536 from ⟨by decide, by decide +kernel⟩), ?_⟩ | fail)
    exact ⟨⟨_, _, _, upd_same⟩, (by
      show Q _ (upd (upd (upd H a _) a _) a _)
      rw [back]
      exact k _ (fmod_in h0).1 (fmod_in h0).2)⟩
theorem sc_pick : FnScope ["_law_dice_here", "_law_items"] ["_law_dice_here", "_law_items"] (defScope s_pick) := ⟨rfl, rfl, rfl, by decide +kernel, rfl, by decide +kernel, by decide +kernel⟩
theorem ok_pick (T : Bn mg) (D : DefAt K mg "_law_pick" s_pick) (F__law_roll : FnAt P w K mg base 1 "_law_roll" ["_law_dice_here", "_law_total"] spRoll) : FnAt P w K mg base 2 "_law_pick" ["_law_dice_here", "_law_items"] (spPick K) := by
  refine fnAt D sc_pick (fun _ _ _ _ _ _ us hl => match us, hl with | [_, _], _ => rfl) (fun vs H Q E h => ?_) fun f cdv A outer s H vs Q E hr h => ?_
  · obtain ⟨a, b, xs, rfl, _⟩ := h
    rfl
  obtain ⟨a, b, xs, rfl, ha, hb, hne, hl, k⟩ := h
  have hp : 0 < xs.length := List.length_pos_iff.mpr hne
  refine ⟨_, pss_one (ps_ret (pe_ix ix_list (pv 1) (callA F__law_roll (hr.mono (by decide)) rfl (pa_cons (pv 0) (pa_cons (pe_callB call_len_seq (by rfl) T.b_len (by decide +kernel) (pa_cons (pv 1) pa_nil)) pa_nil))) (fun _ _ => rfl))), ?_⟩
  refine ⟨_, rfl, _, rfl, _, rfl, b, xs, rfl, .inl hb, a, _, rfl, ha, by omega, ?_, fun r h0 h1 => ?_⟩
  · exact Nat.lt_of_le_of_lt (show ((xs.length : Int)).natAbs ≤ 1000000 by omega) (by decide +kernel)
  obtain ⟨j, rfl⟩ : ∃ j : Nat, r = (j : Int) := ⟨r.toNat, by omega⟩
  have hj : j < xs.length := by omega
  exact ⟨b, xs, _, xs[j], rfl, rfl, hb, atI_nat (List.getElem?_eq_getElem hj), k _ (List.getElem_mem hj)⟩
end
end My
/-! an own error over a class that is not ValueError, with the one field "value" -/
namespace My.LowV
open PySem PySem.W PySem.Calls PyProof.Rows PySem.HandSPX
def vA (p1 p2 : Pos) : Arguments := { posonlyargs := [], args := [{ arg := "self", annotation := none, pos := p1 }, { arg := "value", annotation := none, pos := p2 }], vararg := none, kwonlyargs := [], kw_defaults := [], kwarg := none, defaults := [] }
def vB (q1 q2 q3 q4 : Pos) : List Stmt := [.Assign [.Attribute (.Name "self" q1) "value" q2] (.Name "value" q3) q4]
def vS : Scope := { kind := .function, names := [(PySem.Str.ofString "self", .local), (PySem.Str.ofString "value", .local)], isGenerator := false, isCoroutine := false, more := [] }
/-- what the written part says of the class x at C over B, and of its __init__ at fI -/
structure ErrV (K : Frag) (mg : Str → Option Value) (B newId : String) (bmB : List Value) (x qn : Str) (C fI : Addr) : Prop where
  gC : mg x = some (.ref C)
  q : excInitIn K C bmB newId = true
  ov : excOver K C bmB = true
  tk : takerIn K C "value" = some none
  sa : findIn K (.ref C) "__setattr__" = some (some (.builtin "object.__setattr__"))
  ga : findIn K (.ref C) "__getattribute__" = some (some (.builtin "BaseException.__getattribute__"))
  gg : findIn K (.ref C) "__getattr__" = some none
  noN : findIn K (.ref C) "value" = some none
  iC : findIn K (.ref C) "__init__" = some (some (.ref fI))
  tC : typeIn K (.ref fI) = some (.type "function")
  kC : keepIn K (.ref C) = true
  exC : subIn K (.ref C) (.type "BaseException") = some true
  tyC : typeIn K (.ref C) = some (.type "type")
  hdC : hasDictIn K C = true
  fn : ∃ (oc : Value) (od : Option Addr) (doc pm : Value) (an : Option Addr) (cdv ct : Value) (osl : Array (Option Value)) (p1 p2 q1 q2 q3 q4 : Pos),
    K.lookup fI = some ⟨oc, od, .func (fnOf "__init__" qn (vA p1 p2) (vB q1 q2 q3 q4) vS .none .none doc pm an cdv ct), osl⟩ ∧ codeIn K cdv qn = true
theorem kept_but {K : Frag} {h h' : Heap} {x : Addr} (X : K.In h) (hx : K.lookup x = none) (k : ∀ b o, b ≠ x → h.get? b = some o → h'.get? b = some o) : K.In h' := fun a o e =>
  k a o (fun z => by rw [z, hx] at e; cases e) (X a o e)
theorem ldV {M : Model} {s : Shared} {name : Str} {scope : Scope} {L a : Addr} {cd : Value} {m : Str → Option Value} {x : Str} {pos : Pos} {v : Value} {Q : Value → Shared → Prop} {A : Around} {E : Value → Shared → Prop} (hn : s.heap.Ns L m) (hv : m x = some v) (h : Q v s)
    (hk : scope.kind = .function := by rfl) (hl : (envOfC name scope L a cd).kindOf x = some .local := by rfl) (hd : (x == ("__debug__" : Str)) = false := by decide) :
    wpAny M A (eval (.Name x pos) (envOfC name scope L a cd)) Q E s := wpAny_Name (wpAny_loadName_local hk hl hn hv h) hd
/-- what __init__ leaves of a fresh error at x -/
structure InitV (h h' : Heap) (x C dx t1 : Addr) (v : Value) : Prop where
  keep : ∀ b o, b ≠ x → h.get? b = some o → h'.get? b = some o
  obj : h'.get? x = some { cls := .ref C, dict := some dx, data := .fields #[.ref t1, .none, .none, .none, .bool false, .none] }
  dbig : h.objs.size ≤ dx
  dne : dx ≠ x
  ns : h'.Ns1 dx (fun y => if y = "value" then some v else none)
structure MadeV (h h' : Heap) (e C d : Addr) (v : Value) : Prop where
  keep : ∀ b o, h.get? b = some o → h'.get? b = some o
  new : h.objs.size ≤ e
  obj : ∃ oe vs, h'.get? e = some oe ∧ oe.cls = .ref C ∧ oe.dict = some d ∧ oe.data = .fields vs ∧ vs[1]? = some .none
  dbig : h.objs.size ≤ d
  dne : d ≠ e
  ns : h'.Ns1 d (fun y => if y = "value" then some v else none)
section
variable {prog : Program} {w : World} {A : Around} {E : Value → Shared → Prop} {R : Result → Shared → Prop} {s : Shared} {K : Frag} {mg : Str → Option Value} {C fI : Addr} {B newId : String} {bmB : List Value} {cx qn : Str}
/-- the first store -/
theorem osa_first {name : Str} {tk : Tok} {v : Value} {x t0 : Addr} (SF : StoreFacts B bmB "object.__setattr__" "object") (X : K.In s.heap) (hx : s.heap.get? x = some (excO C t0)) (ov : excOver K C bmB = true) (ht : takerIn K C name = some none) (hh : hasDictIn K C = true)
    (hq : ∀ h' tk' dx, (∀ b o, b ≠ x → s.heap.get? b = some o → h'.get? b = some o) → s.heap.objs.size ≤ dx → dx ≠ x → h'.get? x = some { cls := .ref C, dict := some dx, data := .fields #[.ref t0, .none, .none, .none, .bool false, .none] } →
      h'.Ns1 dx (fun y => if y = name then some v else none) → R (.ok (.ret .none)) { s with heap := h', toks := tk' }) :
    codeAny (model prog w) A (.call (.builtin "object.__setattr__") ⟨[.ref x, .str name tk, v], []⟩) R s := by
  refine osa_openX (od := none) SF X ⟨hx, rfl, rfl, trivial⟩ ov ht fun b => ?_
  obtain ⟨cd, hc, hd'⟩ := any_some hh
  have hxs : x ≠ s.heap.objs.size := Nat.ne_of_lt (Heap.lt_size hx)
  refine wpAny_bind (wpAny_pure (wpAny_bind (instanceDict_exc hx (looks_clsIn X hc) hd' ?_)))
  obtain ⟨hp, g, d, t, os⟩ := s
  show wpAny _ _ (Builtin.ObjectAttr.storeInDict hp.objs.size (.str name tk) name v) _ _ _
  have hx1 := Heap.get?_push_of_some (dictOf [] 0) hx
  refine store_in_new ?_ fun h' tk' hn' hs => ?_
  · exact ⟨_, #[], _, (Heap.get?_update_ne _ _ _ _ hxs.symm).trans (Heap.get?_push_at rfl rfl), rfl, fun e he => absurd he (by simp), fun _ => rfl⟩
  · refine hq h' tk' hp.objs.size (fun b o hb ho => ?_) (Nat.le_refl _) hxs.symm ?_ hn'
    · exact (hs.2 b (Nat.ne_of_lt (Heap.lt_size ho))).trans ((Heap.get?_update_ne _ _ _ _ hb).trans (Heap.get?_push_of_some _ ho))
    · exact (hs.2 x hxs).trans (Heap.get?_update_self _ hx1 rfl)
theorem init_V (T : ErrV K mg B newId bmB cx qn C fI) (SF : StoreFacts B bmB "object.__setattr__" "object") {x t0 : Addr} {v : Value} (X : K.In s.heap) (hlim : s.heap.NoLimit) (hx : s.heap.get? x = some (excO C t0)) (hroom : A.depth < recursionLimit)
    (hq : ∀ h' tk dx, InitV s.heap h' x C dx t0 v → R (.ok (.ret .none)) { s with heap := h', toks := tk }) :
    codeAny (model prog w) A (.call (.ref fI) ⟨[.ref x, v], []⟩) R s := by
  obtain ⟨oc, od, doc, pm, an, cdv, ct, osl, p1, p2, q1, q2, q3, q4, ho, hcd⟩ := T.fn
  refine Att.call_fn (binds := [("self", .ref x), ("value", v)]) X hlim ho hcd hroom (BindsTo.of_eq (by first | rfl | with_unfolding_all rfl)) (by first | rfl | decide | with_unfolding_all rfl) (fun s₁ IC => ?_) rfl rfl rfl
  obtain ⟨h₁, tk₁, rfl⟩ := IC.toInCall.same
  have k : ∀ b o, s.heap.get? b = some o → h₁.get? b = some o := IC.toInCall.keep
  have hn := IC.toInCall.ns
  have X₁ : K.In h₁ := X.keeps k
  have hx₁ := k _ _ hx
  show wpAny _ _ (execs _ _) _ _ _
  refine wpAny_execs_cons (plainObj_wpAny_Assign_Attribute ?_)
  refine ldV (v := v) hn (by first | rfl | with_unfolding_all rfl | kernel_rfl) (ldV (v := .ref x) hn (by first | rfl | with_unfolding_all rfl | kernel_rfl) ?_)
  refine set_plain X₁ (ox := excO C t0) (od := none) ⟨hx₁, rfl, rfl, trivial⟩ T.sa ?_
  refine osa_first SF X₁ hx₁ T.ov T.tk T.hdC (fun h₃ tk₃ dx k₃ dn dne hx₃ hn₃ => ?_)
  show wpAny _ _ (execs _ _) _ _ _
  have z : s.heap.objs.size < h₁.objs.size := hn.lt
  exact wpAny_execs_nil (hq h₃ tk₃ dx ⟨fun b o hb e => k₃ b o hb (k b o e), hx₃, Nat.le_of_lt (Nat.lt_of_lt_of_le z dn), dne, hn₃⟩)
theorem made_V (T : ErrV K mg B newId bmB cx qn C fI) (SF : StoreFacts B bmB "object.__setattr__" "object") {initId : String} (FB : ExcBaseFacts B newId initId bmB) {v : Value} (X : K.In s.heap) (hlim : s.heap.NoLimit) (hroom : A.depth + 1 < recursionLimit)
    (hq : ∀ h' tk e d, MadeV s.heap h' e C d v → R (.ok (.ret (.ref e))) { s with heap := h', toks := tk }) :
    codeAny (model prog w) A (.call (.ref C) ⟨[v], []⟩) R s := by
  obtain ⟨nm, N, qnm, bs, bm, hdct, sn, sub, ab, col, dd, k0, k1, k2, k3, k5, hC, hT⟩ := excInit_of X T.q
  obtain ⟨hp, g, dr, tk, os⟩ := s
  have k : ∀ b o, hp.get? b = some o → ((hp.push (kdv_tup [v])).push (excO C hp.objs.size)).get? b = some o := fun b o e => Heap.get?_push_of_some _ (Heap.get?_push_of_some _ e)
  have hget : ((hp.push (kdv_tup [v])).push (excO C hp.objs.size)).get? (hp.objs.size + 1) = some (excO C hp.objs.size) := by heap_get
  refine call_own FB hT hC (looks_findIn X T.iC) (fun self => bind_fn X self T.tC) (by rw [sizeLine_eq]; show 1 ≤ 16777216; decide) ?_
  refine init_V (s := ⟨(hp.push (kdv_tup [v])).push (excO C hp.objs.size), g, dr, tk, os⟩) T SF (X.keeps k) (hlim.keeps k) hget ?_ fun h' tk' dx ⟨k', hx, dn, dne, hns⟩ => ?_
  · show A.depth + 1 < recursionLimit
    exact hroom
  · have old : ∀ b o, hp.get? b = some o → h'.get? b = some o := fun b o e => k' b o (Nat.ne_of_lt (Nat.lt_succ_of_lt (Heap.lt_size e))) (k b o e)
    have z : hp.objs.size + 1 + 1 ≤ dx := by
      first
        | (simpa only [Heap.size_push] using dn)
        | exact dn
        | (have q := dn; rw [Heap.size_push, Heap.size_push] at q; exact q)
    exact ⟨rfl, hq h' tk' (hp.objs.size + 1) dx ⟨old, Nat.le_succ _, ⟨_, _, hx, rfl, rfl, rfl, rfl⟩, Nat.le_trans (Nat.le_trans (Nat.le_succ _) (Nat.le_succ _)) z, dne, hns⟩⟩
end
end My.LowV
namespace My
open PySem PySem.Spec PyProof.Rows L2
open LowV (ErrV MadeV)
theorem relO_v {v : V} {v' : Value} (r : RelV v v') (f : Str) : RelO (List.lookup f [(("value" : Str), v)]) (if f = "value" then some v' else none) := by
  by_cases hw : f = "value"
  · subst hw
    rw [if_pos rfl]
    have q : List.lookup ("value" : Str) [(("value" : Str), v)] = some v := by simp [List.lookup]
    rw [q]
    exact r
  · rw [if_neg hw]
    have qw : (f == ("value" : Str)) = false := by simpa using hw
    have q2 : List.lookup f [(("value" : Str), v)] = none := by simp [List.lookup, qw]
    rw [q2]
    trivial
section
variable {X : Cx} {C fI : Addr} {B newId : String} {bmB : List Value} {cx qn : Str} {initId : String}
def tMkV (C : Addr) (ta : TA) : L2.St → Hp → XK → Prop := fun σ H Q => ta σ H fun vs H1 => ∃ v, vs = [v] ∧ ∀ d, H1 d = none → Q (.ref C) (some d) (upd H1 d (.xd [(("value" : Str), v)]))
theorem pmk_V {a : Expr} {ta : TA} {p pos : Pos} {k : Nat} (T : ErrV X.K X.mg B newId bmB cx qn C fI) (SF : StoreFacts B bmB "object.__setattr__" "object") (FB : ExcBaseFacts B newId initId bmB) (hr : Room k X.A) (ha : PA X [a] ta) (hg : Gl X cx) (hdb : (cx == ("__debug__" : Str)) = false := by decide)
    (he : starEach (a :: []) X.env = (false, eval a X.env) :: starEach [] X.env := by rfl) (hpl : (backTo pos (starEach [] X.env)).any (·.1) = false := by rfl) :
    PMk X (.Call (.Name cx p) [a] [] pos) (tMkV C ta) := by
  intro pins s σ H Q I h
  refine wpAny_Call_Name_kw (ld_glob I hg T.gC ?_ hdb)
  refine PySem.W.callWith_K (h₀ := X.base) I.ok.mod.kin T.kC (thn (ha.run pos pins s σ H _ I h) fun us s1 hh => ?_) he hpl
  obtain ⟨vs, H1, I1, r1, v, ev, q1⟩ := hh
  subst ev
  refine ⟨I1.kIn, ?_⟩
  cases r1 with
  | cons rv rn =>
    rename_i v' us'
    cases rn
    show wpAny _ _ (call (.ref C) [v']) _ _ _
    have hlim := I1.nolimit
    obtain ⟨hp, g, dr, tk, os⟩ := s1
    refine wpAny_call (LowV.made_V T SF FB I1.kIn hlim (by have := hr.dp; omega) fun h' tk' e d M => ?_)
    show MkP X pins σ Q (.ref e) ⟨h', g, dr, tk', os⟩
    obtain ⟨oe, fv, hoe, hc, hd, hdat, h1⟩ := M.obj
    have hns := M.ns
    obtain ⟨G', g1, g2⟩ := restrict h' fun b => decide (b ≠ e)
    have gk : ∀ b, b ≠ e → G'.get? b = h'.get? b := fun b hb => g1 b (decide_eq_true hb)
    have ge : G'.get? e = none := g2 e (by simp)
    have old : ∀ b o, hp.get? b = some o → G'.get? b = some o := fun b o q => (gk b (Nat.ne_of_lt (Nat.lt_of_lt_of_le (Heap.lt_size q) M.new))).trans (M.keep b o q)
    have ob : ObjOk X.prog X.w (upd H1 d (.xd [(("value" : Str), v)])) G' d (.xd [(("value" : Str), v)]) :=
      ⟨_, hns.at (fun o q => (gk d M.dne).trans q), fun f => relO_v rv f⟩
    have J : Inv X pins σ (upd H1 d (.xd [(("value" : Str), v)])) ⟨G', g, dr, tk', os⟩ := I1.laid (t' := tk') old M.dbig ob
    refine ⟨e, oe, fv, ⟨G', g, dr, tk', os⟩, _, .ref C, some d, rfl, J, fun b o q => ?_, ge, hoe, ⟨hc, hd⟩, hdat, h1, ?_, rfl, I1.bare, raises_own T.exC T.tyC, q1 d (I1.hok.fresh M.dbig)⟩
    · by_cases hb : b = e
      · have q' : G'.get? b = some o := q
        rw [hb, ge] at q'; cases q'
      · exact (gk b hb).symm.trans q
    · rw [upd_ne (Ne.symm M.dne)]
      exact I1.hok.fresh M.new
/-- e.value in the suite that holds the error -/
theorem pe_value {a : Addr} {oe : Obj} {cls : Value} {d : Option Addr} {pn : List (Addr × Obj)} {e : Expr} {te : TE} {pos : Pos} (T : ErrV X.K X.mg B newId bmB cx qn C fI) (hz : Zc cls d oe) (hf : ∃ vs, oe.data = .fields vs) (he : PE (X.suite a ((a, oe) :: pn)) e te)
    (hb : attributeBase e "value" X.env (eval e X.env) = eval e X.env := by rfl) :
    PE (X.suite a ((a, oe) :: pn)) (.Attribute e "value" pos) (tXf a cls d C "value" te) :=
  pe_xf ⟨T.ga, T.gg, T.exC, T.hdC⟩ T.noN hz hf he hb
end
end My
namespace My
open PySem PySem.Spec PyProof.Rows L2
abbrev s_isint : Stmt := top 11
theorem sc_isint : FnScope ["value"] ["value"] (defScope s_isint) := ⟨rfl, rfl, rfl, by decide +kernel, rfl, by decide +kernel, by decide +kernel⟩
theorem kit_int : kitB "int" "int" = some true := by decide +kernel
theorem kit_intbool : kitB "int" "bool" = some false := by decide +kernel
/-! ### defs that raise -/
structure FxAt (P : Program) (w : World) (K : PySem.W.Frag) (mg : Str → Option Value) (base : Heap) (k : Nat) (x : Str) (ps : List Str) (sp : Sp) : Prop where
  ex : ∃ (f : Addr) (fd : FuncData), mg x = some (.ref f) ∧ PySem.W.keepIn K (.ref f) = true ∧ Binds K fd ps [] ∧ FnOk P w K mg base (L2.CX P w) k f fd ps sp
structure MxAt (P : Program) (w : World) (K : PySem.W.Frag) (mg : Str → Option Value) (base : Heap) (k : Nat) (C : Addr) (x : Str) (ps : List Str) (sp : Sp) : Prop where
  ex : ∃ (f : Addr) (fd : FuncData), Meth K C x f ∧ Binds K fd ps [] ∧ FnOk P w K mg base (L2.CX P w) k f fd ps sp
structure OxAt (P : Program) (w : World) (K : PySem.W.Frag) (mg : Str → Option Value) (base : Heap) (k : Nat) (C : Addr) (op : Operator) (sp : Sp) : Prop where
  ex : ∃ (f : Addr) (fd : FuncData), OwnOp K C op f ∧ Binds K fd ["self", "other"] [] ∧ FnOk P w K mg base (L2.CX P w) k f fd ["self", "other"] sp
section
variable {X : Cx} {k : Nat} {x : Str} {ps : List Str} {sp : Sp} {p pos p2 pos2 : Pos} {e : Expr} {es : List Expr} {t : TA} {C : Addr} {m : Str} {j : Nat} {W : WX} {E : XK}
theorem callX (F : FxAt X.prog X.w X.K X.mg X.base k x ps sp) (hr : Room k X.A) (hg : Gl X x) (tk : Takes X W) (hW : ∀ cls d σ H, E cls d H → W cls d σ H) (ha : PA X (e :: es) t) (hdb : (x == ("__debug__" : Str)) = false := by decide)
    (he : starEach (e :: es) X.env = (false, eval e X.env) :: starEach es X.env := by rfl) (hpl : (backTo pos (starEach es X.env)).any (·.1) = false := by rfl) : PE X (.Call (.Name x p) (e :: es) [] pos) (tCall sp [] E t) := by
  obtain ⟨f, fd, hm, hk, hb, G⟩ := F.ex
  exact pe_call G hr hg hm hk hb .nil (passes_call tk hW) ha hdb he hpl
end
theorem tyOf_ext {K : PySem.W.Frag} {H H' : Hp} {v : V} {t : Value} (h : TyOf K H v t) (e : Ext H H') : TyOf K H' v t := by
  cases h with
  | non => exact .non
  | bl x => exact .bl x
  | int i => exact .int i
  | str x => exact .str x
  | flt x => exact .flt x
  | lst q => exact .lst (e _ _ q)
  | frz q => exact .frz (e _ _ q)
  | tup q => exact .tup (e _ _ q)
  | dK q => exact .dK (e _ _ q)
  | dT q => exact .dT (e _ _ q)
  | ins q cl ha hn htk hm => exact .ins (e _ _ q) cl ha hn htk hm
theorem tyX_ext {K : PySem.W.Frag} {H H' : Hp} {v : V} {t : Value} (h : TyX K H v t) (e : Ext H H') : TyX K H' v t := by
  cases h with
  | base h => exact .base (tyOf_ext h e)
  | byt b => exact .byt b
  | set q => exact .set (e _ _ q)
  | kList q c => exact .kList q c
  | kTuple q c => exact .kTuple q c
  | kDict q c => exact .kDict q c
  | fTuple q => exact .fTuple (e _ _ q)
  | fDict q => exact .fDict (e _ _ q)
structure OddK (K : PySem.W.Frag) (H : Hp) (v : V) : Prop where
  ni : ∀ i, v ≠ .int i
  ty : (∃ b, v = .bl b) ∨ ∃ t, TyX K H v t ∧ PySem.W.kitOne K t (.type "int") = some false
theorem OddK.ext {K : PySem.W.Frag} {H H' : Hp} {v : V} (h : OddK K H v) (e : Ext H H') : OddK K H' v := ⟨h.ni, h.ty.elim .inl fun ⟨t, a, b⟩ => .inr ⟨t, tyX_ext a e, b⟩⟩
def VK2 (K : PySem.W.Frag) (H : Hp) (v : V) : Prop := (∃ i, v = .int i) ∨ OddK K H v
def isI : V → Bool
  | .int _ => true
  | _ => false
theorem OddK.isI {K : PySem.W.Frag} {H : Hp} {v : V} (h : OddK K H v) : isI v = false := by
  cases v with
  | int i => exact absurd rfl (h.ni i)
  | _ => rfl
def spIsIntA (K : PySem.W.Frag) : Sp := fun vs H Q _ => ∃ v, vs = [v] ∧ VK2 K H v ∧ Q (.bl (isI v)) H
theorem kit_boolint : kitB "bool" "int" = some true := by decide +kernel
theorem kit_boolbool : kitB "bool" "bool" = some true := by decide +kernel
section
variable {P : Program} {w : World} {K : PySem.W.Frag} {mg : Str → Option Value} {base : Heap} {C : Addr}
theorem ok_isintA (T : Bn mg) (D : DefAt K mg "is_any_integer" s_isint) : FnAt P w K mg base 1 "is_any_integer" ["value"] (spIsIntA K) := by
  refine fnAt D sc_isint (fun _ _ _ _ _ _ us hl => match us, hl with | [_], _ => rfl) (fun vs H Q E h => ?_) fun f cdv A outer s H vs Q E hr h => ?_
  · obtain ⟨v, rfl, _⟩ := h
    rfl
  obtain ⟨v, rfl, hv, k⟩ := h
  refine ⟨_, (pss_one (ps_ret (pe_and (pe_callB call_isi (by rfl) T.b_isinstance (by decide +kernel) (pa_cons (pv 0) (pa_cons (pe_bltn (v := .ty "int") (by rfl) T.b_int (by decide +kernel) rfl) pa_nil))) (pe_one (pe_not (pe_callB call_isi (by rfl) T.b_isinstance (by decide +kernel) (pa_cons (pv 0) (pa_cons (pe_bltn (v := .ty "bool") (by rfl) T.b_bool (by decide +kernel) rfl) pa_nil)))))))), ?_⟩
  rcases hv with ⟨i, rfl⟩ | o
  · refine ⟨_, rfl, _, _, _, _, true, rfl, .ty _, .base (.int _), kit_ty kit_int, _, rfl, iteT ?_⟩
    exact ⟨_, rfl, _, _, _, _, false, rfl, .ty _, .base (.int _), kit_ty kit_intbool, _, rfl, k⟩
  · rw [o.isI] at k
    rcases o.ty with ⟨b, rfl⟩ | ⟨t, ty, hk⟩
    · refine ⟨_, rfl, _, _, _, _, true, rfl, .ty _, .base (.bl _), kit_ty kit_boolint, _, rfl, iteT ?_⟩
      exact ⟨_, rfl, _, _, _, _, true, rfl, .ty _, .base (.bl _), kit_ty kit_boolbool, _, rfl, k⟩
    · exact ⟨_, rfl, _, _, _, _, false, rfl, .ty _, ty, hk, _, rfl, iteF k⟩
theorem fxAt {x : Str} {st : Stmt} {N ps : List Str} {k : Nat} {sp : Sp} (D : DefAt K mg x st) (S : FnScope N ps (defScope st))
    (hbind : ∀ (kV doc pm : Value) (an : Option Addr) (cdv ct : Value) (us : List Value), us.length = ps.length → bindArgs (PySem.W.fnOf x x (defArgs st) (defBody st) (defScope st) .none kV doc pm an cdv ct) ⟨us, []⟩ = pure (ps.zip us))
    (len : ∀ vs H Q E, sp vs H Q E → vs.length = ps.length)
    (hbody : ∀ (f : Addr) (cdv : Value) (A : Around) (outer : List Env) (s : Shared) (H : Hp) (vs : List V) (Q : VK) (E : XK), Room k (A.deeper (envOfC x (defScope st) s.heap.objs.size f cdv)) → sp vs H Q E →
      ∃ t, PSs (cxOf (L2.CX P w) P w K mg base N x (defScope st) f cdv A outer s H E) (defBody st) t ∧ t { nx := fun _ H' => Q .non H', rt := Q } (start N vs) H) : FxAt P w K mg base (k + 1) x ps sp := by
  obtain ⟨f, fd, hm, F⟩ := D.ex
  exact ⟨f, fd, hm, F.kp, F.binds hbind, F.okX S len fun cdv A outer s H vs Q E hr h => hbody f cdv A outer s H vs Q E hr h⟩
end
end My
namespace My
open PySem PySem.Spec PyProof.Rows L2
section
variable {K : PySem.W.Frag} {a D : Addr} {xs : List V} {z : Str} {tt : TT} {te : TE} {vs : List Nat} {σ : L2.St} {H1 : Hp} {j : Nat}
/-- the signs of a text -/
def signs (z : Str) : List V := z.cps.toList.map fun c => .str ⟨#[c]⟩
theorem signs_at {z : Str} {i c : Nat} (h : z.cps[i]? = some c) : (signs z)[i]? = some (.str ⟨#[c]⟩) := by
  unfold signs
  rw [List.getElem?_map, Array.getElem?_toList, h]
  rfl
theorem signs_len (z : Str) : (signs z).length = z.cps.size := by simp [signs]
theorem signs_mem {z : Str} {x : V} (h : x ∈ signs z) : ∃ c, c ∈ z.cps.toList ∧ x = .str ⟨#[c]⟩ := by
  obtain ⟨c, hc, e⟩ := List.mem_map.mp h
  exact ⟨c, hc, e.symm⟩
theorem map_str {Qd : Hp → Prop} (f : Nat → V → V) (hD : H1 D = none) (hz : z.cps.size ≤ 1000000) (hw : ∀ x, wipe ((wipe σ vs).set j (some x)) vs = wipe σ vs)
    (he : ∀ i x H', (signs z)[i]? = some x → Ext H1 H' → ∀ Q' : VK, (∀ H'', Ext H' H'' → Q' (f i x) H'') → te ((wipe σ vs).set j (some x)) H' Q') (hd : ∀ H', Ext H1 H' → H' D = some (.lst ((signs z).mapIdx f)) → Qd H') :
    Block (Its z) (gName j) tYes te vs σ H1 D Qd :=
  lc_it walk_str (Made H1 D f (signs z)) ⟨hD, ext_new (ext_refl H1) hD, upd_same⟩ (fun _ _ _ _ => trivial) (fun i x H H' hi p y => by
      obtain ⟨rfl, c, hc, rfl⟩ := y
      have q := signs_at hc
      exact ⟨hw _, made_turn (by rw [signs_len]; exact hz) q p (he i _ _ q p.2.1)⟩)
    fun H' p => hd H' p.2.1 (by
      have q := p.2.2
      rw [← signs_len, List.take_length] at q
      exact q)
/-- what a comprehension with a known test has kept behind i turns -/
def Filt (H1 : Hp) (D : Addr) (p : V → Bool) (xs : List V) (i : Nat) (H' : Hp) : Prop := H1 D = none ∧ Ext H1 H' ∧ H' D = some (.lst ((xs.take i).filter p))
theorem filt_turn {p : V → Bool} {i : Nat} {x : V} {H' : Hp} {σ2 : L2.St} (hz : xs.length ≤ 1000000) (hi : xs[i]? = some x) (q : Filt H1 D p xs i H') (ht : ∀ Q' : Bool → Hp → Prop, (∀ H'', Ext H' H'' → Q' (p x) H'') → tt σ2 H' Q') (he : ∀ (H : Hp) (Q' : VK), Q' x H → te σ2 H Q') :
    tt σ2 H' fun b H3 => if b = true then te σ2 H3 fun y H4 => ∃ acc, H4 D = some (.lst acc) ∧ acc.length < sizeLine ∧ Filt H1 D p xs (i + 1) (upd H4 D (.lst (acc ++ [y]))) else Filt H1 D p xs (i + 1) H3 := by
  obtain ⟨p1, p2, p3⟩ := q
  refine ht _ fun H'' e => ?_
  by_cases hp : p x = true
  · rw [if_pos hp]
    refine he _ _ ⟨_, e _ _ p3, ?_, p1, ext_mut (p2.trans e) p1, ?_⟩
    · have h1 : ((xs.take i).filter p).length ≤ (xs.take i).length := List.length_filter_le _ _
      rw [List.length_take] at h1
      exact Nat.lt_of_le_of_lt (Nat.le_trans h1 (Nat.le_trans (Nat.min_le_right _ _) hz)) (by decide)
    · rw [upd_same, take_next hi, List.filter_append, List.filter_cons, if_pos hp]
      rfl
  · rw [if_neg hp]
    refine ⟨p1, p2.trans e, ?_⟩
    rw [take_next hi, List.filter_append, List.filter_cons, if_neg hp]
    have := e _ _ p3
    simpa using this
theorem filt_list {Qd : Hp → Prop} (p : V → Bool) (hx : SqL K H1 a xs) (hD : H1 D = none) (hz : xs.length ≤ 1000000) (hw : ∀ x, wipe ((wipe σ vs).set j (some x)) vs = wipe σ vs)
    (ht : ∀ (i : Nat) x H', xs[i]? = some x → Ext H1 H' → ∀ Q' : Bool → Hp → Prop, (∀ H'', Ext H' H'' → Q' (p x) H'') → tt ((wipe σ vs).set j (some x)) H' Q') (he : ∀ x (H : Hp) (Q' : VK), Q' x H → te ((wipe σ vs).set j (some x)) H Q')
    (hd : ∀ H', Ext H1 H' → H' D = some (.lst (xs.filter p)) → Qd H') : Block (Itl K a) (gName j) tt te vs σ H1 D Qd :=
  lc_list (xs := xs) (Filt H1 D p xs) ⟨hD, ext_new (ext_refl H1) hD, upd_same⟩ (fun i H' _ q => hx.ext q.2.1) (fun i x H' hi q => ⟨hw x, filt_turn hz hi q (ht i x H' hi q.2.1) (he x)⟩)
    fun H' q => hd H' q.2.1 (by have z := q.2.2; rw [List.take_length] at z; exact z)
theorem filt_tup {Qd : Hp → Prop} (p : V → Bool) (hx : SqT K H1 a xs) (hD : H1 D = none) (hz : xs.length ≤ 1000000) (hw : ∀ x, wipe ((wipe σ vs).set j (some x)) vs = wipe σ vs)
    (ht : ∀ (i : Nat) x H', xs[i]? = some x → Ext H1 H' → ∀ Q' : Bool → Hp → Prop, (∀ H'', Ext H' H'' → Q' (p x) H'') → tt ((wipe σ vs).set j (some x)) H' Q') (he : ∀ x (H : Hp) (Q' : VK), Q' x H → te ((wipe σ vs).set j (some x)) H Q')
    (hd : ∀ H', Ext H1 H' → H' D = some (.lst (xs.filter p)) → Qd H') : Block (Itt K a) (gName j) tt te vs σ H1 D Qd :=
  lc_tup (xs := xs) (Filt H1 D p xs) ⟨hD, ext_new (ext_refl H1) hD, upd_same⟩ (fun i H' _ q => hx.ext q.2.1) (fun i x H' hi q => ⟨hw x, filt_turn hz hi q (ht i x H' hi q.2.1) (he x)⟩)
    fun H' q => hd H' q.2.1 (by have z := q.2.2; rw [List.take_length] at z; exact z)
theorem filt_str {Qd : Hp → Prop} (p : V → Bool) (hD : H1 D = none) (hz : z.cps.size ≤ 1000000) (hw : ∀ x, wipe ((wipe σ vs).set j (some x)) vs = wipe σ vs)
    (ht : ∀ (i : Nat) x H', (signs z)[i]? = some x → Ext H1 H' → ∀ Q' : Bool → Hp → Prop, (∀ H'', Ext H' H'' → Q' (p x) H'') → tt ((wipe σ vs).set j (some x)) H' Q') (he : ∀ x (H : Hp) (Q' : VK), Q' x H → te ((wipe σ vs).set j (some x)) H Q')
    (hd : ∀ H', Ext H1 H' → H' D = some (.lst ((signs z).filter p)) → Qd H') : Block (Its z) (gName j) tt te vs σ H1 D Qd :=
  lc_it walk_str (Filt H1 D p (signs z)) ⟨hD, ext_new (ext_refl H1) hD, upd_same⟩ (fun _ _ _ _ => trivial) (fun i x H H' hi q y => by
      obtain ⟨rfl, c, hc, rfl⟩ := y
      have e := signs_at hc
      exact ⟨hw _, filt_turn (by rw [signs_len]; exact hz) e q (ht i _ _ e q.2.1) (he _)⟩)
    fun H' q => hd H' q.2.1 (by
      have e := q.2.2
      rw [← signs_len, List.take_length] at e
      exact e)
/-- a comprehension whose test is not told: what is kept is of the source -/
def Some' (H1 : Hp) (D : Addr) (xs : List V) (i : Nat) (H' : Hp) : Prop := H1 D = none ∧ Ext H1 H' ∧ ∃ acc, H' D = some (.lst acc) ∧ acc.length ≤ i ∧ ∀ x ∈ acc, x ∈ xs
theorem some_list {Qd : Hp → Prop} (hx : SqL K H1 a xs) (hD : H1 D = none) (hz : xs.length ≤ 1000000) (hw : ∀ x, wipe ((wipe σ vs).set j (some x)) vs = wipe σ vs)
    (ht : ∀ (i : Nat) x H', xs[i]? = some x → Ext H1 H' → ∀ Q' : Bool → Hp → Prop, (∀ b H'', Ext H' H'' → Q' b H'') → tt ((wipe σ vs).set j (some x)) H' Q') (he : ∀ x (H : Hp) (Q' : VK), Q' x H → te ((wipe σ vs).set j (some x)) H Q')
    (hd : ∀ H' acc, Ext H1 H' → H' D = some (.lst acc) → acc.length ≤ xs.length → (∀ x ∈ acc, x ∈ xs) → Qd H') : Block (Itl K a) (gName j) tt te vs σ H1 D Qd :=
  lc_list (xs := xs) (Some' H1 D xs) ⟨hD, ext_new (ext_refl H1) hD, [], upd_same, Nat.le_refl _, fun _ h => by cases h⟩ (fun i H' _ q => hx.ext q.2.1) (fun i x H' hi q => ⟨hw x, by
      obtain ⟨p1, p2, acc, p3, p4, p5⟩ := q
      have hlt := (List.getElem?_eq_some_iff.mp hi).1
      refine ht i x H' hi p2 _ fun b H'' e => ?_
      by_cases hb : b = true
      · rw [if_pos hb]
        refine he _ _ _ ⟨acc, e _ _ p3, Nat.lt_of_le_of_lt (show acc.length ≤ 1000000 by omega) (by decide), p1, ext_mut (p2.trans e) p1, acc ++ [x], upd_same, by rw [List.length_append]; exact Nat.succ_le_succ p4, fun y hy => ?_⟩
        rcases List.mem_append.mp hy with hy | hy
        · exact p5 y hy
        · rw [List.mem_singleton.mp hy]
          exact List.mem_of_getElem? hi
      · rw [if_neg hb]
        exact ⟨p1, p2.trans e, acc, e _ _ p3, Nat.le_succ_of_le p4, p5⟩⟩)
    fun H' ⟨_, e, acc, q, hl, hm⟩ => hd H' acc e q hl hm
theorem map_range {Qd : Hp → Prop} {n : Nat} (g : Nat → V) (hD : H1 D = none) (hz : n ≤ 1000000) (hw : ∀ x, wipe ((wipe σ vs).set j (some x)) vs = wipe σ vs)
    (he : ∀ i H', i < n → Ext H1 H' → ∀ Q' : VK, (∀ H'', Ext H' H'' → Q' (g i) H'') → te ((wipe σ vs).set j (some (.int (0 + i)))) H' Q')
    (hd : ∀ H', Ext H1 H' → H' D = some (.lst ((List.range n).map g)) → Qd H') : Block (Itr 0 n) (gName j) tYes te vs σ H1 D Qd :=
  made_range (fun acc _ => acc = (List.range acc.length).map g) (fun _ _ _ p _ _ => p) hD hz hw (fun _ => rfl) (fun i H' acc hi e hl pv Q' k => he i H' hi e Q' fun H'' e2 => k _ _ e2 (by
      rw [List.length_append, List.length_singleton, List.range_succ, List.map_append, ← pv, hl]
      rfl))
    fun H' acc e q hl pv => hd H' e (by rw [q]; rw [hl] at pv; rw [pv])
end
end My
namespace My
open PySem PySem.Spec PyProof.Rows L2
local macro_rules | `(tactic| walk_at "side") => `(tactic| first | assumption | decide | exact Or.inl ⟨by decide, by decide⟩ | exact Or.inr ⟨by decide, by decide⟩ | exact ⟨by decide, by decide, by decide⟩ | omega | (unfold CMulW; decide +kernel) | (dsimp only; first | assumption | omega | decide +kernel) | exact len_ok (Nat.le_of_ble_eq_true rfl) | fail "side")
local macro_rules | `(tactic| walk_at "rd") => `(tactic| first
  | refine ⟨_, _, _, _, rfl, rfl, SqL.of upd_same, atI_nat (j := 0) rfl, ?_⟩ | refine ⟨_, _, _, _, rfl, rfl, SqL.of upd_same, atI_nat (j := 1) rfl, ?_⟩ | refine ⟨_, _, _, _, rfl, rfl, SqL.of upd_same, atI_nat (j := 2) rfl, ?_⟩
  | refine ⟨_, _, _, _, rfl, rfl, upd_same, rfl, ?_⟩
  | refine ⟨_, _, rfl, rfl, ?_⟩ | refine ⟨_, rfl, ?_⟩ | refine ⟨_, _, rfl, ?_⟩ | refine Or.inl ⟨_, rfl, ?_⟩ | refine Or.inr ⟨_, rfl, ?_⟩ | refine ⟨(by walk_at "side"), ?_⟩ | fail "rd")

abbrev s_isint60 : Stmt := top 12
theorem sc_isint60 : FnScope ["value"] ["value"] (defScope s_isint60) := ⟨rfl, rfl, rfl, by decide +kernel, rfl, by decide +kernel, by decide +kernel⟩
abbrev s_iscount : Stmt := top 13
theorem sc_iscount : FnScope ["value"] ["value"] (defScope s_iscount) := ⟨rfl, rfl, rfl, by decide +kernel, rfl, by decide +kernel, by decide +kernel⟩
abbrev s_isname : Stmt := top 14
theorem sc_isname : FnScope ["value", "letter"] ["value"] (defScope s_isname) := ⟨rfl, rfl, rfl, by decide +kernel, rfl, by decide +kernel, by decide +kernel⟩
abbrev s_arenames : Stmt := top 15
theorem sc_arenames : FnScope ["value", "name"] ["value"] (defScope s_arenames) := ⟨rfl, rfl, rfl, by decide +kernel, rfl, by decide +kernel, by decide +kernel⟩
def letS : Str := "abcdefghijklmnopqrstuvwxyz"
def sg : V → Nat
  | .str q => q.cps.toList.headD 0
  | _ => 0
theorem signs_map (z : Str) (g : Nat → V) : (signs z).mapIdx (fun _ x => g (sg x)) = z.cps.toList.map g := by
  unfold signs
  apply List.ext_getElem?
  intro i
  rw [List.getElem?_mapIdx, List.getElem?_map, List.getElem?_map, Option.map_map]
  rfl
structure WordC (mg : Str → Option Value) : Prop where
  LETTERS : ∃ t, mg "LETTERS" = some (.str letS t)
  ML : ∃ t, mg "MAX_LETTERS" = some (.int 8 t)
  LI : ∃ t, mg "LAST_INDEX" = some (.int 701 t)
  MK : ∃ t, mg "MAX_KNOWN" = some (.int 200 t)
  MN : ∃ t, mg "MAX_NEW" = some (.int 100 t)
/-- a value whose class is none of T -/
def NotK (K : PySem.W.Frag) (H : Hp) (v : V) (T : String) : Prop := ∃ t, TyX K H v t ∧ PySem.W.kitOne K t (.type T) = some false
theorem NotK.ext {K : PySem.W.Frag} {H H' : Hp} {v : V} {T : String} (h : NotK K H v T) (e : Ext H H') : NotK K H' v T := let ⟨t, a, b⟩ := h; ⟨t, tyX_ext a e, b⟩
def isI60 (i : Int) : Bool := decide ((if i < 0 then -i else i) < (10 : Int) ^ (60 : Int).toNat)
def isNm (s : Str) : Bool := (decide ((1 : Int) ≤ s.length) && decide ((s.length : Int) ≤ 8)) && s.cps.toList.all fun c => decide (c ∈ letS.cps.toList)
def spI60 (K : PySem.W.Frag) : Sp := fun vs H Q _ => ∃ v, vs = [v] ∧ ((∃ i, v = .int i ∧ Q (.bl (isI60 i)) H) ∨ (OddK K H v ∧ Q (.bl false) H))
def spCnt (K : PySem.W.Frag) : Sp := fun vs H Q _ => ∃ v, vs = [v] ∧ ((∃ i, v = .int i ∧ Q (.bl (isI60 i && decide (i ≥ 0))) H) ∨ (OddK K H v ∧ Q (.bl false) H))
def spNm (K : PySem.W.Frag) : Sp := fun vs H Q _ => ∃ v, vs = [v] ∧ ((∃ s, v = .str s ∧ s.length ≤ 100000 ∧ ∀ H', Ext H H' → Q (.bl (isNm s)) H') ∨ (NotK K H v "str" ∧ ∀ H', Ext H H' → Q (.bl false) H'))
/-- the items of a tuple, judged -/
def Judged (K : PySem.W.Frag) (H : Hp) (x : V) (b : Bool) : Prop := (∃ s, x = .str s ∧ s.length ≤ 100000 ∧ b = isNm s) ∨ (NotK K H x "str" ∧ b = false)
def spNms (K : PySem.W.Frag) : Sp := fun vs H Q _ => ∃ v, vs = [v] ∧ ((NotK K H v "tuple" ∧ Q (.bl false) H) ∨
  ∃ (a : Addr) (xs : List V) (f : V → Bool), v = .ref a ∧ SqT K H a xs ∧ TyX K H v (.type "tuple") ∧ xs.length ≤ 1000 ∧ (∀ x ∈ xs, Judged K H x (f x)) ∧ ∀ H', Ext H H' → Q (.bl (xs.all f)) H')
theorem kit_strstr {K : PySem.W.Frag} : PySem.W.kitOne K (.type "str") (.type "str") = some true := kit_ty (by decide +kernel : kitB "str" "str" = some true)
theorem kit_tuptup' {K : PySem.W.Frag} : PySem.W.kitOne K (.type "tuple") (.type "tuple") = some true := kit_ty (by decide +kernel : kitB "tuple" "tuple" = some true)
section
variable {P : Program} {w : World} {K : PySem.W.Frag} {mg : Str → Option Value} {base : Heap}
theorem ok_isint60 (T : Bn mg) (D : DefAt K mg "is_integer" s_isint60) (F_is_any_integer : FnAt P w K mg base 1 "is_any_integer" ["value"] (spIsIntA K)) : FnAt P w K mg base 2 "is_integer" ["value"] (spI60 K) := by
  refine fnAt D sc_isint60 (fun _ _ _ _ _ _ us hl => match us, hl with | [_], _ => rfl) (fun vs H Q E h => ?_) fun f cdv A outer s H vs Q E hr h => ?_
  · obtain ⟨v, rfl, _⟩ := h
    rfl
  obtain ⟨v, rfl, h⟩ := h
  refine ⟨_, (pss_one (ps_ret (pe_and (callA F_is_any_integer (hr.mono (by decide)) rfl (pa_cons (pv 0) pa_nil)) (pe_one (pe_cmpR op_lt (pe_callB call_abs (by rfl) T.b_abs (by decide +kernel) (pa_cons (pv 0) pa_nil)) (pe_op op_pow pe_int pe_int) (nomark _)))))), ?_⟩
  rcases h with ⟨i, rfl, k⟩ | ⟨o, k⟩
  · refine ⟨_, rfl, _, rfl, .inl ⟨_, rfl⟩, _, rfl, iteT ?_⟩
    exact ⟨_, rfl, _, rfl, _, _, rfl, rfl, ⟨by decide, by decide, by decide⟩, _, _, rfl, rfl, k⟩
  · refine ⟨_, rfl, _, rfl, .inr o, _, rfl, ?_⟩
    rw [o.isI]
    exact iteF k
theorem ok_iscount (T : Bn mg) (D : DefAt K mg "is_count" s_iscount) (F_is_integer : FnAt P w K mg base 2 "is_integer" ["value"] (spI60 K)) : FnAt P w K mg base 3 "is_count" ["value"] (spCnt K) := by
  refine fnAt D sc_iscount (fun _ _ _ _ _ _ us hl => match us, hl with | [_], _ => rfl) (fun vs H Q E h => ?_) fun f cdv A outer s H vs Q E hr h => ?_
  · obtain ⟨v, rfl, _⟩ := h
    rfl
  obtain ⟨v, rfl, h⟩ := h
  refine ⟨_, (pss_one (ps_ret (pe_and (callA F_is_integer (hr.mono (by decide)) rfl (pa_cons (pv 0) pa_nil)) (pe_one (pe_cmpR op_ge (pv 0) pe_int (nomark _)))))), ?_⟩
  rcases h with ⟨i, rfl, k⟩ | ⟨o, k⟩
  · refine ⟨_, rfl, _, rfl, .inl ⟨_, rfl, _, rfl, ite2 (fun hb => ?_) (fun hb => ?_)⟩⟩
    · rw [hb] at k
      exact ⟨_, rfl, _, _, rfl, rfl, k⟩
    · rw [Bool.eq_false_iff.mpr hb] at k
      exact k
  · exact ⟨_, rfl, _, rfl, .inr ⟨o, _, rfl, iteF k⟩⟩
theorem ok_isname (T : Bn mg) (WC : WordC mg) (D : DefAt K mg "is_name" s_isname) : FnAt P w K mg base 1 "is_name" ["value"] (spNm K) := by
  obtain ⟨_, g_LETTERS⟩ := WC.LETTERS
  obtain ⟨_, g_MAX_LETTERS⟩ := WC.ML
  refine fnAt D sc_isname (fun _ _ _ _ _ _ us hl => match us, hl with | [_], _ => rfl) (fun vs H Q E h => ?_) fun f cdv A outer s H vs Q E hr h => ?_
  · obtain ⟨v, rfl, _⟩ := h
    rfl
  obtain ⟨v, rfl, h⟩ := h
  refine ⟨_, (pss_cons (ps_if (PW.pt (pw_or (pt_not (pt_val (pe_callB call_isi (by rfl) T.b_isinstance (by decide +kernel) (pa_cons (pv 0) (pa_cons (pe_bltn (v := .ty "str") (by rfl) T.b_str (by decide +kernel) rfl) pa_nil))))) (pw_or1 (pt_not (pt_chain op_le op_le pe_int (pe_callB call_len_str (by rfl) T.b_len (by decide +kernel) (pa_cons (pv 0) pa_nil)) (pe_glob (v := .int 8) rfl g_MAX_LETTERS ⟨_, rfl⟩)))))) (pss_one (ps_ret pe_bl)) pss_nil)
    (pss_one (ps_ret (pe_callB (cr_all rfl) (by rfl) T.b_all (by decide +kernel) (pa_cons (pe_lc (own := [("letter", 1)]) (g := gName 1) (tt := tYes) rfl sc_isname.nd (pi_str (pv 0)) (blkOk_by (N := ["value", "letter"]) (sc := defScope s_isname) (by decide +kernel)) (fun _ _ _ _ _ => pg_name (i := 1) sc_isname.nd rfl (Or.inl rfl)) (fun _ _ _ _ _ => pts_nil) (fun _ _ _ _ _ => (pe_cmpR op_in_sign (pv 1) (pe_glob (v := .str letS) rfl g_LETTERS ⟨_, rfl⟩) rfl))) pa_nil))))), ?_⟩
  rcases h with ⟨z, rfl, hz, k⟩ | ⟨⟨t, ty, hk⟩, k⟩
  · refine ⟨_, rfl, _, _, _, _, true, rfl, .ty _, .base (.str _), kit_strstr, _, rfl, iteF ?_⟩
    refine ⟨_, rfl, _, rfl, Nat.le_trans hz (by decide), _, _, rfl, rfl, _, rfl, ?_⟩
    by_cases h1 : decide ((1 : Int) ≤ z.length) = true
    · rw [if_pos h1]
      refine ⟨_, _, rfl, rfl, _, rfl, ?_⟩
      by_cases h2 : decide ((z.length : Int) ≤ 8) = true
      · rw [h2]
        refine iteF ?_
        refine ⟨_, rfl, z, rfl, fun D hD => map_str (fun _ x => .bl (decide (sg x ∈ letS.cps.toList))) hD ?_ (fun _ => rfl) (fun i x H' hi e Q' k' => ?_) fun H' e hl => ?_⟩
        · exact Nat.le_trans hz (by decide)
        · obtain ⟨c, hc, rfl⟩ := signs_mem (List.mem_of_getElem? hi)
          exact ⟨_, rfl, c, letS, rfl, rfl, k' H' (ext_refl _)⟩
        · refine ⟨D, z.cps.toList.map fun c => decide (c ∈ letS.cps.toList), rfl, SqL.of ?_, ?_⟩
          · rw [hl, signs_map z fun c => .bl (decide (c ∈ letS.cps.toList)), List.map_map]
            rfl
          · have e1 : isNm z = (z.cps.toList.map fun c => decide (c ∈ letS.cps.toList)).all id := by
              unfold isNm
              rw [h1, h2, List.all_map]
              rfl
            rw [e1] at k
            exact k H' e
      · rw [Bool.eq_false_iff.mpr h2]
        refine iteT ?_
        have e1 : isNm z = false := by unfold isNm; rw [Bool.eq_false_iff.mpr h2, Bool.and_false]; rfl
        exact e1 ▸ k H (ext_refl H)
    · rw [if_neg h1]
      refine ⟨_, rfl, iteT ?_⟩
      have e1 : isNm z = false := by unfold isNm; rw [Bool.eq_false_iff.mpr h1]; rfl
      exact e1 ▸ k H (ext_refl H)
  · exact ⟨_, rfl, _, _, _, _, false, rfl, .ty _, ty, hk, _, rfl, iteT (k H (ext_refl H))⟩
theorem ok_arenames (T : Bn mg) (D : DefAt K mg "are_names" s_arenames) (F_is_name : FnAt P w K mg base 1 "is_name" ["value"] (spNm K)) : FnAt P w K mg base 2 "are_names" ["value"] (spNms K) := by
  refine fnAt D sc_arenames (fun _ _ _ _ _ _ us hl => match us, hl with | [_], _ => rfl) (fun vs H Q E h => ?_) fun f cdv A outer s H vs Q E hr h => ?_
  · obtain ⟨v, rfl, _⟩ := h
    rfl
  obtain ⟨v, rfl, h⟩ := h
  refine ⟨_, (pss_one (ps_ret (pe_and (pe_callB call_isi (by rfl) T.b_isinstance (by decide +kernel) (pa_cons (pv 0) (pa_cons (pe_bltn (v := .ty "tuple") (by rfl) T.b_tuple (by decide +kernel) rfl) pa_nil))) (pe_one (pe_callB (cr_all rfl) (by rfl) T.b_all (by decide +kernel) (pa_cons (pe_lc (own := [("name", 1)]) (g := gName 1) (tt := tYes) rfl sc_arenames.nd (pi_tup (pv 0)) (blkOk_by (N := ["value", "name"]) (sc := defScope s_arenames) (by decide +kernel)) (fun _ _ _ _ _ => pg_name (i := 1) sc_arenames.nd rfl (Or.inl rfl)) (fun _ _ _ _ _ => pts_nil) (fun _ _ _ _ _ => (callA F_is_name (hr.mono (by decide)) rfl (pa_cons (pv 1) pa_nil)))) pa_nil)))))), ?_⟩
  rcases h with ⟨⟨t, ty, hk⟩, k⟩ | ⟨a, xs, g, rfl, ha, ty, hl, hj, k⟩
  · exact ⟨_, rfl, _, _, _, _, false, rfl, .ty _, ty, hk, _, rfl, iteF k⟩
  · refine ⟨_, rfl, _, _, _, _, true, rfl, .ty _, ty, kit_tuptup', _, rfl, iteT ?_⟩
    refine ⟨_, rfl, a, rfl, ⟨_, ha⟩, fun D hD => map_tup (xs := xs) (fun _ x => .bl (g x)) ha hD (by omega) (fun _ => rfl) (fun i x H' hi e Q' k' => ?_) fun H' e hl2 => ?_⟩
    · refine ⟨_, rfl, _, rfl, ?_⟩
      rcases hj x (List.mem_of_getElem? hi) with ⟨z, rfl, hz, eb⟩ | ⟨nk, eb⟩
      · rw [eb] at k'
        exact .inl ⟨z, rfl, hz, k'⟩
      · rw [eb] at k'
        exact .inr ⟨nk.ext e, k'⟩
    · refine ⟨D, xs.map g, rfl, SqL.of ?_, ?_⟩
      · rw [hl2, List.map_map]
        congr 1
        congr 1
        apply List.ext_getElem?
        intro i
        rw [List.getElem?_mapIdx, List.getElem?_map]
        rfl
      · have e1 : xs.all g = (xs.map g).all id := by rw [List.all_map]; rfl
        rw [e1] at k
        exact k H' e
end
end My
namespace My
open PySem PySem.Spec PyProof.Rows L2
local macro_rules | `(tactic| walk_at "side") => `(tactic| first | assumption | decide | exact Or.inl ⟨by decide, by decide⟩ | exact Or.inr ⟨by decide, by decide⟩ | exact ⟨by decide, by decide, by decide⟩ | omega | (unfold CMulW; decide +kernel) | (dsimp only; first | assumption | omega | decide +kernel) | exact len_ok (Nat.le_of_ble_eq_true rfl) | fail "side")
local macro_rules | `(tactic| walk_at "rd") => `(tactic| first
  | refine ⟨_, _, _, _, rfl, rfl, SqL.of upd_same, atI_nat (j := 0) rfl, ?_⟩ | refine ⟨_, _, _, _, rfl, rfl, SqL.of upd_same, atI_nat (j := 1) rfl, ?_⟩ | refine ⟨_, _, _, _, rfl, rfl, SqL.of upd_same, atI_nat (j := 2) rfl, ?_⟩
  | refine ⟨_, _, _, _, rfl, rfl, upd_same, rfl, ?_⟩
  | refine ⟨_, _, rfl, rfl, ?_⟩ | refine ⟨_, rfl, ?_⟩ | refine ⟨_, _, rfl, ?_⟩ | refine Or.inl ⟨_, rfl, ?_⟩ | refine Or.inr ⟨_, rfl, ?_⟩ | refine ⟨(by walk_at "side"), ?_⟩ | fail "rd")

abbrev s_reqc : Stmt := top 16
theorem sc_reqc : FnScope ["value", "least", "most"] ["value", "least", "most"] (defScope s_reqc) := ⟨rfl, rfl, rfl, by decide +kernel, rfl, by decide +kernel, by decide +kernel⟩
abbrev s_nth : Stmt := top 17
theorem sc_nth : FnScope ["index", "first", "last"] ["index"] (defScope s_nth) := ⟨rfl, rfl, rfl, by decide +kernel, rfl, by decide +kernel, by decide +kernel⟩
abbrev s_newn : Stmt := top 18
theorem sc_newn : FnScope ["names", "many", "candidates", "index", "name"] ["names", "many"] (defScope s_newn) := ⟨rfl, rfl, rfl, by decide +kernel, rfl, by decide +kernel, by decide +kernel⟩
/-- the name at a place -/
def lt1 (i : Nat) : Str := ⟨#[97 + i]⟩
def nthS (i : Nat) : Str := if i < 26 then lt1 i else lt1 ((i - 26) / 26) ++ lt1 ((i - 26) % 26)
theorem let_at : ∀ i : Nat, i < 26 → letS.cps.toList[i]? = some (97 + i) := by decide +kernel
theorem isI60_small {i : Int} (h0 : -1000 ≤ i) (h1 : i ≤ 1000) : isI60 i = true := by
  unfold isI60
  refine decide_eq_true ?_
  have : (1000 : Int) < (10 : Int) ^ (60 : Int).toNat := by decide +kernel
  split <;> omega
/-- a count within its bounds -/
def spReqG : Sp := fun vs H Q _ => ∃ i lo hi : Int, vs = [.int i, .int lo, .int hi] ∧ isI60 i = true ∧ lo ≤ i ∧ i ≤ hi ∧ Q .non H
def spNthG : Sp := fun vs H Q _ => ∃ i : Nat, vs = [.int i] ∧ i ≤ 701 ∧ ∀ H', Ext H H' → Q (.str (nthS i)) H'
/-- the first many names that are not in ns -/
def newS (ns : List Str) (many : Nat) : List Str := (((List.range (ns.length + many)).map nthS).filter fun s => !decide (s ∈ ns)).take many
def spNewG (K : PySem.W.Frag) : Sp := fun vs H Q _ => ∃ (a : Addr) (ns : List Str) (many : Nat), vs = [.ref a, .int many] ∧ SqT K H a (ns.map V.str) ∧ TyX K H (.ref a) (.type "tuple") ∧ ns.length ≤ 200 ∧ many ≤ 100 ∧ (∀ s ∈ ns, isNm s = true ∧ s.length ≤ 100000) ∧
  ∀ p H', Ext H H' → H' p = some (.tup ((newS ns many).map V.str)) → Q (.ref p) H'
theorem inV_str (s : Str) : ∀ ns : List Str, inV (.str s) (ns.map V.str) = decide (s ∈ ns) := by
  intro ns
  unfold inV
  rw [List.any_map]
  induction ns with
  | nil => rfl
  | cons x r ih =>
    rw [List.any_cons, ih]
    show ((x == s) || decide (s ∈ r)) = decide (s ∈ x :: r)
    by_cases e : x = s
    · subst e
      simp
    · have e' : ¬ s = x := fun z => e z.symm
      simp [e, e']
theorem flat_strs (ns : List Str) : (ns.map V.str).all flatV = true := by
  rw [List.all_map]
  exact List.all_eq_true.mpr fun _ _ => rfl
theorem cut_first {xs : List V} {k : Nat} : cutV xs none (some (k : Int)) = xs.take k := by
  unfold cutV
  rw [HT.sIx_none, HT.sIx_nat]
  simp only [List.drop_zero, Nat.sub_zero]
  by_cases h : k ≤ xs.length
  · rw [Nat.min_eq_left h]
  · rw [Nat.min_eq_right (by omega), List.take_length, List.take_of_length_le (by omega)]
section
variable {P : Program} {w : World} {K : PySem.W.Frag} {mg : Str → Option Value} {base : Heap}
theorem ok_reqcG (T : Bn mg) (D : DefAt K mg "require_count" s_reqc) (F_is_integer : FnAt P w K mg base 2 "is_integer" ["value"] (spI60 K)) : FnAt P w K mg base 3 "require_count" ["value", "least", "most"] spReqG := by
  refine fnAt D sc_reqc (fun _ _ _ _ _ _ us hl => match us, hl with | [_, _, _], _ => rfl) (fun vs H Q E h => ?_) fun f cdv A outer s H vs Q E hr h => ?_
  · obtain ⟨i, lo, hi, rfl, _⟩ := h
    rfl
  obtain ⟨i, lo, hi, rfl, h1, h2, h3, k⟩ := h
  refine ⟨_, (pss_one (ps_if (PW.pt (pw_or (pt_not (pt_val (callA F_is_integer (hr.mono (by decide)) rfl (pa_cons (pv 0) pa_nil)))) (pw_or1 (pt_not (pt_chain op_le op_le (pv 1) (pv 0) (pv 2)))))) (pss_one ps_never) pss_nil)), ?_⟩
  refine ⟨_, rfl, _, rfl, .inl ⟨_, rfl, ?_⟩⟩
  rw [h1]
  refine ⟨_, rfl, iteF ?_⟩
  refine ⟨_, rfl, _, rfl, _, _, rfl, rfl, _, rfl, ?_⟩
  rw [decide_eq_true h2]
  refine iteT ?_
  refine ⟨_, rfl, _, _, rfl, rfl, _, rfl, ?_⟩
  rw [decide_eq_true h3]
  exact iteF k
theorem ok_nthG (T : Bn mg) (WC : WordC mg) (D : DefAt K mg "nth_name" s_nth) (F_require_count : FnAt P w K mg base 3 "require_count" ["value", "least", "most"] spReqG) : FnAt P w K mg base 4 "nth_name" ["index"] spNthG := by
  obtain ⟨_, g_LETTERS⟩ := WC.LETTERS
  obtain ⟨_, g_LAST_INDEX⟩ := WC.LI
  refine fnAt D sc_nth (fun _ _ _ _ _ _ us hl => match us, hl with | [_], _ => rfl) (fun vs H Q E h => ?_) fun f cdv A outer s H vs Q E hr h => ?_
  · obtain ⟨i, rfl, _⟩ := h
    rfl
  obtain ⟨i, rfl, hi, k⟩ := h
  refine ⟨_, (pss_cons (ps_expr (callA F_require_count (hr.mono (by decide)) rfl (pa_cons (pv 0) (pa_cons pe_int (pa_cons (pe_glob (v := .int 701) rfl g_LAST_INDEX ⟨_, rfl⟩) pa_nil)))))
    (pss_cons (ps_if (pt_cmpR op_lt (pv 0) (pe_callB call_len_str (by rfl) T.b_len (by decide +kernel) (pa_cons (pe_glob (v := .str letS) rfl g_LETTERS ⟨_, rfl⟩) pa_nil)) (nomark _)) (pss_one (ps_ret (pe_ix ix_str (pe_glob (v := .str letS) rfl g_LETTERS ⟨_, rfl⟩) (pv 0) (fun _ _ => rfl)))) pss_nil)
    (pss_cons (ps_asg (pe_callB call_divmod (by rfl) T.b_divmod (by decide +kernel) (pa_cons (pe_op op_sub (pv 0) (pe_callB call_len_str (by rfl) T.b_len (by decide +kernel) (pa_cons (pe_glob (v := .str letS) rfl g_LETTERS ⟨_, rfl⟩) pa_nil))) (pa_cons (pe_callB call_len_str (by rfl) T.b_len (by decide +kernel) (pa_cons (pe_glob (v := .str letS) rfl g_LETTERS ⟨_, rfl⟩) pa_nil)) pa_nil))) (pg_tup (by rfl) (pgs_cons (pg_name (i := 1) sc_nth.nd rfl (Or.inl rfl)) (pgs_cons (pg_name (i := 2) sc_nth.nd rfl (Or.inl rfl)) pgs_nil))))
    (pss_one (ps_ret (pe_op op_add_str (pe_ix ix_str (pe_glob (v := .str letS) rfl g_LETTERS ⟨_, rfl⟩) (pv 1) (fun _ _ => rfl)) (pe_ix ix_str (pe_glob (v := .str letS) rfl g_LETTERS ⟨_, rfl⟩) (pv 2) (fun _ _ => rfl)))))))), ?_⟩
  refine ⟨_, rfl, _, 0, 701, rfl, isI60_small (by omega) (by omega), by omega, by omega, ?_⟩
  refine ⟨_, rfl, letS, rfl, by decide, _, _, rfl, rfl, _, rfl, ?_⟩
  have hl : (letS.length : Int) = 26 := by decide +kernel
  rw [hl]
  by_cases h26 : (i : Int) < 26
  · rw [decide_eq_true h26]
    refine iteT ?_
    refine ⟨_, rfl, letS, _, 97 + i, rfl, rfl, by decide, atI_nat (let_at i (by omega)), ?_⟩
    have e : nthS i = lt1 i := if_pos (by omega)
    have q := k H (ext_refl H)
    rw [e] at q
    exact q
  · rw [decide_eq_false h26]
    refine iteF ?_
    refine ⟨_, rfl, letS, rfl, by decide, _, _, rfl, rfl, letS, rfl, by decide, _, _, rfl, by rw [hl]; exact ⟨by decide, by decide⟩, fun p hp => ?_⟩
    rw [hl]
    obtain ⟨m, rfl⟩ : ∃ m, i = m + 26 := ⟨i - 26, by omega⟩
    have e1 : (((m + 26 : Nat) : Int) - 26) / 26 = ((m / 26 : Nat) : Int) := by omega
    have e2 : (((m + 26 : Nat) : Int) - 26) % 26 = ((m % 26 : Nat) : Int) := by omega
    rw [e1, e2]
    refine ⟨p, _, rfl, SqT.of upd_same, rfl, _, _, rfl, _, _, rfl, rfl, ?_⟩
    refine ⟨_, rfl, letS, _, 97 + m / 26, rfl, rfl, by decide, atI_nat (let_at _ (by omega)), _, rfl, letS, _, 97 + m % 26, rfl, rfl, by decide, atI_nat (let_at _ (by omega)), _, _, rfl, rfl, by show 2 ≤ sizeLine; decide, ?_⟩
    have e : nthS (m + 26) = lt1 (m / 26) ++ lt1 (m % 26) := by
      unfold nthS
      rw [if_neg (by omega), Nat.add_sub_cancel]
    have q := k (upd H p (.tup [.int ((m / 26 : Nat) : Int), .int ((m % 26 : Nat) : Int)])) (ext_new (ext_refl H) hp)
    rw [e] at q
    exact q
theorem ok_newnG (T : Bn mg) (WC : WordC mg) (D : DefAt K mg "new_names" s_newn) (F_are_names : FnAt P w K mg base 2 "are_names" ["value"] (spNms K)) (F_require_count : FnAt P w K mg base 3 "require_count" ["value", "least", "most"] spReqG)
    (F_nth_name : FnAt P w K mg base 4 "nth_name" ["index"] spNthG) : FnAt P w K mg base 5 "new_names" ["names", "many"] (spNewG K) := by
  obtain ⟨_, g_MAX_KNOWN⟩ := WC.MK
  obtain ⟨_, g_MAX_NEW⟩ := WC.MN
  refine fnAt D sc_newn (fun _ _ _ _ _ _ us hl => match us, hl with | [_, _], _ => rfl) (fun vs H Q E h => ?_) fun f cdv A outer s H vs Q E hr h => ?_
  · obtain ⟨a, ns, many, rfl, _⟩ := h
    rfl
  obtain ⟨a, ns, many, rfl, ha, ty, hl, hm, hn, k⟩ := h
  refine ⟨_, (pss_cons (ps_if (PW.pt (pw_or (pt_not (pt_val (callA F_are_names (hr.mono (by decide)) rfl (pa_cons (pv 0) pa_nil)))) (pw_or1 (pt_cmpR op_gt (pe_callB call_len_seq (by rfl) T.b_len (by decide +kernel) (pa_cons (pv 0) pa_nil)) (pe_glob (v := .int 200) rfl g_MAX_KNOWN ⟨_, rfl⟩) (nomark _))))) (pss_one ps_never) pss_nil)
    (pss_cons (ps_expr (callA F_require_count (hr.mono (by decide)) rfl (pa_cons (pv 1) (pa_cons pe_int (pa_cons (pe_glob (v := .int 100) rfl g_MAX_NEW ⟨_, rfl⟩) pa_nil)))))
    (pss_cons (ps_setLc (i := 2) (own := [("index", 3)]) (g := gName 3) (tt := tYes) rfl sc_newn.nd rfl rfl (sw_true rfl rfl rfl (by decide +kernel)) (pi_range1 (by rfl) T.b_range (pa_cons (pe_op op_add (pe_callB call_len_seq (by rfl) T.b_len (by decide +kernel) (pa_cons (pv 0) pa_nil)) (pv 1)) pa_nil)) (blkOk_by (N := ["names", "many", "candidates", "index", "name"]) (sc := defScope s_newn) (by decide +kernel)) (fun _ _ _ _ _ => pg_name (i := 3) sc_newn.nd rfl (Or.inl rfl)) (fun _ _ _ _ _ => pts_nil) (fun _ _ _ _ _ => (callA F_nth_name (hr.mono (by decide)) rfl (pa_cons (pv 3) pa_nil))))
    (pss_one (ps_ret (pe_callTy call_tuple_of (by rfl) T.b_tuple (by decide +kernel) (pa_cons (pe_slice sl_list (pe_lc (own := [("name", 4)]) (g := gName 4) (tt := _) rfl sc_newn.nd (pi_list (pv 2)) (blkOk_by (N := ["names", "many", "candidates", "index", "name"]) (sc := defScope s_newn) (by decide +kernel)) (fun _ _ _ _ _ => pg_name (i := 4) sc_newn.nd rfl (Or.inl rfl)) (fun _ _ _ _ _ => pts_one (pt_cmpR (show OpR _ (compareOp .NotIn) (rIn K true) from op_notIn_seq) (pv 4) (pv 0) rfl)) (fun _ _ _ _ _ => (pv 4))) po_none (po_some (pv 1))) pa_nil))))))), ?_⟩
  refine ⟨_, rfl, _, rfl, .inr ⟨a, ns.map V.str, fun x => match x with | .str s => isNm s | _ => false, rfl, ha, ty, by rw [List.length_map]; omega, fun x hx => ?_, fun H1 e1 => ?_⟩⟩
  · obtain ⟨s, hs, rfl⟩ := List.mem_map.mp hx
    exact .inl ⟨s, rfl, (hn s hs).2, rfl⟩
  have eall : (ns.map V.str).all (fun x => match x with | .str s => isNm s | _ => false) = true := by
    rw [List.all_map]
    exact List.all_eq_true.mpr fun s hs => (hn s hs).1
  rw [eall]
  refine ⟨_, rfl, iteF ?_⟩
  have ha1 := ha.ext e1
  refine ⟨_, rfl, a, _, rfl, .inr ha1, _, _, rfl, rfl, _, rfl, ?_⟩
  rw [List.length_map, decide_eq_false (show ¬ ((ns.length : Int) > 200) by omega)]
  refine iteF ?_
  refine ⟨_, rfl, _, 0, 100, rfl, isI60_small (by omega) (by omega), by omega, by omega, ?_⟩
  refine ⟨_, rfl, a, _, rfl, .inr ha1, _, rfl, _, _, rfl, rfl, ?_⟩
  rw [List.length_map]
  have en : ((ns.length : Int) + (many : Int)).toNat = ns.length + many := by omega
  refine ⟨_, rfl, by omega, by omega, fun D hD => ?_⟩
  rw [en]
  refine map_range (fun i => .str (nthS i)) hD (by omega) (fun _ => rfl) (fun i H' hi e Q' k' => ?_) fun H2 e2 hD2 => ?_
  · exact ⟨_, rfl, i, by rw [Int.zero_add]; rfl, by omega, k'⟩
  have ha2 := ha1.ext e2
  have ec : ((List.range (ns.length + many)).map fun i => V.str (nthS i)) = ((List.range (ns.length + many)).map nthS).map V.str := by rw [List.map_map]; rfl
  rw [ec] at hD2
  refine ⟨_, rfl, D, rfl, ⟨_, SqL.of hD2⟩, fun D3 hD3 => filt_list (xs := ((List.range (ns.length + many)).map nthS).map V.str) (fun x => match x with | .str s => !decide (s ∈ ns) | _ => false) (SqL.of hD2) hD3 (by simp; omega) (fun _ => rfl) (fun i x H' hi e Q' k' => ?_) (fun _ _ _ k' => ⟨_, rfl, k'⟩) fun H4 e4 hD4 => ?_⟩
  · obtain ⟨s, _, rfl⟩ := List.mem_map.mp (List.mem_of_getElem? hi)
    refine ⟨_, rfl, _, rfl, a, _, rfl, .inr (ha2.ext e), rfl, flat_strs ns, _, rfl, ?_⟩
    rw [inV_str]
    exact k' H' (ext_refl _)
  have ef : (((List.range (ns.length + many)).map nthS).map V.str).filter (fun x => match x with | .str s => !decide (s ∈ ns) | _ => false) = (((List.range (ns.length + many)).map nthS).filter fun s => !decide (s ∈ ns)).map V.str := by
    rw [List.filter_map]
    rfl
  rw [ef] at hD4
  refine ⟨_, rfl, _, rfl, D3, _, rfl, SqL.of hD4, fun p hp => ⟨p, _, rfl, .inl ⟨SqL.of upd_same, fun l hl => ?_⟩⟩⟩
  refine k l _ (ext_new (ext_new ((e1.trans e2).trans e4) hp) hl) ?_
  rw [upd_same, cut_first, ← List.map_take]
  rfl
end
end My
namespace My
open PySem PySem.Spec PyProof.Rows L2
open LowV (ErrV)
local macro_rules | `(tactic| walk_at "side") => `(tactic| first | assumption | decide | exact Or.inl ⟨by decide, by decide⟩ | exact Or.inr ⟨by decide, by decide⟩ | exact ⟨by decide, by decide, by decide⟩ | omega | (unfold CMulW; decide +kernel) | (dsimp only; first | assumption | omega | decide +kernel) | exact len_ok (Nat.le_of_ble_eq_true rfl) | fail "side")
local macro_rules | `(tactic| walk_at "rd") => `(tactic| first
  | refine ⟨_, _, _, _, rfl, rfl, SqL.of upd_same, atI_nat (j := 0) rfl, ?_⟩ | refine ⟨_, _, _, _, rfl, rfl, SqL.of upd_same, atI_nat (j := 1) rfl, ?_⟩ | refine ⟨_, _, _, _, rfl, rfl, SqL.of upd_same, atI_nat (j := 2) rfl, ?_⟩
  | refine ⟨_, _, _, _, rfl, rfl, upd_same, rfl, ?_⟩
  | refine ⟨_, _, rfl, rfl, ?_⟩ | refine ⟨_, rfl, ?_⟩ | refine ⟨_, _, rfl, ?_⟩ | refine Or.inl ⟨_, rfl, ?_⟩ | refine Or.inr ⟨_, rfl, ?_⟩ | refine ⟨(by walk_at "side"), ?_⟩ | fail "rd")

/-- an error's class: own, plain -/
structure ErrT (K : PySem.W.Frag) (mg : Str → Option Value) (x : Str) (C : Addr) : Prop where
  g : mg x = some (.ref C)
  kC : PySem.W.keepIn K (.ref C) = true
  q : ∃ bmB : List Value, bmB = [.type "ValueError", .type "Exception", .type "BaseException", .type "object"] ∧ PySem.W.excIn K C bmB "ValueError.__new__" = true
  eC : PySem.W.subIn K (.ref C) (.type "BaseException") = some true
  tC : PySem.W.typeIn K (.ref C) = some (.type "type")
section
variable {X : Cx} {x : Str} {p pos p2 pos2 : Pos} {C : Addr} {m : Str} {j : Nat} {W : WX}
theorem raiseX (T : ErrT X.K X.mg x C) (hc : X.calm = true) (tk : Takes X W) (hg : Gl X x) (hdb : (x == ("__debug__" : Str)) = false := by decide) :
    PS X (.Raise (some (.Call (.Name x p) [.Constant (.str m) j p2] [] pos)) none pos2) (fun _ σ H => W (.ref C) none σ H) := by
  obtain ⟨bmB, eb, q⟩ := T.q
  subst eb
  exact ps_raise hc tk (pmk_own PySem.F.excBase_ValueError q T.g T.kC (raises_own T.eC T.tC) hg hdb)
end
abbrev ixTail : List Value := [.type "IndexError", .type "LookupError", .type "Exception", .type "BaseException", .type "object"]
/-- the class InvalidCount -/
abbrev CountE (K : PySem.W.Frag) (mg : Str → Option Value) (C fI : Addr) : Prop := ErrV K mg "IndexError" "IndexError.__new__" ixTail "InvalidCount" "InvalidCount.__init__" C fI
/-- no count from lo to hi -/
def BadC (K : PySem.W.Frag) (H : Hp) (v : V) (lo hi : Int) : Prop := (∃ i, v = .int i ∧ (isI60 i && (decide (lo ≤ i) && decide (i ≤ hi))) = false) ∨ OddK K H v
theorem BadC.ext {K : PySem.W.Frag} {H H' : Hp} {v : V} {lo hi : Int} (h : BadC K H v lo hi) (e : Ext H H') : BadC K H' v lo hi := h.elim .inl fun o => .inr (o.ext e)
/-- told by InvalidCount, which keeps v -/
def TellC (IC : Addr) (H : Hp) (v : V) (E : XK) : Prop := ∀ d H', Ext H H' → H' d = some (.xd [(("value" : Str), v)]) → E (.ref IC) (some d) H'
theorem TellC.ext {IC : Addr} {H H' : Hp} {v : V} {E : XK} (h : TellC IC H v E) (e : Ext H H') : TellC IC H' v E := fun d H2 e2 q => h d H2 (e.trans e2) q
def spReqX (K : PySem.W.Frag) (IC : Addr) : Sp := fun vs H _ E => ∃ (v : V) (lo hi : Int), vs = [v, .int lo, .int hi] ∧ BadC K H v lo hi ∧ TellC IC H v E
def spNthX (K : PySem.W.Frag) (IC : Addr) : Sp := fun vs H _ E => ∃ v, vs = [v] ∧ BadC K H v 0 701 ∧ TellC IC H v E
def NamesJ (K : PySem.W.Frag) (H : Hp) (v : V) (b : Bool) : Prop := ∃ (a : Addr) (xs : List V) (f : V → Bool), v = .ref a ∧ SqT K H a xs ∧ TyX K H v (.type "tuple") ∧ xs.length ≤ 1000 ∧ (∀ x ∈ xs, Judged K H x (f x)) ∧ (xs.all f && decide (xs.length ≤ 200)) = b
def spNewX (K : PySem.W.Frag) (IC IO : Addr) : Sp := fun vs H _ E => ∃ v m, vs = [v, m] ∧ (((NotK K H v "tuple" ∨ NamesJ K H v false) ∧ ∀ H', Ext H H' → E (.ref IO) none H') ∨ (NamesJ K H v true ∧ BadC K H m 0 100 ∧ TellC IC H m E))
section
variable {P : Program} {w : World} {K : PySem.W.Frag} {mg : Str → Option Value} {base : Heap} {IC fI IO : Addr}
theorem ok_reqcX (T : Bn mg) (EC : CountE K mg IC fI) (D : DefAt K mg "require_count" s_reqc) (F_is_integer : FnAt P w K mg base 2 "is_integer" ["value"] (spI60 K)) : FxAt P w K mg base 3 "require_count" ["value", "least", "most"] (spReqX K IC) := by
  refine fxAt D sc_reqc (fun _ _ _ _ _ _ us hl => match us, hl with | [_, _, _], _ => rfl) (fun vs H Q E h => ?_) fun f cdv A outer s H vs Q E hr h => ?_
  · obtain ⟨i, lo, hi, rfl, _⟩ := h
    rfl
  obtain ⟨v, lo, hi, rfl, bad, k⟩ := h
  refine ⟨_, (pss_one (ps_if (PW.pt (pw_or (pt_not (pt_val (callA F_is_integer (hr.mono (by decide)) rfl (pa_cons (pv 0) pa_nil)))) (pw_or1 (pt_not (pt_chain op_le op_le (pv 1) (pv 0) (pv 2)))))) (pss_one (ps_raise rfl (takes_of rfl rfl rfl rfl) (pmk_V EC PySem.F.store_IndexError PySem.F.excBase_IndexError hr (pa_cons (pv 0) pa_nil) rfl))) pss_nil)), ?_⟩
  refine ⟨_, rfl, _, rfl, ?_⟩
  have fin : tMkV IC (tCons (tVar 0) tNil) (L2.start ["value", "least", "most"] [v, V.int lo, V.int hi]) H fun cls d H' => E cls d H' := ⟨_, rfl, v, rfl, fun d hd => k d _ (ext_new (ext_refl H) hd) upd_same⟩
  rcases bad with ⟨i, rfl, e⟩ | o
  · refine .inl ⟨i, rfl, ?_⟩
    by_cases h1 : isI60 i = true
    · rw [h1] at e ⊢
      refine ⟨_, rfl, iteF ?_⟩
      refine ⟨_, rfl, _, rfl, _, _, rfl, rfl, _, rfl, ?_⟩
      by_cases h2 : lo ≤ i
      · rw [decide_eq_true h2] at e ⊢
        refine iteT ?_
        refine ⟨_, rfl, _, _, rfl, rfl, _, rfl, ?_⟩
        have h3 : decide (i ≤ hi) = false := e
        rw [h3]
        exact iteT fin
      · rw [decide_eq_false h2]
        exact iteF ⟨_, rfl, iteT fin⟩
    · rw [Bool.eq_false_iff.mpr h1]
      exact ⟨_, rfl, iteT fin⟩
  · exact .inr ⟨o, _, rfl, iteT fin⟩
theorem ok_nthX (T : Bn mg) (WC : WordC mg) (D : DefAt K mg "nth_name" s_nth) (FX_require_count : FxAt P w K mg base 3 "require_count" ["value", "least", "most"] (spReqX K IC)) : FxAt P w K mg base 4 "nth_name" ["index"] (spNthX K IC) := by
  obtain ⟨_, g_LETTERS⟩ := WC.LETTERS
  obtain ⟨_, g_LAST_INDEX⟩ := WC.LI
  refine fxAt D sc_nth (fun _ _ _ _ _ _ us hl => match us, hl with | [_], _ => rfl) (fun vs H Q E h => ?_) fun f cdv A outer s H vs Q E hr h => ?_
  · obtain ⟨i, rfl, _⟩ := h
    rfl
  obtain ⟨v, rfl, bad, k⟩ := h
  refine ⟨_, (pss_cons (ps_expr (callX FX_require_count (hr.mono (by decide)) rfl (takes_of rfl rfl rfl rfl) (fun _ _ _ _ h => h) (pa_cons (pv 0) (pa_cons pe_int (pa_cons (pe_glob (v := .int 701) rfl g_LAST_INDEX ⟨_, rfl⟩) pa_nil)))))
    (pss_cons (ps_if (pt_cmpR op_lt (pv 0) (pe_callB call_len_str (by rfl) T.b_len (by decide +kernel) (pa_cons (pe_glob (v := .str letS) rfl g_LETTERS ⟨_, rfl⟩) pa_nil)) (nomark _)) (pss_one (ps_ret (pe_ix ix_str (pe_glob (v := .str letS) rfl g_LETTERS ⟨_, rfl⟩) (pv 0) (fun _ _ => rfl)))) pss_nil)
    (pss_cons (ps_asg (pe_callB call_divmod (by rfl) T.b_divmod (by decide +kernel) (pa_cons (pe_op op_sub (pv 0) (pe_callB call_len_str (by rfl) T.b_len (by decide +kernel) (pa_cons (pe_glob (v := .str letS) rfl g_LETTERS ⟨_, rfl⟩) pa_nil))) (pa_cons (pe_callB call_len_str (by rfl) T.b_len (by decide +kernel) (pa_cons (pe_glob (v := .str letS) rfl g_LETTERS ⟨_, rfl⟩) pa_nil)) pa_nil))) (pg_tup (by rfl) (pgs_cons (pg_name (i := 1) sc_nth.nd rfl (Or.inl rfl)) (pgs_cons (pg_name (i := 2) sc_nth.nd rfl (Or.inl rfl)) pgs_nil))))
    (pss_one (ps_ret (pe_op op_add_str (pe_ix ix_str (pe_glob (v := .str letS) rfl g_LETTERS ⟨_, rfl⟩) (pv 1) (fun _ _ => rfl)) (pe_ix ix_str (pe_glob (v := .str letS) rfl g_LETTERS ⟨_, rfl⟩) (pv 2) (fun _ _ => rfl)))))))), ?_⟩
  exact ⟨_, rfl, v, 0, 701, rfl, bad, k⟩
theorem ok_newnX (T : Bn mg) (WC : WordC mg) (EO : ErrT K mg "InvalidOperation" IO) (D : DefAt K mg "new_names" s_newn) (F_are_names : FnAt P w K mg base 2 "are_names" ["value"] (spNms K)) (FX_require_count : FxAt P w K mg base 3 "require_count" ["value", "least", "most"] (spReqX K IC))
    (F_nth_name : FnAt P w K mg base 4 "nth_name" ["index"] spNthG) : FxAt P w K mg base 5 "new_names" ["names", "many"] (spNewX K IC IO) := by
  obtain ⟨_, g_MAX_KNOWN⟩ := WC.MK
  obtain ⟨_, g_MAX_NEW⟩ := WC.MN
  refine fxAt D sc_newn (fun _ _ _ _ _ _ us hl => match us, hl with | [_, _], _ => rfl) (fun vs H Q E h => ?_) fun f cdv A outer s H vs Q E hr h => ?_
  · obtain ⟨v, m, rfl, _⟩ := h
    rfl
  obtain ⟨v, m, rfl, h⟩ := h
  refine ⟨_, (pss_cons (ps_if (PW.pt (pw_or (pt_not (pt_val (callA F_are_names (hr.mono (by decide)) rfl (pa_cons (pv 0) pa_nil)))) (pw_or1 (pt_cmpR op_gt (pe_callB call_len_seq (by rfl) T.b_len (by decide +kernel) (pa_cons (pv 0) pa_nil)) (pe_glob (v := .int 200) rfl g_MAX_KNOWN ⟨_, rfl⟩) (nomark _))))) (pss_one (raiseX EO rfl (takes_of rfl rfl rfl rfl) rfl)) pss_nil)
    (pss_cons (ps_expr (callX FX_require_count (hr.mono (by decide)) rfl (takes_of rfl rfl rfl rfl) (fun _ _ _ _ h => h) (pa_cons (pv 1) (pa_cons pe_int (pa_cons (pe_glob (v := .int 100) rfl g_MAX_NEW ⟨_, rfl⟩) pa_nil)))))
    (pss_cons (ps_setLc (i := 2) (own := [("index", 3)]) (g := gName 3) (tt := tYes) rfl sc_newn.nd rfl rfl (sw_true rfl rfl rfl (by decide +kernel)) (pi_range1 (by rfl) T.b_range (pa_cons (pe_op op_add (pe_callB call_len_seq (by rfl) T.b_len (by decide +kernel) (pa_cons (pv 0) pa_nil)) (pv 1)) pa_nil)) (blkOk_by (N := ["names", "many", "candidates", "index", "name"]) (sc := defScope s_newn) (by decide +kernel)) (fun _ _ _ _ _ => pg_name (i := 3) sc_newn.nd rfl (Or.inl rfl)) (fun _ _ _ _ _ => pts_nil) (fun _ _ _ _ _ => (callA F_nth_name (hr.mono (by decide)) rfl (pa_cons (pv 3) pa_nil))))
    (pss_one (ps_ret (pe_callTy call_tuple_of (by rfl) T.b_tuple (by decide +kernel) (pa_cons (pe_slice sl_list (pe_lc (own := [("name", 4)]) (g := gName 4) (tt := _) rfl sc_newn.nd (pi_list (pv 2)) (blkOk_by (N := ["names", "many", "candidates", "index", "name"]) (sc := defScope s_newn) (by decide +kernel)) (fun _ _ _ _ _ => pg_name (i := 4) sc_newn.nd rfl (Or.inl rfl)) (fun _ _ _ _ _ => pts_one (pt_cmpR (show OpR _ (compareOp .NotIn) (rIn K true) from op_notIn_seq) (pv 4) (pv 0) rfl)) (fun _ _ _ _ _ => (pv 4))) po_none (po_some (pv 1))) pa_nil))))))), ?_⟩
  refine ⟨_, rfl, _, rfl, ?_⟩
  rcases h with ⟨nk | ⟨a, xs, g, rfl, ha, ty, hl, hj, eb⟩, k⟩ | ⟨⟨a, xs, g, rfl, ha, ty, hl, hj, eb⟩, bad, k⟩
  · exact .inl ⟨nk, _, rfl, iteT (k H (ext_refl H))⟩
  · refine .inr ⟨a, xs, g, rfl, ha, ty, hl, hj, fun H1 e1 => ?_⟩
    by_cases h1 : xs.all g = true
    · rw [h1] at eb ⊢
      have h2 : ¬ xs.length ≤ 200 := of_decide_eq_false eb
      refine ⟨_, rfl, iteF ?_⟩
      refine ⟨_, rfl, a, _, rfl, .inr (ha.ext e1), _, _, rfl, rfl, _, rfl, ?_⟩
      rw [decide_eq_true (show (xs.length : Int) > 200 by omega)]
      exact iteT (k H1 e1)
    · rw [Bool.eq_false_iff.mpr h1]
      exact ⟨_, rfl, iteT (k H1 e1)⟩
  · obtain ⟨h1, h2⟩ := Bool.and_eq_true_iff.mp eb
    have h2' := of_decide_eq_true h2
    refine .inr ⟨a, xs, g, rfl, ha, ty, hl, hj, fun H1 e1 => ?_⟩
    rw [h1]
    refine ⟨_, rfl, iteF ?_⟩
    refine ⟨_, rfl, a, _, rfl, .inr (ha.ext e1), _, _, rfl, rfl, _, rfl, ?_⟩
    rw [decide_eq_false (show ¬ (xs.length : Int) > 200 by omega)]
    refine iteF ?_
    exact ⟨_, rfl, m, 0, 100, rfl, bad.ext e1, k.ext e1⟩
end
end My
namespace My
open PySem PySem.Spec PyProof.Rows L2
/-! data of texts -/
theorem lay_strs : ∀ ss : List Str, (∀ s ∈ ss, PyData.strOk s = true) → PyData.canLayAll0 (ss.map PyData.str) = true := by
  intro ss h
  induction ss with
  | nil => rfl
  | cons x r ih =>
    rw [List.map_cons, PyData.canLayAll0, ih fun s hs => h s (List.mem_cons_of_mem _ hs), PyData.canLay0, h x (List.mem_cons_self ..)]
    rfl
theorem dep_strs : ∀ ss : List Str, PyData.depthAll (ss.map PyData.str) = 0 := by
  intro ss
  induction ss with
  | nil => rfl
  | cons x r ih =>
    rw [List.map_cons, PyData.depthAll, ih]
    rfl
theorem shaped_strs {ss : List Str} (h : ∀ s ∈ ss, PyData.strOk s = true) : SeqAt.shaped (.list (ss.map PyData.str)) = true := by
  unfold SeqAt.shaped
  rw [PyData.canLay0, lay_strs _ h, PyData.depth, dep_strs]
  rfl
theorem shaped_strsT {ss : List Str} (h : ∀ s ∈ ss, PyData.strOk s = true) : SeqAt.shaped (.tuple (ss.map PyData.str)) = true := by
  unfold SeqAt.shaped
  rw [PyData.canLay0, lay_strs _ h, PyData.depth, dep_strs]
  rfl
theorem eqv_strs : ∀ ss ts : List Str, PyData.eqvAll (ss.map PyData.str) (ts.map PyData.str) = decide (ss = ts) := by
  intro ss
  induction ss with
  | nil =>
    intro ts
    cases ts with
    | nil => rfl
    | cons _ _ => rfl
  | cons x r ih =>
    intro ts
    cases ts with
    | nil => rfl
    | cons y q =>
      rw [List.map_cons, List.map_cons, PyData.eqvAll, ih, PyData.eqv]
      by_cases h : x = y
      · subst h
        by_cases h2 : r = q
        · subst h2; simp
        · simp [h2]
      · simp [h]
theorem dp_strs {K : PySem.W.Frag} {H : Hp} : ∀ ss : List Str, DpAll K H (ss.map V.str) (ss.map PyData.str) := by
  intro ss
  induction ss with
  | nil => exact .nil
  | cons x r ih => exact .cons (.str x) ih
theorem joinL_ones : ∀ cs : List Nat, TL.joinL [] (cs.map fun c => [c]) = cs := by
  intro cs
  induction cs with
  | nil => rfl
  | cons c r ih =>
    cases r with
    | nil => rfl
    | cons d q =>
      show [c] ++ ([] ++ TL.joinL [] ((d :: q).map fun c => [c])) = _
      rw [ih]
      rfl
/-- a text of few codes -/
def Asc (z : Str) : Prop := ∀ c ∈ z.cps.toList, c < 1000
theorem Asc.ok {z : Str} (h : Asc z) : PyData.strOk z = true := by
  unfold PyData.strOk
  rw [← Array.all_toList]
  exact List.all_eq_true.mpr fun c hc => decide_eq_true (Nat.lt_trans (h c hc) (by decide))
theorem join_ones (cs : List Nat) : Txt.join ("" : Str) (cs.map fun c => (⟨#[c]⟩ : Str)) = ⟨cs.toArray⟩ := by
  have e := SX.join_S [] (cs.map fun c => [c])
  rw [List.map_map, joinL_ones] at e
  exact e
end My
namespace My
open PySem PySem.Spec PyProof.Rows L2
/-- what 'except x as n' wishes, the length of the frame's list told -/
def wAsL (K : PySem.W.Frag) (c : Value) (i m : Nat) (ts : Addr → Value → Option Addr → TS) (Wout : WX) (D : Ends) : WX := fun cls d σ H => ∃ b, PySem.W.exmOne K cls c = some b ∧
  (b = true → σ.length = m → ∀ a, H a = none → ts a cls d { nx := fun ρ G => D.nx (ρ.set i none) G, rt := D.rt, bk := fun ρ G => D.bk (ρ.set i none) G, ct := fun ρ G => D.ct (ρ.set i none) G } (σ.set i (some (.ref a))) H) ∧ (b = false → Wout cls d σ H)
section
variable {X : Cx} {x y n : Str} {c c2 : Value} {i : Nat} {body suite su2 : List Stmt} {b₀ b2 : Stmt} {np yp p1 p2 pos : Pos} {tb : WX → TS} {ts ts2 : Addr → Value → Option Addr → TS} {Wout : WX}
/-- try: .. except x as n: .. except y: .. -/
theorem ps_try_as_only (hs : X.stack = X.env :: X.outer) (hf : X.env.frame = some X.env.locals) (hN : X.N.Nodup) (hi : X.N[i]? = some n) (hln : X.env.kindOf n = some .local) (hc : Names X x c) (hc2 : Names X y c2) (tk : Takes X Wout)
    (hb : ∀ (W : WX) (pn : List (Addr × Obj)) (xe : Value → Shared → Prop), Takes (X.tr pn xe) W → PassesOwn (model X.prog X.w) X.A X.env xe → PSs (X.tr pn xe) body (tb W))
    (hsu : ∀ (a : Addr) (oe : Obj) (cls : Value) (d : Option Addr) (pn : List (Addr × Obj)), Zc cls d oe → (∃ vs, oe.data = .fields vs) → PSs (X.suite a ((a, oe) :: pn)) (b₀ :: suite) (ts a cls d))
    (hsu2 : ∀ (a : Addr) (oe : Obj) (cls : Value) (d : Option Addr) (pn : List (Addr × Obj)), Zc cls d oe → (∃ vs, oe.data = .fields vs) → PSs (X.suite a ((a, oe) :: pn)) (b2 :: su2) (ts2 a cls d)) :
    PS X (.Try body [.ExceptHandler (some (.Name x np)) (some n) (b₀ :: suite) p1, .ExceptHandler (some (.Name y yp)) none (b2 :: su2) p2] [] [] pos) (fun D σ H => tb (wAsL X.K c i X.N.length ts (wOnly X.K c2 ts2 Wout D) D) D σ H) := by
  refine ⟨fun pins s σ H D I h => ?_⟩
  have fine := I.ok
  have frm : X.A.frames = some (X.env :: X.outer) := by rw [fine.frames, hs]
  refine wpAny_Try_except (wpAny_mono ((hb _ (X.pn ++ pins) _ (fun u s' xx => ?_) PassesOwn.looking).run [] s σ H D (I.toTry _) h) (fun f s1 back => ?_) (fun e s1 he => he))
  · obtain ⟨ea, bb, s0, pins0, τ, G, cls, d, rfl, J0, bare, kp, sky, fresh, oss, agr, b, q1, yes, no⟩ := xx
    have J : Inv X pins τ G s0 := J0.ofTry fine
    have sky1 : Sky bb (X.env :: X.outer) ea (Zc cls d) X.env.locals s'.heap := hs ▸ sky
    show wpAny (model X.prog X.w) X.A (noteFrame (.ref ea) X.env) _ _ _
    refine Sky.land Zc.steady frm hf sky1 fun g1 fl1 up1 => ?_
    have J1 : Inv X pins τ G { s' with heap := g1 } := J.landed bare fl1.1 (kp.trans up1) oss agr
    obtain ⟨eo, ev, at1, zc1, dat1⟩ := fl1.there
    have far : ea ∉ frs (X.env :: X.outer) := fun isFrame => by
      obtain ⟨_, o', at2, noDict⟩ := fl1.2.2.1.mem isFrame
      rw [at1] at at2
      cases at2
      exact noDict _ dat1
    have farL : ea ≠ X.env.locals := fun z => far (List.mem_filterMap.mpr ⟨X.env, List.mem_cons_self, by rw [hf, z]⟩)
    have farF : ea ∉ X.fs := fun isFs => by
      obtain ⟨ev', inOuter, q⟩ := List.mem_filterMap.mp isFs
      exact far (List.mem_filterMap.mpr ⟨ev', List.mem_cons_of_mem _ inOuter, q⟩)
    have S1 := J1.suite at1 dat1 fresh farL farF
    have isCls : PySem.W.Looks (model X.prog X.w) g1 (typeOf (.ref ea)) cls := fun A Q E s k q => wpAny_typeOf_ref (k _ _ at1) (by rw [zc1.1]; exact q)
    -- a clause's name
    have named : ∀ {z : Str} {cz : Value} {zp : Pos} {Q : Value → Shared → Prop} {E : Value → Shared → Prop}, Names X z cz → Q cz { s' with heap := g1 } →
        wpAny (model X.prog X.w) (X.A.mark (some (.ref ea))) (eval (.Name z zp) X.env) Q E { s' with heap := g1 } := fun {z cz zp Q E} hz q => by
      obtain ⟨gl, dbg, own | ⟨none, boot, noName⟩⟩ := hz
      · exact ld_glob (X := X.suite ea ((ea, eo) :: (X.pn ++ pins))) S1 gl own q dbg
      · exact ld_blt (X := X.suite ea ((ea, eo) :: (X.pn ++ pins))) S1 gl none boot q noName dbg
    refine wpAny_handleBy_cons (codeAny_handlers_test (named hc ((PySem.W.exm_one (M := model X.prog X.w) J1.kIn isCls q1).here ?_))) (by intro q; cases q)
    cases b with
    | true =>
      refine codeAny_handlers_suite_as (HandSPX.lands_againZ fl1 fun g2 fl2 up2 => ?_)
      have J2 : Inv X pins τ G { s' with heap := g2 } := J.landed bare fl2.1 ((kp.trans up1).trans up2) oss agr
      obtain ⟨eo2, ev2, at3, zc2, dat2⟩ := fl2.there
      have S2 := J2.suite at3 dat2 fresh farL farF
      refine store_ok (X := X.suite ea ((ea, eo2) :: (X.pn ++ pins))) (v := .ref ea) S2 hN hi (.inl hln) rfl (fun s5 S5 => ?_) (.inr hln)
      refine wpAny_mono ((hsu ea eo2 cls d (X.pn ++ pins) zc2 ⟨_, dat2⟩).run [] s5 _ G _ S5 (yes rfl J.len ea fresh)) (fun f s6 back => ?_) (fun _ _ z => False.elim z)
      have unbound : ∀ {ρ : L2.St} {G6 : Hp} {R : Shared → Prop}, Inv (X.suite ea ((ea, eo2) :: (X.pn ++ pins))) [] ρ G6 s6 → (∀ s7, Inv X pins (ρ.set i none) G6 s7 → R s7) →
          wpAny (model X.prog X.w) X.A (do bindName X.env n .none; unbindBehindTheSuite X.env n p1) (fun _ s7 => R s7) X.xe s6 := fun {ρ G6 R} S6 r => gone_ok (S6.unsuite fine) hN hi hln r
      cases f with
      | next => exact let ⟨_, _, S6, q6⟩ := back; unbound S6 fun s7 J7 => ⟨_, _, J7, q6⟩
      | brk => exact let ⟨_, _, S6, q6⟩ := back; unbound S6 fun s7 J7 => ⟨_, _, J7, q6⟩
      | cont => exact let ⟨_, _, S6, q6⟩ := back; unbound S6 fun s7 J7 => ⟨_, _, J7, q6⟩
      | ret u => exact let ⟨_, _, _, S6, r6, q6⟩ := back; unbound S6 fun s7 J7 => ⟨_, _, _, J7, r6, q6⟩
    | false =>
      obtain ⟨b', q2, yes2, no2⟩ := no rfl
      show wpAny _ X.A (handleBy (.ref ea) X.env [.ExceptHandler (some (.Name y yp)) none (b2 :: su2) p2]) _ _ _
      refine wpAny_handleBy_cons (codeAny_handlers_test (named hc2 ((PySem.W.exm_one (M := model X.prog X.w) J1.kIn isCls q2).here ?_))) (by intro q; cases q)
      cases b' with
      | true =>
        refine codeAny_handlers_suite (HandSPX.lands_againZ fl1 fun g2 fl2 up2 => ?_)
        have J2 : Inv X pins τ G { s' with heap := g2 } := J.landed bare fl2.1 ((kp.trans up1).trans up2) oss agr
        obtain ⟨eo2, ev2, at3, zc2, dat2⟩ := fl2.there
        have S2 := J2.suite at3 dat2 fresh farL farF
        refine wpAny_mono ((hsu2 ea eo2 cls d (X.pn ++ pins) zc2 ⟨_, dat2⟩).run [] _ _ G _ S2 (yes2 rfl ea fresh)) (fun f s6 back => ?_) (fun _ _ z => False.elim z)
        cases f with
        | next => exact let ⟨_, _, S6, q6⟩ := back; ⟨_, _, S6.unsuite fine, q6⟩
        | brk => exact let ⟨_, _, S6, q6⟩ := back; ⟨_, _, S6.unsuite fine, q6⟩
        | cont => exact let ⟨_, _, S6, q6⟩ := back; ⟨_, _, S6.unsuite fine, q6⟩
        | ret u => exact let ⟨_, _, _, S6, r6, q6⟩ := back; ⟨_, _, _, S6.unsuite fine, r6, q6⟩
      | false =>
        show wpAny _ X.A (handleBy (.ref ea) X.env []) _ _ _
        refine wpAny_handleBy_nil ?_
        obtain ⟨_, _, _, oe, vs, tb1, otb, ts', he, hz, hdd, h1, hr⟩ := id fl1
        unfold PySem.passOn
        refine wpAny_bind (wpAny_field he hdd h1 ?_)
        rw [if_neg (show ¬ ((Value.ref tb1 == Value.none) = true) by simp)]
        have again : wpAny (model X.prog X.w) X.A (setFlight (.ref ea) X.env.frame) (fun _ s4 => wpAny (model X.prog X.w) X.A (throw (.ref ea) : Sem Flow) (SP X pins D) X.xe s4) X.xe { s' with heap := g1 } := by
          rw [hf]
          refine HandSPX.setFlight_upZ fl1 fun g4 hh4 up4 => wpAny_throw (tk _ _ ⟨ea, bb, s0, pins, τ, G, cls, d, rfl, J, bare, (kp.trans up1).trans up4, .inr (.inr (by rw [hs]; exact hh4)), fresh, oss, agr, no2 rfl⟩)
        first
          | exact wpAny_bind (wpAny_pure (wpAny_bind again))
          | exact wpAny_bind again
  · cases f with
    | next => exact let ⟨_, _, J', q⟩ := back; wpAny_execs_nil ⟨_, _, J'.ofTry fine, q⟩
    | brk => exact let ⟨_, _, J', q⟩ := back; ⟨_, _, J'.ofTry fine, q⟩
    | cont => exact let ⟨_, _, J', q⟩ := back; ⟨_, _, J'.ofTry fine, q⟩
    | ret u => exact let ⟨_, _, _, J', r, q⟩ := back; ⟨_, _, _, J'.ofTry fine, r, q⟩
end
end My
namespace My
open PySem PySem.Spec PyProof.Rows L2
section
variable {X : Cx}
def rReprB : List V → Hp → VK → Prop := fun vs H Q => ∃ b, vs = [.bl b] ∧ Q (.str (if b then "True" else "False")) H
theorem cr_reprB : CallR X (.builtin "repr") rReprB := by
  intro pins s σ H vs us Q I r h
  obtain ⟨b, rfl, q⟩ := h
  cases r with
  | cons r1 r =>
    cases r
    cases r1
    exact PySem.P.repr_of_bool ⟨.str _, H, I.tok _, ⟨_, rfl⟩, q⟩
/-- the text of a value of any of these kinds -/
inductive RpK (K : PySem.W.Frag) (H : Hp) : V → Str → Prop
  | non : RpK K H .non "None"
  | bl (b : Bool) : RpK K H (.bl b) (if b then "True" else "False")
  | int {i : Int} : i.natAbs.log2 < 1920 → RpK K H (.int i) (toString i)
  | str {x : Str} : (reprText x).length ≤ sizeLine → RpK K H (.str x) (reprText x)
  | lst {a : Addr} {xs : List V} {ds : List PyData} : SqL K H a xs → (∀ H', DpAll K H' xs ds) → (PyData.list ds).showable = true → (PyData.list ds).hasDict = false → (PyData.list ds).depth < 20 → (PyData.list ds).shown.length ≤ sizeLine → RpK K H (.ref a) (PyData.list ds).shown
  | tup {a : Addr} {xs : List V} {ds : List PyData} : SqT K H a xs → (∀ H', DpAll K H' xs ds) → (PyData.tuple ds).showable = true → (PyData.tuple ds).hasDict = false → (PyData.tuple ds).depth < 20 → (PyData.tuple ds).shown.length ≤ sizeLine → RpK K H (.ref a) (PyData.tuple ds).shown
  | emp {a : Addr} : H a = some (.dK []) → RpK K H (.ref a) (PyData.dict []).shown
def rReprK (K : PySem.W.Frag) : List V → Hp → VK → Prop := fun vs H Q => ∃ v t, vs = [v] ∧ RpK K H v t ∧ Q (.str t) H
theorem cr_reprK (hu : X.A.units + 64 < cLine) (hg : X.A.guards = some []) : CallR X (.builtin "repr") (rReprK X.K) := by
  intro pins s σ H vs us Q I r h
  obtain ⟨v, t, rfl, hv, q⟩ := h
  cases r with
  | cons r1 r =>
    cases r
    cases hv with
    | non =>
      cases r1
      exact PySem.P.repr_of_none ⟨.str _, H, I.tok _, ⟨_, rfl⟩, q⟩
    | bl b =>
      cases r1
      exact PySem.P.repr_of_bool ⟨.str _, H, I.tok _, ⟨_, rfl⟩, q⟩
    | int hz =>
      obtain ⟨t, rfl⟩ := r1
      exact PySem.P.repr_of_int hz ⟨.str _, H, I.tok _, ⟨_, rfl⟩, q⟩
    | str hz =>
      obtain ⟨t, rfl⟩ := r1
      exact PySem.P.repr_of_str (h := ⟨.str _, H, I.tok _, ⟨_, rfl⟩, q⟩) (hsz := hz)
    | lst hs hd h1 h2 h3 h4 =>
      cases r1
      obtain ⟨as, hrd⟩ := Dp.reads I _ _ _ (Dp.lst hs (hd H)) rfl
      refine repr_of_reads' hrd h1 (fun z => by rw [h2] at z; cases z) hg (by omega) (fun _ _ e => e) (fun h' u tk hk => ?_) h4
      exact ⟨.str _, H, I.kept hk, ⟨_, rfl⟩, q⟩
    | tup hs hd h1 h2 h3 h4 =>
      cases r1
      obtain ⟨as, hrd⟩ := Dp.reads I _ _ _ (Dp.tup hs (hd H)) rfl
      refine repr_of_reads' hrd h1 (fun z => by rw [h2] at z; cases z) hg (by omega) (fun _ _ e => e) (fun h' u tk hk => ?_) h4
      exact ⟨.str _, H, I.kept hk, ⟨_, rfl⟩, q⟩
    | @emp a ha =>
      cases r1
      obtain ⟨_, sm, vs, kv, o, es, ep, ho, hx, hd, _, hp, _⟩ := dk_of I.hok ha
      cases kv
      have e0 : es.toList = [] := by
        cases e : es.toList with
        | nil => rfl
        | cons _ _ => rw [e] at hp; cases hp
      have hrd : Reads s.heap (.ref a) (.dict []) (a :: [] ++ []) := Reads.dict ho hx.1 hd (by rw [e0]; exact .nil) (by rw [e0]; exact .nil)
      refine repr_of_reads' hrd rfl (fun _ => ?_) hg (by show _ + (0 + 1 + 1) < _; omega) (fun _ _ e => e) (fun h' u tk hk => ?_) (by decide +kernel)
      · intro z
        have z' : sysModules = a := by simpa using z
        rw [z'] at sm
        simp at sm
      · exact ⟨.str _, H, I.kept hk, ⟨_, rfl⟩, q⟩
end
end My
namespace My
open PySem PySem.Spec PyProof.Rows L2
local macro_rules | `(tactic| walk_at "side") => `(tactic| first | assumption | decide | exact Or.inl ⟨by decide, by decide⟩ | exact Or.inr ⟨by decide, by decide⟩ | exact ⟨by decide, by decide, by decide⟩ | omega | (unfold CMulW; decide +kernel) | (dsimp only; first | assumption | omega | decide +kernel) | exact len_ok (Nat.le_of_ble_eq_true rfl) | fail "side")
local macro_rules | `(tactic| walk_at "rd") => `(tactic| first
  | refine ⟨_, _, _, _, rfl, rfl, SqL.of upd_same, atI_nat (j := 0) rfl, ?_⟩ | refine ⟨_, _, _, _, rfl, rfl, SqL.of upd_same, atI_nat (j := 1) rfl, ?_⟩ | refine ⟨_, _, _, _, rfl, rfl, SqL.of upd_same, atI_nat (j := 2) rfl, ?_⟩
  | refine ⟨_, _, _, _, rfl, rfl, upd_same, rfl, ?_⟩
  | refine ⟨_, _, rfl, rfl, ?_⟩ | refine ⟨_, rfl, ?_⟩ | refine ⟨_, _, rfl, ?_⟩ | refine Or.inl ⟨_, rfl, ?_⟩ | refine Or.inr ⟨_, rfl, ?_⟩ | refine ⟨(by walk_at "side"), ?_⟩ | fail "rd")

abbrev s_lmixed : Stmt := top 23
theorem sc_lmixed : FnScope ["_law_dice_here", "_law_items", "_law_left", "_law_found", "_law_turn"] ["_law_dice_here", "_law_items"] (defScope s_lmixed) := ⟨rfl, rfl, rfl, by decide +kernel, rfl, by decide +kernel, by decide +kernel⟩
abbrev s_lsome : Stmt := top 24
theorem sc_lsome : FnScope ["_law_dice_here", "_law_items", "_law_item"] ["_law_dice_here", "_law_items"] (defScope s_lsome) := ⟨rfl, rfl, rfl, by decide +kernel, rfl, by decide +kernel, by decide +kernel⟩
abbrev s_lnth : Stmt := top 25
theorem sc_lnth : FnScope ["_law_index", "_law_letters"] ["_law_index"] (defScope s_lnth) := ⟨rfl, rfl, rfl, by decide +kernel, rfl, by decide +kernel, by decide +kernel⟩
abbrev s_llet : Stmt := top 27
theorem sc_llet : FnScope ["_law_value", "_law_sign"] ["_law_value"] (defScope s_llet) := ⟨rfl, rfl, rfl, by decide +kernel, rfl, by decide +kernel, by decide +kernel⟩
abbrev s_lword2 : Stmt := top 28
theorem sc_lword2 : FnScope ["_law_dice_here", "_law_signs", "_law_turn"] ["_law_dice_here"] (defScope s_lword2) := ⟨rfl, rfl, rfl, by decide +kernel, rfl, by decide +kernel, by decide +kernel⟩
abbrev s_lint : Stmt := top 29
theorem sc_lint : FnScope ["_law_dice_here", "_law_near", "_law_number"] ["_law_dice_here"] (defScope s_lint) := ⟨rfl, rfl, rfl, by decide +kernel, rfl, by decide +kernel, by decide +kernel⟩
def spLMix (K : PySem.W.Frag) : Sp := fun vs H Q _ => ∃ (a l : Addr) (xs : List V), vs = [.ref a, .ref l] ∧ H a = some (DiceO a) ∧ SqL K H l xs ∧ xs.length ≤ 100 ∧ ∀ p H' ys, Ext H H' → H' p = some (.lst ys) → ys.length = xs.length → (∀ y, y ∈ ys → y ∈ xs) → Q (.ref p) H'
theorem two_new {H H' : Hp} {L : Addr} {o : HO} (hL : H L = none) (e : ∀ a u, H a = some u → H' a = some u) : ∀ a u, H a = some u → upd H' L o a = some u := fun a u q => by
  rw [upd_ne (ne_of_none q hL)]
  exact e a u q
/-- some of the items -/
def spLSome (K : PySem.W.Frag) : Sp := fun vs H Q _ => ∃ (a l : Addr) (xs : List V), vs = [.ref a, .ref l] ∧ H a = some (DiceO a) ∧ SqL K H l xs ∧ xs.length ≤ 100 ∧ ∀ p H' ys, Ext H H' → H' p = some (.lst ys) → ys.length ≤ xs.length → (∀ y, y ∈ ys → y ∈ xs) → Q (.ref p) H'
def spLNth : Sp := fun vs H Q _ => ∃ i : Nat, vs = [.int i] ∧ i ≤ 701 ∧ Q (.str (nthS i)) H
def spLLet : Sp := fun vs H Q _ => ∃ s, vs = [.str s] ∧ s.length ≤ 1000 ∧ Asc s ∧ ∀ H', Ext H H' → Q (.bl (isNm s)) H'
def spLWord : Sp := fun vs H Q _ => ∃ a : Addr, vs = [.ref a] ∧ H a = some (DiceO a) ∧ ∀ z H', z.length ≤ 10 → Asc z → Ext H H' → Q (.str z) H'
def spLInt : Sp := fun vs H Q _ => ∃ a : Addr, vs = [.ref a] ∧ H a = some (DiceO a) ∧ ∀ i H', Sz 300 i → Ext H H' → Q (.int i) H'
theorem ext_upd2 : True := trivial
section
variable {P : Program} {w : World} {K : PySem.W.Frag} {mg : Str → Option Value} {base : Heap}
theorem ok_lmixed (T : Bn mg) (D : DefAt K mg "_law_mixed" s_lmixed) (F__law_roll : FnAt P w K mg base 1 "_law_roll" ["_law_dice_here", "_law_total"] spRoll) : FnAt P w K mg base 2 "_law_mixed" ["_law_dice_here", "_law_items"] (spLMix K) := by
  refine fnAt D sc_lmixed (fun _ _ _ _ _ _ us hl => match us, hl with | [_, _], _ => rfl) (fun vs H Q E h => ?_) fun f cdv A outer s H vs Q E hr h => ?_
  · obtain ⟨a, l, xs, rfl, _⟩ := h
    rfl
  obtain ⟨a, l, xs, rfl, ha, hl, hz, k⟩ := h
  refine ⟨_, (pss_cons (ps_par (i := 2) (j := 3) rfl sc_lmixed.nd rfl rfl (by decide) rfl rfl (pa_cons (pe_callTy call_list_of (by rfl) T.b_list (by decide +kernel) (pa_cons (pv 1) pa_nil)) (pa_cons (pe_lst pa_nil) pa_nil)) (by rfl))
    (pss_cons (ps_for PassesOwn.never rfl (pi_range1 (by rfl) T.b_range (pa_cons (pe_callB call_len_seq (by rfl) T.b_len (by decide +kernel) (pa_cons (pv 1) pa_nil)) pa_nil)) (pg_name (i := 4) sc_lmixed.nd rfl (Or.inl rfl))
      (pss_one (ps_expr (pe_bm PySem.F.plainAttrs_list PySem.F.slot_list_append PySem.F.type_list_append mt_append (pv 3) (pa_cons (pe_bm PySem.F.plainAttrs_list PySem.F.slot_list_pop PySem.F.type_list_pop mt_popAt (pv 2) (pa_cons (callA F__law_roll (hr.mono (by decide)) rfl (pa_cons (pv 0) (pa_cons (pe_callB call_len_seq (by rfl) T.b_len (by decide +kernel) (pa_cons (pv 2) pa_nil)) pa_nil))) pa_nil)) pa_nil)))))
    (pss_one (ps_ret (pv 3))))), ?_⟩
  refine ⟨_, rfl, l, xs, rfl, .inl hl, fun L hL => ⟨len_ok (Nat.le_of_ble_eq_true rfl), fun F hF => ⟨_, _, rfl, ?_⟩⟩⟩
  have E1 := ext_new (o := .lst xs) (ext_refl H) hL
  have E2 := ext_new (o := .lst []) E1 hF
  have FL : F ≠ L := fun z => by rw [z, upd_same] at hF; cases hF
  have hF0 : H F = none := ext_none E1 hF
  refine ⟨_, rfl, l, xs, rfl, .inl (hl.ext E2), _, rfl, by omega, by omega, ?_⟩
  refine for_range (lo := 0) (fun i σ H' => ∃ ls fs z, σ = [some (.ref a), some (.ref l), some (.ref L), some (.ref F), z] ∧ (∀ a u, H a = some u → H' a = some u) ∧ H' L = some (.lst ls) ∧ H' F = some (.lst fs) ∧ ls.length + i = xs.length ∧ fs.length = i ∧ (∀ y, y ∈ ls → y ∈ xs) ∧ (∀ y, y ∈ fs → y ∈ xs)) ?_ ?_ ?_
  · exact ⟨xs, [], _, rfl, E2, by rw [upd_ne FL.symm, upd_same], upd_same, rfl, rfl, fun y h => h, fun y h => by cases h⟩
  · rintro i σ H' hi ⟨ls, fs, z, rfl, e, hL', hF', c1, c2, c3, c4⟩
    have hp : 0 < ls.length := by omega
    refine ⟨_, rfl, .inl ⟨rfl, fs, SqL.of hF'⟩, _, rfl, .inl ⟨rfl, ls, SqL.of hL'⟩, _, rfl, _, rfl, L, ls, rfl, .inl (SqL.of hL'), a, _, rfl, e _ _ ha, by omega, Sz.mono (n := 10) (by unfold Sz; omega) (by decide), fun r r0 r1 => ?_⟩
    obtain ⟨j, rfl⟩ : ∃ j : Nat, r = (j : Int) := ⟨r.toNat, by omega⟩
    have hj : j < ls.length := by omega
    have sj : seqIndex? (j : Int) ls.length = some j := PySem.StrLaws.seqIndex_nonneg (by omega) (by omega)
    refine ⟨L, ls, j, j, ls[j], rfl, rfl, hL', by omega, by omega, sj, List.getElem?_eq_getElem hj, F, fs, _, rfl, rfl, by rw [upd_ne FL]; exact hF', Nat.lt_of_le_of_lt (show fs.length ≤ 1000 by omega) (by decide), ?_⟩
    refine ⟨ls.eraseIdx j, fs ++ [ls[j]], _, rfl, two_new hF0 (two_new hL e), by rw [upd_ne FL.symm, upd_same], upd_same, ?_, by simp [c2], fun y h => c3 y (List.mem_of_mem_eraseIdx h), fun y h => ?_⟩
    · rw [List.length_eraseIdx, if_pos hj]
      omega
    · rcases List.mem_append.mp h with h | h
      · exact c4 y h
      · rw [List.mem_singleton.mp h]
        exact c3 _ (List.getElem_mem hj)
  · rintro σ H' ⟨ls, fs, z, rfl, e, hL', hF', c1, c2, c3, c4⟩
    exact ⟨_, rfl, k F H' fs e hF' (by omega) c4⟩
theorem ok_lsome (T : Bn mg) (D : DefAt K mg "_law_some" s_lsome) (F__law_roll : FnAt P w K mg base 1 "_law_roll" ["_law_dice_here", "_law_total"] spRoll) : FnAt P w K mg base 2 "_law_some" ["_law_dice_here", "_law_items"] (spLSome K) := by
  refine fnAt D sc_lsome (fun _ _ _ _ _ _ us hl => match us, hl with | [_, _], _ => rfl) (fun vs H Q E h => ?_) fun f cdv A outer s H vs Q E hr h => ?_
  · obtain ⟨a, l, xs, rfl, _⟩ := h
    rfl
  obtain ⟨a, l, xs, rfl, ha, hl, hz, k⟩ := h
  refine ⟨_, (pss_one (ps_ret (pe_lc (own := [("_law_item", 2)]) (g := gName 2) (tt := _) rfl sc_lsome.nd (pi_list (pv 1)) (blkOk_by (N := ["_law_dice_here", "_law_items", "_law_item"]) (sc := defScope s_lsome) (by decide +kernel)) (fun _ _ _ _ _ => pg_name (i := 2) sc_lsome.nd rfl (Or.inl rfl)) (fun _ _ _ _ _ => pts_one (pt_cmpR op_eq (callA F__law_roll (hr.mono (by decide)) rfl (pa_cons (pv 0) (pa_cons pe_int pa_nil))) pe_int (nomark _))) (fun _ _ _ _ _ => (pv 2))))), ?_⟩
  refine ⟨_, rfl, l, rfl, ⟨_, hl⟩, fun D hD => some_list hl hD (by omega) (fun _ => rfl) (fun i x H' hi e Q' k' => ?_) (fun _ _ _ k' => ⟨_, rfl, k'⟩) fun H' acc e hD' h1 h2 => k D H' acc e hD' h1 h2⟩
  refine ⟨_, rfl, a, 2, rfl, e _ _ ha, by decide, by unfold Sz; decide, fun r h0 h1 => ?_⟩
  exact ⟨rfl, _, rfl, k' _ _ (ext_refl _)⟩
theorem ok_lnth (T : Bn mg) (D : DefAt K mg "_law_nth" s_lnth) : FnAt P w K mg base 1 "_law_nth" ["_law_index"] spLNth := by
  refine fnAt D sc_lnth (fun _ _ _ _ _ _ us hl => match us, hl with | [_], _ => rfl) (fun vs H Q E h => ?_) fun f cdv A outer s H vs Q E hr h => ?_
  · obtain ⟨i, rfl, _⟩ := h
    rfl
  obtain ⟨i, rfl, hi, k⟩ := h
  refine ⟨_, (pss_cons (ps_set (i := 1) sc_lnth.nd rfl (Or.inl rfl) pe_str)
    (pss_one (ps_ret (pe_ifExp (pt_cmpR op_lt (pv 0) pe_int (nomark _)) (pe_ix ix_str (pv 1) (pv 0) (fun _ _ => rfl)) (pe_op op_add_str (pe_ix ix_str (pv 1) (pe_op op_sub (pe_op op_fdivX (pv 0) pe_int) pe_int) (fun _ _ => rfl)) (pe_ix ix_str (pv 1) (pe_op op_modN (pe_callTy call_int1 (by rfl) T.b_int (by decide +kernel) (pa_cons (pv 0) pa_nil)) pe_int) (fun _ _ => rfl))))))), ?_⟩
  refine ⟨_, rfl, _, _, rfl, rfl, _, rfl, ?_⟩
  by_cases h : (i : Int) < 26
  · rw [decide_eq_true h]
    refine iteT ⟨_, rfl, _, rfl, letS, _, 97 + i, rfl, rfl, by decide, atI_nat (let_at i (by omega)), ?_⟩
    rw [show nthS i = lt1 i from if_pos (by omega)] at k
    exact k
  · rw [decide_eq_false h]
    obtain ⟨m, rfl⟩ : ∃ m, i = m + 26 := ⟨i - 26, by omega⟩
    refine iteF ?_
    have e1 : (((m + 26 : Nat) : Int)).fdiv 26 - 1 = ((m / 26 : Nat) : Int) := by
      rw [Int.fdiv_eq_ediv_of_nonneg _ (by decide)]
      omega
    have e2 : (((m + 26 : Nat) : Int)).fmod 26 = ((m % 26 : Nat) : Int) := by
      rw [Int.fmod_eq_emod_of_nonneg _ (by decide)]
      omega
    have e : nthS (m + 26) = lt1 (m / 26) ++ lt1 (m % 26) := by
      unfold nthS
      rw [if_neg (by omega), Nat.add_sub_cancel]
    rw [e] at k
    refine ⟨_, rfl, _, rfl, _, _, rfl, rfl, (show CDivX _ 26 from ⟨by decide, by decide +kernel⟩), _, _, rfl, rfl, letS, _, 97 + m / 26, rfl, rfl, by decide, by rw [e1]; exact atI_nat (let_at _ (by omega)), ?_⟩
    exact ⟨_, rfl, _, rfl, .inl ⟨_, rfl, _, _, rfl, rfl, by show (26 : Int) ≠ 0; decide, letS, _, 97 + m % 26, rfl, rfl, by decide, by rw [e2]; exact atI_nat (let_at _ (by omega)), _, _, rfl, rfl, by show 2 ≤ sizeLine; decide, k⟩⟩
theorem ok_llet (T : Bn mg) (D : DefAt K mg "_law_lettered" s_llet) : FnAt P w K mg base 1 "_law_lettered" ["_law_value"] spLLet := by
  refine fnAt D sc_llet (fun _ _ _ _ _ _ us hl => match us, hl with | [_], _ => rfl) (fun vs H Q E h => ?_) fun f cdv A outer s H vs Q E hr h => ?_
  · obtain ⟨i, rfl, _⟩ := h
    rfl
  obtain ⟨z, rfl, hz, asc, k⟩ := h
  refine ⟨_, (pss_cons (ps_if (PW.pt (pw_or (pt_not (pt_val (pe_callB call_isi (by rfl) T.b_isinstance (by decide +kernel) (pa_cons (pv 0) (pa_cons (pe_bltn (v := .ty "str") (by rfl) T.b_str (by decide +kernel) rfl) pa_nil))))) (pw_or1 (pt_not (pt_chain op_le op_le pe_int (pe_callB call_len_str (by rfl) T.b_len (by decide +kernel) (pa_cons (pv 0) pa_nil)) pe_int))))) (pss_one (ps_ret pe_bl)) pss_nil)
    (pss_one (ps_ret (pe_cmpR (op_eqD (hu64 hr)) (pe_lc (own := [("_law_sign", 1)]) (g := gName 1) (tt := _) rfl sc_llet.nd (pi_str (pv 0)) (blkOk_by (N := ["_law_value", "_law_sign"]) (sc := defScope s_llet) (by decide +kernel)) (fun _ _ _ _ _ => pg_name (i := 1) sc_llet.nd rfl (Or.inl rfl)) (fun _ _ _ _ _ => pts_one (pt_cmpR op_notIn_sign (pv 1) pe_str rfl)) (fun _ _ _ _ _ => (pv 1))) (pe_lst pa_nil) (nomark _))))), ?_⟩
  refine ⟨_, rfl, _, _, _, _, true, rfl, .ty _, .base (.str _), kit_strstr, _, rfl, iteF ?_⟩
  refine ⟨_, rfl, _, rfl, Nat.le_trans hz (by decide), _, _, rfl, rfl, _, rfl, ?_⟩
  by_cases h1 : decide ((1 : Int) ≤ z.length) = true
  · rw [if_pos h1]
    refine ⟨_, _, rfl, rfl, _, rfl, ?_⟩
    by_cases h2 : decide ((z.length : Int) ≤ 8) = true
    · rw [h2]
      refine iteF ?_
      refine ⟨_, rfl, z, rfl, fun D hD => filt_str (z := z) (fun x => !decide (sg x ∈ letS.cps.toList)) hD (Nat.le_trans hz (by decide)) (fun _ => rfl) (fun i x H' hi e Q' k' => ?_) (fun _ _ _ k' => ⟨_, rfl, k'⟩) fun H' e hl => ?_⟩
      · obtain ⟨c, hc, rfl⟩ := signs_mem (List.mem_of_getElem? hi)
        exact ⟨_, rfl, c, letS, rfl, rfl, _, rfl, k' H' (ext_refl _)⟩
      · have ec : (signs z).filter (fun x => !decide (sg x ∈ letS.cps.toList)) = ((z.cps.toList.filter fun c => !decide (c ∈ letS.cps.toList)).map fun c => (⟨#[c]⟩ : Str)).map V.str := by
          unfold signs
          rw [List.filter_map, List.map_map]
          rfl
        rw [ec] at hl
        refine ⟨len_ok (Nat.le_of_ble_eq_true rfl), fun p hp => ⟨_, _, .lst (SqL.of (ext_new (ext_refl _) hp _ _ hl)) (dp_strs _), .lst (SqL.of upd_same) .nil, shaped_strs fun s hs => ?_, rfl, ?_⟩⟩
        · obtain ⟨c, hc, rfl⟩ := List.mem_map.mp hs
          exact Asc.ok fun d hd => by
            have hd' : d = c := by simpa using hd
            rw [hd']
            exact asc c (List.mem_filter.mp hc).1
        · have e1 : isNm z = PyData.eqv (.list (((z.cps.toList.filter fun c => !decide (c ∈ letS.cps.toList)).map fun c => (⟨#[c]⟩ : Str)).map PyData.str)) (.list []) := by
            have q := eqv_strs ((z.cps.toList.filter fun c => !decide (c ∈ letS.cps.toList)).map fun c => (⟨#[c]⟩ : Str)) []
            rw [List.map_nil] at q
            rw [PyData.eqv, q]
            unfold isNm
            rw [h1, h2]
            show z.cps.toList.all _ = _
            rw [Bool.eq_iff_iff, List.all_eq_true, decide_eq_true_iff, List.map_eq_nil_iff, List.filter_eq_nil_iff]
            simp
          have q := k _ (ext_new e hp (o := .lst []))
          rw [e1] at q
          exact q
    · rw [Bool.eq_false_iff.mpr h2]
      refine iteT ?_
      have e1 : isNm z = false := by unfold isNm; rw [Bool.eq_false_iff.mpr h2, Bool.and_false]; rfl
      have q := k H (ext_refl H)
      rw [e1] at q
      exact q
  · rw [if_neg h1]
    refine ⟨_, rfl, iteT ?_⟩
    have e1 : isNm z = false := by unfold isNm; rw [Bool.eq_false_iff.mpr h1]; rfl
    have q := k H (ext_refl H)
    rw [e1] at q
    exact q
theorem word_turn {z : Str} {a : Addr} {σ : L2.St} {H' : Hp} {Q' : VK} (hz0 : 0 < z.length) (hz1 : z.length ≤ 100) (h0 : σ[0]? = some (some (.ref a))) (h1 : σ[1]? = some (some (.str z))) (ha : H' a = some (DiceO a)) (k' : ∀ c, c ∈ z.cps.toList → Q' (.str ⟨#[c]⟩) H') :
    tOp rIxS (tVar 1) (tCall spRoll [] E0 (tCons (tVar 0) (tCons (tCB (fun xs H Q => ∃ z, xs = [V.str z] ∧ z.length ≤ sizeLine ∧ Q (V.int z.length) H) (tCons (tVar 1) tNil)) tNil))) σ H' Q' := by
  refine ⟨_, h1, _, h0, _, h1, z, rfl, Nat.le_trans hz1 (by decide), a, _, rfl, ha, by omega, Sz.mono (n := 10) (by unfold Sz; omega) (by decide), fun r r0 r1 => ?_⟩
  obtain ⟨j, rfl⟩ : ∃ j : Nat, r = (j : Int) := ⟨r.toNat, by omega⟩
  have hj : j < z.cps.toList.length := by
    have e : z.cps.toList.length = z.length := by simp [Str.length]
    omega
  exact ⟨z, _, _, rfl, rfl, Nat.le_trans hz1 (by decide), atI_nat (List.getElem?_eq_getElem hj), k' _ (List.getElem_mem hj)⟩
theorem asc_of {z : Str} (h : z.cps.toList.all (fun c => decide (c < 1000)) = true) : Asc z := fun c hc => of_decide_eq_true (List.all_eq_true.mp h c hc)
theorem ok_lword2 (T : Bn mg) (D : DefAt K mg "_law_any_word" s_lword2) (F__law_roll : FnAt P w K mg base 1 "_law_roll" ["_law_dice_here", "_law_total"] spRoll) : FnAt P w K mg base 2 "_law_any_word" ["_law_dice_here"] spLWord := by
  refine fnAt D sc_lword2 (fun _ _ _ _ _ _ us hl => match us, hl with | [_], _ => rfl) (fun vs H Q E h => ?_) fun f cdv A outer s H vs Q E hr h => ?_
  · obtain ⟨a, rfl, _⟩ := h
    rfl
  obtain ⟨a, rfl, ha, k⟩ := h
  refine ⟨_, (pss_cons (ps_set (i := 1) sc_lword2.nd rfl (Or.inr rfl) (pe_ifExp (pt_cmpR op_gt (callA F__law_roll (hr.mono (by decide)) rfl (pa_cons (pv 0) (pa_cons pe_int pa_nil))) pe_int (nomark _)) pe_str pe_str))
    (pss_one (ps_ret (pe_join pe_str (pe_lc (own := [("_law_turn", 2)]) (g := gName 2) (tt := tYes) rfl sc_lword2.nd (pi_range1 (by rfl) T.b_range (pa_cons (callA F__law_roll (hr.mono (by decide)) rfl (pa_cons (pv 0) (pa_cons pe_int pa_nil))) pa_nil)) (blkOk_by (N := ["_law_dice_here", "_law_signs", "_law_turn"]) (sc := defScope s_lword2) (by decide +kernel)) (fun _ _ _ _ _ => pg_name (i := 2) sc_lword2.nd rfl (Or.inl rfl)) (fun _ _ _ _ _ => pts_nil) (fun _ _ _ _ _ => (pe_ix ix_str (pv 1) (callA F__law_roll (hr.mono (by decide)) rfl (pa_cons (pv 0) (pa_cons (pe_callB call_len_str (by rfl) T.b_len (by decide +kernel) (pa_cons (pv 1) pa_nil)) pa_nil))) (fun _ _ => rfl)))))))), ?_⟩
  refine ⟨_, rfl, a, 3, rfl, ha, by decide, by unfold Sz; decide, fun r h0 h1 => ⟨_, _, rfl, rfl, _, rfl, ite2 (fun _ => ?_) (fun _ => ?_)⟩⟩
  all_goals
    refine ⟨⟨_, rfl⟩, _, rfl, a, 11, rfl, ha, by decide, by unfold Sz; decide, fun r r0 r1 => ⟨r, rfl, by omega, by omega, fun D hD => ?_⟩⟩
    refine made_range (n := r.toNat) (fun acc _ => ∃ cs : List Nat, acc = cs.map (fun c => V.str ⟨#[c]⟩) ∧ ∀ c ∈ cs, c < 1000) (fun _ _ _ p _ _ => p) hD (by omega) (fun _ => rfl) (fun _ => ⟨[], rfl, fun _ h => by cases h⟩) (fun i H' acc hi e hl ⟨cs, ea, hc⟩ Q' k' => ?_) fun H' acc e hD' hl ⟨cs, ea, hc⟩ => ?_
    · refine word_turn (a := a) (by decide) (by decide) rfl rfl (e _ _ ha) fun c hc' => k' _ _ (ext_refl _) ⟨cs ++ [c], by rw [ea, List.map_append]; rfl, fun d hd => ?_⟩
      rcases List.mem_append.mp hd with hd | hd
      · exact hc d hd
      · rw [List.mem_singleton.mp hd]
        exact asc_of (by decide) c hc'
    · have ec : acc = (cs.map fun c => (⟨#[c]⟩ : Str)).map V.str := by rw [ea, List.map_map]; rfl
      rw [ec] at hD' hl
      rw [List.length_map, List.length_map] at hl
      refine ⟨"", D, _, rfl, rfl, .inl (SqL.of hD'), ?_, ?_⟩
      · have e1 : ((cs.map fun c => (⟨#[c]⟩ : Str)).map (·.length)).sum = cs.length := by
          rw [List.map_map]
          clear ec ea hl hD' hc
          induction cs with
          | nil => rfl
          | cons c r ih =>
            rw [List.map_cons, List.sum_cons, ih, List.length_cons]
            show 1 + r.length = _
            omega
        rw [e1, List.length_map]
        show cs.length + cs.length * 0 ≤ _
        omega
      · rw [join_ones]
        refine k _ _ ?_ (fun c h => hc c (by simpa using h)) e
        show cs.toArray.size ≤ 10
        rw [List.size_toArray]
        omega
theorem ok_lint (T : Bn mg) (D : DefAt K mg "_law_any_integer" s_lint) (F__law_roll : FnAt P w K mg base 1 "_law_roll" ["_law_dice_here", "_law_total"] spRoll) (F__law_pick : FnAt P w K mg base 2 "_law_pick" ["_law_dice_here", "_law_items"] (spPick K)) : FnAt P w K mg base 3 "_law_any_integer" ["_law_dice_here"] spLInt := by
  refine fnAt D sc_lint (fun _ _ _ _ _ _ us hl => match us, hl with | [_], _ => rfl) (fun vs H Q E h => ?_) fun f cdv A outer s H vs Q E hr h => ?_
  · obtain ⟨a, rfl, _⟩ := h
    rfl
  obtain ⟨a, rfl, ha, k⟩ := h
  refine ⟨_, (pss_cons (ps_set (i := 1) sc_lint.nd rfl (Or.inl rfl) (callA F__law_pick (hr.mono (by decide)) rfl (pa_cons (pv 0) (pa_cons (pe_lst (pa_cons pe_int (pa_cons pe_int (pa_cons pe_int (pa_cons (pe_op op_pow pe_int pe_int) (pa_cons (pe_op op_pow pe_int pe_int) (pa_cons (pe_op op_pow pe_int pe_int) (pa_cons (pe_op op_pow pe_int pe_int) (pa_cons (pe_op op_mulW (pe_op op_pow pe_int pe_int) (pe_op op_pow pe_int pe_int)) pa_nil))))))))) pa_nil))))
    (pss_cons (ps_set (i := 2) sc_lint.nd rfl (Or.inl rfl) (pe_op op_sub (pe_op op_add (pv 1) (callA F__law_roll (hr.mono (by decide)) rfl (pa_cons (pv 0) (pa_cons pe_int pa_nil)))) pe_int))
    (pss_one (ps_ret (pe_ifExp (pt_cmpR op_eq (callA F__law_roll (hr.mono (by decide)) rfl (pa_cons (pv 0) (pa_cons pe_int pa_nil))) pe_int (nomark _)) (pe_un un_neg (pv 2)) (pv 2)))))), ?_⟩
  have pw : CPow 10 5 ∧ CPow 10 59 ∧ CPow 10 60 ∧ CPow 10 50 ∧ CPow 10 30 := ⟨⟨by decide, by decide, by decide⟩, ⟨by decide, by decide, by decide⟩, ⟨by decide, by decide, by decide⟩, ⟨by decide, by decide, by decide⟩, ⟨by decide, by decide, by decide⟩⟩
  obtain ⟨p5, p59, p60, p50, p30⟩ := pw
  have mw : CMulW ((10 : Int) ^ (50 : Int).toNat) ((10 : Int) ^ (30 : Int).toNat) := by unfold CMulW; decide +kernel
  refine ⟨_, rfl, _, _, rfl, rfl, p5, _, _, rfl, rfl, p59, _, _, rfl, rfl, p60, _, _, rfl, rfl, p60, _, _, rfl, rfl, p50, _, _, rfl, rfl, p30, _, _, rfl, rfl, mw, len_ok (Nat.le_of_ble_eq_true rfl), fun p hp => ?_⟩
  have e1 := fun o => ext_new (o := o) (ext_refl H) hp
  refine ⟨a, p, _, rfl, e1 _ _ _ ha, SqL.of upd_same, by simp, Nat.le_of_ble_eq_true rfl, fun x hx => ?_⟩
  obtain ⟨n, rfl, hn⟩ : ∃ n, x = .int n ∧ Sz 290 n := by
    simp only [List.mem_cons, List.not_mem_nil, or_false] at hx
    rcases hx with rfl | rfl | rfl | rfl | rfl | rfl | rfl | rfl <;> exact ⟨_, rfl, by unfold Sz; decide +kernel⟩
  refine ⟨_, rfl, _, rfl, a, 5, rfl, e1 _ _ _ ha, by decide, by unfold Sz; decide, fun r r0 r1 => ⟨_, _, rfl, rfl, _, _, rfl, rfl, ?_⟩⟩
  refine ⟨_, rfl, a, 3, rfl, e1 _ _ _ ha, by decide, by unfold Sz; decide, fun r2 h0 h1 => ⟨rfl, _, rfl, ?_⟩⟩
  have hs : Sz 300 (n + r - 2) := (Sz.sub (Sz.add hn (Sz.mono (n := 10) (by unfold Sz; omega) (by decide))) (Sz.mono (n := 10) (by unfold Sz; omega) (by decide))).mono (by decide)
  refine ite2 (fun _ => ?_) (fun _ => ?_)
  · exact ⟨_, rfl, _, rfl, k _ _ hs.neg (e1 _)⟩
  · exact ⟨_, rfl, k _ _ hs (e1 _)⟩
end
end My
namespace My
open PySem PySem.Spec PyProof.Rows L2
def NmOk (z : Str) : Prop := isNm z = true ∧ z.length ≤ 100000
theorem nth_ok {i : Nat} (h : i ≤ 701) : NmOk (nthS i) := by
  have key : (List.range 702).all (fun i => isNm (nthS i) && decide ((nthS i).length ≤ 100000)) = true := by decide +kernel
  have q := List.all_eq_true.mp key i (List.mem_range.mpr (by omega))
  rw [Bool.and_eq_true] at q
  exact ⟨q.1, of_decide_eq_true q.2⟩
theorem nodup_le {α : Type} [BEq α] [LawfulBEq α] : ∀ (l ns : List α), l.Nodup → (∀ x ∈ l, x ∈ ns) → l.length ≤ ns.length := by
  intro l
  induction l with
  | nil => intro ns _ _; exact Nat.zero_le _
  | cons x r ih =>
    intro ns hd hs
    rw [List.nodup_cons] at hd
    have hx := hs x (List.mem_cons_self ..)
    have e := List.length_erase_of_mem hx
    have q := ih (ns.erase x) hd.2 fun y hy => (List.mem_erase_of_ne (show y ≠ x from fun z => hd.1 (by rw [← z]; exact hy))).mpr (hs y (List.mem_cons_of_mem _ hy))
    have p := List.length_pos_of_mem hx
    rw [List.length_cons]
    omega
theorem nth_nodup : ((List.range 200).map nthS).Nodup := by decide +kernel
theorem two_filters {α : Type} (p : α → Bool) : ∀ l : List α, (l.filter p).length + (l.filter fun x => !p x).length = l.length := by
  intro l
  induction l with
  | nil => rfl
  | cons x r ih =>
    rw [List.filter_cons, List.filter_cons]
    cases p x <;> simp <;> omega
theorem new_eq {ns : List Str} {many : Nat} (hl : ns.length ≤ 60) (hm : many ≤ 100) : newS ns many = (((List.range 200).map nthS).filter fun s => !decide (s ∈ ns)).take many := by
  have er : (List.range 200).map nthS = (List.range (ns.length + many)).map nthS ++ ((List.range (200 - (ns.length + many))).map ((ns.length + many) + ·)).map nthS := by
    rw [← List.map_append, ← List.range_add]
    congr 2
    omega
  have nd : ((List.range (ns.length + many)).map nthS).Nodup := by
    have q := nth_nodup
    rw [er] at q
    exact (List.nodup_append.mp q).1
  have c1 : (((List.range (ns.length + many)).map nthS).filter fun s => decide (s ∈ ns)).length ≤ ns.length :=
    nodup_le _ _ (nd.sublist List.filter_sublist) fun x hx => of_decide_eq_true (List.mem_filter.mp hx).2
  have c2 := two_filters (fun s => decide (s ∈ ns)) ((List.range (ns.length + many)).map nthS)
  rw [List.length_map, List.length_range] at c2
  unfold newS
  rw [er, List.filter_append, List.take_append_of_le_length (by omega)]
theorem strs_of {P : Str → Prop} : ∀ ys : List V, (∀ y ∈ ys, ∃ z, y = .str z ∧ P z) → ∃ ns : List Str, ys = ns.map V.str ∧ ∀ z ∈ ns, P z := by
  intro ys
  induction ys with
  | nil => intro _; exact ⟨[], rfl, fun _ h => by cases h⟩
  | cons y r ih =>
    intro h
    obtain ⟨z, rfl, hz⟩ := h y (List.mem_cons_self ..)
    obtain ⟨ns, rfl, hn⟩ := ih fun q hq => h q (List.mem_cons_of_mem _ hq)
    exact ⟨z :: ns, rfl, fun q hq => by
      rcases List.mem_cons.mp hq with rfl | hq
      · exact hz
      · exact hn q hq⟩
end My
namespace My
open PySem PySem.Spec PyProof.Rows L2
local macro_rules | `(tactic| walk_at "side") => `(tactic| first | assumption | decide | exact Or.inl ⟨by decide, by decide⟩ | exact Or.inr ⟨by decide, by decide⟩ | exact ⟨by decide, by decide, by decide⟩ | omega | (unfold CMulW; decide +kernel) | (dsimp only; first | assumption | omega | decide +kernel) | exact len_ok (Nat.le_of_ble_eq_true rfl) | fail "side")
local macro_rules | `(tactic| walk_at "rd") => `(tactic| first
  | refine ⟨_, _, _, _, rfl, rfl, SqL.of upd_same, atI_nat (j := 0) rfl, ?_⟩ | refine ⟨_, _, _, _, rfl, rfl, SqL.of upd_same, atI_nat (j := 1) rfl, ?_⟩ | refine ⟨_, _, _, _, rfl, rfl, SqL.of upd_same, atI_nat (j := 2) rfl, ?_⟩
  | refine ⟨_, _, _, _, rfl, rfl, upd_same, rfl, ?_⟩
  | refine ⟨_, _, rfl, rfl, ?_⟩ | refine ⟨_, rfl, ?_⟩ | refine ⟨_, _, rfl, ?_⟩ | refine Or.inl ⟨_, rfl, ?_⟩ | refine Or.inr ⟨_, rfl, ?_⟩ | refine ⟨(by walk_at "side"), ?_⟩ | fail "rd")

abbrev s_ljudged : Stmt := top 30
theorem sc_ljudged : FnScope ["_law_dice_here", "_law_number", "_law_word", "_law_is_short", "_law_told", "_law_words", "_law_turn", "_law_one", "_law_odd"] ["_law_dice_here"] (defScope s_ljudged) := ⟨rfl, rfl, rfl, by decide +kernel, rfl, by decide +kernel, by decide +kernel⟩
def spLTrue : Sp := fun vs H Q _ => ∃ a : Addr, vs = [.ref a] ∧ H a = some (DiceO a) ∧ ∀ H', Ext H H' → Q (.bl true) H'
/-- no integer, no name, no names -/
structure OddW (K : PySem.W.Frag) (H : Hp) (v : V) : Prop where
  o : OddK K H v
  n : (∃ s, v = .str s ∧ s.length ≤ 100000 ∧ isNm s = false) ∨ NotK K H v "str"
  t : NotK K H v "tuple" ∨ ∃ (a : Addr) (xs : List V) (f : V → Bool), v = .ref a ∧ H a = some (.tup xs) ∧ xs.length ≤ 1000 ∧ (∀ x ∈ xs, Judged K H x (f x)) ∧ xs.all f = false
theorem kB {K : PySem.W.Frag} {a b : String} {r : Bool} (h : kitB a b = some r) : PySem.W.kitOne K (.type a) (.type b) = some r := kit_ty h
section
variable {K : PySem.W.Frag} {H : Hp} {a : Addr} {xs : List V} {s : Str}
theorem ow_non : OddW K H .non := ⟨⟨fun _ => nofun, .inr ⟨_, .base .non, kB (by decide +kernel)⟩⟩, .inr ⟨_, .base .non, kB (by decide +kernel)⟩, .inl ⟨_, .base .non, kB (by decide +kernel)⟩⟩
theorem ow_bl (b : Bool) : OddW K H (.bl b) := ⟨⟨fun _ => nofun, .inl ⟨b, rfl⟩⟩, .inr ⟨_, .base (.bl b), kB (by decide +kernel)⟩, .inl ⟨_, .base (.bl b), kB (by decide +kernel)⟩⟩
theorem ow_lst (h : H a = some (.lst xs)) : OddW K H (.ref a) := ⟨⟨fun _ => nofun, .inr ⟨_, .base (.lst h), kB (by decide +kernel)⟩⟩, .inr ⟨_, .base (.lst h), kB (by decide +kernel)⟩, .inl ⟨_, .base (.lst h), kB (by decide +kernel)⟩⟩
theorem ow_dK {kvs : List (L2.Key × V)} (h : H a = some (.dK kvs)) : OddW K H (.ref a) := ⟨⟨fun _ => nofun, .inr ⟨_, .base (.dK h), kB (by decide +kernel)⟩⟩, .inr ⟨_, .base (.dK h), kB (by decide +kernel)⟩, .inl ⟨_, .base (.dK h), kB (by decide +kernel)⟩⟩
theorem ow_str (h : s.length ≤ 100000) (g : isNm s = false) : OddW K H (.str s) := ⟨⟨fun _ => nofun, .inr ⟨_, .base (.str s), kB (by decide +kernel)⟩⟩, .inl ⟨s, rfl, h, g⟩, .inl ⟨_, .base (.str s), kB (by decide +kernel)⟩⟩
theorem ow_tup (h : H a = some (.tup xs)) (hl : xs.length ≤ 1000) (f : V → Bool) (hj : ∀ x ∈ xs, Judged K H x (f x)) (hf : xs.all f = false) : OddW K H (.ref a) :=
  ⟨⟨fun _ => nofun, .inr ⟨_, .base (.tup h), kB (by decide +kernel)⟩⟩, .inr ⟨_, .base (.tup h), kB (by decide +kernel)⟩, .inr ⟨a, xs, f, rfl, h, hl, hj, hf⟩⟩
/-- how the items of these tuples are judged -/
def jf : V → Bool
  | .str s => isNm s
  | _ => false
theorem j_str (h : s.length ≤ 100000) : Judged K H (.str s) (jf (.str s)) := .inl ⟨s, rfl, h, rfl⟩
theorem j_non : Judged K H .non (jf .non) := .inr ⟨⟨_, .base .non, kB (by decide +kernel)⟩, rfl⟩
theorem j_int {i : Int} : Judged K H (.int i) (jf (.int i)) := .inr ⟨⟨_, .base (.int i), kB (by decide +kernel)⟩, rfl⟩
theorem j_bl {b : Bool} : Judged K H (.bl b) (jf (.bl b)) := .inr ⟨⟨_, .base (.bl b), kB (by decide +kernel)⟩, rfl⟩
theorem OddW.ext {H' : Hp} {v : V} (h : OddW K H v) (e : Ext H H') : OddW K H' v :=
  ⟨h.o.ext e, h.n.elim .inl fun q => .inr (q.ext e), h.t.elim (fun q => .inl (q.ext e)) fun ⟨a, xs, f, e1, ha, hl, hj, hf⟩ => .inr ⟨a, xs, f, e1, e _ _ ha, hl, fun x hx => (hj x hx).elim .inl fun q => .inr ⟨q.1.ext e, q.2⟩, hf⟩⟩
end
theorem dec60 {n : Int} (h0 : 0 ≤ n) : decide (((Str.ofString (toString n)).length : Int) ≤ 60) = decide (n < (10 : Int) ^ (60 : Int).toNat) := by
  obtain ⟨m, rfl⟩ := Int.eq_ofNat_of_zero_le h0
  rw [PySem.ofString_length]
  have e : (toString (m : Int)).length = (Nat.repr m).length := rfl
  rw [e]
  have q := Nat.length_repr_le_iff (n := m) (k := 60) (by decide)
  have c : ((10 : Int) ^ (60 : Int).toNat) = ((10 ^ 60 : Nat) : Int) := by decide +kernel
  rw [c]
  refine decide_eq_decide.mpr ⟨fun z => ?_, fun z => ?_⟩
  · have := q.mp (by omega)
    omega
  · have := q.mpr (by omega)
    omega
theorem ne_same {A B : Prop} {v : V} (h : B) : if (!decide (v = v)) = true then A else B := by
  rw [decide_eq_true rfl]
  exact iteF h
theorem bl3_show {a b c : Bool} : (PyData.list [.bool a, .bool b, .bool c]).showable = true ∧ (PyData.list [.bool a, .bool b, .bool c]).hasDict = false ∧ (PyData.list [.bool a, .bool b, .bool c]).depth < 20 ∧ (PyData.list [.bool a, .bool b, .bool c]).shown.length ≤ sizeLine := by
  cases a <;> cases b <;> cases c <;> exact ⟨by decide +kernel, by decide +kernel, by decide +kernel, by decide +kernel⟩
section
variable {P : Program} {w : World} {K : PySem.W.Frag} {mg : Str → Option Value} {base : Heap}
theorem nm_use {H : Hp} {v : V} {R : VK} {E : XK} (h : (∃ s, v = .str s ∧ s.length ≤ 100000 ∧ isNm s = false) ∨ NotK K H v "str") (k : ∀ H', Ext H H' → R (.bl false) H') : spNm K [v] H R E := by
  rcases h with ⟨s, e, l, n⟩ | n
  · exact ⟨v, rfl, .inl ⟨s, e, l, by rw [n]; exact k⟩⟩
  · exact ⟨v, rfl, .inr ⟨n, k⟩⟩
theorem nms_use {H : Hp} {v : V} {R : VK} {E : XK} (h : NotK K H v "tuple" ∨ ∃ (a : Addr) (xs : List V) (f : V → Bool), v = .ref a ∧ H a = some (.tup xs) ∧ xs.length ≤ 1000 ∧ (∀ x ∈ xs, Judged K H x (f x)) ∧ xs.all f = false) (k : ∀ H', Ext H H' → R (.bl false) H') : spNms K [v] H R E := by
  rcases h with n | ⟨a, xs, f, rfl, ha, hl, hj, hf⟩
  · exact ⟨v, rfl, .inl ⟨n, k H (ext_refl H)⟩⟩
  · exact ⟨_, rfl, .inr ⟨a, xs, f, rfl, SqT.of ha, .base (.tup ha), hl, hj, by rw [hf]; exact k⟩⟩
theorem andV_use {i : Nat} {b c : Bool} {σ : L2.St} {H : Hp} {Q : VK} {te : TE} (h0 : σ[i]? = some (some (.bl b))) (h : ∀ Q' : VK, Q' (.bl c) H → te σ H Q') (k : Q (.bl (b && c)) H) : tAndV (tVar i) te σ H Q := by
  refine ⟨_, h0, b, rfl, ?_⟩
  cases b
  · exact iteF k
  · exact iteT (h _ k)
theorem ok_ljudged (T : Bn mg) (D : DefAt K mg "_law_judged" s_ljudged) (F__law_roll : FnAt P w K mg base 1 "_law_roll" ["_law_dice_here", "_law_total"] spRoll) (F__law_pick : FnAt P w K mg base 2 "_law_pick" ["_law_dice_here", "_law_items"] (spPick K))
    (F__law_any_integer : FnAt P w K mg base 3 "_law_any_integer" ["_law_dice_here"] spLInt) (F__law_any_word : FnAt P w K mg base 2 "_law_any_word" ["_law_dice_here"] spLWord) (F__law_lettered : FnAt P w K mg base 1 "_law_lettered" ["_law_value"] spLLet)
    (F_is_integer : FnAt P w K mg base 2 "is_integer" ["value"] (spI60 K)) (F_is_count : FnAt P w K mg base 3 "is_count" ["value"] (spCnt K)) (F_is_name : FnAt P w K mg base 1 "is_name" ["value"] (spNm K)) (F_are_names : FnAt P w K mg base 2 "are_names" ["value"] (spNms K)) :
    FgAt P w K mg base 4 "_law_judged" ["_law_dice_here"] spLTrue := by
  refine fgAt D sc_ljudged (fun _ _ _ _ _ _ us hl => match us, hl with | [_], _ => rfl) (fun vs H Q E h => ?_) fun f cdv A outer s H vs Q E gd hr h => ?_
  · obtain ⟨a, rfl, _⟩ := h
    rfl
  obtain ⟨a, rfl, ha, k⟩ := h
  refine ⟨_, (pss_cons (ps_par (i := 1) (j := 2) rfl sc_ljudged.nd rfl rfl (by decide) rfl rfl (pa_cons (callA F__law_any_integer (hr.mono (by decide)) rfl (pa_cons (pv 0) pa_nil)) (pa_cons (callA F__law_any_word (hr.mono (by decide)) rfl (pa_cons (pv 0) pa_nil)) pa_nil)) (by rfl))
    (pss_cons (ps_set (i := 3) sc_ljudged.nd rfl (Or.inl rfl) (pe_cmpR op_le (pe_callB call_len_str (by rfl) T.b_len (by decide +kernel) (pa_cons (pe_callTy call_str_int (by rfl) T.b_str (by decide +kernel) (pa_cons (pe_callB call_abs (by rfl) T.b_abs (by decide +kernel) (pa_cons (pv 1) pa_nil)) pa_nil)) pa_nil)) pe_int (nomark _)))
    (pss_cons (ps_set (i := 4) sc_ljudged.nd rfl (Or.inl rfl) (pe_lst (pa_cons (callA F_is_integer (hr.mono (by decide)) rfl (pa_cons (pv 1) pa_nil)) (pa_cons (callA F_is_count (hr.mono (by decide)) rfl (pa_cons (pv 1) pa_nil)) (pa_cons (callA F_is_name (hr.mono (by decide)) rfl (pa_cons (pv 2) pa_nil)) pa_nil)))))
    (pss_cons (ps_if (pt_cmpR op_ne (pe_callB (cr_repr hr gd) (by rfl) T.b_repr (by decide +kernel) (pa_cons (pv 4) pa_nil)) (pe_callB (cr_repr hr gd) (by rfl) T.b_repr (by decide +kernel) (pa_cons (pe_lst (pa_cons (pv 3) (pa_cons (pe_and (pv 3) (pe_one (pe_cmpR op_ge (pv 1) pe_int (nomark _)))) (pa_cons (callA F__law_lettered (hr.mono (by decide)) rfl (pa_cons (pv 2) pa_nil)) pa_nil)))) pa_nil)) (nomark _)) (pss_one (ps_ret pe_bl)) pss_nil)
    (pss_cons (ps_set (i := 5) sc_ljudged.nd rfl (Or.inl rfl) (pe_callTy call_tuple_of (by rfl) T.b_tuple (by decide +kernel) (pa_cons (pe_lc (own := [("_law_turn", 6)]) (g := gName 6) (tt := tYes) rfl sc_ljudged.nd (pi_range1 (by rfl) T.b_range (pa_cons (callA F__law_roll (hr.mono (by decide)) rfl (pa_cons (pv 0) (pa_cons pe_int pa_nil))) pa_nil)) (blkOk_by (N := ["_law_dice_here", "_law_number", "_law_word", "_law_is_short", "_law_told", "_law_words", "_law_turn", "_law_one", "_law_odd"]) (sc := defScope s_ljudged) (by decide +kernel)) (fun _ _ _ _ _ => pg_name (i := 6) sc_ljudged.nd rfl (Or.inl rfl)) (fun _ _ _ _ _ => pts_nil) (fun _ _ _ _ _ => (callA F__law_any_word (hr.mono (by decide)) rfl (pa_cons (pv 0) pa_nil)))) pa_nil)))
    (pss_cons (ps_if (pt_cmpR op_ne (pe_callB cr_reprB (by rfl) T.b_repr (by decide +kernel) (pa_cons (callA F_are_names (hr.mono (by decide)) rfl (pa_cons (pv 5) pa_nil)) pa_nil)) (pe_callB cr_reprB (by rfl) T.b_repr (by decide +kernel) (pa_cons (pe_cmpR (op_eqD (hu64 hr)) (pe_lc (own := [("_law_one", 7)]) (g := gName 7) (tt := _) rfl sc_ljudged.nd (pi_tup (pv 5)) (blkOk_by (N := ["_law_dice_here", "_law_number", "_law_word", "_law_is_short", "_law_told", "_law_words", "_law_turn", "_law_one", "_law_odd"]) (sc := defScope s_ljudged) (by decide +kernel)) (fun _ _ _ _ _ => pg_name (i := 7) sc_ljudged.nd rfl (Or.inl rfl)) (fun _ _ _ _ _ => pts_one (pt_not (pt_val (callA F__law_lettered (hr.mono (by decide)) rfl (pa_cons (pv 7) pa_nil))))) (fun _ _ _ _ _ => (pv 7))) (pe_lst pa_nil) (nomark _)) pa_nil)) (nomark _)) (pss_one (ps_ret pe_bl)) pss_nil)
    (pss_cons (ps_set (i := 8) sc_ljudged.nd rfl (Or.inl rfl) (callA F__law_pick (hr.mono (by decide)) rfl (pa_cons (pv 0) (pa_cons (pe_lst (pa_cons pe_non (pa_cons pe_bl (pa_cons pe_bl (pa_cons (pe_lst (pa_cons pe_int pa_nil)) (pa_cons (pe_lst pa_nil) (pa_cons pe_dnewK (pa_cons (pe_tup (pa_cons pe_non pa_nil)) (pa_cons (pe_tup (pa_cons pe_str pa_nil)) (pa_cons (pe_tup (pa_cons pe_str (pa_cons pe_int pa_nil))) (pa_cons (pe_lst (pa_cons pe_str pa_nil)) (pa_cons pe_str (pa_cons pe_str (pa_cons (pe_tup (pa_cons pe_int (pa_cons pe_str pa_nil))) (pa_cons (pe_tup (pa_cons pe_bl pa_nil)) pa_nil))))))))))))))) pa_nil))))
    (pss_one (ps_ret (pe_cmpR (op_eqD (hu64 hr)) (pe_lst (pa_cons (callA F_is_integer (hr.mono (by decide)) rfl (pa_cons (pv 8) pa_nil)) (pa_cons (callA F_is_count (hr.mono (by decide)) rfl (pa_cons (pv 8) pa_nil)) (pa_cons (callA F_is_name (hr.mono (by decide)) rfl (pa_cons (pv 8) pa_nil)) (pa_cons (callA F_are_names (hr.mono (by decide)) rfl (pa_cons (pv 8) pa_nil)) pa_nil))))) (pe_op op_rep (pe_lst (pa_cons pe_bl pa_nil)) pe_int) (nomark _))))))))))), ?_⟩
  refine ⟨_, rfl, a, rfl, ha, fun n H1 hn e1 => ⟨_, rfl, a, rfl, e1 _ _ ha, fun z H2 hz asc e2 => ?_⟩⟩
  have hz5 : z.length ≤ 100000 := Nat.le_trans hz (by decide)
  refine ⟨_, _, rfl, ?_⟩
  have hA : Sz 300 (if n < 0 then -n else n) := by split; exact hn.neg; exact hn
  have hA0 : 0 ≤ (if n < 0 then -n else n) := by split <;> omega
  have hlog : (if n < 0 then -n else n).natAbs.log2 < 1920 := Nat.lt_of_lt_of_le (hA.log (by decide)) (by decide)
  refine ⟨_, rfl, _, rfl, _, rfl, hlog, _, rfl, Nat.le_trans (int_text_len_1921 hlog) (by decide), _, _, rfl, rfl, ?_⟩
  dsimp only
  rw [dec60 hA0]
  have eI : decide ((if n < 0 then -n else n) < (10 : Int) ^ (60 : Int).toNat) = isI60 n := rfl
  rw [eI]
  refine ⟨_, rfl, _, rfl, .inl ⟨n, rfl, _, rfl, _, rfl, .inl ⟨n, rfl, _, rfl, _, rfl, .inl ⟨z, rfl, hz5, fun H3 e3 => ⟨len_ok (Nat.le_of_ble_eq_true rfl), fun L hL => ?_⟩⟩⟩⟩⟩
  have x4 := ext_new (o := .lst [.bl (isI60 n), .bl (isI60 n && decide (n ≥ 0)), .bl (isNm z)]) (ext_refl _) hL
  have o4 : upd H3 L (.lst [.bl (isI60 n), .bl (isI60 n && decide (n ≥ 0)), .bl (isNm z)]) L = some (.lst [.bl (isI60 n), .bl (isI60 n && decide (n ≥ 0)), .bl (isNm z)]) := upd_same
  generalize upd H3 L (.lst [.bl (isI60 n), .bl (isI60 n && decide (n ≥ 0)), .bl (isNm z)]) = H4 at x4 o4 ⊢
  have e4 := ((e1.trans e2).trans e3).trans x4
  obtain ⟨s1, s2, s3, s4⟩ := bl3_show (a := isI60 n) (b := isI60 n && decide (n ≥ 0)) (c := isNm z)
  refine ⟨_, rfl, _, .list [.bool (isI60 n), .bool (isI60 n && decide (n ≥ 0)), .bool (isNm z)], rfl, ⟨_, rfl⟩, .lst (SqL.of o4) (.cons (.bl _) (.cons (.bl _) (.cons (.bl _) .nil))), s1, s2, s3, s4, _, rfl, ?_⟩
  refine andV_use (b := isI60 n) (c := decide (n ≥ 0)) rfl (fun Q' k' => ⟨_, rfl, _, _, rfl, rfl, k'⟩) ?_
  refine ⟨_, rfl, z, rfl, Nat.le_trans hz (by decide), asc, fun H5 e5 => ⟨len_ok (Nat.le_of_ble_eq_true rfl), fun L2 hL2 => ?_⟩⟩
  refine ⟨_, .list [.bool (isI60 n), .bool (isI60 n && decide (n ≥ 0)), .bool (isNm z)], rfl, ⟨_, rfl⟩, .lst (SqL.of upd_same) (.cons (.bl _) (.cons (.bl _) (.cons (.bl _) .nil))), s1, s2, s3, s4, rfl, _, rfl, ne_same ?_⟩
  have e6 := (e4.trans e5).trans (ext_new (o := .lst [.bl (isI60 n), .bl (isI60 n && decide (n ≥ 0)), .bl (isNm z)]) (ext_refl _) hL2)
  generalize upd H5 L2 (.lst [.bl (isI60 n), .bl (isI60 n && decide (n ≥ 0)), .bl (isNm z)]) = H6 at e6 ⊢
  refine ⟨_, rfl, a, 4, rfl, e6 _ _ ha, by decide, by unfold Sz; decide, fun r r0 r1 => ⟨r, rfl, by omega, by omega, fun D hD => made_range (n := r.toNat) (fun acc _ => ∃ zs : List Str, acc = zs.map V.str ∧ ∀ z ∈ zs, z.length ≤ 10 ∧ Asc z) (fun _ _ _ p _ _ => p) hD (by omega) (fun _ => rfl) (fun _ => ⟨[], rfl, fun _ h => by cases h⟩) (fun i H' acc hi e hl ⟨zs, ea, hc⟩ Q' k' => ?_) fun H7 acc e7 hD' hl ⟨zs, ea, hc⟩ => ?_⟩⟩
  · exact ⟨_, rfl, a, rfl, e _ _ (e6 _ _ ha), fun y H'' hy ay e'' => k' _ _ e'' ⟨zs ++ [y], by rw [ea, List.map_append]; rfl, fun q hq => by
      rcases List.mem_append.mp hq with hq | hq
      · exact hc q hq
      · rw [List.mem_singleton.mp hq]
        exact ⟨hy, ay⟩⟩⟩
  subst ea
  rw [List.length_map] at hl
  refine ⟨D, _, rfl, .inl ⟨SqL.of hD', fun t nt => ?_⟩⟩
  have x8 := ext_new (o := .tup (zs.map V.str)) (ext_refl _) nt
  have o8 : upd H7 t (.tup (zs.map V.str)) t = some (.tup (zs.map V.str)) := upd_same
  generalize upd H7 t (.tup (zs.map V.str)) = H8 at x8 o8 ⊢
  have e8 := (e6.trans e7).trans x8
  refine ⟨_, rfl, _, rfl, .inr ⟨t, zs.map V.str, jf, rfl, SqT.of o8, .base (.tup o8), by rw [List.length_map]; omega, fun x hx => ?_, fun H9 e9 => ?_⟩⟩
  · obtain ⟨y, hy, rfl⟩ := List.mem_map.mp hx
    exact j_str (Nat.le_trans (hc y hy).1 (by decide))
  have o9 := e9 _ _ o8
  refine ⟨_, rfl, _, rfl, t, rfl, ⟨_, SqT.of o9⟩, fun D2 hD2 => filt_tup (xs := zs.map V.str) (fun x => !jf x) (SqT.of o9) hD2 (by rw [List.length_map]; omega) (fun _ => rfl) (fun i x H' hi e Q' k' => ?_) (fun _ _ _ k' => ⟨_, rfl, k'⟩) fun H10 e10 hD3 => ?_⟩
  · obtain ⟨y, hy, rfl⟩ := List.mem_map.mp (List.mem_of_getElem? hi)
    exact ⟨_, rfl, y, rfl, Nat.le_trans (hc y hy).1 (by decide), (hc y hy).2, fun H'' e'' => ⟨_, rfl, k' H'' e''⟩⟩
  have ef : (zs.map V.str).filter (fun x => !jf x) = (zs.filter fun y => !isNm y).map V.str := by
    rw [List.filter_map]
    rfl
  rw [ef] at hD3
  refine ⟨len_ok (Nat.le_of_ble_eq_true rfl), fun p hp => ?_⟩
  have e11 := ((e8.trans e9).trans e10).trans (ext_new (o := .lst []) (ext_refl _) hp)
  have od := ext_new (o := .lst []) (ext_refl _) hp _ _ hD3
  have op : upd H10 p (.lst []) p = some (.lst []) := upd_same
  generalize upd H10 p (.lst []) = G0 at e11 od op ⊢
  refine ⟨_, _, .lst (SqL.of od) (dp_strs _), .lst (SqL.of op) .nil, shaped_strs fun q hq => Asc.ok (hc q (List.mem_filter.mp hq).1).2, rfl, ?_⟩
  have eqb : PyData.eqv (.list ((zs.filter fun y => !isNm y).map PyData.str)) (.list []) = (zs.map V.str).all jf := by
    have q := eqv_strs (zs.filter fun y => !isNm y) []
    rw [List.map_nil] at q
    rw [PyData.eqv, q, List.all_map, Bool.eq_iff_iff, decide_eq_true_iff, List.filter_eq_nil_iff, List.all_eq_true]
    refine ⟨fun h x hx => ?_, fun h x hx => ?_⟩
    · have := h x hx
      show isNm x = true
      simpa using this
    · have q : isNm x = true := h x hx
      simp [q]
  rw [eqb]
  refine ⟨_, rfl, rfl, _, rfl, ne_same ?_⟩
  refine ⟨_, rfl, ?_⟩
  refine ⟨len_ok (Nat.le_of_ble_eq_true rfl), fun q1 n1 => ?_⟩
  have x1 := ext_new (o := .lst [.int 0]) (ext_refl _) n1
  have o1 : upd G0 q1 (.lst [.int 0]) q1 = some (.lst [.int 0]) := upd_same
  generalize upd G0 q1 (.lst [.int 0]) = Y1 at x1 o1 ⊢
  refine ⟨len_ok (Nat.le_of_ble_eq_true rfl), fun q2 n2 => ?_⟩
  have x2 := ext_new (o := .lst []) (ext_refl _) n2
  have o2 : upd Y1 q2 (.lst []) q2 = some (.lst []) := upd_same
  generalize upd Y1 q2 (.lst []) = Y2 at x2 o2 ⊢
  refine fun q3 n3 => ?_
  have x3 := ext_new (o := .dK []) (ext_refl _) n3
  have o3 : upd Y2 q3 (.dK []) q3 = some (.dK []) := upd_same
  generalize upd Y2 q3 (.dK []) = Y3 at x3 o3 ⊢
  refine ⟨len_ok (Nat.le_of_ble_eq_true rfl), fun q4 n4 => ?_⟩
  have x4 := ext_new (o := .tup [.non]) (ext_refl _) n4
  have o4 : upd Y3 q4 (.tup [.non]) q4 = some (.tup [.non]) := upd_same
  generalize upd Y3 q4 (.tup [.non]) = Y4 at x4 o4 ⊢
  refine ⟨len_ok (Nat.le_of_ble_eq_true rfl), fun q5 n5 => ?_⟩
  have x5 := ext_new (o := .tup [.str ""]) (ext_refl _) n5
  have o5 : upd Y4 q5 (.tup [.str ""]) q5 = some (.tup [.str ""]) := upd_same
  generalize upd Y4 q5 (.tup [.str ""]) = Y5 at x5 o5 ⊢
  refine ⟨len_ok (Nat.le_of_ble_eq_true rfl), fun q6 n6 => ?_⟩
  have x6 := ext_new (o := .tup [.str "a", .int 1]) (ext_refl _) n6
  have o6 : upd Y5 q6 (.tup [.str "a", .int 1]) q6 = some (.tup [.str "a", .int 1]) := upd_same
  generalize upd Y5 q6 (.tup [.str "a", .int 1]) = Y6 at x6 o6 ⊢
  refine ⟨len_ok (Nat.le_of_ble_eq_true rfl), fun q7 n7 => ?_⟩
  have x7 := ext_new (o := .lst [.str "a"]) (ext_refl _) n7
  have o7 : upd Y6 q7 (.lst [.str "a"]) q7 = some (.lst [.str "a"]) := upd_same
  generalize upd Y6 q7 (.lst [.str "a"]) = Y7 at x7 o7 ⊢
  refine ⟨len_ok (Nat.le_of_ble_eq_true rfl), fun q8 n8 => ?_⟩
  have x8 := ext_new (o := .tup [.int 0, .str "1"]) (ext_refl _) n8
  have o8 : upd Y7 q8 (.tup [.int 0, .str "1"]) q8 = some (.tup [.int 0, .str "1"]) := upd_same
  generalize upd Y7 q8 (.tup [.int 0, .str "1"]) = Y8 at x8 o8 ⊢
  refine ⟨len_ok (Nat.le_of_ble_eq_true rfl), fun q9 n9 => ?_⟩
  have x9 := ext_new (o := .tup [.bl false]) (ext_refl _) n9
  have o9 : upd Y8 q9 (.tup [.bl false]) q9 = some (.tup [.bl false]) := upd_same
  generalize upd Y8 q9 (.tup [.bl false]) = Y9 at x9 o9 ⊢
  have z1 := (x9) _ _ ((x8) _ _ ((x7) _ _ ((x6) _ _ ((x5) _ _ ((x4) _ _ ((x3) _ _ ((x2) _ _ (o1))))))))
  have z2 := (x9) _ _ ((x8) _ _ ((x7) _ _ ((x6) _ _ ((x5) _ _ ((x4) _ _ ((x3) _ _ (o2)))))))
  have z3 := (x9) _ _ ((x8) _ _ ((x7) _ _ ((x6) _ _ ((x5) _ _ ((x4) _ _ (o3))))))
  have z4 := (x9) _ _ ((x8) _ _ ((x7) _ _ ((x6) _ _ ((x5) _ _ (o4)))))
  have z5 := (x9) _ _ ((x8) _ _ ((x7) _ _ ((x6) _ _ (o5))))
  have z6 := (x9) _ _ ((x8) _ _ ((x7) _ _ (o6)))
  have z7 := (x9) _ _ ((x8) _ _ (o7))
  have z8 := (x9) _ _ (o8)
  have z9 := o9
  have xx : Ext G0 Y9 := ((((((((x1).trans x2).trans x3).trans x4).trans x5).trans x6).trans x7).trans x8).trans x9
  refine ⟨len_ok (Nat.le_of_ble_eq_true rfl), fun pl npl => ?_⟩
  have xl := fun o => ext_new (o := o) (ext_refl _) npl
  refine ⟨a, pl, _, rfl, xl _ _ _ (xx _ _ (e11 _ _ ha)), SqL.of upd_same, by simp, Nat.le_of_ble_eq_true rfl, fun x hx => ?_⟩
  have ow : OddW K Y9 x := by
    simp only [List.mem_cons, List.not_mem_nil, or_false] at hx
    rcases hx with rfl | rfl | rfl | rfl | rfl | rfl | rfl | rfl | rfl | rfl | rfl | rfl | rfl | rfl
    · exact ow_non
    · exact ow_bl _
    · exact ow_bl _
    · exact ow_lst z1
    · exact ow_lst z2
    · exact ow_dK z3
    · exact ow_tup z4 (by decide) jf (fun x hx => by rw [List.mem_singleton.mp hx]; exact j_non) rfl
    · exact ow_tup z5 (by decide) jf (fun x hx => by rw [List.mem_singleton.mp hx]; exact j_str (by decide)) (by decide +kernel)
    · refine ow_tup z6 (by decide) jf (fun x hx => ?_) (by decide +kernel)
      simp only [List.mem_cons, List.not_mem_nil, or_false] at hx
      rcases hx with rfl | rfl
      · exact j_str (by decide)
      · exact j_int
    · exact ow_lst z7
    · exact ow_str (by decide) (by decide +kernel)
    · exact ow_str (by decide) (by decide +kernel)
    · refine ow_tup z8 (by decide) jf (fun x hx => ?_) (by decide +kernel)
      simp only [List.mem_cons, List.not_mem_nil, or_false] at hx
      rcases hx with rfl | rfl
      · exact j_int
      · exact j_str (by decide)
    · exact ow_tup z9 (by decide) jf (fun x hx => by rw [List.mem_singleton.mp hx]; exact j_bl) rfl
  have ow := ow.ext (xl (.lst [.non, .bl true, .bl false, .ref q1, .ref q2, .ref q3, .ref q4, .ref q5, .ref q6, .ref q7, .str "", .str "a b", .ref q8, .ref q9]))
  have eF := (e11.trans xx).trans (xl (.lst [.non, .bl true, .bl false, .ref q1, .ref q2, .ref q3, .ref q4, .ref q5, .ref q6, .ref q7, .str "", .str "a b", .ref q8, .ref q9]))
  generalize upd Y9 pl _ = F at ow eF ⊢
  refine ⟨_, rfl, x, rfl, .inr ⟨ow.o, _, rfl, x, rfl, .inr ⟨ow.o, _, rfl, ?_⟩⟩⟩
  dsimp only [tNil]
  refine nm_use (v := x) ow.n fun F1 f1 => ?_
  refine ⟨_, rfl, ?_⟩
  dsimp only [tNil]
  refine nms_use (v := x) (ow.ext f1).t fun F2 f2 => ?_
  refine ⟨len_ok (Nat.le_of_ble_eq_true rfl), fun p1 hp1 => ⟨len_ok (Nat.le_of_ble_eq_true rfl), fun p2 hp2 => ⟨p2, 4, _, rfl, rfl, upd_same, by decide, by decide, by decide, fun p3 hp3 => ?_⟩⟩⟩
  have g1 := ext_new (o := .lst [.bl false, .bl false, .bl false, .bl false]) (ext_refl F2) hp1
  have g2 := ext_new (o := .lst [.bl false]) (ext_refl _) hp2
  have g3 := fun o => ext_new (o := o) (ext_refl _) hp3
  refine ⟨.list [.bool false, .bool false, .bool false, .bool false], .list [.bool false, .bool false, .bool false, .bool false], .lst (SqL.of (g3 _ _ _ (g2 _ _ upd_same))) (.cons (.bl _) (.cons (.bl _) (.cons (.bl _) (.cons (.bl _) .nil)))), .lst (SqL.of upd_same) (.cons (.bl _) (.cons (.bl _) (.cons (.bl _) (.cons (.bl _) .nil)))), rfl, rfl, ?_⟩
  have ev : PyData.eqv (.list [.bool false, .bool false, .bool false, .bool false]) (.list [.bool false, .bool false, .bool false, .bool false]) = true := rfl
  rw [ev]
  exact k _ (((((eF.trans f1).trans f2).trans g1).trans g2).trans (g3 _))
end
end My
namespace My
open PySem PySem.Spec PyProof.Rows L2
open LamX (TabB Tabs TabS ExtN CodeO LamS)
open LowV (ErrV)
local macro_rules | `(tactic| walk_at "side") => `(tactic| first | assumption | decide | exact Or.inl ⟨by decide, by decide⟩ | exact Or.inr ⟨by decide, by decide⟩ | exact ⟨by decide, by decide, by decide⟩ | omega | (unfold CMulW; decide +kernel) | (dsimp only; first | assumption | omega | decide +kernel) | exact len_ok (Nat.le_of_ble_eq_true rfl) | fail "side")
local macro_rules | `(tactic| walk_at "rd") => `(tactic| first
  | refine ⟨_, _, _, _, rfl, rfl, SqL.of upd_same, atI_nat (j := 0) rfl, ?_⟩ | refine ⟨_, _, _, _, rfl, rfl, SqL.of upd_same, atI_nat (j := 1) rfl, ?_⟩ | refine ⟨_, _, _, _, rfl, rfl, SqL.of upd_same, atI_nat (j := 2) rfl, ?_⟩
  | refine ⟨_, _, _, _, rfl, rfl, upd_same, rfl, ?_⟩
  | refine ⟨_, _, rfl, rfl, ?_⟩ | refine ⟨_, rfl, ?_⟩ | refine ⟨_, _, rfl, ?_⟩ | refine Or.inl ⟨_, rfl, ?_⟩ | refine Or.inr ⟨_, rfl, ?_⟩ | refine ⟨(by walk_at "side"), ?_⟩ | fail "rd")

abbrev s_lerr : Stmt := top 26
theorem sc_lerr : FnScope ["_law_call", "e"] ["_law_call"] (defScope s_lerr) := ⟨rfl, rfl, rfl, by decide +kernel, rfl, by decide +kernel, by decide +kernel⟩
/-! ### defs whose code object is told -/
structure DefC (K : PySem.W.Frag) (mg : Str → Option Value) (x : Str) (st : Stmt) (c : Addr) : Prop where
  ex : ∃ (f : Addr) (fd : FuncData), mg x = some (.ref f) ∧ Fun K x x st f fd ∧ fd.code = .ref c
section
variable {P : Program} {w : World} {K : PySem.W.Frag} {mg : Str → Option Value} {base : Heap}
theorem fnC {x : Str} {st : Stmt} {N ps : List Str} {k : Nat} {sp : Sp} {c : Addr} (D : DefC K mg x st c) (S : FnScope N ps (defScope st))
    (hbind : ∀ (kV doc pm : Value) (an : Option Addr) (cdv ct : Value) (us : List Value), us.length = ps.length → bindArgs (PySem.W.fnOf x x (defArgs st) (defBody st) (defScope st) .none kV doc pm an cdv ct) ⟨us, []⟩ = pure (ps.zip us))
    (len : ∀ vs H Q E, sp vs H Q E → vs.length = ps.length)
    (hbody : ∀ (f : Addr) (A : Around) (outer : List Env) (s : Shared) (H : Hp) (vs : List V) (Q : VK) (E : XK), Room k (A.deeper (envOfC x (defScope st) s.heap.objs.size f (.ref c))) → sp vs H Q E →
      ∃ t, PSs (cxOf CX0 P w K mg base N x (defScope st) f (.ref c) A outer s H E).nox (defBody st) t ∧ t { nx := fun _ H' => Q .non H', rt := Q } (start N vs) H) : FnAt P w K mg base (k + 1) x ps sp := by
  obtain ⟨f, fd, hm, F, hc⟩ := D.ex
  have kp := F.kp
  have hb := F.binds hbind
  refine ⟨f, fd, hm, kp, hb, ?_⟩
  obtain ⟨oc, od, kV, doc, pm, an, cdv, ct, osl, e1, lk, hcd⟩ := F.ex
  subst e1
  have ec : cdv = .ref c := hc
  subst ec
  refine ⟨len, fun A outer s H args us vs Q E hr e0 hb r hsp => LamX.run_ofS lk hcd S hr e0 hb r (len _ _ _ _ hsp) fun hr' => ?_⟩
  obtain ⟨t, h, q⟩ := hbody f A outer s H vs Q E hr' hsp
  exact ⟨t, h.nox, q⟩
end
section
variable {P : Program} {w : World} {K : PySem.W.Frag} {mg : Str → Option Value} {base : Heap}
/-- the same where no repr is under way -/
theorem fgC {x : Str} {st : Stmt} {N ps : List Str} {k : Nat} {sp : Sp} {c : Addr} (D : DefC K mg x st c) (S : FnScope N ps (defScope st))
    (hbind : ∀ (kV doc pm : Value) (an : Option Addr) (cdv ct : Value) (us : List Value), us.length = ps.length → bindArgs (PySem.W.fnOf x x (defArgs st) (defBody st) (defScope st) .none kV doc pm an cdv ct) ⟨us, []⟩ = pure (ps.zip us))
    (len : ∀ vs H Q E, sp vs H Q E → vs.length = ps.length)
    (hbody : ∀ (f : Addr) (A : Around) (outer : List Env) (s : Shared) (H : Hp) (vs : List V) (Q : VK) (E : XK), (A.deeper (envOfC x (defScope st) s.heap.objs.size f (.ref c))).guards = some [] → Room k (A.deeper (envOfC x (defScope st) s.heap.objs.size f (.ref c))) → sp vs H Q E →
      ∃ t, PSs (cxOf CX0 P w K mg base N x (defScope st) f (.ref c) A outer s H E).nox (defBody st) t ∧ t { nx := fun _ H' => Q .non H', rt := Q } (start N vs) H) : FgAt P w K mg base (k + 1) x ps sp := by
  obtain ⟨f, fd, hm, F, hc⟩ := D.ex
  have kp := F.kp
  have hb := F.binds hbind
  refine ⟨f, fd, hm, kp, hb, ?_⟩
  obtain ⟨oc, od, kV, doc, pm, an, cdv, ct, osl, e1, lk, hcd⟩ := F.ex
  subst e1
  have ec : cdv = .ref c := hc
  subst ec
  refine ⟨len, fun A outer s H args us vs Q E g hr e0 hb r hsp => LamX.run_ofS lk hcd S hr e0 hb r (len _ _ _ _ hsp) fun hr' => ?_⟩
  obtain ⟨t, h, q⟩ := hbody f A outer s H vs Q E g hr' hsp
  exact ⟨t, h.nox, q⟩
end
/-- the lambda's name in the def x -/
def lamQ (x : Str) : Str := x ++ ".<locals>." ++ "<lambda>"
/-- what stays and what is known behind calls of lambdas -/
structure Aft (T : List (Addr × Str)) (H H' : Hp) : Prop where
  e : ExtN H H'
  t : Tabs T H'
theorem Aft.trans {T : List (Addr × Str)} {H H1 H2 : Hp} (a : Aft T H H1) (b : Aft T H1 H2) : Aft T H H2 := ⟨a.e.trans b.e, b.t⟩
theorem Aft.ext {T : List (Addr × Str)} {H H1 H2 : Hp} (a : Aft T H H1) (b : Ext H1 H2) : Aft T H H2 := ⟨a.e.trans (ExtN.of b), a.t.ext b⟩
theorem Aft.refl {T : List (Addr × Str)} {H : Hp} (t : Tabs T H) : Aft T H H := ⟨ExtN.refl H, t⟩
theorem Aft.ins {T : List (Addr × Str)} {H H' : Hp} (h : Aft T H H') {a C dx : Addr} {fs : List (Str × V)} (e : H a = some (.ins C dx fs)) : H' a = some (.ins C dx fs) := h.e _ _ e fun _ z => by cases z
theorem Aft.tup {T : List (Addr × Str)} {H H' : Hp} (h : Aft T H H') {a : Addr} {xs : List V} (e : H a = some (.tup xs)) : H' a = some (.tup xs) := h.e _ _ e fun _ z => by cases z
theorem Aft.lst {T : List (Addr × Str)} {H H' : Hp} (h : Aft T H H') {a : Addr} {xs : List V} (e : H a = some (.lst xs)) : H' a = some (.lst xs) := h.e _ _ e fun _ z => by cases z
theorem Aft.dice {T : List (Addr × Str)} {H H' : Hp} (h : Aft T H H') {a : Addr} (e : H a = some (DiceO a)) : H' a = some (DiceO a) := h.e _ _ e fun _ z => by unfold DiceO at z; cases z
theorem tyOf_aft {T : List (Addr × Str)} {K : PySem.W.Frag} {H H' : Hp} {v : V} {t : Value} (h : TyOf K H v t) (e : Aft T H H') : TyOf K H' v t := by
  have st : ∀ b o, H b = some o → (∀ ps, o ≠ .tbl ps) → H' b = some o := e.e
  cases h with
  | non => exact .non
  | bl x => exact .bl x
  | int i => exact .int i
  | str x => exact .str x
  | flt x => exact .flt x
  | lst q => exact .lst (st _ _ q fun _ z => by cases z)
  | frz q => exact .frz (st _ _ q fun _ z => by cases z)
  | tup q => exact .tup (st _ _ q fun _ z => by cases z)
  | dK q => exact .dK (st _ _ q fun _ z => by cases z)
  | dT q => exact .dT (st _ _ q fun _ z => by cases z)
  | ins q cl ha hn htk hm => exact .ins (st _ _ q fun _ z => by cases z) cl ha hn htk hm
theorem tyX_aft {T : List (Addr × Str)} {K : PySem.W.Frag} {H H' : Hp} {v : V} {t : Value} (h : TyX K H v t) (e : Aft T H H') : TyX K H' v t := by
  have st : ∀ b o, H b = some o → (∀ ps, o ≠ .tbl ps) → H' b = some o := e.e
  cases h with
  | base h => exact .base (tyOf_aft h e)
  | byt b => exact .byt b
  | set q => exact .set (st _ _ q fun _ z => by cases z)
  | kList q c => exact .kList q c
  | kTuple q c => exact .kTuple q c
  | kDict q c => exact .kDict q c
  | fTuple q => exact .fTuple (st _ _ q fun _ z => by cases z)
  | fDict q => exact .fDict (st _ _ q fun _ z => by cases z)
theorem OddK.aft {T : List (Addr × Str)} {K : PySem.W.Frag} {H H' : Hp} {v : V} (h : OddK K H v) (e : Aft T H H') : OddK K H' v := ⟨h.ni, h.ty.elim .inl fun ⟨t, a, b⟩ => .inr ⟨t, tyX_aft a e, b⟩⟩
theorem sqL_aft {TL : List (Addr × Str)} {K : PySem.W.Frag} {H H' : Hp} {a : Addr} {xs : List V} (h : SqL K H a xs) (e : Aft TL H H') : SqL K H' a xs := by
  rcases h with (h | ⟨o, h⟩) | h
  · exact .inl (.inl (e.lst h))
  · exact .inl (.inr ⟨o, e.e _ _ h fun _ z => by cases z⟩)
  · exact .inr h
theorem sqT_aft {TL : List (Addr × Str)} {K : PySem.W.Frag} {H H' : Hp} {a : Addr} {xs : List V} (h : SqT K H a xs) (e : Aft TL H H') : SqT K H' a xs := by
  rcases h with (h | ⟨o, h⟩) | h
  · exact .inl (.inl (e.tup h))
  · exact .inl (.inr ⟨o, e.e _ _ h fun _ z => by cases z⟩)
  · exact .inr h
theorem RpK.ext {K : PySem.W.Frag} {H H' : Hp} {v : V} {t : Str} (h : RpK K H v t) (e : Ext H H') : RpK K H' v t := by
  cases h with
  | non => exact .non
  | bl b => exact .bl b
  | int h => exact .int h
  | str h => exact .str h
  | lst hs hd h1 h2 h3 h4 => exact .lst (hs.ext e) hd h1 h2 h3 h4
  | tup hs hd h1 h2 h3 h4 => exact .tup (hs.ext e) hd h1 h2 h3 h4
  | emp h => exact .emp (e _ _ h)
theorem RpK.aft {TL : List (Addr × Str)} {K : PySem.W.Frag} {H H' : Hp} {v : V} {t : Str} (h : RpK K H v t) (e : Aft TL H H') : RpK K H' v t := by
  have st : ∀ b o, H b = some o → (∀ ps, o ≠ .tbl ps) → H' b = some o := e.e
  cases h with
  | non => exact .non
  | bl b => exact .bl b
  | int h => exact .int h
  | str h => exact .str h
  | lst hs hd h1 h2 h3 h4 => exact .lst (sqL_aft hs e) hd h1 h2 h3 h4
  | tup hs hd h1 h2 h3 h4 => exact .tup (sqT_aft hs e) hd h1 h2 h3 h4
  | emp h => exact .emp (st _ _ h fun _ z => by cases z)
/-- told by one of the two errors -/
def WishE (K : PySem.W.Frag) (IC IO : Addr) (Q : VK) : XK := fun cls d H' => ∃ b, PySem.W.exmOne K cls (.ref IC) = some b ∧
  (b = true → cls = .ref IC ∧ ∃ dd v t, d = some dd ∧ H' dd = some (.xd [(("value" : Str), v)]) ∧ RpK K H' v t ∧ t.length ≤ 10000 ∧ Q (.str ("count " ++ t)) H') ∧
  (b = false → ∃ b2, PySem.W.exmOne K cls (.ref IO) = some b2 ∧ (b2 = true → Q (.str "operation") H') ∧ (b2 = false → False))
def TTe (K : PySem.W.Frag) (IC IO : Addr) : (XK → Hp → VK → Prop) → Hp → VK → Prop := fun tl H Q => tl (WishE K IC IO Q) H (fun _ H' => Q (.str "fine") H')
section
variable {X : Cx} {IC fI IO : Addr}
theorem err_gives {q : Str} {g : Addr} {cdg : Value} {k : Nat} (T : Bn X.mg) (EC : CountE X.K X.mg IC fI) (hO : X.mg "InvalidOperation" = some (.ref IO)) (gd : X.A.guards = some []) (hr : Room (k + 2) X.A) :
    LamX.GivesTo X ["_law_call", "e"] "_law_error" (defScope s_lerr) g cdg (defBody s_lerr) "_law_call" q (TTe X.K IC IO) := by
  intro f c' s H Q tl act hc h
  refine ⟨_, pss_cons (ps_try_as_only (X := (cxOf C8.CX0 X.prog X.w X.K X.mg X.base ["_law_call", "e"] "_law_error" (defScope s_lerr) g cdg X.A X.stack s H C8.E0).nox) (i := 1) (c := .ref IC) (c2 := .ref IO)
      (ts := fun a cls d => tRet (tOp (fun x y H Q => ∃ i j, x = V.str i ∧ y = V.str j ∧ i.length + j.length ≤ sizeLine ∧ Q (.str (i ++ j)) H) (tC (.str "count ")) (tCB (rReprK X.K) (tCons (tXf a cls d IC "value" (tVar 1)) tNil)))) (ts2 := fun _ _ _ => tRet (tC (.str "operation")))
      (tb := fun W D σ H => ∃ Ech : XK, (∀ cls d σ' H', Ech cls d H' → W cls d σ' H') ∧ σ[0]? = some (some (.ref f)) ∧ H c' = some (LamX.CodeO c' q) ∧ tl Ech H fun _ H' => D.nx σ H')
      rfl rfl sc_lerr.nd rfl rfl ⟨rfl, by decide, .inl EC.gC⟩ ⟨rfl, by decide, .inl hO⟩ LamX.takes0 (fun W pn xe tk _ => ?_)
      (fun a oe cls d pn hz hf => pss_one (ps_ret (pe_op op_add_str pe_str (pe_callB (cr_reprK (by have := (hr.deeper (envOfC "_law_error" (defScope s_lerr) s.heap.objs.size g cdg)).units; exact this) gd) (by rfl) T.b_repr (by decide +kernel) (pa_cons (pe_value EC hz hf (pv 1)) pa_nil)))))
      (fun a oe cls d pn _ _ => pss_one (ps_ret pe_str))) (pss_one (ps_ret pe_str)), ?_⟩
  · refine ⟨fun pins s' σ H' D I h' => ?_⟩
    obtain ⟨Ech, hW, h1, h2, h3⟩ := h'
    exact (pss_one (ps_expr (act W pn xe Ech _ _ tk hW))).run pins s' σ H' D I ⟨h1, h2, h3⟩
  · refine ⟨WishE X.K IC IO Q, fun cls d σ' H' ⟨b, e1, e2, e3⟩ => ⟨b, e1, fun hb hlen a na => ?_, fun hb => ?_⟩, rfl, hc, h⟩
    · obtain ⟨ec, dd, v, t, ed, hx, rp, hl, hq⟩ := e2 hb
      have h2 : 1 < σ'.length := by
        have z : σ'.length = 2 := hlen
        omega
      have at1 : (σ'.set 1 (some (V.ref a)))[1]? = some (some (.ref a)) := by rw [List.getElem?_set_self h2]
      refine ⟨_, at1, rfl, ec, dd, _, v, ed, hx, rfl, v, t, rfl, rp, _, _, rfl, rfl, ?_, hq⟩
      exact Nat.le_trans (show 6 + t.length ≤ 10006 by omega) (by decide)
    · obtain ⟨b2, f1, f2, f3⟩ := e3 hb
      exact ⟨b2, f1, fun hb2 a _ => f2 hb2, fun hb2 => f3 hb2⟩
variable {T : List (Addr × Str)} {c P : Addr} {k : Nat} {params : Arguments} {body : Expr} {scope : Scope} {t : XK → TE} {p lpos pos : Pos}
/-- _law_error(lambda: body) -/
theorem pe_err (Tb : Bn X.mg) (ED : DefAt X.K X.mg "_law_error" s_lerr) (EC : CountE X.K X.mg IC fI) (hO : X.mg "InvalidOperation" = some (.ref IO)) (gd : X.A.guards = some []) (TB : TabB X.base X.mg c P) (hcode : X.env.code = .ref c)
    (hmT : (P, X.env.qual ++ "<lambda>") ∈ T) (hu : ∀ p ∈ T, p.1 = P → p.2 = X.env.qual ++ "<lambda>") (hr : Room (k + 2) X.A) (hg : Gl X "_law_error") (L : LamS X.env.scope scope) (hdef : defaultsOf params X.env = ([], []))
    (hbind : ∀ (q : Str) (cl : List (Str × Addr)) (pm cv ctv : Value), bindArgs (PySem.W.kla_fn "<lambda>" q params body scope cl pm cv ctv) ⟨[], []⟩ = pure [])
    (hbody : ∀ (A : Around) (outer : List Env) (s : Shared) (H : Hp) (E : XK) (f c' : Addr), Room k (A.deeper (LamX.lamEnv X scope s.heap.objs.size f c')) → PE (LamX.lamCx X A outer s H E scope f c') body (t E)) :
    PE X (.Call (.Name "_law_error" p) [.Lambda params body scope lpos] [] pos) (LamX.tLam T (TTe X.K IC IO) t) := by
  obtain ⟨g, fd, hm, F⟩ := ED.ex
  have kp := F.kp
  have hb := F.binds (ps := ["_law_call"]) (fun _ _ _ _ _ _ us hl => match us, hl with | [_], _ => rfl)
  obtain ⟨oc, od, kV, doc, pm, an, cdv, ct, osl, e1, lk, hcd⟩ := F.ex
  subst e1
  exact LamX.pe_lamcall (a := "_law_call") (Ng := ["_law_call", "e"]) hg hm kp lk hcd hb sc_lerr rfl (.inl rfl) (err_gives Tb EC hO gd hr) TB hcode hmT hu hr L hdef hbind hbody
end
/-- what holds of the two errors' classes -/
structure ExE (K : PySem.W.Frag) (IC IO : Addr) : Prop where
  cc : PySem.W.exmOne K (.ref IC) (.ref IC) = some true
  oc : PySem.W.exmOne K (.ref IO) (.ref IC) = some false
  oo : PySem.W.exmOne K (.ref IO) (.ref IO) = some true
section
variable {K : PySem.W.Frag} {IC IO : Addr} {H : Hp} {Q : VK} {TL : List (Addr × Str)}
theorem tell_use (ET : ExE K IC IO) {v : V} {t : Str} (rp : RpK K H v t) (hl : t.length ≤ 10000) (k : ∀ H', Ext H H' → Q (.str ("count " ++ t)) H') : TellC IC H v (WishE K IC IO Q) := fun d H' e hd =>
  ⟨true, ET.cc, (fun _ => ⟨rfl, d, v, t, rfl, hd, rp.ext e, hl, k H' e⟩), fun z => by cases z⟩
theorem oper_use (ET : ExE K IC IO) (k : Q (.str "operation") H) : WishE K IC IO Q (.ref IO) none H :=
  ⟨false, ET.oc, (fun z => by cases z), fun _ => ⟨true, ET.oo, (fun _ => k), fun z => by cases z⟩⟩
end
end My
namespace My
open PySem PySem.Spec PyProof.Rows L2
open LamX (TabB Tabs TabS ExtN CodeO LamS)
open LowV (ErrV)
local macro_rules | `(tactic| walk_at "side") => `(tactic| first | assumption | decide | exact Or.inl ⟨by decide, by decide⟩ | exact Or.inr ⟨by decide, by decide⟩ | exact ⟨by decide, by decide, by decide⟩ | omega | (unfold CMulW; decide +kernel) | (dsimp only; first | assumption | omega | decide +kernel) | exact len_ok (Nat.le_of_ble_eq_true rfl) | fail "side")
local macro_rules | `(tactic| walk_at "rd") => `(tactic| first
  | refine ⟨_, _, _, _, rfl, rfl, SqL.of upd_same, atI_nat (j := 0) rfl, ?_⟩ | refine ⟨_, _, _, _, rfl, rfl, SqL.of upd_same, atI_nat (j := 1) rfl, ?_⟩ | refine ⟨_, _, _, _, rfl, rfl, SqL.of upd_same, atI_nat (j := 2) rfl, ?_⟩
  | refine ⟨_, _, _, _, rfl, rfl, upd_same, rfl, ?_⟩
  | refine ⟨_, _, rfl, rfl, ?_⟩ | refine ⟨_, rfl, ?_⟩ | refine ⟨_, _, rfl, ?_⟩ | refine Or.inl ⟨_, rfl, ?_⟩ | refine Or.inr ⟨_, rfl, ?_⟩ | refine ⟨(by walk_at "side"), ?_⟩ | fail "rd")

abbrev s_llisted : Stmt := top 31
theorem sc_llisted : FnScope ["_law_dice_here", "_law_index", "_law_names", "_law_turn", "_law_times", "_law_due", "_law_one", "_law_at"] ["_law_dice_here"] (defScope s_llisted) := ⟨rfl, rfl, rfl, by decide +kernel, rfl, by decide +kernel, by decide +kernel⟩
def spJ (TL : List (Addr × Str)) : Sp := fun vs H Q _ => ∃ a : Addr, vs = [.ref a] ∧ H a = some (DiceO a) ∧ Tabs TL H ∧ ∀ H', Aft TL H H' → Q (.bl true) H'
theorem nth_strOk {j : Nat} (h : j ≤ 701) : PyData.strOk (nthS j) = true := by
  have key : (List.range 702).all (fun i => PyData.strOk (nthS i)) = true := by decide +kernel
  exact List.all_eq_true.mp key j (List.mem_range.mpr (by omega))
section
variable {P : Program} {w : World} {K : PySem.W.Frag} {mg : Str → Option Value} {base : Heap} {IC fI IO c Pt : Addr} {TL : List (Addr × Str)}
theorem ok_llisted (T : Bn mg) (D : DefC K mg "_law_listed" s_llisted c) (ED : DefAt K mg "_law_error" s_lerr) (EC : CountE K mg IC fI) (EO : ErrT K mg "InvalidOperation" IO) (ET : ExE K IC IO)
    (TB : TabB base mg c Pt) (HM : (Pt, lamQ "_law_listed") ∈ TL) (HU : ∀ p ∈ TL, p.1 = Pt → p.2 = lamQ "_law_listed") (F__law_roll : FnAt P w K mg base 1 "_law_roll" ["_law_dice_here", "_law_total"] spRoll) (F__law_pick : FnAt P w K mg base 2 "_law_pick" ["_law_dice_here", "_law_items"] (spPick K))
    (F__law_nth : FnAt P w K mg base 1 "_law_nth" ["_law_index"] spLNth) (F__law_mixed : FnAt P w K mg base 2 "_law_mixed" ["_law_dice_here", "_law_items"] (spLMix K)) (F__law_some : FnAt P w K mg base 2 "_law_some" ["_law_dice_here", "_law_items"] (spLSome K))
    (F_nth_name : FnAt P w K mg base 4 "nth_name" ["index"] spNthG) (FX_nth_name : FxAt P w K mg base 4 "nth_name" ["index"] (spNthX K IC)) (F_new_names : FnAt P w K mg base 5 "new_names" ["names", "many"] (spNewG K)) :
    FgAt P w K mg base 8 "_law_listed" ["_law_dice_here"] (spJ TL) := by
  refine fgC D sc_llisted (fun _ _ _ _ _ _ us hl => match us, hl with | [_], _ => rfl) (fun vs H Q E h => ?_) fun f A outer s H vs Q E gd hr h => ?_
  · obtain ⟨a, rfl, _⟩ := h
    rfl
  obtain ⟨a, rfl, ha, ht, k⟩ := h
  refine ⟨_, (pss_cons (ps_set (i := 1) sc_llisted.nd rfl (Or.inr rfl) (pe_op op_add (callA F__law_pick (hr.mono (by decide)) rfl (pa_cons (pv 0) (pa_cons (pe_lst (pa_cons pe_int (pa_cons pe_int (pa_cons pe_int (pa_cons pe_int (pa_cons pe_int (pa_cons pe_int pa_nil))))))) pa_nil))) (callA F__law_roll (hr.mono (by decide)) rfl (pa_cons (pv 0) (pa_cons pe_int pa_nil)))))
    (pss_cons (ps_if (pt_cmpR op_gt (pv 1) pe_int (nomark _)) (pss_one (ps_ret (pe_cmpR op_eq (pe_err (k := 5) T ED EC EO.g gd TB rfl HM HU (hr.mono (by decide)) rfl (LamX.lamS_by (show LamX.lamSB (defScope s_llisted) _ = true by decide +kernel)) rfl (fun _ _ _ _ _ => rfl) (fun _ _ _ _ _ _ _ hr => (callX FX_nth_name (hr.mono (by decide)) rfl (takes_of rfl rfl rfl rfl) (fun _ _ _ _ h => h) (pa_cons (pv 1) pa_nil)))) (pe_op op_add_str pe_str (pe_callB SkE.call_repr_int (by rfl) T.b_repr (by decide +kernel) (pa_cons (pv 1) pa_nil))) (nomark _)))) pss_nil)
    (pss_cons (ps_if (pt_cmpR op_ne (callA F_nth_name (hr.mono (by decide)) rfl (pa_cons (pv 1) pa_nil)) (callA F__law_nth (hr.mono (by decide)) rfl (pa_cons (pv 1) pa_nil)) (nomark _)) (pss_one (ps_ret pe_bl)) pss_nil)
    (pss_cons (ps_set (i := 2) sc_llisted.nd rfl (Or.inr rfl) (pe_lc (own := [("_law_turn", 3)]) (g := gName 3) (tt := tYes) rfl sc_llisted.nd (pi_range1 (by rfl) T.b_range (pa_cons (callA F__law_roll (hr.mono (by decide)) rfl (pa_cons (pv 0) (pa_cons pe_int pa_nil))) pa_nil)) (blkOk_by (N := ["_law_dice_here", "_law_index", "_law_names", "_law_turn", "_law_times", "_law_due", "_law_one", "_law_at"]) (sc := defScope s_llisted) (by decide +kernel)) (fun _ _ _ _ _ => pg_name (i := 3) sc_llisted.nd rfl (Or.inl rfl)) (fun _ _ _ _ _ => pts_nil) (fun _ _ _ _ _ => (callA F__law_nth (hr.mono (by decide)) rfl (pa_cons (callA F__law_roll (hr.mono (by decide)) rfl (pa_cons (pv 0) (pa_cons (callA F__law_pick (hr.mono (by decide)) rfl (pa_cons (pv 0) (pa_cons (pe_lst (pa_cons pe_int (pa_cons pe_int (pa_cons pe_int pa_nil)))) pa_nil))) pa_nil))) pa_nil)))))
    (pss_cons (ps_set (i := 2) sc_llisted.nd rfl (Or.inr rfl) (callA F__law_mixed (hr.mono (by decide)) rfl (pa_cons (pv 0) (pa_cons (pe_op op_cat (pv 2) (callA F__law_some (hr.mono (by decide)) rfl (pa_cons (pv 0) (pa_cons (pe_lst (pa_cons pe_str (pa_cons pe_str (pa_cons pe_str (pa_cons pe_str (pa_cons pe_str pa_nil)))))) pa_nil)))) pa_nil))))
    (pss_cons (ps_set (i := 4) sc_llisted.nd rfl (Or.inl rfl) (callA F__law_pick (hr.mono (by decide)) rfl (pa_cons (pv 0) (pa_cons (pe_lst (pa_cons pe_int (pa_cons pe_int (pa_cons pe_int (pa_cons pe_int (pa_cons pe_int (pa_cons pe_int pa_nil))))))) pa_nil))))
    (pss_cons (ps_set (i := 5) sc_llisted.nd rfl (Or.inl rfl) (pe_slice sl_list (pe_lc (own := [("_law_one", 6)]) (g := gName 6) (tt := _) rfl sc_llisted.nd (pi_list (pe_lc (own := [("_law_at", 7)]) (g := gName 7) (tt := tYes) rfl sc_llisted.nd (pi_range1 (by rfl) T.b_range (pa_cons pe_int pa_nil)) (blkOk_by (N := ["_law_dice_here", "_law_index", "_law_names", "_law_turn", "_law_times", "_law_due", "_law_one", "_law_at"]) (sc := defScope s_llisted) (by decide +kernel)) (fun _ _ _ _ _ => pg_name (i := 7) sc_llisted.nd rfl (Or.inl rfl)) (fun _ _ _ _ _ => pts_nil) (fun _ _ _ _ _ => (callA F__law_nth (hr.mono (by decide)) rfl (pa_cons (pv 7) pa_nil))))) (blkOk_by (N := ["_law_dice_here", "_law_index", "_law_names", "_law_turn", "_law_times", "_law_due", "_law_one", "_law_at"]) (sc := defScope s_llisted) (by decide +kernel)) (fun _ _ _ _ _ => pg_name (i := 6) sc_llisted.nd rfl (Or.inl rfl)) (fun _ _ _ _ _ => pts_one (pt_cmpR (show OpR _ (compareOp .NotIn) (rIn K true) from op_notIn_seq) (pv 6) (pv 2) rfl)) (fun _ _ _ _ _ => (pv 6))) po_none (po_some (pv 4))))
    (pss_one (ps_ret (pe_cmpR (op_eqD (hu64 hr)) (callA F_new_names (hr.mono (by decide)) rfl (pa_cons (pe_callTy call_tuple_of (by rfl) T.b_tuple (by decide +kernel) (pa_cons (pv 2) pa_nil)) (pa_cons (pv 4) pa_nil))) (pe_callTy call_tuple_of (by rfl) T.b_tuple (by decide +kernel) (pa_cons (pv 5) pa_nil)) (nomark _))))))))))), ?_⟩
  refine ⟨_, rfl, len_ok (Nat.le_of_ble_eq_true rfl), fun p1 n1 => ?_⟩
  have e1 := ext_new (o := .lst [.int 0, .int 20, .int 26, .int 50, .int 676, .int 690]) (ext_refl H) n1
  refine ⟨a, p1, _, rfl, e1 _ _ ha, SqL.of upd_same, by simp, Nat.le_of_ble_eq_true rfl, fun x hx => ?_⟩
  obtain ⟨m, rfl, hm0, hm⟩ : ∃ m : Int, x = .int m ∧ 0 ≤ m ∧ m ≤ 690 := by
    simp only [List.mem_cons, List.not_mem_nil, or_false] at hx
    rcases hx with rfl | rfl | rfl | rfl | rfl | rfl <;> exact ⟨_, rfl, by decide, by decide⟩
  generalize upd H p1 (.lst [.int 0, .int 20, .int 26, .int 50, .int 676, .int 690]) = H1 at e1 ⊢
  refine ⟨_, rfl, a, 30, rfl, e1 _ _ ha, by decide, by unfold Sz; decide, fun r r0 r1 => ⟨_, _, rfl, rfl, ?_⟩⟩
  obtain ⟨i, hi⟩ : ∃ i : Nat, m + r = (i : Int) := ⟨(m + r).toNat, by omega⟩
  have hi7 : i ≤ 719 := by omega
  dsimp only
  rw [hi]
  have a1 : Aft TL H H1 := (Aft.refl ht).ext e1
  refine ⟨_, rfl, _, _, rfl, rfl, _, rfl, ite2 (fun big => ?_) (fun small => ?_)⟩
  · have big' : (701 : Int) < i := of_decide_eq_true big
    have hs : Sz 300 (i : Int) := Sz.mono (n := 10) (by unfold Sz; omega) (by decide)
    have hlog : ((i : Int)).natAbs.log2 < 1920 := Nat.lt_of_lt_of_le (hs.log (by decide)) (by decide)
    have hlen : (Str.ofString (toString (i : Int))).length ≤ 1921 := int_text_len_1921 hlog
    refine ⟨a1.t, fun H2 en tt => ⟨_, rfl, .int i, rfl, .inl ⟨i, rfl, ?_⟩, tell_use ET (.int hlog) (by omega) fun H3 e3 => ?_⟩⟩
    · rw [decide_eq_false (show ¬ (i : Int) ≤ 701 by omega), Bool.and_false, Bool.and_false]
    · refine ⟨_, rfl, _, rfl, hlog, _, _, rfl, rfl, ?_, rfl, ?_⟩
      · exact Nat.le_trans (show 6 + _ ≤ 6 + 1921 by omega) (by decide)
      · have q := k H3 ((a1.trans ⟨en, tt⟩).ext e3)
        rw [decide_eq_true rfl]
        exact q
  have small' : (i : Int) ≤ 701 := by
    have z : ¬ (701 : Int) < i := fun z => small (decide_eq_true z)
    omega
  refine ⟨_, rfl, i, rfl, by omega, fun H2 e2 => ⟨_, rfl, i, rfl, by omega, rfl, _, rfl, ne_same ?_⟩⟩
  have e2' := e1.trans e2
  refine ⟨_, rfl, a, 40, rfl, e2' _ _ ha, by decide, by unfold Sz; decide, fun r2 q0 q1 => ⟨r2, rfl, by omega, by omega, fun D hD => made_range (n := r2.toNat) (fun acc _ => ∃ zs : List Str, acc = zs.map V.str ∧ ∀ z ∈ zs, NmOk z) (fun _ _ _ p _ _ => p) hD (by omega) (fun _ => rfl) (fun _ => ⟨[], rfl, fun _ h => by cases h⟩) (fun j H' acc hj e hl ⟨zs, ea, hc⟩ Q' k' => ?_) fun H3 acc e3 hD' hl ⟨zs, ea, hc⟩ => ?_⟩⟩
  · refine ⟨_, rfl, _, rfl, len_ok (Nat.le_of_ble_eq_true rfl), fun p2 n2 => ?_⟩
    have e4 := ext_new (o := .lst [.int 4, .int 30, .int 120]) (ext_refl H') n2
    refine ⟨a, p2, _, rfl, e4 _ _ (e _ _ (e2' _ _ ha)), SqL.of upd_same, by simp, Nat.le_of_ble_eq_true rfl, fun x hx => ?_⟩
    obtain ⟨b, rfl, hb0, hb1⟩ : ∃ b : Int, x = .int b ∧ 0 < b ∧ b ≤ 120 := by
      simp only [List.mem_cons, List.not_mem_nil, or_false] at hx
      rcases hx with rfl | rfl | rfl <;> exact ⟨_, rfl, by decide, by decide⟩
    refine ⟨a, b, rfl, e4 _ _ (e _ _ (e2' _ _ ha)), hb0, Sz.mono (n := 10) (by unfold Sz; omega) (by decide), fun r3 s0 s1 => ?_⟩
    obtain ⟨t, rfl⟩ : ∃ t : Nat, r3 = (t : Int) := ⟨r3.toNat, by omega⟩
    refine ⟨t, rfl, by omega, k' _ _ e4 ⟨zs ++ [nthS t], by rw [ea, List.map_append]; rfl, fun z hz => ?_⟩⟩
    rcases List.mem_append.mp hz with hz | hz
    · exact hc z hz
    · rw [List.mem_singleton.mp hz]
      exact nth_ok (by omega)
  subst ea
  rw [List.length_map] at hl
  have e3' := e2'.trans e3
  refine ⟨_, rfl, _, rfl, _, rfl, len_ok (Nat.le_of_ble_eq_true rfl), fun p2 n2 => ?_⟩
  have e4 := ext_new (o := .lst [.str "pieces", .str "zzzzzzzz", .str "ab", .str "a", .str "b"]) (ext_refl H3) n2
  have o4 : upd H3 p2 (.lst [.str "pieces", .str "zzzzzzzz", .str "ab", .str "a", .str "b"]) p2 = some (.lst [.str "pieces", .str "zzzzzzzz", .str "ab", .str "a", .str "b"]) := upd_same
  generalize upd H3 p2 (.lst [.str "pieces", .str "zzzzzzzz", .str "ab", .str "a", .str "b"]) = H4 at e4 o4 ⊢
  refine ⟨a, p2, _, rfl, e4 _ _ (e3' _ _ ha), SqL.of o4, Nat.le_of_ble_eq_true rfl, fun p5 H5 ys e5 o5 hly hys => ?_⟩
  have hly' : ys.length ≤ 5 := hly
  have d5 := e5 _ _ (e4 _ _ hD')
  refine ⟨_, _, _, _, rfl, rfl, d5, o5, ?_, fun p6 n6 => ?_⟩
  · rw [List.length_map]
    exact Nat.le_trans (show zs.length + ys.length ≤ 1000 by omega) (by decide)
  have e6 := ext_new (o := .lst (zs.map V.str ++ ys)) (ext_refl H5) n6
  have o6 : upd H5 p6 (.lst (zs.map V.str ++ ys)) p6 = some (.lst (zs.map V.str ++ ys)) := upd_same
  generalize upd H5 p6 (.lst (zs.map V.str ++ ys)) = H6 at e6 o6 ⊢
  have e6' := ((e3'.trans e4).trans e5).trans e6
  refine ⟨a, p6, _, rfl, e6' _ _ ha, SqL.of o6, by rw [List.length_append, List.length_map]; omega, fun p7 H7 ws e7 o7 hlw hws => ?_⟩
  obtain ⟨ns, rfl, hns⟩ := strs_of (P := NmOk) ws fun y hy => by
    rcases List.mem_append.mp (hws y hy) with h | h
    · obtain ⟨z, hz, rfl⟩ := List.mem_map.mp h
      exact ⟨z, rfl, hc z hz⟩
    · have h' := hys y h
      simp only [List.mem_cons, List.not_mem_nil, or_false] at h'
      rcases h' with rfl | rfl | rfl | rfl | rfl <;> exact ⟨_, rfl, by decide +kernel, by decide⟩
  have hln : ns.length ≤ 60 := by
    rw [List.length_map, List.length_append, List.length_map] at hlw
    omega
  have e7' := e6'.trans e7
  refine ⟨_, rfl, len_ok (Nat.le_of_ble_eq_true rfl), fun p8 n8 => ?_⟩
  have e8 := ext_new (o := .lst [.int 0, .int 1, .int 2, .int 5, .int 30, .int 100]) (ext_refl H7) n8
  have o8 : upd H7 p8 (.lst [.int 0, .int 1, .int 2, .int 5, .int 30, .int 100]) p8 = some (.lst [.int 0, .int 1, .int 2, .int 5, .int 30, .int 100]) := upd_same
  generalize upd H7 p8 (.lst [.int 0, .int 1, .int 2, .int 5, .int 30, .int 100]) = H8 at e8 o8 ⊢
  have e8' := e7'.trans e8
  refine ⟨a, p8, _, rfl, e8' _ _ ha, SqL.of o8, by simp, Nat.le_of_ble_eq_true rfl, fun x hx => ?_⟩
  obtain ⟨mt, rfl, hmt⟩ : ∃ mt : Nat, x = .int (mt : Int) ∧ mt ≤ 100 := by
    simp only [List.mem_cons, List.not_mem_nil, or_false] at hx
    rcases hx with rfl | rfl | rfl | rfl | rfl | rfl
    · exact ⟨0, rfl, by decide⟩
    · exact ⟨1, rfl, by decide⟩
    · exact ⟨2, rfl, by decide⟩
    · exact ⟨5, rfl, by decide⟩
    · exact ⟨30, rfl, by decide⟩
    · exact ⟨100, rfl, by decide⟩
  have o7' := e8 _ _ o7
  refine ⟨_, rfl, by decide, by decide, fun D1 hD1 => map_range (n := 200) (fun j => .str (nthS j)) hD1 (by decide) (fun _ => rfl) (fun j H' hj e Q' k' => ?_) fun H9 e9 hD9 => ?_⟩
  · exact ⟨_, rfl, j, by rw [Int.zero_add]; rfl, by omega, k' _ (ext_refl _)⟩
  have ec : ((List.range 200).map fun j => V.str (nthS j)) = ((List.range 200).map nthS).map V.str := by rw [List.map_map]; rfl
  rw [ec] at hD9
  have o9 := e9 _ _ o7'
  refine ⟨D1, rfl, ⟨_, SqL.of hD9⟩, fun D2 hD2 => filt_list (xs := ((List.range 200).map nthS).map V.str) (fun x => match x with | .str s => !decide (s ∈ ns) | _ => false) (SqL.of hD9) hD2 (by simp) (fun _ => rfl) (fun j x H' hj e Q' k' => ?_) (fun _ _ _ k' => ⟨_, rfl, k'⟩) fun H10 e10 hD10 => ?_⟩
  · obtain ⟨z, _, rfl⟩ := List.mem_map.mp (List.mem_of_getElem? hj)
    refine ⟨_, rfl, _, rfl, p7, _, rfl, .inl (SqL.of (e _ _ o9)), rfl, flat_strs ns, _, rfl, ?_⟩
    rw [inV_str]
    exact k' H' (ext_refl _)
  have ef : (((List.range 200).map nthS).map V.str).filter (fun x => match x with | .str s => !decide (s ∈ ns) | _ => false) = (((List.range 200).map nthS).filter fun s => !decide (s ∈ ns)).map V.str := by
    rw [List.filter_map]
    rfl
  rw [ef] at hD10
  refine ⟨_, rfl, _, rfl, D2, _, rfl, SqL.of hD10, fun p9 n9 => ?_⟩
  rw [cut_first, ← List.map_take, ← new_eq hln hmt]
  have e11 := ext_new (o := .lst ((newS ns mt).map V.str)) (ext_refl H10) n9
  have o11 : upd H10 p9 (.lst ((newS ns mt).map V.str)) p9 = some (.lst ((newS ns mt).map V.str)) := upd_same
  generalize upd H10 p9 (.lst ((newS ns mt).map V.str)) = H11 at e11 o11 ⊢
  have e11' := ((e8'.trans e9).trans e10).trans e11
  refine ⟨_, rfl, p7, _, rfl, .inl ⟨SqL.of (e11 _ _ (e10 _ _ o9)), fun t nt => ?_⟩⟩
  have e12 := ext_new (o := .tup (ns.map V.str)) (ext_refl H11) nt
  have o12 : upd H11 t (.tup (ns.map V.str)) t = some (.tup (ns.map V.str)) := upd_same
  generalize upd H11 t (.tup (ns.map V.str)) = H12 at e12 o12 ⊢
  refine ⟨_, rfl, t, ns, mt, rfl, SqT.of o12, .base (.tup o12), by omega, hmt, hns, fun q H13 e13 o13 => ?_⟩
  refine ⟨_, rfl, p9, _, rfl, .inl ⟨SqL.of (e13 _ _ (e12 _ _ o11)), fun t2 nt2 => ?_⟩⟩
  have e14 := fun o => ext_new (o := o) (ext_refl H13) nt2
  have okS : ∀ z ∈ newS ns mt, PyData.strOk z = true := fun z hz => by
    obtain ⟨j, hj, rfl⟩ := List.mem_map.mp (List.mem_filter.mp (List.mem_of_mem_take hz)).1
    have hj' := List.mem_range.mp hj
    exact nth_strOk (by omega)
  refine ⟨.tuple ((newS ns mt).map PyData.str), .tuple ((newS ns mt).map PyData.str), .tup (SqT.of (e14 _ _ _ o13)) (dp_strs _), .tup (SqT.of upd_same) (dp_strs _), shaped_strsT okS, shaped_strsT okS, ?_⟩
  rw [PyData.eqv, eqv_strs, decide_eq_true rfl]
  exact k _ (((Aft.refl ht).ext (e11'.trans (e12.trans e13))).ext (e14 _))
end
end My
namespace My
open PySem PySem.Spec PyProof.Rows L2
open LamX (TabB Tabs TabS ExtN CodeO LamS)
open LowV (ErrV)
local macro_rules | `(tactic| walk_at "side") => `(tactic| first | assumption | decide | exact Or.inl ⟨by decide, by decide⟩ | exact Or.inr ⟨by decide, by decide⟩ | exact ⟨by decide, by decide, by decide⟩ | omega | (unfold CMulW; decide +kernel) | (dsimp only; first | assumption | omega | decide +kernel) | exact len_ok (Nat.le_of_ble_eq_true rfl) | fail "side")
local macro_rules | `(tactic| walk_at "rd") => `(tactic| first
  | refine ⟨_, _, _, _, rfl, rfl, SqL.of upd_same, atI_nat (j := 0) rfl, ?_⟩ | refine ⟨_, _, _, _, rfl, rfl, SqL.of upd_same, atI_nat (j := 1) rfl, ?_⟩ | refine ⟨_, _, _, _, rfl, rfl, SqL.of upd_same, atI_nat (j := 2) rfl, ?_⟩
  | refine ⟨_, _, _, _, rfl, rfl, upd_same, rfl, ?_⟩
  | refine ⟨_, _, rfl, rfl, ?_⟩ | refine ⟨_, rfl, ?_⟩ | refine ⟨_, _, rfl, ?_⟩ | refine Or.inl ⟨_, rfl, ?_⟩ | refine Or.inr ⟨_, rfl, ?_⟩ | refine ⟨(by walk_at "side"), ?_⟩ | fail "rd")

abbrev s_lrefused : Stmt := top 32
theorem sc_lrefused : FnScope ["_law_dice_here", "_law_bad", "_law_few", "_law_row"] ["_law_dice_here"] (defScope s_lrefused) := ⟨rfl, rfl, rfl, by decide +kernel, rfl, by decide +kernel, by decide +kernel⟩
/-- a value that is no count from lo to hi, and how it is written -/
def BadV (K : PySem.W.Frag) (H : Hp) (lo hi : Int) (v : V) : Prop := BadC K H v lo hi ∧ ∃ t, RpK K H v t ∧ t.length ≤ 10000
theorem BadV.ext {K : PySem.W.Frag} {H H' : Hp} {lo hi : Int} {v : V} (h : BadV K H lo hi v) (e : Ext H H') : BadV K H' lo hi v := ⟨h.1.ext e, let ⟨t, a, b⟩ := h.2; ⟨t, a.ext e, b⟩⟩
theorem BadC.aft {TL : List (Addr × Str)} {K : PySem.W.Frag} {H H' : Hp} {lo hi : Int} {v : V} (h : BadC K H v lo hi) (e : Aft TL H H') : BadC K H' v lo hi := h.elim .inl fun o => .inr (o.aft e)
theorem BadV.aft {TL : List (Addr × Str)} {K : PySem.W.Frag} {H H' : Hp} {lo hi : Int} {v : V} (h : BadV K H lo hi v) (e : Aft TL H H') : BadV K H' lo hi v := ⟨h.1.aft e, let ⟨t, a, b⟩ := h.2; ⟨t, a.aft e, b⟩⟩
section
variable {K : PySem.W.Frag} {H : Hp} {lo hi : Int} {a : Addr}
theorem bv_non : BadV K H lo hi .non := ⟨.inr ow_non.o, _, .non, by decide +kernel⟩
theorem bv_bl (b : Bool) : BadV K H lo hi (.bl b) := ⟨.inr (ow_bl b).o, _, .bl b, by cases b <;> decide +kernel⟩
theorem bv_str {s : Str} (h : (reprText s).length ≤ 1000) : BadV K H lo hi (.str s) := ⟨.inr ⟨fun _ => nofun, .inr ⟨_, .base (.str s), kB (by decide +kernel)⟩⟩, _, .str (Nat.le_trans h (by decide)), Nat.le_trans h (by decide)⟩
theorem bv_int {i : Int} (h : (isI60 i && (decide (lo ≤ i) && decide (i ≤ hi))) = false) (hz : i.natAbs.log2 < 1920) : BadV K H lo hi (.int i) := ⟨.inl ⟨i, rfl, h⟩, _, .int hz, Nat.le_trans (int_text_len_1921 hz) (by decide)⟩
theorem bv_lst {xs : List V} {ds : List PyData} (h : H a = some (.lst xs)) (hd : ∀ H', DpAll K H' xs ds) (h1 : (PyData.list ds).showable = true) (h2 : (PyData.list ds).hasDict = false) (h3 : (PyData.list ds).depth < 20) (h4 : (PyData.list ds).shown.length ≤ 1000) : BadV K H lo hi (.ref a) :=
  ⟨.inr (ow_lst h).o, _, .lst (SqL.of h) hd h1 h2 h3 (Nat.le_trans h4 (by decide)), Nat.le_trans h4 (by decide)⟩
theorem bv_tup {xs : List V} {ds : List PyData} (h : H a = some (.tup xs)) (hd : ∀ H', DpAll K H' xs ds) (h1 : (PyData.tuple ds).showable = true) (h2 : (PyData.tuple ds).hasDict = false) (h3 : (PyData.tuple ds).depth < 20) (h4 : (PyData.tuple ds).shown.length ≤ 1000) : BadV K H lo hi (.ref a) :=
  ⟨.inr ⟨fun _ => nofun, .inr ⟨_, .base (.tup h), kB (by decide +kernel)⟩⟩, _, .tup (SqT.of h) hd h1 h2 h3 (Nat.le_trans h4 (by decide)), Nat.le_trans h4 (by decide)⟩
theorem bv_dK (h : H a = some (.dK [])) : BadV K H lo hi (.ref a) := ⟨.inr (ow_dK h).o, _, .emp h, by decide +kernel⟩
end
/-- no tuple of at most 200 names -/
def RowBad (K : PySem.W.Frag) (H : Hp) (v : V) : Prop := NotK K H v "tuple" ∨ NamesJ K H v false
theorem namesJ_mk {K : PySem.W.Frag} {H : Hp} {a : Addr} {xs : List V} {b : Bool} (h : H a = some (.tup xs)) (hl : xs.length ≤ 1000) (hj : ∀ x ∈ xs, Judged K H x (jf x)) (hb : (xs.all jf && decide (xs.length ≤ 200)) = b) : NamesJ K H (.ref a) b := ⟨a, xs, jf, rfl, SqT.of h, .base (.tup h), hl, hj, hb⟩
theorem Judged.aft {TL : List (Addr × Str)} {K : PySem.W.Frag} {H H' : Hp} {x : V} {b : Bool} (h : Judged K H x b) (e : Aft TL H H') : Judged K H' x b := h.elim .inl fun ⟨⟨t, ty, hk⟩, q⟩ => .inr ⟨⟨t, tyX_aft ty e, hk⟩, q⟩
theorem RowBad.aft {TL : List (Addr × Str)} {K : PySem.W.Frag} {H H' : Hp} {v : V} (h : RowBad K H v) (e : Aft TL H H') : RowBad K H' v := by
  rcases h with ⟨t, ty, hk⟩ | ⟨a, xs, f, e1, hs, ty, hl, hj, hb⟩
  · exact .inl ⟨t, tyX_aft ty e, hk⟩
  · exact .inr ⟨a, xs, f, e1, sqT_aft hs e, tyX_aft ty e, hl, fun x hx => (hj x hx).aft e, hb⟩
theorem Judged.ext {K : PySem.W.Frag} {H H' : Hp} {x : V} {b : Bool} (h : Judged K H x b) (e : Ext H H') : Judged K H' x b := h.elim .inl fun ⟨q, r⟩ => .inr ⟨q.ext e, r⟩
theorem RowBad.ext {K : PySem.W.Frag} {H H' : Hp} {v : V} (h : RowBad K H v) (e : Ext H H') : RowBad K H' v := by
  rcases h with ⟨t, ty, hk⟩ | ⟨a, xs, f, e1, hs, ty, hl, hj, hb⟩
  · exact .inl ⟨t, tyX_ext ty e, hk⟩
  · exact .inr ⟨a, xs, f, e1, hs.ext e, tyX_ext ty e, hl, fun x hx => (hj x hx).ext e, hb⟩
theorem rep_a (n : Nat) : (List.replicate n [V.str "a"]).flatten = List.replicate n (V.str "a") := by
  induction n with
  | zero => rfl
  | succ n ih => rw [List.replicate_succ, List.flatten_cons, ih, List.replicate_succ]; rfl
section
variable {P : Program} {w : World} {K : PySem.W.Frag} {mg : Str → Option Value} {base : Heap} {IC fI IO c Pt : Addr} {TL : List (Addr × Str)}
theorem ok_lrefused (T : Bn mg) (D : DefC K mg "_law_refused" s_lrefused c) (ED : DefAt K mg "_law_error" s_lerr) (EC : CountE K mg IC fI) (EO : ErrT K mg "InvalidOperation" IO) (ET : ExE K IC IO)
    (TB : TabB base mg c Pt) (HM : (Pt, lamQ "_law_refused") ∈ TL) (HU : ∀ p ∈ TL, p.1 = Pt → p.2 = lamQ "_law_refused") (F__law_pick : FnAt P w K mg base 2 "_law_pick" ["_law_dice_here", "_law_items"] (spPick K))
    (FX_nth_name : FxAt P w K mg base 4 "nth_name" ["index"] (spNthX K IC)) (FX_new_names : FxAt P w K mg base 5 "new_names" ["names", "many"] (spNewX K IC IO)) (F_new_names : FnAt P w K mg base 5 "new_names" ["names", "many"] (spNewG K)) :
    FgAt P w K mg base 8 "_law_refused" ["_law_dice_here"] (spJ TL) := by
  refine fgC D sc_lrefused (fun _ _ _ _ _ _ us hl => match us, hl with | [_], _ => rfl) (fun vs H Q E h => ?_) fun f A outer s H vs Q E gd hr h => ?_
  · obtain ⟨a, rfl, _⟩ := h
    rfl
  obtain ⟨a, rfl, ha, ht, k⟩ := h
  refine ⟨_, (pss_cons (ps_set (i := 1) sc_lrefused.nd rfl (Or.inr rfl) (callA F__law_pick (hr.mono (by decide)) rfl (pa_cons (pv 0) (pa_cons (pe_lst (pa_cons pe_non (pa_cons pe_bl (pa_cons pe_str (pa_cons (pe_un un_neg pe_int) (pa_cons (pe_tup (pa_cons pe_int pa_nil)) (pa_cons (pe_lst pa_nil) (pa_cons pe_dnewK (pa_cons (pe_op op_pow pe_int pe_int) (pa_cons pe_int pa_nil)))))))))) pa_nil))))
    (pss_cons (ps_if (pt_cmpR op_ne (pe_err (k := 5) T ED EC EO.g gd TB rfl HM HU (hr.mono (by decide)) rfl (LamX.lamS_by (show LamX.lamSB (defScope s_lrefused) _ = true by decide +kernel)) rfl (fun _ _ _ _ _ => rfl) (fun _ _ _ _ _ _ _ hr => (callX FX_nth_name (hr.mono (by decide)) rfl (takes_of rfl rfl rfl rfl) (fun _ _ _ _ h => h) (pa_cons (pv 1) pa_nil)))) (pe_op op_add_str pe_str (pe_callB (cr_reprK hr.units gd) (by rfl) T.b_repr (by decide +kernel) (pa_cons (pv 1) pa_nil))) (nomark _)) (pss_one (ps_ret pe_bl)) pss_nil)
    (pss_cons (ps_set (i := 2) sc_lrefused.nd rfl (Or.inr rfl) (callA F__law_pick (hr.mono (by decide)) rfl (pa_cons (pv 0) (pa_cons (pe_lst (pa_cons pe_non (pa_cons pe_bl (pa_cons pe_str (pa_cons (pe_un un_neg pe_int) (pa_cons pe_int (pa_cons (pe_op op_pow pe_int pe_int) (pa_cons (pe_tup pa_nil) (pa_cons (pe_lst (pa_cons pe_int pa_nil)) pa_nil))))))))) pa_nil))))
    (pss_cons (ps_if (pt_cmpR op_ne (pe_err (k := 5) T ED EC EO.g gd TB rfl HM HU (hr.mono (by decide)) rfl (LamX.lamS_by (show LamX.lamSB (defScope s_lrefused) _ = true by decide +kernel)) rfl (fun _ _ _ _ _ => rfl) (fun _ _ _ _ _ _ _ hr => (callX FX_new_names (hr.mono (by decide)) rfl (takes_of rfl rfl rfl rfl) (fun _ _ _ _ h => h) (pa_cons (pe_tup (pa_cons pe_str pa_nil)) (pa_cons (pv 2) pa_nil))))) (pe_op op_add_str pe_str (pe_callB (cr_reprK hr.units gd) (by rfl) T.b_repr (by decide +kernel) (pa_cons (pv 2) pa_nil))) (nomark _)) (pss_one (ps_ret pe_bl)) pss_nil)
    (pss_cons (ps_set (i := 3) sc_lrefused.nd rfl (Or.inr rfl) (callA F__law_pick (hr.mono (by decide)) rfl (pa_cons (pv 0) (pa_cons (pe_lst (pa_cons pe_non (pa_cons pe_str (pa_cons (pe_lst (pa_cons pe_str pa_nil)) (pa_cons (pe_tup (pa_cons pe_str pa_nil)) (pa_cons (pe_tup (pa_cons pe_str (pa_cons pe_int pa_nil))) (pa_cons pe_dnewK (pa_cons (pe_op (show OpR _ (binaryOp .Mult) (rRepT K) from op_repT) (pe_tup (pa_cons pe_str pa_nil)) pe_int) (pa_cons (pe_tup (pa_cons pe_str pa_nil)) pa_nil))))))))) pa_nil))))
    (pss_cons (ps_if (pt_cmpR op_ne (pe_err (k := 5) T ED EC EO.g gd TB rfl HM HU (hr.mono (by decide)) rfl (LamX.lamS_by (show LamX.lamSB (defScope s_lrefused) _ = true by decide +kernel)) rfl (fun _ _ _ _ _ => rfl) (fun _ _ _ _ _ _ _ hr => (callX FX_new_names (hr.mono (by decide)) rfl (takes_of rfl rfl rfl rfl) (fun _ _ _ _ h => h) (pa_cons (pv 3) (pa_cons (pv 2) pa_nil))))) pe_str (nomark _)) (pss_one (ps_ret pe_bl)) pss_nil)
    (pss_one (ps_ret (pe_cmpR op_eq (pe_err (k := 5) T ED EC EO.g gd TB rfl HM HU (hr.mono (by decide)) rfl (LamX.lamS_by (show LamX.lamSB (defScope s_lrefused) _ = true by decide +kernel)) rfl (fun _ _ _ _ _ => rfl) (fun _ _ _ _ _ _ _ hr => (callA F_new_names (hr.mono (by decide)) rfl (pa_cons (pe_op (show OpR _ (binaryOp .Mult) (rRepT K) from op_repT) (pe_tup (pa_cons pe_str pa_nil)) pe_int) (pa_cons pe_int pa_nil))))) pe_str (nomark _)))))))))), ?_⟩
  have p60 : CPow 10 60 := ⟨by decide, by decide, by decide⟩
  refine ⟨_, rfl, _, rfl, ?_⟩
  refine ⟨len_ok (Nat.le_of_ble_eq_true rfl), fun rq1 rn1 => ?_⟩
  have rx1 := ext_new (o := .tup [.int 1]) (ext_refl _) rn1
  have ro1 : upd H rq1 (.tup [.int 1]) rq1 = some (.tup [.int 1]) := upd_same
  generalize upd H rq1 (.tup [.int 1]) = R1 at rx1 ro1 ⊢
  refine ⟨len_ok (Nat.le_of_ble_eq_true rfl), fun rq2 rn2 => ?_⟩
  have rx2 := ext_new (o := .lst []) (ext_refl _) rn2
  have ro2 : upd R1 rq2 (.lst []) rq2 = some (.lst []) := upd_same
  generalize upd R1 rq2 (.lst []) = R2 at rx2 ro2 ⊢
  refine fun rq3 rn3 => ?_
  have rx3 := ext_new (o := .dK []) (ext_refl _) rn3
  have ro3 : upd R2 rq3 (.dK []) rq3 = some (.dK []) := upd_same
  generalize upd R2 rq3 (.dK []) = R3 at rx3 ro3 ⊢
  have rz1 := (rx3) _ _ ((rx2) _ _ (ro1))
  have rz2 := (rx3) _ _ (ro2)
  have rz3 := ro3
  have rxx : Ext H R3 := ((rx1).trans rx2).trans rx3
  refine ⟨_, _, rfl, rfl, p60, len_ok (Nat.le_of_ble_eq_true rfl), fun pl npl => ?_⟩
  have xl := fun o => ext_new (o := o) (ext_refl _) npl
  refine ⟨a, pl, _, rfl, xl _ _ _ (rxx _ _ ha), SqL.of upd_same, by simp, Nat.le_of_ble_eq_true rfl, fun bad hx => ?_⟩
  have bv : BadV K R3 0 701 bad := by
    simp only [List.mem_cons, List.not_mem_nil, or_false] at hx
    rcases hx with rfl | rfl | rfl | rfl | rfl | rfl | rfl | rfl | rfl
    · exact bv_non
    · exact bv_bl _
    · exact bv_str (by decide +kernel)
    · exact bv_int (by decide +kernel) (by decide +kernel)
    · exact bv_tup rz1 (fun _ => .cons (.int 1) .nil) (by decide +kernel) (by decide +kernel) (by decide +kernel) (by decide +kernel)
    · exact bv_lst rz2 (fun _ => .nil) (by decide +kernel) (by decide +kernel) (by decide +kernel) (by decide +kernel)
    · exact bv_dK rz3
    · exact bv_int (by decide +kernel) (by decide +kernel)
    · exact bv_int (by decide +kernel) (by decide +kernel)
  have a1 : Aft TL H (upd R3 pl (.lst [.non, .bl true, .str "1", .int (-1), .ref rq1, .ref rq2, .ref rq3, .int ((10 : Int) ^ (60 : Int).toNat), .int 702])) := (Aft.refl ht).ext (rxx.trans (xl _))
  have bv := bv.ext (xl (.lst [.non, .bl true, .str "1", .int (-1), .ref rq1, .ref rq2, .ref rq3, .int ((10 : Int) ^ (60 : Int).toNat), .int 702]))
  generalize upd R3 pl _ = I0 at a1 bv ⊢
  -- the first error
  refine ⟨a1.t, fun I1 en tt => ?_⟩
  have a2 : Aft TL H I1 := a1.trans ⟨en, tt⟩
  obtain ⟨bc1, t1, rp1, hl1⟩ := bv.aft (show Aft TL I0 I1 from ⟨en, tt⟩)
  have lng : ∀ t : Str, t.length ≤ 10000 → (Str.ofString "count ").length + t.length ≤ sizeLine := fun t h => Nat.le_trans (show 6 + t.length ≤ 10006 by omega) (by decide)
  refine ⟨_, rfl, bad, rfl, bc1, tell_use ET rp1 hl1 fun J1 f2 => ?_⟩
  refine ⟨_, rfl, bad, t1, rfl, rp1.ext f2, _, _, rfl, rfl, lng t1 hl1, rfl, _, rfl, ne_same ?_⟩
  have a3 := a2.ext f2
  refine ⟨_, rfl, _, rfl, _, _, rfl, rfl, p60, ?_⟩
  refine ⟨len_ok (Nat.le_of_ble_eq_true rfl), fun sq1 sn1 => ?_⟩
  have sx1 := ext_new (o := .tup []) (ext_refl _) sn1
  have so1 : upd J1 sq1 (.tup []) sq1 = some (.tup []) := upd_same
  generalize upd J1 sq1 (.tup []) = S1 at sx1 so1 ⊢
  refine ⟨len_ok (Nat.le_of_ble_eq_true rfl), fun sq2 sn2 => ?_⟩
  have sx2 := ext_new (o := .lst [.int 3]) (ext_refl _) sn2
  have so2 : upd S1 sq2 (.lst [.int 3]) sq2 = some (.lst [.int 3]) := upd_same
  generalize upd S1 sq2 (.lst [.int 3]) = S2 at sx2 so2 ⊢
  have sz1 := (sx2) _ _ (so1)
  have sz2 := so2
  have sxx : Ext J1 S2 := (sx1).trans sx2
  refine ⟨len_ok (Nat.le_of_ble_eq_true rfl), fun pm npm => ?_⟩
  have xm := fun o => ext_new (o := o) (ext_refl _) npm
  refine ⟨a, pm, _, rfl, xm _ _ _ (sxx _ _ (a3.dice ha)), SqL.of upd_same, by simp, Nat.le_of_ble_eq_true rfl, fun few hx => ?_⟩
  have bw : BadV K S2 0 100 few := by
    simp only [List.mem_cons, List.not_mem_nil, or_false] at hx
    rcases hx with rfl | rfl | rfl | rfl | rfl | rfl | rfl | rfl
    · exact bv_non
    · exact bv_bl _
    · exact bv_str (by decide +kernel)
    · exact bv_int (by decide +kernel) (by decide +kernel)
    · exact bv_int (by decide +kernel) (by decide +kernel)
    · exact bv_int (by decide +kernel) (by decide +kernel)
    · exact bv_tup sz1 (fun _ => .nil) (by decide +kernel) (by decide +kernel) (by decide +kernel) (by decide +kernel)
    · exact bv_lst sz2 (fun _ => .cons (.int 3) .nil) (by decide +kernel) (by decide +kernel) (by decide +kernel) (by decide +kernel)
  have a4 : Aft TL H (upd S2 pm (.lst [.non, .bl true, .str "1", .int (-1), .int 101, .int ((10 : Int) ^ (60 : Int).toNat), .ref sq1, .ref sq2])) := a3.ext (sxx.trans (xm _))
  have bw := bw.ext (xm (.lst [.non, .bl true, .str "1", .int (-1), .int 101, .int ((10 : Int) ^ (60 : Int).toNat), .ref sq1, .ref sq2]))
  generalize upd S2 pm _ = I3 at a4 bw ⊢
  -- the second error
  refine ⟨a4.t, fun I4 en4 tt4 => ?_⟩
  have a5 : Aft TL H I4 := a4.trans ⟨en4, tt4⟩
  have bw4 := bw.aft (show Aft TL I3 I4 from ⟨en4, tt4⟩)
  refine ⟨len_ok (Nat.le_of_ble_eq_true rfl), fun u nu => ?_⟩
  have xu := ext_new (o := .tup [.str "a"]) (ext_refl I4) nu
  obtain ⟨bc2, t2, rp2, hl2⟩ := bw4.ext xu
  refine ⟨_, rfl, .ref u, few, rfl, .inr ⟨namesJ_mk upd_same (by decide) (fun x hx => by rw [List.mem_singleton.mp hx]; exact j_str (by decide)) (by decide +kernel), bc2, tell_use ET rp2 hl2 fun J2 f4 => ?_⟩⟩
  refine ⟨_, rfl, few, t2, rfl, rp2.ext f4, _, _, rfl, rfl, lng t2 hl2, rfl, _, rfl, ne_same ?_⟩
  have a6 := (a5.ext xu).ext f4
  have bw6 := (bw4.ext xu).ext f4
  refine ⟨_, rfl, ?_⟩
  refine ⟨len_ok (Nat.le_of_ble_eq_true rfl), fun tq1 tn1 => ?_⟩
  have tx1 := ext_new (o := .lst [.str "a"]) (ext_refl _) tn1
  have to1 : upd J2 tq1 (.lst [.str "a"]) tq1 = some (.lst [.str "a"]) := upd_same
  generalize upd J2 tq1 (.lst [.str "a"]) = T1 at tx1 to1 ⊢
  refine ⟨len_ok (Nat.le_of_ble_eq_true rfl), fun tq2 tn2 => ?_⟩
  have tx2 := ext_new (o := .tup [.str "A"]) (ext_refl _) tn2
  have to2 : upd T1 tq2 (.tup [.str "A"]) tq2 = some (.tup [.str "A"]) := upd_same
  generalize upd T1 tq2 (.tup [.str "A"]) = T2 at tx2 to2 ⊢
  refine ⟨len_ok (Nat.le_of_ble_eq_true rfl), fun tq3 tn3 => ?_⟩
  have tx3 := ext_new (o := .tup [.str "a", .int 1]) (ext_refl _) tn3
  have to3 : upd T2 tq3 (.tup [.str "a", .int 1]) tq3 = some (.tup [.str "a", .int 1]) := upd_same
  generalize upd T2 tq3 (.tup [.str "a", .int 1]) = T3 at tx3 to3 ⊢
  refine fun tq4 tn4 => ?_
  have tx4 := ext_new (o := .dK []) (ext_refl _) tn4
  have to4 : upd T3 tq4 (.dK []) tq4 = some (.dK []) := upd_same
  generalize upd T3 tq4 (.dK []) = T4 at tx4 to4 ⊢
  refine ⟨len_ok (Nat.le_of_ble_eq_true rfl), fun tq5 tn5 => ?_⟩
  have tx5 := ext_new (o := .tup [.str "a"]) (ext_refl _) tn5
  have to5 : upd T4 tq5 (.tup [.str "a"]) tq5 = some (.tup [.str "a"]) := upd_same
  generalize upd T4 tq5 (.tup [.str "a"]) = T5 at tx5 to5 ⊢
  refine ⟨tq5, 201, _, rfl, rfl, SqT.of to5, by simp, by decide, by decide, by decide, fun tq6 tn6 => ?_⟩
  have tx6 := ext_new (o := .tup (List.replicate (201 : Int).toNat [V.str "a"]).flatten) (ext_refl _) tn6
  have to6 : upd T5 tq6 (.tup (List.replicate (201 : Int).toNat [V.str "a"]).flatten) tq6 = some (.tup (List.replicate (201 : Int).toNat [V.str "a"]).flatten) := upd_same
  generalize upd T5 tq6 (.tup (List.replicate (201 : Int).toNat [V.str "a"]).flatten) = T6 at tx6 to6 ⊢
  refine ⟨len_ok (Nat.le_of_ble_eq_true rfl), fun tq7 tn7 => ?_⟩
  have tx7 := ext_new (o := .tup [.str ""]) (ext_refl _) tn7
  have to7 : upd T6 tq7 (.tup [.str ""]) tq7 = some (.tup [.str ""]) := upd_same
  generalize upd T6 tq7 (.tup [.str ""]) = T7 at tx7 to7 ⊢
  have tz1 := (tx7) _ _ ((tx6) _ _ ((tx5) _ _ ((tx4) _ _ ((tx3) _ _ ((tx2) _ _ (to1))))))
  have tz2 := (tx7) _ _ ((tx6) _ _ ((tx5) _ _ ((tx4) _ _ ((tx3) _ _ (to2)))))
  have tz3 := (tx7) _ _ ((tx6) _ _ ((tx5) _ _ ((tx4) _ _ (to3))))
  have tz4 := (tx7) _ _ ((tx6) _ _ ((tx5) _ _ (to4)))
  have tz5 := (tx7) _ _ ((tx6) _ _ (to5))
  have tz6 := (tx7) _ _ (to6)
  have tz7 := to7
  have txx : Ext J2 T7 := ((((((tx1).trans tx2).trans tx3).trans tx4).trans tx5).trans tx6).trans tx7
  refine ⟨len_ok (Nat.le_of_ble_eq_true rfl), fun pn npn => ?_⟩
  have xn := fun o => ext_new (o := o) (ext_refl _) npn
  refine ⟨a, pn, _, rfl, xn _ _ _ (txx _ _ (a6.dice ha)), SqL.of upd_same, by simp, Nat.le_of_ble_eq_true rfl, fun row hx => ?_⟩
  have rb : RowBad K T7 row := by
    simp only [List.mem_cons, List.not_mem_nil, or_false] at hx
    rcases hx with rfl | rfl | rfl | rfl | rfl | rfl | rfl | rfl
    · exact .inl ⟨_, .base .non, kB (by decide +kernel)⟩
    · exact .inl ⟨_, .base (.str _), kB (by decide +kernel)⟩
    · exact .inl ⟨_, .base (.lst tz1), kB (by decide +kernel)⟩
    · exact .inr (namesJ_mk tz2 (by decide) (fun x hx => by rw [List.mem_singleton.mp hx]; exact j_str (by decide)) (by decide +kernel))
    · refine .inr (namesJ_mk tz3 (by decide) (fun x hx => ?_) (by decide +kernel))
      simp only [List.mem_cons, List.not_mem_nil, or_false] at hx
      rcases hx with rfl | rfl
      · exact j_str (by decide)
      · exact j_int
    · exact .inl ⟨_, .base (.dK tz4), kB (by decide +kernel)⟩
    · rw [rep_a] at tz6
      refine .inr (namesJ_mk tz6 (by decide) (fun x hx => ?_) (by decide +kernel))
      rw [List.eq_of_mem_replicate hx]
      exact j_str (by decide)
    · exact .inr (namesJ_mk tz7 (by decide) (fun x hx => by rw [List.mem_singleton.mp hx]; exact j_str (by decide)) (by decide +kernel))
  have a7 : Aft TL H (upd T7 pn (.lst [.non, .str "a", .ref tq1, .ref tq2, .ref tq3, .ref tq4, .ref tq6, .ref tq7])) := a6.ext (txx.trans (xn _))
  have rb := rb.ext (xn (.lst [.non, .str "a", .ref tq1, .ref tq2, .ref tq3, .ref tq4, .ref tq6, .ref tq7]))
  generalize upd T7 pn _ = I6 at a7 rb ⊢
  -- the third error
  refine ⟨a7.t, fun I7 en7 tt7 => ?_⟩
  have a8 : Aft TL H I7 := a7.trans ⟨en7, tt7⟩
  refine ⟨_, rfl, _, rfl, row, few, rfl, .inl ⟨rb.aft (show Aft TL I6 I7 from ⟨en7, tt7⟩), fun I8 e8 => oper_use ET ?_⟩⟩
  refine ⟨rfl, _, rfl, ne_same ?_⟩
  have a9 := a8.ext e8
  -- none
  refine ⟨a9.t, fun I9 en9 tt9 => ?_⟩
  have a10 : Aft TL H I9 := a9.trans ⟨en9, tt9⟩
  refine ⟨len_ok (Nat.le_of_ble_eq_true rfl), fun q nq => ⟨q, 200, _, rfl, rfl, SqT.of upd_same, by simp, by decide, by decide, by decide, fun q2 nq2 => ?_⟩⟩
  have er : (List.replicate (200 : Int).toNat [V.str "a"]).flatten = (List.replicate 200 ("a" : Str)).map V.str := by
    rw [rep_a, List.map_replicate]
    rfl
  rw [er]
  have y1 := ext_new (o := .tup [.str "a"]) (ext_refl I9) nq
  have y2 := ext_new (o := .tup ((List.replicate 200 ("a" : Str)).map V.str)) (ext_refl _) nq2
  refine ⟨q2, List.replicate 200 "a", 100, rfl, SqT.of upd_same, .base (.tup upd_same), by rw [List.length_replicate]; decide, by decide, fun s hs => ?_, fun p H' e hp => ?_⟩
  · rw [List.eq_of_mem_replicate hs]
    exact ⟨by decide +kernel, by decide⟩
  refine ⟨rfl, ?_⟩
  rw [decide_eq_true rfl]
  exact k _ (((a10.ext y1).ext y2).ext e)
end
end My
namespace My
open PySem PySem.Spec PyProof.Rows L2
open LamX (TabB Tabs TabS ExtN CodeO LamS)
local macro_rules | `(tactic| walk_at "side") => `(tactic| first | assumption | decide | exact Or.inl ⟨by decide, by decide⟩ | exact Or.inr ⟨by decide, by decide⟩ | exact ⟨by decide, by decide, by decide⟩ | omega | (unfold CMulW; decide +kernel) | (dsimp only; first | assumption | omega | decide +kernel) | exact len_ok (Nat.le_of_ble_eq_true rfl) | fail "side")
local macro_rules | `(tactic| walk_at "rd") => `(tactic| first
  | refine ⟨_, _, _, _, rfl, rfl, SqL.of upd_same, atI_nat (j := 0) rfl, ?_⟩ | refine ⟨_, _, _, _, rfl, rfl, SqL.of upd_same, atI_nat (j := 1) rfl, ?_⟩ | refine ⟨_, _, _, _, rfl, rfl, SqL.of upd_same, atI_nat (j := 2) rfl, ?_⟩
  | refine ⟨_, _, _, _, rfl, rfl, upd_same, rfl, ?_⟩
  | refine ⟨_, _, rfl, rfl, ?_⟩ | refine ⟨_, rfl, ?_⟩ | refine ⟨_, _, rfl, ?_⟩ | refine Or.inl ⟨_, rfl, ?_⟩ | refine Or.inr ⟨_, rfl, ?_⟩ | refine ⟨(by walk_at "side"), ?_⟩ | fail "rd")

abbrev s_law : Stmt := top 33
theorem sc_law : FnScope ["_law_script", "_law_spot", "_law_dice_here"] ["_law_script"] (defScope s_law) := ⟨rfl, rfl, rfl, by decide +kernel, rfl, by decide +kernel, by decide +kernel⟩
def spLaw (K : PySem.W.Frag) (TL : List (Addr × Str)) : Sp := fun vs H Q _ => ∃ (a : Addr) (ns : List Int), vs = [.ref a] ∧ SqL K H a (ns.map V.int) ∧ ns.length ≤ 63 ∧ Tabs TL H ∧ ∀ H', Q (.bl true) H'
section
variable {P : Program} {w : World} {K : PySem.W.Frag} {mg : Str → Option Value} {base : Heap} {TL : List (Addr × Str)}
theorem law_binds {fa : Addr} {fd : FuncData} (F : Fun K "law" "law" s_law fa fd) (s : Shared) (u : Value) : BindsTo s fd ⟨[u], []⟩ [("_law_script", u)] := by
  obtain ⟨oc, od, kV, doc, pm, an, cdv, ct, osl, rfl, lk, hcd⟩ := F.ex
  exact .of_eq rfl
theorem ok_law {fa : Addr} {fd : FuncData} (T : Bn mg) (WC : WordC mg) (MF : ∃ t, mg "MAX_FIGURES" = some (.int 60 t)) (D : Fun K "law" "law" s_law fa fd) (F__law_dice : FnAt P w K mg base 1 "_law_dice" ["_law_script", "_law_spot"] (spDice K)) (F__law_judged : FgAt P w K mg base 4 "_law_judged" ["_law_dice_here"] spLTrue)
    (F__law_listed : FgAt P w K mg base 8 "_law_listed" ["_law_dice_here"] (spJ TL)) (F__law_refused : FgAt P w K mg base 8 "_law_refused" ["_law_dice_here"] (spJ TL)) (F_nth_name : FnAt P w K mg base 4 "nth_name" ["index"] spNthG) (F_new_names : FnAt P w K mg base 5 "new_names" ["names", "many"] (spNewG K)) :
    FnG P w K mg base CX0 9 fa fd ["_law_script"] (spLaw K TL) := by
  obtain ⟨_, g_MAX_FIGURES⟩ := MF
  obtain ⟨_, g_MAX_LETTERS⟩ := WC.ML
  refine okG D sc_law (fun vs H Q E h => ?_) fun cdv A outer s H vs Q E gd hr h => ?_
  · obtain ⟨a, ns, rfl, _⟩ := h
    rfl
  obtain ⟨a, ns, rfl, hS, hl, ht, k⟩ := h
  refine ⟨_, (pss_cons (ps_for PassesOwn.never rfl (pi_range1 (by rfl) T.b_range (pa_cons (pe_callB (call_max2 rfl) (by rfl) T.b_max (by decide +kernel) (pa_cons pe_int (pa_cons (pe_callB (call_min2 rfl) (by rfl) T.b_min (by decide +kernel) (pa_cons pe_int (pa_cons (pe_callB call_len_seq (by rfl) T.b_len (by decide +kernel) (pa_cons (pv 0) pa_nil)) pa_nil))) pa_nil))) pa_nil)) (pg_name (i := 1) sc_law.nd rfl (Or.inl rfl))
      (pss_cons (ps_set (i := 2) sc_law.nd rfl (Or.inl rfl) (callA F__law_dice (hr.mono (by decide)) rfl (pa_cons (pv 0) (pa_cons (pv 1) pa_nil))))
    (pss_one (ps_if (PW.pt (pw_or (pt_not (pt_val (callB F__law_judged gd (hr.mono (by decide)) rfl (pa_cons (pv 2) pa_nil)))) (pw_or (pt_not (pt_val (callB F__law_listed gd (hr.mono (by decide)) rfl (pa_cons (pv 2) pa_nil)))) (pw_or1 (pt_not (pt_val (callB F__law_refused gd (hr.mono (by decide)) rfl (pa_cons (pv 2) pa_nil)))))))) (pss_one (ps_ret pe_bl)) pss_nil))))
    (pss_one (ps_ret (pe_cmpR (op_eqD (hu64 hr)) (pe_lst (pa_cons (pe_glob (v := .int 60) rfl g_MAX_FIGURES ⟨_, rfl⟩) (pa_cons (pe_glob (v := .int 8) rfl g_MAX_LETTERS ⟨_, rfl⟩) (pa_cons (callA F_nth_name (hr.mono (by decide)) rfl (pa_cons pe_int pa_nil)) (pa_cons (callA F_new_names (hr.mono (by decide)) rfl (pa_cons (pe_tup pa_nil) (pa_cons pe_int pa_nil))) pa_nil))))) (pe_lst (pa_cons pe_int (pa_cons pe_int (pa_cons pe_str (pa_cons (pe_tup pa_nil) pa_nil))))) (nomark _))))), ?_⟩
  have hb : ∀ L : Int, 0 ≤ L → 1 ≤ (if (if L < 5 then L else 5) > 1 then (if L < 5 then L else 5) else 1) ∧ (if (if L < 5 then L else 5) > 1 then (if L < 5 then L else 5) else 1) ≤ 5 := by
    intro L h
    split <;> split <;> omega
  have hb := hb (((ns.map V.int).length : Nat) : Int) (by omega)
  refine ⟨_, rfl, a, _, rfl, .inl hS, _, _, rfl, _, _, rfl, _, rfl, by omega, by omega, for_range (lo := 0) (fun i σ H' => Aft TL H H' ∧ ∃ x y, σ = [some (.ref a), x, y]) ⟨.refl ht, _, _, rfl⟩ ?_ ?_⟩
  · rintro i σ H' hi ⟨e, x, y, rfl⟩
    refine ⟨_, rfl, _, rfl, a, _, ns, rfl, sqL_aft hS e, by omega, by omega, fun p H'' hp e' hd => ?_⟩
    have e2 := e.ext e'
    refine ⟨_, rfl, p, rfl, hd, fun H3 e3 => ⟨_, rfl, iteF ?_⟩⟩
    have e3' := e2.ext e3
    have hd3 := e3 _ _ hd
    refine ⟨_, rfl, p, rfl, hd3, e3'.t, fun H4 e4 => ⟨_, rfl, iteF ?_⟩⟩
    refine ⟨_, rfl, p, rfl, e4.dice hd3, e4.t, fun H5 e5 => ⟨_, rfl, iteF ?_⟩⟩
    exact ⟨(e3'.trans e4).trans e5, _, _, rfl⟩
  rintro σ H' ⟨e, x, y, rfl⟩
  refine ⟨701, rfl, by decide, fun H2 e2 => ?_⟩
  refine ⟨len_ok (Nat.le_of_ble_eq_true rfl), fun t nt => ?_⟩
  have e3 := ext_new (o := .tup []) (ext_refl H2) nt
  refine ⟨t, [], 0, rfl, SqT.of upd_same, .base (.tup upd_same), by decide, by decide, (fun s hs => by cases hs), fun q H4 e4 hq => ?_⟩
  refine ⟨len_ok (Nat.le_of_ble_eq_true rfl), fun u nu => ?_⟩
  have x5 := ext_new (o := .lst [.int 60, .int 8, .str (nthS 701), .ref q]) (ext_refl H4) nu
  have o5 : upd H4 u (.lst [.int 60, .int 8, .str (nthS 701), .ref q]) u = some (.lst [.int 60, .int 8, .str (nthS 701), .ref q]) := upd_same
  generalize upd H4 u (.lst [.int 60, .int 8, .str (nthS 701), .ref q]) = H5 at x5 o5 ⊢
  have q5 := x5 _ _ hq
  refine ⟨len_ok (Nat.le_of_ble_eq_true rfl), fun t2 n2 => ⟨len_ok (Nat.le_of_ble_eq_true rfl), fun u2 n3 => ?_⟩⟩
  have x6 := ext_new (o := .tup []) (ext_refl H5) n2
  have x7 := fun o => ext_new (o := o) (ext_refl _) n3
  have ez : newS [] 0 = [] := rfl
  rw [ez] at q5
  refine ⟨.list [.int 60, .int 8, .str (nthS 701), .tuple []], .list [.int 60, .int 8, .str "zz", .tuple []], .lst (SqL.of (x7 _ _ _ (x6 _ _ o5))) (.cons (.int _) (.cons (.int _) (.cons (.str _) (.cons (.tup (SqT.of (x7 _ _ _ (x6 _ _ q5))) .nil) .nil)))), .lst (SqL.of upd_same) (.cons (.int _) (.cons (.int _) (.cons (.str _) (.cons (.tup (SqT.of (x7 _ _ _ upd_same)) .nil) .nil)))), by decide +kernel, by decide +kernel, ?_⟩
  have ev : PyData.eqv (.list [.int 60, .int 8, .str (nthS 701), .tuple []]) (.list [.int 60, .int 8, .str "zz", .tuple []]) = true := by decide +kernel
  rw [ev]
  exact k _
end
end My
namespace My
open PySem PySem.Spec PyProof.Rows L2
open LamX (TabB Tabs TabS ExtN CodeO LamS)
/-! ### the end of a law with lambdas -/
theorem tab_mk {K : PySem.W.Frag} {x : Str} {f c P : Addr} {oc : Value} {od : Option Addr} {fd : FuncData} {osl : Array (Option Value)} {c1 : Value} {d1 : Option Addr} {vs : Array Value} {s1 : Array (Option Value)} (a : PySem.W.nsIn K mainGlobals x = some (some (.ref f)))
    (l : K.lookup f = some ⟨oc, od, .func fd, osl⟩) (e : fd.code = .ref c) (lc : K.lookup c = some ⟨c1, d1, .fields vs, s1⟩) (p : (vs[11]? : Option Value) = some (.ref P)) : PySem.W.tabIn K x = some (c, P) := by
  unfold PySem.W.tabIn
  rw [a]
  dsimp only
  rw [l]
  dsimp only
  rw [e]
  dsimp only
  rw [lc]
  dsimp only
  rw [p]
theorem defC_mk {K : PySem.W.Frag} {h : Heap} {mg : Str → Option Value} {x : Str} {st : Stmt} {f c : Addr} {oc : Value} {od an : Option Addr} {osl : Array (Option Value)} {kV doc pm ct : Value} (X : K.In h) (G : h.Ns mainGlobals mg) (a : PySem.W.nsIn K mainGlobals x = some (some (.ref f)))
    (l : K.lookup f = some ⟨oc, od, .func (PySem.W.fnOf x x (defArgs st) (defBody st) (defScope st) .none kV doc pm an (.ref c) ct), osl⟩) (c' : PySem.W.codeIn K (.ref c) x = true) (k : PySem.W.keepIn K (.ref f) = true) : DefC K mg x st c :=
  ⟨f, _, PySem.W.mg_of X G a, fun_mk l c' k, rfl⟩
/-- a def with lambdas: its text, its code object, its table -/
structure LamD (K : PySem.W.Frag) (mg : Str → Option Value) (x : Str) (st : Stmt) (c P : Addr) : Prop where
  d : DefC K mg x st c
  tab : PySem.W.tabIn K x = some (c, P)
  no : K.lookup P = none
theorem lamD_mk {K : PySem.W.Frag} {h : Heap} {mg : Str → Option Value} {x : Str} {st : Stmt} {f c P : Addr} {oc : Value} {od an : Option Addr} {osl : Array (Option Value)} {kV doc pm ct : Value} {c1 : Value} {d1 : Option Addr} {vs : Array Value} {s1 : Array (Option Value)} (X : K.In h) (G : h.Ns mainGlobals mg) (a : PySem.W.nsIn K mainGlobals x = some (some (.ref f)))
    (l : K.lookup f = some ⟨oc, od, .func (PySem.W.fnOf x x (defArgs st) (defBody st) (defScope st) .none kV doc pm an (.ref c) ct), osl⟩) (c' : PySem.W.codeIn K (.ref c) x = true) (k : PySem.W.keepIn K (.ref f) = true) (lc : K.lookup c = some ⟨c1, d1, .fields vs, s1⟩) (p : (vs[11]? : Option Value) = some (.ref P)) (n : K.lookup P = none) : LamD K mg x st c P :=
  ⟨defC_mk X G a l c' k, tab_mk a l rfl lc p, n⟩
theorem exm_mk {K : PySem.W.Frag} {cls : Value} {C : Addr} {cd : ClassData} {b : Bool} (h : PySem.W.subIn K (.ref C) (.type "BaseException") = some true) (i : PySem.W.clsIn K C = some cd) (t : PySem.W.typeIn K (.ref C) = some (.type "type")) (s : PySem.W.subIn K cls (.ref C) = some b) : PySem.W.exmOne K cls (.ref C) = some b := by
  unfold PySem.W.exmOne PySem.W.kitCls
  rw [h, if_pos (by simp)]
  dsimp only
  rw [i, t, if_pos (by simp)]
  exact s

/-- the law's own head with tables, from a promise where no repr is under way -/
theorem lawTG {P : Program} {w : World} {K : PySem.W.Frag} {mg mb : Str → Option Value} {k : Nat} {fa a : Addr} {cs : List (Addr × Addr)} {fd : FuncData} {x : Str} {sp : Sp} {z : Shared} {vs : List Value} {ns : List Int}
    (KX : K.In z.heap) (hns : z.heap.Ns mainGlobals mg) (hb : z.heap.Ns builtinsNs mb) (hbb : ∀ x : Str, x ≠ "__name__" → mb x = bootBuiltins x) (hlim : z.heap.NoLimit) (hg : z.gens = #[])
    (tabs : ∀ p ∈ cs, z.heap.get? p.2 = some { cls := .none, data := .fields #[] }) (notK : ∀ p ∈ cs, K.lookup p.2 = none) (heads : ∀ p ∈ cs, PySem.W.CodeHd z.heap p.1 p.2)
    (bmod : ∃ (bm : Addr) (ob : Obj), mg "__builtins__" = some (.ref bm) ∧ bm ≠ builtinsNs ∧ z.heap.get? bm = some ob ∧ ob.cls = .type "module" ∧ ob.dict = some builtinsNs ∧ ob.data = .plain)
    (ha : z.heap.get? a = some { cls := .type "list", data := .seq vs.toArray }) (hi : IntsAre vs ns) (hl : ns.length ≤ sizeLine) (hr : Room k callerA)
    (F : ∀ base : Heap, K.In base → base.Ns mainGlobals mg → (∀ p ∈ cs, TabB base mg p.1 p.2) → FnG P w K mg base CX0 k fa fd [x] sp) (hbind : ∀ (s : Shared) (u : Value), BindsTo s fd ⟨[u], []⟩ [(x, u)])
    (hsp : ∀ H : Hp, (∀ p ∈ cs, H p.2 = some (.tbl #[])) → SqL K H a (ns.map V.int) → sp [.ref a] H (fun v _ => v = .bl true) fun _ _ _ => False) :
    codeAny (model P w) callerA (.call (.ref fa) ⟨[.ref a], []⟩) (fun r s' => r = .ok (.ret (.bool true)) ∧ OldK z.heap s'.heap ∧ s'.os = z.os ∧ AllBare s'.gens) z := by
  have tabAt : ∀ b, b ∈ cs.map (·.2) → z.heap.get? b = some { cls := .none, data := .fields #[] } := fun b hb => by
    obtain ⟨p, hp, rfl⟩ := List.mem_map.mp hb
    exact tabs p hp
  have inT : ∀ p, p ∈ cs → p.2 ∈ cs.map (·.2) := fun p hp => List.mem_map_of_mem hp
  have apart : a ∉ cs.map (·.2) := fun q => by
    have e := tabAt a q
    rw [ha] at e
    cases congrArg Obj.data (Option.some.inj e)
  have run : ∀ H : Hp, (∀ p ∈ cs, H p.2 = some (.tbl #[])) → (∀ b, H b = none ∨ b ∈ cs.map (·.2) ∨ ∃ o xs, H b = some (.frz o (.lst xs))) → SqL K H a (ns.map V.int) → HOk P w H z.heap → (∀ b, H b ≠ none → (b = a ∧ K.lookup a = none) ∨ b ∈ cs.map (·.2)) →
      codeAny (model P w) callerA (.call (.ref fa) ⟨[.ref a], []⟩) (fun r s' => r = .ok (.ret (.bool true)) ∧ OldK z.heap s'.heap ∧ s'.os = z.os ∧ AllBare s'.gens) z := by
    intro H hT hO hS hok hA
    have free : ∀ {b : Addr} {o : Obj}, z.heap.get? b = some o → (∀ us n, o.data ≠ .seq us n) → o.data ≠ .fields #[] → H b = none := fun {b o} e d1 d2 => Classical.byContradiction fun q => by
      rcases hA b q with ⟨e1, _⟩ | e1
      · rw [e1, ha] at e
        rw [← Option.some.inj e] at d1
        exact d1 _ _ rfl
      · rw [tabAt b e1] at e
        rw [← Option.some.inj e] at d2
        exact d2 rfl
    have freeD : ∀ {b : Addr} {o : Obj} {es : Array DictEntry} {ep : Nat}, z.heap.get? b = some o → o.data = .dict es ep → H b = none := fun e d => free e (fun us n q => by rw [d] at q; cases q) fun q => by rw [d] at q; cases q
    have nsOk : ∀ {b : Addr} {m : Str → Option Value}, z.heap.Ns b m → (hidT z.heap H).Ns b m := fun ⟨o, es, ep, e, d, r⟩ => ⟨o, es, ep, hidT_get e (freeD e d), d, r⟩
    have kin : K.In (hidT z.heap H) := fun b o e => hidT_get (KX b o e) (Classical.byContradiction fun q => by
      rcases hA b q with ⟨e1, e2⟩ | e1
      · rw [e1, e2] at e
        cases e
      · obtain ⟨p, hp, rfl⟩ := List.mem_map.mp e1
        rw [notK p hp] at e
        cases e)
    have md : Mod K mg (hidT z.heap H) := ⟨kin, nsOk hns, ⟨mb, nsOk hb, hbb⟩, let ⟨mc, h1, h2⟩ := hlim; ⟨mc, nsOk h1, h2⟩⟩
    have notMain : ∀ p ∈ cs, p.2 ≠ mainGlobals := fun p hp q => by
      obtain ⟨o, es, ep, e, d, _⟩ := hns
      rw [← q, tabs p hp] at e
      rw [← Option.some.inj e] at d
      cases d
    have TB : ∀ p ∈ cs, TabB (hidT z.heap H) mg p.1 p.2 := fun p hp => by
      refine ⟨?_, ?_, fun q => notMain p hp q.symm⟩
      · obtain ⟨o, us, file, tf, flags, tg, inF, text, tt, c1, c0, c2, c3, rest⟩ := heads p hp
        refine ⟨o, us, file, tf, flags, tg, inF, text, tt, hidT_get c1 (free c1 (fun us n q => by rw [c2] at q; cases q) fun q => ?_), c0, c2, c3, rest⟩
        rw [c2] at q
        cases q
        simp at c3
      · obtain ⟨bm, ob, b1, b2, b3, b4, b5, b6⟩ := bmod
        have m1 : bm ≠ mainGlobals := fun q => by
          obtain ⟨o, es, ep, e, d, _⟩ := hns
          rw [← q, b3] at e
          rw [← Option.some.inj e, b6] at d
          cases d
        have m2 : bm ≠ p.2 := fun q => by
          rw [q, tabs p hp] at b3
          rw [← Option.some.inj b3] at b6
          cases b6
        exact ⟨bm, ob, b1, b2, m1, m2, hidT_get b3 (free b3 (fun us n q => by rw [b6] at q; cases q) fun q => by rw [b6] at q; cases q), b4, b5, b6⟩
    have en : Env0 P w K mg (hidT z.heap H) callerA [] z H := ⟨rfl, md, fun b o e => of_hidT e, Nat.le_of_eq (hidT_size _ _), trivial, fun b hb => absurd hb List.not_mem_nil, hok, .of_eq hg⟩
    have fin := (F _ kin (nsOk hns) TB).go callerA [] z H ⟨[.ref a], []⟩ [.ref a] [.ref a] _ _ rfl hr en (hbind z (.ref a)) (.cons rfl .nil) (hsp H hT hS)
    refine codeAny_mono fin fun r s' h => ?_
    match r, h with
    | .error e, h => exact absurd h id
    | .ok (.ret u), h =>
      obtain ⟨v, H', os, bare, un, hok', r', q⟩ := h
      have q' : v = .bl true := q
      rw [q'] at r'
      have ru : u = Value.bool true := r'
      have kept : ∀ b o, b ∉ cs.map (·.2) → z.heap.get? b = some o → s'.heap.get? b = some o := fun b o nt e => by
        rcases hO b with y | y | ⟨ob, xs, y⟩
        · exact un.keep b o e y List.not_mem_nil List.not_mem_nil
        · exact absurd y nt
        · obtain ⟨e2, _⟩ := hok' b _ (un.frzs b ob _ y)
          obtain ⟨e1, _⟩ := hok b _ y
          rw [e] at e1
          rw [Option.some.inj e1]
          exact e2
      have grown : ∀ p, p ∈ cs → ∃ more : Array Value, s'.heap.get? p.2 = some { cls := .none, data := .fields more } := fun p hp => let ⟨_, y⟩ := un.tbls p.2 #[] (hT p hp); ⟨_, hok' p.2 _ y⟩
      refine ⟨by rw [ru], ⟨fun b o e => ?_, fun b o e => ?_⟩, os, bare⟩
      · by_cases hb : b ∈ cs.map (·.2)
        · obtain ⟨p, hp, rfl⟩ := List.mem_map.mp hb
          obtain ⟨more, hm⟩ := grown p hp
          rw [tabs p hp] at e
          cases e
          exact .inr (.inl ⟨((heads p hp).tab (tabs p hp)).isCodeTable, rfl, #[], more, rfl, by rw [Array.empty_append]; exact hm⟩)
        · exact .inl (kept b o hb e)
      · by_cases hb : b ∈ cs.map (·.2)
        · obtain ⟨p, hp, rfl⟩ := List.mem_map.mp hb
          exact let ⟨more, hm⟩ := grown p hp; ⟨_, hm⟩
        · exact ⟨o, kept b o hb e⟩
  have rv := vals_ints hi
  by_cases hk : K.lookup a = none
  · refine run (fun b => if b = a then some (.frz { cls := .type "list", data := .seq vs.toArray } (.lst (ns.map V.int))) else if b ∈ cs.map (·.2) then some (.tbl #[]) else none) (fun p hp => ?_) (fun b => ?_) (.inl (.inr ⟨_, if_pos rfl⟩)) (fun b u y => ?_) fun b y => ?_
    · have ne : p.2 ≠ a := fun q => apart (q ▸ inT p hp)
      exact (if_neg ne).trans (if_pos (inT p hp))
    · by_cases q : b = a
      · exact .inr (.inr ⟨_, _, if_pos q⟩)
      · by_cases q2 : b ∈ cs.map (·.2)
        · exact .inr (.inl q2)
        · exact .inl ((if_neg q).trans (if_neg q2))
    · by_cases q : b = a
      · rw [q] at y ⊢
        have y2 := (if_pos rfl).symm.trans y
        rw [← Option.some.inj y2]
        exact ⟨ha, by rw [List.length_map]; exact hl, vs, _, rv, ha⟩
      · have y1 := (if_neg q).symm.trans y
        by_cases q2 : b ∈ cs.map (·.2)
        · have y2 := (if_pos q2).symm.trans y1
          rw [← Option.some.inj y2]
          exact tabAt b q2
        · cases (if_neg q2).symm.trans y1
    · by_cases q : b = a
      · exact .inl ⟨q, hk⟩
      · by_cases q2 : b ∈ cs.map (·.2)
        · exact .inr q2
        · exact absurd ((if_neg q).trans (if_neg q2)) y
  · obtain ⟨o, ho⟩ := Option.ne_none_iff_exists'.mp hk
    have e := KX a o ho
    rw [ha] at e
    cases e
    refine run (fun b => if b ∈ cs.map (·.2) then some (.tbl #[]) else none) (fun p hp => if_pos (inT p hp)) (fun b => ?_) (.inr ⟨_, vs.toArray, _, ho, rfl, rfl, rfl, by rw [List.size_toArray, hi.length]; exact hl, by simpa using rv⟩) (fun b u y => ?_) fun b y => ?_
    · by_cases q2 : b ∈ cs.map (·.2)
      · exact .inr (.inl q2)
      · exact .inl (if_neg q2)
    · by_cases q2 : b ∈ cs.map (·.2)
      · have y2 := (if_pos q2).symm.trans y
        rw [← Option.some.inj y2]
        exact tabAt b q2
      · cases (if_neg q2).symm.trans y
    · by_cases q2 : b ∈ cs.map (·.2)
      · exact .inr q2
      · exact absurd (if_neg q2) y
theorem walkTG {l : PySem.W.OpenLaw} {n k : Nat} {q : Program} {loose : List Str} {XP : (Str → Option Value) → Heap → Prop} {YP : World → Heap → Prop} {d : DefRec} {K : Params → PySem.W.Frag} {x : Str}
    (hn : l.most = some n) (hn2 : n ≤ sizeLine) (hdf : d.params.defaults = []) (hr : Room k callerA) (hY : ∀ (w : World) (h : Heap), YP w h → (K w.params).In h)
    (F : ∀ (w : World) (mg : Str → Option Value) (fa : Addr) (h : Heap), (K w.params).In h → h.Ns mainGlobals mg → mg d.name = some (.ref fa) →
      (∀ (x : Str) (d : DefRec) (c P : Addr), (recsOf q).find? (fun e => e.name == x) = some d → PySem.W.tabIn (K w.params) x = some (c, P) → PySem.W.CodeHd h c P ∧ h.get? P = some (PySem.W.tabObj #[])) →
      ∃ (fd : FuncData) (cs : List (Addr × Addr)) (sp : Sp), (∀ p ∈ cs, h.get? p.2 = some { cls := .none, data := .fields #[] }) ∧ (∀ p ∈ cs, (K w.params).lookup p.2 = none) ∧ (∀ p ∈ cs, PySem.W.CodeHd h p.1 p.2) ∧
        (∀ (s : Shared) (u : Value), BindsTo s fd ⟨[u], []⟩ [(x, u)]) ∧
        (∀ (H : Hp) (a : Addr) (ns : List Int), ns.length ≤ n → (∀ p ∈ cs, H p.2 = some (.tbl #[])) → SqL (K w.params) H a (ns.map V.int) → sp [.ref a] H (fun v _ => v = .bl true) fun _ _ _ => False) ∧
        ∀ base : Heap, (K w.params).In base → base.Ns mainGlobals mg → (∀ p ∈ cs, TabB base mg p.1 p.2) → FnG l.prog w (K w.params) mg base CX0 k fa fd [x] sp) :
    PySem.W.WalkO q loose XP YP l.row.toRowW d [] (fun f vs => PySem.call f vs) := by
  refine Att.attach_callB hn hdf fun w s₀ z mg mb fa o pm cd doc a vs ns G Y ho hd hcd hmg hobj hints hlen hbits hg => ?_
  have KX := hY w _ Y
  obtain ⟨fd, cs, sp, hT, nT, hC, hb, hsp, hF⟩ := F w mg fa _ KX G.T.g hmg fun x d c P h1 h2 => PySem.W.tab_of G.T KX h1 h2
  exact lawTG KX G.T.g G.T.b G.T.builtins G.T.nolimit hg hT nT hC G.T.bmain hobj hints (Nat.le_trans hlen hn2) hr hF hb fun H hH hS => hsp H a ns hlen hH hS
end My
namespace My
open PySem PySem.Spec PyProof.Rows L2
open LamX (TabB Tabs TabS ExtN CodeO LamS)
open LowV (ErrV)
section
variable {K : PySem.W.Frag} {h : Heap} {mg : Str → Option Value}
theorem defAt_mk {x : Str} {st : Stmt} {f : Addr} {oc : Value} {od an : Option Addr} {osl : Array (Option Value)} {kV doc pm cdv ct : Value} (X : K.In h) (G : h.Ns mainGlobals mg) (a : PySem.W.nsIn K mainGlobals x = some (some (.ref f)))
    (l : K.lookup f = some ⟨oc, od, .func (PySem.W.fnOf x x (defArgs st) (defBody st) (defScope st) .none kV doc pm an cdv ct), osl⟩) (c : PySem.W.codeIn K cdv x = true) (k : PySem.W.keepIn K (.ref f) = true) : DefAt K mg x st :=
  ⟨f, _, PySem.W.mg_of X G a, fun_mk l c k⟩

theorem excInit_mk {C : Addr} {o : Obj} {bmB : List Value} {newId : String} (l : K.lookup C = some o) (m : PySem.W.excInitIn [(C, o)] C bmB newId = true) : PySem.W.excInitIn K C bmB newId = true := by
  have e : List.lookup C [(C, o)] = some o := by simp [List.lookup]
  unfold PySem.W.excInitIn at m ⊢
  rw [e] at m
  rw [l]
  exact m
theorem excOver_mk {C : Addr} {o : Obj} {bmB : List Value} (l : K.lookup C = some o) (m : PySem.W.excOver [(C, o)] C bmB = true) : PySem.W.excOver K C bmB = true := by
  have e : List.lookup C [(C, o)] = some o := by simp [List.lookup]
  unfold PySem.W.excOver PySem.W.clsIn at m ⊢
  rw [e] at m
  rw [l]
  exact m
theorem wordC_mk {s : Str} {t1 t2 t3 t4 t5 : Tok} (X : K.In h) (G : h.Ns mainGlobals mg) (a : PySem.W.nsIn K mainGlobals "LETTERS" = some (some (.str s t1))) (e : s = letS) (b : PySem.W.nsIn K mainGlobals "MAX_LETTERS" = some (some (.int 8 t2))) (c : PySem.W.nsIn K mainGlobals "LAST_INDEX" = some (some (.int 701 t3)))
    (d : PySem.W.nsIn K mainGlobals "MAX_KNOWN" = some (some (.int 200 t4))) (f : PySem.W.nsIn K mainGlobals "MAX_NEW" = some (some (.int 100 t5))) : WordC mg := by
  subst e
  exact ⟨⟨_, PySem.W.mg_of X G a⟩, ⟨_, PySem.W.mg_of X G b⟩, ⟨_, PySem.W.mg_of X G c⟩, ⟨_, PySem.W.mg_of X G d⟩, ⟨_, PySem.W.mg_of X G f⟩⟩
theorem mf_mk {t : Tok} (X : K.In h) (G : h.Ns mainGlobals mg) (a : PySem.W.nsIn K mainGlobals "MAX_FIGURES" = some (some (.int 60 t))) : ∃ t, mg "MAX_FIGURES" = some (.int 60 t) := ⟨_, PySem.W.mg_of X G a⟩
theorem countE_mk {C fI : Addr} {oc : Value} {od : Option Addr} {doc pm : Value} {an : Option Addr} {cdv ct : Value} {osl : Array (Option Value)} {p1 p2 q1 q2 q3 q4 : Pos} (X : K.In h) (G : h.Ns mainGlobals mg)
    (gC : PySem.W.nsIn K mainGlobals "InvalidCount" = some (some (.ref C))) (iC : PySem.W.findIn K (.ref C) "__init__" = some (some (.ref fI)))
    (l : K.lookup fI = some ⟨oc, od, .func (PySem.W.fnOf "__init__" "InvalidCount.__init__" (LowV.vA p1 p2) (LowV.vB q1 q2 q3 q4) LowV.vS .none .none doc pm an cdv ct), osl⟩) (c : PySem.W.codeIn K cdv "InvalidCount.__init__" = true)
    (q : PySem.W.excInitIn K C ixTail "IndexError.__new__" = true) (ov : PySem.W.excOver K C ixTail = true) (tk : PySem.W.takerIn K C "value" = some none) (sa : PySem.W.findIn K (.ref C) "__setattr__" = some (some (.builtin "object.__setattr__")))
    (ga : PySem.W.findIn K (.ref C) "__getattribute__" = some (some (.builtin "BaseException.__getattribute__"))) (gg : PySem.W.findIn K (.ref C) "__getattr__" = some none) (noN : PySem.W.findIn K (.ref C) "value" = some none) (tC : PySem.W.typeIn K (.ref fI) = some (.type "function"))
    (kC : PySem.W.keepIn K (.ref C) = true) (exC : PySem.W.subIn K (.ref C) (.type "BaseException") = some true) (tyC : PySem.W.typeIn K (.ref C) = some (.type "type")) (hdC : PySem.W.hasDictIn K C = true) : CountE K mg C fI :=
  ⟨PySem.W.mg_of X G gC, q, ov, tk, sa, ga, gg, noN, iC, tC, kC, exC, tyC, hdC, oc, od, doc, pm, an, cdv, ct, osl, p1, p2, q1, q2, q3, q4, l, c⟩
end
/-- all that the top has made, as the law needs it -/
structure Facts (K : PySem.W.Frag) (mg : Str → Option Value) (IC fI IO c1 P1 c2 P2 : Addr) : Prop where
  T : Bn mg
  WC : WordC mg
  MF : ∃ t, mg "MAX_FIGURES" = some (.int 60 t)
  EC : CountE K mg IC fI
  EO : ErrT K mg "InvalidOperation" IO
  ET : ExE K IC IO
  d11 : DefAt K mg "is_any_integer" (top 11)
  d12 : DefAt K mg "is_integer" (top 12)
  d13 : DefAt K mg "is_count" (top 13)
  d14 : DefAt K mg "is_name" (top 14)
  d15 : DefAt K mg "are_names" (top 15)
  d16 : DefAt K mg "require_count" (top 16)
  d17 : DefAt K mg "nth_name" (top 17)
  d18 : DefAt K mg "new_names" (top 18)
  d20 : DefAt K mg "_law_dice" (top 20)
  d21 : DefAt K mg "_law_roll" (top 21)
  d22 : DefAt K mg "_law_pick" (top 22)
  d23 : DefAt K mg "_law_mixed" (top 23)
  d24 : DefAt K mg "_law_some" (top 24)
  d25 : DefAt K mg "_law_nth" (top 25)
  d26 : DefAt K mg "_law_error" (top 26)
  d27 : DefAt K mg "_law_lettered" (top 27)
  d28 : DefAt K mg "_law_any_word" (top 28)
  d29 : DefAt K mg "_law_any_integer" (top 29)
  d30 : DefAt K mg "_law_judged" (top 30)
  d33 : DefAt K mg "law" (top 33)
  m31 : LamD K mg "_law_listed" (top 31) c1 P1
  m32 : LamD K mg "_law_refused" (top 32) c2 P2
  n12 : P1 ≠ P2
theorem final {q : Program} {K : PySem.W.Frag} {h : Heap} {mg : Str → Option Value} {IC fI IO fa c1 P1 c2 P2 : Addr} {P : Program} {w : World} (hmg : mg "law" = some (.ref fa)) (F : Facts K mg IC fI IO c1 P1 c2 P2)
    (tabs : ∀ (x : Str) (d : DefRec) (c P : Addr), (recsOf q).find? (fun e => e.name == x) = some d → PySem.W.tabIn K x = some (c, P) → PySem.W.CodeHd h c P ∧ h.get? P = some (PySem.W.tabObj #[]))
    (r1 : ((recsOf q).find? fun e => e.name == ("_law_listed" : Str)).isSome = true) (r2 : ((recsOf q).find? fun e => e.name == ("_law_refused" : Str)).isSome = true) :
    ∃ (fd : FuncData) (cs : List (Addr × Addr)) (sp : Sp), (∀ p ∈ cs, h.get? p.2 = some { cls := .none, data := .fields #[] }) ∧ (∀ p ∈ cs, K.lookup p.2 = none) ∧ (∀ p ∈ cs, PySem.W.CodeHd h p.1 p.2) ∧
        (∀ (s : Shared) (u : Value), BindsTo s fd ⟨[u], []⟩ [("_law_script", u)]) ∧
        (∀ (H : Hp) (a : Addr) (ns : List Int), ns.length ≤ 63 → (∀ p ∈ cs, H p.2 = some (.tbl #[])) → SqL K H a (ns.map V.int) → sp [.ref a] H (fun v _ => v = .bl true) fun _ _ _ => False) ∧
        ∀ base : Heap, K.In base → base.Ns mainGlobals mg → (∀ p ∈ cs, TabB base mg p.1 p.2) → FnG P w K mg base CX0 9 fa fd ["_law_script"] sp := by
  obtain ⟨f, fd, hm, D⟩ := F.d33.ex
  have ef : f = fa := by
    have := hm.symm.trans hmg
    cases this
    rfl
  subst ef
  obtain ⟨d1, q1⟩ := Option.isSome_iff_exists.mp r1
  obtain ⟨d2, q2⟩ := Option.isSome_iff_exists.mp r2
  have t1 := tabs _ _ _ _ q1 F.m31.tab
  have t2 := tabs _ _ _ _ q2 F.m32.tab
  have mem : ∀ p : Addr × Addr, p ∈ [(c1, P1), (c2, P2)] → p = (c1, P1) ∨ p = (c2, P2) := fun p hp => by simpa using hp
  refine ⟨fd, [(c1, P1), (c2, P2)], spLaw K [(P1, lamQ "_law_listed"), (P2, lamQ "_law_refused")], fun p hp => ?_, fun p hp => ?_, fun p hp => ?_, law_binds D, fun H a ns hl hH hS => ⟨a, ns, rfl, hS, hl, fun p hp => ?_, fun _ => rfl⟩, fun base _ _ TB => ?_⟩
  · rcases mem p hp with rfl | rfl
    · exact t1.2
    · exact t2.2
  · rcases mem p hp with rfl | rfl
    · exact F.m31.no
    · exact F.m32.no
  · rcases mem p hp with rfl | rfl
    · exact t1.1
    · exact t2.1
  · have hp' : p = (P1, lamQ "_law_listed") ∨ p = (P2, lamQ "_law_refused") := by simpa using hp
    rcases hp' with rfl | rfl
    · exact TabS.nil (hH (c1, P1) (by simp))
    · exact TabS.nil (hH (c2, P2) (by simp))
  have TB1 := TB (c1, P1) (by simp)
  have TB2 := TB (c2, P2) (by simp)
  have T := F.T
  have WC := F.WC
  have a_dice := ok_dice (P := P) (w := w) (base := base) T F.d20
  have a_roll := ok_roll (P := P) (w := w) (base := base) T F.d21
  have a_pick := ok_pick T F.d22 a_roll
  have a_isintA := ok_isintA (K := K) (P := P) (w := w) (base := base) T F.d11
  have a_is60 := ok_isint60 T F.d12 a_isintA
  have a_cnt := ok_iscount T F.d13 a_is60
  have a_nm := ok_isname (K := K) (P := P) (w := w) (base := base) T WC F.d14
  have a_nms := ok_arenames T F.d15 a_nm
  have a_rcG := ok_reqcG T F.d16 a_is60
  have a_rcX := ok_reqcX T F.EC F.d16 a_is60
  have a_nthG := ok_nthG T WC F.d17 a_rcG
  have a_nthX := ok_nthX T WC F.d17 a_rcX
  have a_newG := ok_newnG T WC F.d18 a_nms a_rcG a_nthG
  have a_newX := ok_newnX T WC F.EO F.d18 a_nms a_rcX a_nthG
  have a_mix := ok_lmixed T F.d23 a_roll
  have a_some := ok_lsome T F.d24 a_roll
  have a_nth := ok_lnth (P := P) (w := w) (base := base) T F.d25
  have a_let := ok_llet (P := P) (w := w) (base := base) T F.d27
  have a_word := ok_lword2 T F.d28 a_roll
  have a_int := ok_lint T F.d29 a_roll a_pick
  have a_jud := ok_ljudged T F.d30 a_roll a_pick a_int a_word a_let a_is60 a_cnt a_nm a_nms
  have m1 : (P1, lamQ "_law_listed") ∈ [(P1, lamQ "_law_listed"), (P2, lamQ "_law_refused")] := List.mem_cons_self ..
  have m2 : (P2, lamQ "_law_refused") ∈ [(P1, lamQ "_law_listed"), (P2, lamQ "_law_refused")] := List.mem_cons_of_mem _ (List.mem_cons_self ..)
  have u1 : ∀ p ∈ [(P1, lamQ "_law_listed"), (P2, lamQ "_law_refused")], p.1 = P1 → p.2 = lamQ "_law_listed" := fun p hp e => by
    rcases List.mem_cons.mp hp with rfl | hp
    · rfl
    · rw [List.mem_singleton.mp hp] at e
      exact absurd e.symm F.n12
  have u2 : ∀ p ∈ [(P1, lamQ "_law_listed"), (P2, lamQ "_law_refused")], p.1 = P2 → p.2 = lamQ "_law_refused" := fun p hp e => by
    rcases List.mem_cons.mp hp with rfl | hp
    · exact absurd e F.n12
    · rw [List.mem_singleton.mp hp]
  have a_lst := ok_llisted T F.m31.d F.d26 F.EC F.EO F.ET TB1 m1 u1 a_roll a_pick a_nth a_mix a_some a_nthG a_nthX a_newG
  have a_ref := ok_lrefused T F.m32.d F.d26 F.EC F.EO F.ET TB2 m2 u2 a_pick a_nthX a_newX a_newG
  exact ok_law T WC F.MF D a_dice a_jud a_lst a_ref a_nthG a_newG
end My
open PySem PySem.W PyProof.Rows
set_option maxHeartbeats 0 in
theorem PySem.Challenge.cw_pieceround_k00_words_holds : PySem.Challenge.rw_pieceround_k00_words.Holds := by
  w_on; o_law; k_head; (case hw => w_witness2)
  k_fill
  refine My.walkTG (l := PySem.Challenge.rw_pieceround_k00_words) (n := 63) (k := 9) (x := "_law_script") rfl (by decide) rfl ⟨rfl, by decide, by decide⟩ (fun w h Y => PySem.W.km_in_of Y) ?F
  case F =>
    intro w mg fa h KX G hmg tabs
    refine My.final (IC := ?nIC) (fI := ?nfI) (IO := ?nIO) (c1 := ?c1) (P1 := ?P1) (c2 := ?c2) (P2 := ?P2) hmg ?FF tabs ?r1 ?r2
    case FF =>
      have T : My.Bn mg := by constructor <;> exact PySem.W.mg_none_of KX G (by k_is)
      refine { T := T, WC := ?WC, MF := ?MF, EC := ?EC, EO := ?EO, ET := ?ET, d11 := ?d11, d12 := ?d12, d13 := ?d13, d14 := ?d14, d15 := ?d15, d16 := ?d16, d17 := ?d17, d18 := ?d18, d20 := ?d20, d21 := ?d21, d22 := ?d22, d23 := ?d23, d24 := ?d24, d25 := ?d25, d26 := ?d26, d27 := ?d27, d28 := ?d28, d29 := ?d29, d30 := ?d30, d33 := ?d33, m31 := ?m31, m32 := ?m32, n12 := ?n12 }
      case WC =>
        refine' My.wordC_mk KX G ?qw1 ?qw2 ?qw3 ?qw4 ?qw5 ?qw6
        case qw1 => k_is
        case qw2 => decide
        case qw3 => k_is
        case qw4 => k_is
        case qw5 => k_is
        case qw6 => k_is
      case MF =>
        refine' My.mf_mk KX G ?qm1
        case qm1 => k_is
      case EC =>
        refine' My.countE_mk KX G ?qc1 ?qc2 ?qc3 ?qc4 ?qc5 ?qc6 ?qc7 ?qc8 ?qc9 ?qc10 ?qc11 ?qc12 ?qc13 ?qc14 ?qc15 ?qc16
        case qc1 => k_is
        case qc2 => k_is
        case qc3 => k_is
        case qc4 => k_is
        case qc5 =>
          refine' My.excInit_mk ?qi1 ?qi2
          case qi1 => k_is
          case qi2 => decide +kernel
        case qc6 =>
          refine' My.excOver_mk ?qo1 ?qo2
          case qo1 => k_is
          case qo2 => decide +kernel
        case qc7 => k_is
        case qc8 => k_is
        case qc9 => k_is
        case qc10 => k_is
        case qc11 => k_is
        case qc12 => k_is
        case qc13 => k_is
        case qc14 => k_is
        case qc15 => k_is
        case qc16 => k_is
      case EO => (refine' ⟨PySem.W.mg_of (by assumption) (by assumption) ?qea, ?qeb, ⟨_, rfl, ?qec⟩, ?qed, ?qee⟩; (case qea => k_is); (case qeb => k_is); (case qec => k_exc); (case qed => k_is); (case qee => k_is))
      case ET =>
        refine' ⟨?nn, ?on, ?oo⟩
        case nn => (refine' My.exm_mk ?qxh ?qxi ?qxt ?qxs; (case qxh => k_is); (case qxi => k_is); (case qxt => k_is); (case qxs => k_is))
        case on => (refine' My.exm_mk ?qxh ?qxi ?qxt ?qxs; (case qxh => k_is); (case qxi => k_is); (case qxt => k_is); (case qxs => k_is))
        case oo => (refine' My.exm_mk ?qxh ?qxi ?qxt ?qxs; (case qxh => k_is); (case qxi => k_is); (case qxt => k_is); (case qxs => k_is))
      case d11 => (refine' My.defAt_mk (by assumption) (by assumption) ?qda ?qdl ?qdc ?qdk; (case qda => k_is); (case qdl => k_is); (case qdc => k_is); (case qdk => k_is))
      case d12 => (refine' My.defAt_mk (by assumption) (by assumption) ?qda ?qdl ?qdc ?qdk; (case qda => k_is); (case qdl => k_is); (case qdc => k_is); (case qdk => k_is))
      case d13 => (refine' My.defAt_mk (by assumption) (by assumption) ?qda ?qdl ?qdc ?qdk; (case qda => k_is); (case qdl => k_is); (case qdc => k_is); (case qdk => k_is))
      case d14 => (refine' My.defAt_mk (by assumption) (by assumption) ?qda ?qdl ?qdc ?qdk; (case qda => k_is); (case qdl => k_is); (case qdc => k_is); (case qdk => k_is))
      case d15 => (refine' My.defAt_mk (by assumption) (by assumption) ?qda ?qdl ?qdc ?qdk; (case qda => k_is); (case qdl => k_is); (case qdc => k_is); (case qdk => k_is))
      case d16 => (refine' My.defAt_mk (by assumption) (by assumption) ?qda ?qdl ?qdc ?qdk; (case qda => k_is); (case qdl => k_is); (case qdc => k_is); (case qdk => k_is))
      case d17 => (refine' My.defAt_mk (by assumption) (by assumption) ?qda ?qdl ?qdc ?qdk; (case qda => k_is); (case qdl => k_is); (case qdc => k_is); (case qdk => k_is))
      case d18 => (refine' My.defAt_mk (by assumption) (by assumption) ?qda ?qdl ?qdc ?qdk; (case qda => k_is); (case qdl => k_is); (case qdc => k_is); (case qdk => k_is))
      case d20 => (refine' My.defAt_mk (by assumption) (by assumption) ?qda ?qdl ?qdc ?qdk; (case qda => k_is); (case qdl => k_is); (case qdc => k_is); (case qdk => k_is))
      case d21 => (refine' My.defAt_mk (by assumption) (by assumption) ?qda ?qdl ?qdc ?qdk; (case qda => k_is); (case qdl => k_is); (case qdc => k_is); (case qdk => k_is))
      case d22 => (refine' My.defAt_mk (by assumption) (by assumption) ?qda ?qdl ?qdc ?qdk; (case qda => k_is); (case qdl => k_is); (case qdc => k_is); (case qdk => k_is))
      case d23 => (refine' My.defAt_mk (by assumption) (by assumption) ?qda ?qdl ?qdc ?qdk; (case qda => k_is); (case qdl => k_is); (case qdc => k_is); (case qdk => k_is))
      case d24 => (refine' My.defAt_mk (by assumption) (by assumption) ?qda ?qdl ?qdc ?qdk; (case qda => k_is); (case qdl => k_is); (case qdc => k_is); (case qdk => k_is))
      case d25 => (refine' My.defAt_mk (by assumption) (by assumption) ?qda ?qdl ?qdc ?qdk; (case qda => k_is); (case qdl => k_is); (case qdc => k_is); (case qdk => k_is))
      case d26 => (refine' My.defAt_mk (by assumption) (by assumption) ?qda ?qdl ?qdc ?qdk; (case qda => k_is); (case qdl => k_is); (case qdc => k_is); (case qdk => k_is))
      case d27 => (refine' My.defAt_mk (by assumption) (by assumption) ?qda ?qdl ?qdc ?qdk; (case qda => k_is); (case qdl => k_is); (case qdc => k_is); (case qdk => k_is))
      case d28 => (refine' My.defAt_mk (by assumption) (by assumption) ?qda ?qdl ?qdc ?qdk; (case qda => k_is); (case qdl => k_is); (case qdc => k_is); (case qdk => k_is))
      case d29 => (refine' My.defAt_mk (by assumption) (by assumption) ?qda ?qdl ?qdc ?qdk; (case qda => k_is); (case qdl => k_is); (case qdc => k_is); (case qdk => k_is))
      case d30 => (refine' My.defAt_mk (by assumption) (by assumption) ?qda ?qdl ?qdc ?qdk; (case qda => k_is); (case qdl => k_is); (case qdc => k_is); (case qdk => k_is))
      case d33 => (refine' My.defAt_mk (by assumption) (by assumption) ?qda ?qdl ?qdc ?qdk; (case qda => k_is); (case qdl => k_is); (case qdc => k_is); (case qdk => k_is))
      case m31 => (refine' My.lamD_mk (by assumption) (by assumption) ?qla ?qll ?qlc ?qlk ?qllc ?qlp ?qln; (case qla => k_is); (case qll => k_is); (case qlc => k_is); (case qlk => k_is); (case qllc => k_is); (case qlp => exact rfl); (case qln => exact rfl))
      case m32 => (refine' My.lamD_mk (by assumption) (by assumption) ?qla ?qll ?qlc ?qlk ?qllc ?qlp ?qln; (case qla => k_is); (case qll => k_is); (case qlc => k_is); (case qlk => k_is); (case qllc => k_is); (case qlp => exact rfl); (case qln => exact rfl))
      case n12 => decide
    case r1 => decide +kernel
    case r2 => decide +kernel
