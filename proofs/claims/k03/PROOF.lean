import PyProof.Rows.All
import Wide.All
import OpenK.AllK
import Wide.FinOn
import HandS.ForMost
import HandS.Wide
import HandS.Gcd
import HandS.Property
import HandS.MakeKwOnly
import HandS.IsInst
import HandS.OwnEq
import HandS.Evl
import KE.KOpsOwn
import KE.KMathG
import PyProof.InstNe
import PyProof.ReprRoads
import HandS.Lambda
import HandS.WideBits
import PyProof.Rows.PlainNe
import HandS.RaiseMore
import Flt.RightSqrt
import HandS.FStr
import PyProof.FString3
import PyProof.Rows.StrIntSpec
import KE.KCallOwn
import PyProof.Rows.RegStrFacts
import HandS.TryOnly
import PySem.Challenge.RW_pieceround_k03_numbers_compared
set_option Elab.async false
set_option exponentiation.threshold 20000
set_option linter.all false
set_option maxHeartbeats 4000000
set_option maxRecDepth 100000
namespace My
open PySem PySem.Spec PyProof.Rows L2

theorem cmpBack_of {P : Value → Shared → Prop} {z : V} {w : Value} {s : Shared} (r : RelV z w) (h : P w s) : PySem.W.CmpBack P w s := by
  cases z with
  | non => cases r; exact h
  | bl _ => cases r; exact h
  | int _ => obtain ⟨t, rfl⟩ := r; exact h
  | str _ => obtain ⟨t, rfl⟩ := r; exact h
  | byt _ => obtain ⟨t, rfl⟩ := r; exact h
  | flt _ => obtain ⟨t, rfl⟩ := r; exact h
  | ref _ => cases r; exact h
  | ty _ => cases r; exact h

/-- the class at C has the def at f as its operator -/
structure OwnOp (K : PySem.W.Frag) (C : Addr) (op : Operator) (f : Addr) : Prop where
  sf : PySem.W.selfFirst K C = true
  at_ : PySem.W.findIn K (.ref C) (PySem.dunder op.info.2) = some (some (.ref f))
  fn : PySem.W.isFn K (.ref f) = true
  rr : PySem.W.findIn K (.ref C) (dunderR op.info.2) = some none
  i1 : ∃ fo, PySem.W.findIn K (.type "int") (PySem.dunder op.info.2) = some fo
  i2 : ∃ ro, PySem.W.findIn K (.type "int") (dunderR op.info.2) = some ro
  sub : PySem.W.subIn K (.type "int") (.ref C) = some false

/-- x op y, x an instance, y an instance or an int -/
def rOwn (C : Addr) (sp : Sp) (E : XK) : R2 := fun x y H Q => ∃ a dx fs, x = .ref a ∧ H a = some (.ins C dx fs) ∧ ((∃ i, y = .int i) ∨ ∃ b dy gs, y = .ref b ∧ H b = some (.ins C dy gs)) ∧ sp [.ref a, y] H Q E

section
variable {X : Cx} {CX : CXT} {k : Nat} {f C : Addr} {fd : FuncData} {ps : List Str} {sp : Sp} {E : XK} {op : Operator}
theorem op_own (W : OwnOp X.K C op f) (F : FnOk X.prog X.w X.K X.mg X.base CX k f fd ps sp) (hr : Room k X.A) (hb : Binds X.K fd ps []) (hx : Passes CX X E) : OpR X (binaryOp op) (rOwn C sp E) := by
  intro pins s σ H x y v u Q I rx ry hq
  obtain ⟨a, dx, fs, rfl, ea, hy, hsp⟩ := hq
  cases rx
  obtain ⟨mA, O, _⟩ := ins_get I.hok ea
  obtain ⟨od, J, _⟩ := O.look
  obtain ⟨m, hF⟩ := I.fr
  have hcall : wpAny (model X.prog X.w) X.A (call (.ref f) [.ref a, u]) (PySem.W.CmpBack (EP X pins σ Q)) X.xe s := by
    refine wpAny_mono (run_fn (us := [.ref a, u]) (vs := [.ref a, y]) (dvs := []) (ds := []) F hr hb .nil hx I (.cons rfl (.cons ry .nil)) hsp) (fun w s' hw => ?_) fun _ _ e => e
    obtain ⟨z, H', I', rz, q⟩ := hw
    exact cmpBack_of rz ⟨z, H', I', rz, q⟩
  rcases hy with ⟨i, rfl⟩ | ⟨b, dy, gs, rfl, eb⟩
  · obtain ⟨t, rfl⟩ := ry
    obtain ⟨fo, h1⟩ := W.i1
    obtain ⟨ro, h2⟩ := W.i2
    exact PySem.W.ksp_binT (T := "int") hF I.ok.mod.kin J (by rfl) W.sf W.at_ W.fn W.rr (.inl rfl) h1 h2 W.sub hcall
  · cases ry
    obtain ⟨mB, O', _⟩ := ins_get I.hok eb
    obtain ⟨od', J', _⟩ := O'.look
    exact PySem.W.binop_K hF I.ok.mod.kin J J'.type W.sf W.at_ W.fn hcall

/-- -x -/
def rOwnU (C : Addr) (sp : Sp) (E : XK) : V → Hp → VK → Prop := fun x H Q => ∃ a dx fs, x = .ref a ∧ H a = some (.ins C dx fs) ∧ sp [.ref a] H Q E
theorem un_ownNeg (hs : PySem.W.findIn X.K (.ref C) "__neg__" = some (some (.ref f))) (hf : PySem.W.isFn X.K (.ref f) = true) (F : FnOk X.prog X.w X.K X.mg X.base CX k f fd ps sp) (hr : Room k X.A) (hb : Binds X.K fd ps []) (hx : Passes CX X E) : UnR X (unaryOp .USub) (rOwnU C sp E) := by
  intro pins s σ H x v Q I rx hq
  obtain ⟨a, dx, fs, rfl, ea, hsp⟩ := hq
  cases rx
  obtain ⟨mA, O, _⟩ := ins_get I.hok ea
  obtain ⟨od, J, _⟩ := O.look
  obtain ⟨m, hF⟩ := I.fr
  exact PySem.W.ksp_neg hF I.ok.mod.kin J hs hf (run_fn (us := [.ref a]) (vs := [.ref a]) (dvs := []) (ds := []) F hr hb .nil hx I (.cons rfl .nil) hsp)

/-- x == y of two instances, by the class's own def, whatever the answer -/
def rOwnEq (C : Addr) (sp : Sp) (E : XK) : R2 := fun x y H Q => ∃ a dx fs b dy gs, x = .ref a ∧ H a = some (.ins C dx fs) ∧ y = .ref b ∧ H b = some (.ins C dy gs) ∧ sp [.ref a, .ref b] H Q E
theorem op_ownEq (hs : PySem.W.findIn X.K (.ref C) "__eq__" = some (some (.ref f))) (hf : PySem.W.isFn X.K (.ref f) = true) (F : FnOk X.prog X.w X.K X.mg X.base CX k f fd ps sp) (hr : Room k X.A) (hb : Binds X.K fd ps []) (hx : Passes CX X E) : OpR X (compareOp .Eq) (rOwnEq C sp E) := by
  intro pins s σ H x y v u Q I rx ry hq
  obtain ⟨a, dx, fs, b, dy, gs, rfl, ea, rfl, eb, hsp⟩ := hq
  cases rx
  cases ry
  obtain ⟨mA, O, _⟩ := ins_get I.hok ea
  obtain ⟨od, J, _⟩ := O.look
  obtain ⟨mB, O', _⟩ := ins_get I.hok eb
  obtain ⟨od', J', _⟩ := O'.look
  obtain ⟨m, hF⟩ := I.fr
  show wpAny (model X.prog X.w) X.A (richCompare .Eq (.ref a) (.ref b)) (EP X pins σ Q) X.xe s
  refine PySem.W.cmp_K (op := .Eq) (tb := .ref C) hr.units0 hF I.ok.mod.kin J J'.type (by simp [PySem.W.notFirst]) hs hf ?_
  refine wpAny_mono (run_fn (us := [.ref a, .ref b]) (vs := [.ref a, .ref b]) (dvs := []) (ds := []) F hr hb .nil hx I (.cons rfl (.cons rfl .nil)) hsp) (fun w s' hw => ?_) fun _ _ e => e
  obtain ⟨z, H', I', rz, q⟩ := hw
  exact cmpBack_of rz ⟨z, H', I', rz, q⟩
end

/-! ### math -/
theorem args_gcd3 (a b c : Value) : argsOk "math.gcd" ⟨[a, b, c], []⟩ := by unfold argsOk; kernel_rfl
theorem run_gcd3 (a : Int) (t : Tok) (b : Int) (u : Tok) (c : Int) (w : Tok) :
    Gives (Builtin.«math.gcd» ⟨[.int a t, .int b u, .int c w], []⟩) (.int ((((((Nat.gcd 0 a.natAbs).gcd b.natAbs).gcd c.natAbs) : Nat) : Int))) :=
  .of_wp fun M A E s Q h => by obtain ⟨hp, g, d, tk, os⟩ := s; wp_walk; exact ⟨_, rfl, h⟩
def rGcd3 : List V → Hp → VK → Prop := fun vs H Q => ∃ a b c : Int, vs = [.int a, .int b, .int c] ∧ Q (.int ((Nat.gcd (Nat.gcd a.natAbs b.natAbs) c.natAbs : Nat) : Int)) H
def rSqrt : List V → Hp → VK → Prop := fun vs H Q => ∃ a : Int, vs = [.int a] ∧ 0 ≤ a ∧ a.toNat < 2 ^ 13000 ∧ Q (.int ((Float64.isqrt a.toNat : Nat) : Int)) H
section
variable {X : Cx}
theorem cr_gcd3 : CallR X (.builtin "math.gcd") rGcd3 := by
  intro pins s σ H vs us Q I r h
  obtain ⟨a, b, c, rfl, q⟩ := h
  cases r with
  | cons r1 r => cases r with
    | cons r2 r => cases r with
      | cons r3 r =>
        cases r
        obtain ⟨t1, rfl⟩ := r1
        obtain ⟨t2, rfl⟩ := r2
        obtain ⟨t3, rfl⟩ := r3
        have g := run_gcd3 a t1 b t2 c t3
        rw [Nat.gcd_zero_left] at g
        exact call_function_meets PySem.W.MGF.kind_gcd PySem.W.MGF.plain_gcd PySem.W.MGF.entry_gcd (args_gcd3 _ _ _) g.meets ⟨.int _, H, I.tok _, ⟨_, rfl⟩, q⟩
theorem cr_isqrt : CallR X (.builtin "math.isqrt") rSqrt := by
  intro pins s σ H vs us Q I r h
  obtain ⟨a, rfl, h0, h1, q⟩ := h
  cases r with
  | cons r1 r =>
    cases r
    obtain ⟨t1, rfl⟩ := r1
    have hl : a.toNat.log2 < 13000 := PySem.Flt.log2_lt_of (by decide) h1
    have g := PySem.W.mg_run_isqrt a t1 (by omega) (by omega) (by omega)
    exact call_function_meets PySem.W.MGF.kind_isqrt PySem.W.MGF.plain_isqrt PySem.W.MGF.entry_isqrt (PySem.W.MGF.args_isqrt _) g.meets ⟨.int _, H, I.tok _, ⟨_, rfl⟩, q⟩
end

/-! ### repr of data -/
section
variable {X : Cx}
def rRepr (K : PySem.W.Frag) : List V → Hp → VK → Prop := fun vs H Q => ∃ v d, vs = [v] ∧ (∃ a, v = .ref a) ∧ Dp K H v d ∧ d.showable = true ∧ d.hasDict = false ∧ d.depth < 20 ∧ d.shown.length ≤ sizeLine ∧ Q (.str d.shown) H
theorem cr_repr {k : Nat} (hr : Room k X.A) (hg : X.A.guards = some []) : CallR X (.builtin "repr") (rRepr X.K) := by
  intro pins s σ H vs us Q I r h
  obtain ⟨v, d, rfl, ⟨a, rfl⟩, hd, hs, hn, hdp, hz, q⟩ := h
  cases r with
  | cons r1 r =>
    cases r
    cases r1
    obtain ⟨as, hrd⟩ := Dp.reads I d (.ref a) (.ref a) hd rfl
    refine repr_of_reads' hrd hs (fun z => by rw [hn] at z; cases z) hg (by have := hr.un; omega) (fun _ _ e => e) (fun h' u tk hk => ?_) hz
    exact ⟨.str d.shown, H, I.kept hk, ⟨_, rfl⟩, q⟩
end
end My
namespace My
open PySem PySem.Spec PyProof.Rows L2

/-! ### a def's promise where no builtin's repr is under way -/
structure FnG (P : Program) (w : World) (K : PySem.W.Frag) (mg : Str → Option Value) (base : Heap) (CX : CXT) (k : Nat) (f : Addr) (fd : FuncData) (ps : List Str) (sp : Sp) : Prop where
  size : ∀ vs H Q E, sp vs H Q E → vs.length = ps.length
  go : ∀ (A : Around) (outer : List Env) (s : Shared) (H : Hp) (args : Args) (us : List Value) (vs : List V) (Q : VK) (E : XK), A.guards = some [] → Room k A → Env0 P w K mg base A outer s H → BindsTo s fd args (ps.zip us) → Vals vs us → sp vs H Q E →
    codeAny (model P w) A (.call (.ref f) args) (CR CX outer P w H s Q E) s
theorem FnG.mono {P : Program} {w : World} {K : PySem.W.Frag} {mg : Str → Option Value} {base : Heap} {CX : CXT} {j k : Nat} {f : Addr} {fd : FuncData} {ps : List Str} {sp : Sp} (F : FnG P w K mg base CX j f fd ps sp) (h : j ≤ k) : FnG P w K mg base CX k f fd ps sp :=
  ⟨F.size, fun A outer s H args us vs Q E g hr => F.go A outer s H args us vs Q E g (hr.mono h)⟩
section
variable {P : Program} {w : World} {K : PySem.W.Frag} {mg : Str → Option Value} {base : Heap}
theorem okG {x qual : Str} {st : Stmt} {f : Addr} {fd : FuncData} {N ps : List Str} {k : Nat} {sp : Sp} (F : Fun K x qual st f fd) (S : FnScope N ps (defScope st)) (len : ∀ vs H Q E, sp vs H Q E → vs.length = ps.length)
    (hbody : ∀ (cdv : Value) (A : Around) (outer : List Env) (s : Shared) (H : Hp) (vs : List V) (Q : VK) (E : XK), (A.deeper (envOfC qual (defScope st) s.heap.objs.size f cdv)).guards = some [] → Room k (A.deeper (envOfC qual (defScope st) s.heap.objs.size f cdv)) → sp vs H Q E →
      ∃ t, PSs (cxOf CX0 P w K mg base N qual (defScope st) f cdv A outer s H E).nox (defBody st) t ∧ t { nx := fun _ H' => Q .non H', rt := Q } (start N vs) H) : FnG P w K mg base CX0 (k + 1) f fd ps sp := by
  obtain ⟨oc, od, kV, doc, pm, an, cdv, ct, osl, e1, lk, hcd⟩ := F.ex
  subst e1
  refine ⟨len, fun A outer s H args us vs Q E g hr e0 hb r hsp => LamX.run_ofS lk hcd S hr e0 hb r (len _ _ _ _ hsp) fun hr' => ?_⟩
  obtain ⟨t, h, q⟩ := hbody cdv A outer s H vs Q E g hr' hsp
  exact ⟨t, h.nox, q⟩
end
section
variable {X : Cx} {CX : CXT} {k : Nat} {f : Addr} {fd : FuncData} {ps : List Str} {sp : Sp} {E : XK} {x : Str} {p pos : Pos} {e : Expr} {es : List Expr} {t : TA}
theorem callG (F : FnG X.prog X.w X.K X.mg X.base CX k f fd ps sp) (g : X.A.guards = some []) (hr : Room k X.A) (hg : Gl X x) (hm : X.mg x = some (.ref f)) (hk : PySem.W.keepIn X.K (.ref f) = true) (hb : Binds X.K fd ps []) (hx : Passes CX X E)
    (ha : PA X (e :: es) t) (hdb : (x == ("__debug__" : Str)) = false := by decide) (he : starEach (e :: es) X.env = (false, eval e X.env) :: starEach es X.env := by rfl) (hpl : (backTo pos (starEach es X.env)).any (·.1) = false := by rfl) :
    PE X (.Call (.Name x p) (e :: es) [] pos) (tCall sp [] E t) := by
  refine ⟨fun pins s σ H Q I h => wpAny_Call_Name_kw (ld_glob I hg hm (PySem.W.callWith_K (h₀ := X.base) I.ok.mod.kin hk (thn (ha.run pos pins s σ H _ I h) fun us s1 hh => ?_) he hpl) hdb)⟩
  obtain ⟨vs, H1, I1, r, q⟩ := hh
  refine ⟨I1.kIn, ?_⟩
  have q0 : sp vs H1 Q E := by
    have z := q
    rw [List.append_nil] at z
    exact z
  have hl : us.length = ps.length := by rw [← r.length]; exact F.size _ _ _ _ q0
  have bd : BindsTo s1 fd ⟨us, []⟩ (ps.zip us) := by
    have z := hb s1 us I1.kIn (by rw [List.append_nil]; exact hl)
    rw [List.append_nil] at z
    exact z
  refine wpAny_call (codeAny_mono (F.go X.A X.stack s1 H1 ⟨us, []⟩ us vs Q E g hr I1.env0 bd r q0) fun r2 s2 hq => ?_)
  match r2, hq with
  | .error er, hq => exact hx pins σ H1 s1 er s2 I1 hq
  | .ok (.ret u), hq => exact I1.after hq
end
/-- the law's own head, from such a promise -/
theorem lawG {P : Program} {w : World} {K : PySem.W.Frag} {mg mb : Str → Option Value} {k : Nat} {fa a : Addr} {fd : FuncData} {x : Str} {sp : Sp} {z : Shared} {vs : List Value} {ns : List Int}
    (KX : K.In z.heap) (hns : z.heap.Ns mainGlobals mg) (hb : z.heap.Ns builtinsNs mb) (hbb : ∀ x : Str, x ≠ "__name__" → mb x = bootBuiltins x) (hlim : z.heap.NoLimit) (hg : z.gens = #[])
    (ha : z.heap.get? a = some { cls := .type "list", data := .seq vs.toArray }) (hi : IntsAre vs ns) (hl : ns.length ≤ sizeLine) (hr : Room k callerA)
    (F : ∀ base : Heap, K.In base → base.Ns mainGlobals mg → FnG P w K mg base CX0 k fa fd [x] sp) (hbind : ∀ (s : Shared) (u : Value), BindsTo s fd ⟨[u], []⟩ [(x, u)])
    (hsp : ∀ H : Hp, Only H → SqL K H a (ns.map V.int) → sp [.ref a] H (fun v _ => v = .bl true) fun _ _ _ => False) :
    codeAny (model P w) callerA (.call (.ref fa) ⟨[.ref a], []⟩) (fun r s' => r = .ok (.ret (.bool true)) ∧ OldK z.heap s'.heap ∧ s'.os = z.os ∧ AllBare s'.gens) z := by
  have run : ∀ H : Hp, Only H → SqL K H a (ns.map V.int) → HOk P w H z.heap → (∀ b, H b ≠ none → b = a ∧ K.lookup a = none) →
      codeAny (model P w) callerA (.call (.ref fa) ⟨[.ref a], []⟩) (fun r s' => r = .ok (.ret (.bool true)) ∧ OldK z.heap s'.heap ∧ s'.os = z.os ∧ AllBare s'.gens) z := by
    intro H hO hS hok hA
    have free : ∀ {b : Addr}, b ≠ a → H b = none := fun {b} hb => Classical.byContradiction fun q => hb (hA b q).1
    have nsOk : ∀ {b : Addr} {m : Str → Option Value}, z.heap.Ns b m → (hidT z.heap H).Ns b m := fun {b m} hn => by
      obtain ⟨o, es, ep, e, d, r⟩ := hn
      refine ⟨o, es, ep, hidT_get e (free fun q => ?_), d, r⟩
      rw [q, ha] at e
      have d2 : Data.seq vs.toArray = Data.dict es ep := by
        rw [← d, ← Option.some.inj e]
      cases d2
    have kin : K.In (hidT z.heap H) := fun b o e => hidT_get (KX b o e) (Classical.byContradiction fun q => by
      obtain ⟨e1, e2⟩ := hA b q
      rw [e1, e2] at e
      cases e)
    have md : Mod K mg (hidT z.heap H) := ⟨kin, nsOk hns, ⟨mb, nsOk hb, hbb⟩, let ⟨mc, h1, h2⟩ := hlim; ⟨mc, nsOk h1, h2⟩⟩
    have en : Env0 P w K mg (hidT z.heap H) callerA [] z H := ⟨rfl, md, fun b o e => of_hidT e, Nat.le_of_eq (hidT_size _ _), trivial, fun b hb => absurd hb List.not_mem_nil, hok, .of_eq hg⟩
    have fin := (F _ kin (nsOk hns)).go callerA [] z H ⟨[.ref a], []⟩ [.ref a] [.ref a] _ _ rfl hr en (hbind z (.ref a)) (.cons rfl .nil) (hsp H hO hS)
    refine codeAny_mono fin fun r s' h => ?_
    match r, h with
    | .error e, h => exact absurd h id
    | .ok (.ret u), h =>
      obtain ⟨v, H', os, bare, un, hok', r', q⟩ := h
      have q' : v = .bl true := q
      rw [q'] at r'
      have ru : u = Value.bool true := r'
      refine ⟨by rw [ru], OldK.of_keep fun b o e => ?_, os, bare⟩
      rcases hO b with y | ⟨ob, xs, y⟩
      · exact un.keep b o e y List.not_mem_nil List.not_mem_nil
      · obtain ⟨e2, _⟩ := hok' b _ (un.frzs b ob _ y)
        obtain ⟨e1, _⟩ := hok b _ y
        rw [e] at e1
        rw [Option.some.inj e1]
        exact e2
  have rv := vals_ints hi
  by_cases hk : K.lookup a = none
  · refine run (fun b => if b = a then some (.frz { cls := .type "list", data := .seq vs.toArray } (.lst (ns.map V.int))) else none) (fun b => ?_) (.inl (.inr ⟨_, if_pos rfl⟩)) (fun b u y => ?_) fun b y => ?_
    · by_cases hb : b = a
      · exact .inr ⟨_, _, if_pos hb⟩
      · exact .inl (if_neg hb)
    · by_cases q : b = a
      · rw [q] at y ⊢
        have y2 := (if_pos rfl).symm.trans y
        rw [← Option.some.inj y2]
        exact ⟨ha, by rw [List.length_map]; exact hl, vs, _, rv, ha⟩
      · cases (if_neg q).symm.trans y
    · by_cases q : b = a
      · exact ⟨q, hk⟩
      · exact absurd (if_neg q) y
  · obtain ⟨o, ho⟩ := Option.ne_none_iff_exists'.mp hk
    have e := KX a o ho
    rw [ha] at e
    cases e
    exact run (fun _ => none) (fun _ => .inl rfl) (.inr ⟨_, vs.toArray, _, ho, rfl, rfl, rfl, by rw [List.size_toArray, hi.length]; exact hl, by simpa using rv⟩) (fun b u y => nomatch y) fun b y => absurd rfl y
theorem walkG {l : PySem.W.OpenLaw} {n k : Nat} {q : Program} {loose : List Str} {XP : (Str → Option Value) → Heap → Prop} {YP : World → Heap → Prop} {d : DefRec} {K : Params → PySem.W.Frag} {sp : PySem.W.Frag → Sp} {x : Str}
    (hn : l.most = some n) (hn2 : n ≤ sizeLine) (hdf : d.params.defaults = []) (hr : Room k callerA)
    (hY : ∀ (w : World) (h : Heap), YP w h → (K w.params).In h)
    (F : ∀ (w : World) (mg : Str → Option Value) (fa : Addr) (h : Heap), (K w.params).In h → h.Ns mainGlobals mg → mg d.name = some (.ref fa) →
      ∃ fd : FuncData, (∀ (s : Shared) (u : Value), BindsTo s fd ⟨[u], []⟩ [(x, u)]) ∧ ∀ base : Heap, (K w.params).In base → base.Ns mainGlobals mg → FnG l.prog w (K w.params) mg base CX0 k fa fd [x] (sp (K w.params)))
    (hsp : ∀ (K : PySem.W.Frag) (H : Hp) (a : Addr) (ns : List Int), ns.length ≤ n → Only H → SqL K H a (ns.map V.int) → sp K [.ref a] H (fun v _ => v = .bl true) fun _ _ _ => False) :
    PySem.W.WalkO q loose XP YP l.row.toRowW d [] (fun f vs => PySem.call f vs) := by
  refine Att.attach_call hn hdf fun w s₀ z mg mb fa o pm cd doc a vs ns G Y ho hd hcd hmg hobj hints hlen hg => ?_
  have KX := hY w _ Y
  have ⟨fd, hb, hF⟩ := F w mg fa _ KX G.T.g hmg
  exact lawG KX G.T.g G.T.b G.T.builtins G.T.nolimit hg hobj hints (Nat.le_trans hlen hn2) hr hF hb fun H hO hS => hsp (K w.params) H a ns hlen hO hS

/-! ### a list of three ints that is told by its kind alone: the dice -/
def DiceO (a : Addr) : HO := .ext fun h => ∃ (l s c : Int) (t1 t2 t3 : Tok) (n : Nat), h.get? a = some { cls := .type "list", data := .seq #[.int l t1, .int s t2, .int c t3] n }
def d3 (l s c : Int) : HO := .lst [.int l, .int s, .int c]
section
variable {X : Cx} {pins : List (Addr × Obj)} {σ : L2.St} {H : Hp} {s : Shared} {a : Addr} {o : HO}
theorem recast (I : Inv X pins σ H s) (hm : Mut (H a)) (ex : ∃ u, s.heap.get? a = some u) (new : ObjOk X.prog X.w (upd H a o) s.heap a o) : Inv X pins σ (upd H a o) s := by
  obtain ⟨hp, g, d, t, os⟩ := s
  exact I.write (h' := hp) (t' := t) (x := a) (e := a) hm (.inl rfl) (fun _ _ _ e => e) ex new
theorem dice_ok {P : Program} {w : World} {H : Hp} {h : Heap} {l s c : Int} {t1 t2 t3 : Tok} {n : Nat} (e : h.get? a = some { cls := .type "list", data := .seq #[.int l t1, .int s t2, .int c t3] n }) : ObjOk P w H h a (DiceO a) :=
  ⟨⟨l, s, c, t1, t2, t3, n, e⟩, ⟨_, e⟩, fun h1 h2 ⟨l, s, c, t1, t2, t3, n, q⟩ k => ⟨l, s, c, t1, t2, t3, n, k _ q⟩⟩
theorem dice_open (I : Inv X pins σ H s) (e : H a = some (DiceO a)) : ∃ l z c, Inv X pins σ (upd H a (d3 l z c)) s := by
  have x : ObjOk X.prog X.w H s.heap a (.ext fun h => ∃ (l s c : Int) (t1 t2 t3 : Tok) (n : Nat), h.get? a = some { cls := .type "list", data := .seq #[.int l t1, .int s t2, .int c t3] n }) := I.hok a _ e
  obtain ⟨l, z, c, t1, t2, t3, n, q⟩ := x.1
  exact ⟨l, z, c, recast I (by rw [e]; exact True.intro) ⟨_, q⟩ ⟨by show 3 ≤ sizeLine; decide, [.int l t1, .int z t2, .int c t3], n, .cons ⟨_, rfl⟩ (.cons ⟨_, rfl⟩ (.cons ⟨_, rfl⟩ .nil)), q⟩⟩
theorem dice_close {l z c : Int} (I : Inv X pins σ H s) (e : H a = some (d3 l z c)) : Inv X pins σ (upd H a (DiceO a)) s := by
  obtain ⟨_, its, n, r, q⟩ := (show ObjOk X.prog X.w H s.heap a (.lst [.int l, .int z, .int c]) from I.hok a _ e)
  refine recast I (by rw [e]; exact True.intro) ⟨_, q⟩ ?_
  cases r with
  | cons r1 r => cases r with
    | cons r2 r => cases r with
      | cons r3 r =>
        cases r
        obtain ⟨t1, rfl⟩ := r1
        obtain ⟨t2, rfl⟩ := r2
        obtain ⟨t3, rfl⟩ := r3
        exact dice_ok q
end
/-- the body may see the dice (the slot i) as a list; it leaves them as dice -/
def tDice (i : Nat) (t : TS) : TS := fun D σ H => ∃ a, σ[i]? = some (some (.ref a)) ∧ H a = some (DiceO a) ∧ ∀ l z c, t
  { nx := fun σ' H' => (∃ l z c, H' a = some (d3 l z c)) ∧ D.nx σ' (upd H' a (DiceO a)), rt := fun v H' => (∃ l z c, H' a = some (d3 l z c)) ∧ D.rt v (upd H' a (DiceO a)),
    bk := fun σ' H' => (∃ l z c, H' a = some (d3 l z c)) ∧ D.bk σ' (upd H' a (DiceO a)), ct := fun σ' H' => (∃ l z c, H' a = some (d3 l z c)) ∧ D.ct σ' (upd H' a (DiceO a)) } σ (upd H a (d3 l z c))
theorem pss_dice {X : Cx} {i : Nat} {body : List Stmt} {t : TS} (h : PSs X body t) : PSs X body (tDice i t) := by
  refine ⟨fun pins s σ H D I hq => ?_⟩
  obtain ⟨a, _, e, q⟩ := hq
  obtain ⟨l, z, c, I1⟩ := dice_open I e
  refine wpAny_mono (h.run pins s σ _ _ I1 (q l z c)) (fun f s' hs => ?_) fun _ _ e => e
  match f, hs with
  | .next, hs => obtain ⟨σ', H', J, ⟨l, z, c, e⟩, w⟩ := hs; exact ⟨σ', _, dice_close J e, w⟩
  | .brk, hs => obtain ⟨σ', H', J, ⟨l, z, c, e⟩, w⟩ := hs; exact ⟨σ', _, dice_close J e, w⟩
  | .cont, hs => obtain ⟨σ', H', J, ⟨l, z, c, e⟩, w⟩ := hs; exact ⟨σ', _, dice_close J e, w⟩
  | .ret u, hs => obtain ⟨v, σ', H', J, r, ⟨l, z, c, e⟩, w⟩ := hs; exact ⟨v, σ', _, dice_close J e, r, w⟩
/-- the body hands back new dice -/
def tDiced (t : TS) : TS := fun D σ H => t { nx := D.nx, rt := fun v H' => ∃ a l z c, v = .ref a ∧ H' a = some (d3 l z c) ∧ D.rt v (upd H' a (DiceO a)), bk := D.bk, ct := D.ct } σ H
theorem pss_diced {X : Cx} {body : List Stmt} {t : TS} (h : PSs X body t) : PSs X body (tDiced t) := by
  refine ⟨fun pins s σ H D I hq => wpAny_mono (h.run pins s σ H _ I hq) (fun f s' hs => ?_) fun _ _ e => e⟩
  match f, hs with
  | .next, hs => exact hs
  | .brk, hs => exact hs
  | .cont, hs => exact hs
  | .ret u, hs => obtain ⟨v, σ', H', J, r, a, l, z, c, ev, e, w⟩ := hs; exact ⟨v, σ', _, dice_close J e, r, w⟩
end My
namespace My
open PySem PySem.Spec PyProof.Rows L2

/-- a def of the module, by its name, with its promise -/
structure FnAt (P : Program) (w : World) (K : PySem.W.Frag) (mg : Str → Option Value) (base : Heap) (k : Nat) (x : Str) (ps : List Str) (sp : Sp) : Prop where
  ex : ∃ (f : Addr) (fd : FuncData), mg x = some (.ref f) ∧ PySem.W.keepIn K (.ref f) = true ∧ Binds K fd ps [] ∧ FnOk P w K mg base CX0 k f fd ps sp
structure FgAt (P : Program) (w : World) (K : PySem.W.Frag) (mg : Str → Option Value) (base : Heap) (k : Nat) (x : Str) (ps : List Str) (sp : Sp) : Prop where
  ex : ∃ (f : Addr) (fd : FuncData), mg x = some (.ref f) ∧ PySem.W.keepIn K (.ref f) = true ∧ Binds K fd ps [] ∧ FnG P w K mg base CX0 k f fd ps sp
/-- a def of the module, by its name, with its text -/
structure DefAt (K : PySem.W.Frag) (mg : Str → Option Value) (x : Str) (st : Stmt) : Prop where
  ex : ∃ (f : Addr) (fd : FuncData), mg x = some (.ref f) ∧ Fun K x x st f fd
section
variable {X : Cx} {k j : Nat} {ps : List Str} {sp : Sp} {x : Str} {p pos : Pos} {e : Expr} {es : List Expr} {t : TA}
theorem callA (F : FnAt X.prog X.w X.K X.mg X.base k x ps sp) (hr : Room k X.A) (hg : Gl X x) (ha : PA X (e :: es) t) (hdb : (x == ("__debug__" : Str)) = false := by decide)
    (he : starEach (e :: es) X.env = (false, eval e X.env) :: starEach es X.env := by rfl) (hpl : (backTo pos (starEach es X.env)).any (·.1) = false := by rfl) : PE X (.Call (.Name x p) (e :: es) [] pos) (tCall sp [] E0 t) := by
  obtain ⟨f, fd, hm, hk, hb, G⟩ := F.ex
  exact pe_call G hr hg hm hk hb .nil pass0 ha hdb he hpl
theorem callB (F : FgAt X.prog X.w X.K X.mg X.base k x ps sp) (gd : X.A.guards = some []) (hr : Room k X.A) (hg : Gl X x) (ha : PA X (e :: es) t) (hdb : (x == ("__debug__" : Str)) = false := by decide)
    (he : starEach (e :: es) X.env = (false, eval e X.env) :: starEach es X.env := by rfl) (hpl : (backTo pos (starEach es X.env)).any (·.1) = false := by rfl) : PE X (.Call (.Name x p) (e :: es) [] pos) (tCall sp [] E0 t) := by
  obtain ⟨f, fd, hm, hk, hb, G⟩ := F.ex
  exact callG G gd hr hg hm hk hb pass0 ha hdb he hpl
end
section
variable {P : Program} {w : World} {K : PySem.W.Frag} {mg : Str → Option Value} {base : Heap}
theorem fnAt {x : Str} {st : Stmt} {N ps : List Str} {k : Nat} {sp : Sp} (D : DefAt K mg x st) (S : FnScope N ps (defScope st))
    (hbind : ∀ (kV doc pm : Value) (an : Option Addr) (cdv ct : Value) (us : List Value), us.length = ps.length → bindArgs (PySem.W.fnOf x x (defArgs st) (defBody st) (defScope st) .none kV doc pm an cdv ct) ⟨us, []⟩ = pure (ps.zip us))
    (len : ∀ vs H Q E, sp vs H Q E → vs.length = ps.length)
    (hbody : ∀ (f : Addr) (cdv : Value) (A : Around) (outer : List Env) (s : Shared) (H : Hp) (vs : List V) (Q : VK) (E : XK), Room k (A.deeper (envOfC x (defScope st) s.heap.objs.size f cdv)) → sp vs H Q E →
      ∃ t, PSs (cxOf CX0 P w K mg base N x (defScope st) f cdv A outer s H E).nox (defBody st) t ∧ t { nx := fun _ H' => Q .non H', rt := Q } (start N vs) H) : FnAt P w K mg base (k + 1) x ps sp := by
  obtain ⟨f, fd, hm, F⟩ := D.ex
  exact ⟨f, fd, hm, F.kp, F.binds hbind, F.ok S len fun cdv A outer s H vs Q E hr h => hbody f cdv A outer s H vs Q E hr h⟩
theorem fgAt {x : Str} {st : Stmt} {N ps : List Str} {k : Nat} {sp : Sp} (D : DefAt K mg x st) (S : FnScope N ps (defScope st))
    (hbind : ∀ (kV doc pm : Value) (an : Option Addr) (cdv ct : Value) (us : List Value), us.length = ps.length → bindArgs (PySem.W.fnOf x x (defArgs st) (defBody st) (defScope st) .none kV doc pm an cdv ct) ⟨us, []⟩ = pure (ps.zip us))
    (len : ∀ vs H Q E, sp vs H Q E → vs.length = ps.length)
    (hbody : ∀ (f : Addr) (cdv : Value) (A : Around) (outer : List Env) (s : Shared) (H : Hp) (vs : List V) (Q : VK) (E : XK), (A.deeper (envOfC x (defScope st) s.heap.objs.size f cdv)).guards = some [] → Room k (A.deeper (envOfC x (defScope st) s.heap.objs.size f cdv)) → sp vs H Q E →
      ∃ t, PSs (cxOf CX0 P w K mg base N x (defScope st) f cdv A outer s H E).nox (defBody st) t ∧ t { nx := fun _ H' => Q .non H', rt := Q } (start N vs) H) : FgAt P w K mg base (k + 1) x ps sp := by
  obtain ⟨f, fd, hm, F⟩ := D.ex
  exact ⟨f, fd, hm, F.kp, F.binds hbind, okG F S len fun cdv A outer s H vs Q E gd hr h => hbody f cdv A outer s H vs Q E gd hr h⟩
end
/-- the built-in names that are free -/
structure Bn (mg : Str → Option Value) : Prop where
  b_len : mg "len" = none
  b_int : mg "int" = none
  b_bool : mg "bool" = none
  b_str : mg "str" = none
  b_list : mg "list" = none
  b_tuple : mg "tuple" = none
  b_max : mg "max" = none
  b_abs : mg "abs" = none
  b_min : mg "min" = none
  b_range : mg "range" = none
  b_repr : mg "repr" = none
  b_isinstance : mg "isinstance" = none
  b_all : mg "all" = none
theorem hu64 {A : Around} {k : Nat} (hr : Room k A) : A.units + 64 < cLine := hr.units

/-! ### whole numbers of any size, divided by any divisor but 0 of at most 9000 bits -/
def CDivX (_ j : Int) : Prop := j ≠ 0 ∧ j.natAbs.log2 < 9000
section
variable {X : Cx}
theorem op_fdivX : OpR X (binaryOp .FloorDiv) (rI CDivX fun i j => .int (i.fdiv j)) := opI fun i j _ _ _ _ _ hc q => floordiv_int hc.1 q (.inl (PyProof.noPylong_of_log2 hc.2))
end
/-- at most n bits -/
def Sz (n : Nat) (i : Int) : Prop := i.natAbs < 2 ^ n
theorem Sz.mono {n m : Nat} {i : Int} (h : Sz n i) (l : n ≤ m) : Sz m i := Nat.lt_of_lt_of_le h (Nat.pow_le_pow_right (by decide) l)
theorem Sz.mul {n m : Nat} {i j : Int} (h : Sz n i) (g : Sz m j) : Sz (n + m) (i * j) := wide_lt h g
theorem Sz.neg {n : Nat} {i : Int} (h : Sz n i) : Sz n (-i) := by unfold Sz; rw [Int.natAbs_neg]; exact h
theorem Sz.add {n : Nat} {i j : Int} (h : Sz n i) (g : Sz n j) : Sz (n + 1) (i + j) := by
  unfold Sz at *
  have e : 2 ^ (n + 1) = 2 ^ n + 2 ^ n := by rw [Nat.pow_succ]; omega
  have := Int.natAbs_add_le i j
  omega
theorem Sz.sub {n : Nat} {i j : Int} (h : Sz n i) (g : Sz n j) : Sz (n + 1) (i - j) := by
  rw [Int.sub_eq_add_neg]
  exact h.add g.neg
theorem Sz.ofLt {n : Nat} {i b : Int} (h : i.natAbs ≤ b.natAbs) (g : Sz n b) : Sz n i := Nat.lt_of_le_of_lt h g
theorem Sz.log {n : Nat} {i : Int} (h : Sz n i) (h0 : 0 < n) : i.natAbs.log2 < n := PySem.Flt.log2_lt_of h0 h
theorem Sz.cmul {n m : Nat} {i j : Int} (h : Sz n i) (g : Sz m j) (hn : 0 < n) (hm : 0 < m) (l : n + m ≤ 1000000) : CMulW i j := wide_mul h g hn hm l
theorem Sz.cdiv {n : Nat} {i j : Int} (h0 : j ≠ 0) (h : Sz n j) (hn : 0 < n) (l : n ≤ 9000) : CDivX i j := ⟨h0, Nat.lt_of_lt_of_le (h.log hn) l⟩
/-- a number of the law's own head -/
theorem ext_refl (H : Hp) : Ext H H := fun _ _ h => h
theorem ext_new {H H1 : Hp} {p : Addr} {o : HO} (e : Ext H H1) (h : H1 p = none) : Ext H (upd H1 p o) := Ext.upd' e h
theorem ext_none {H H1 : Hp} {p : Addr} (e : Ext H H1) (h : H1 p = none) : H p = none := by
  cases q : H p with
  | none => rfl
  | some o => rw [e p o q] at h; cases h
/-- a new object changed: what stood before stands -/
theorem ext_mut {H H1 : Hp} {p : Addr} {o : HO} (e : Ext H H1) (h : H p = none) : Ext H (upd H1 p o) := fun a u q => by
  rw [upd_ne (ne_of_none q h)]
  exact e a u q
end My
namespace My
open PySem PySem.Spec PyProof.Rows L2
theorem len_ok {n : Nat} (h : n ≤ 1000) : n ≤ sizeLine := Nat.le_trans h (by decide)
theorem len_lt {n : Nat} (h : n ≤ 1000) : n < sizeLine := Nat.lt_of_le_of_lt h (by decide)
end My
namespace My
open PySem PySem.Spec PyProof.Rows L2
section
variable {K : PySem.W.Frag} {a D : Addr} {xs : List V} {te : TE} {vs : List Nat} {σ : L2.St} {H1 : Hp} {j : Nat}
theorem take_next {α : Type} {l : List α} {i : Nat} {x : α} (h : l[i]? = some x) : l.take (i + 1) = l.take i ++ [x] := by
  rw [List.take_succ, h]
  rfl
/-- what a comprehension without a test has made behind i turns -/
def Made (H1 : Hp) (D : Addr) (f : Nat → V → V) (xs : List V) (i : Nat) (H' : Hp) : Prop := H1 D = none ∧ Ext H1 H' ∧ H' D = some (.lst ((xs.take i).mapIdx f))
theorem made_turn {f : Nat → V → V} {i : Nat} {x : V} {H' : Hp} {σ2 : L2.St} (hz : xs.length ≤ 1000000) (hi : xs[i]? = some x) (p : Made H1 D f xs i H') (he : ∀ Q' : VK, (∀ H'', Ext H' H'' → Q' (f i x) H'') → te σ2 H' Q') :
    tYes σ2 H' fun b H3 => if b = true then te σ2 H3 fun y H4 => ∃ acc, H4 D = some (.lst acc) ∧ acc.length < sizeLine ∧ Made H1 D f xs (i + 1) (upd H4 D (.lst (acc ++ [y]))) else Made H1 D f xs (i + 1) H3 := by
  obtain ⟨p1, p2, p3⟩ := p
  unfold tYes
  dsimp only
  rw [if_pos rfl]
  refine he _ fun H'' e => ⟨_, e _ _ p3, ?_, p1, ext_mut (p2.trans e) p1, ?_⟩
  · rw [List.length_mapIdx, List.length_take]
    exact Nat.lt_of_le_of_lt (Nat.le_trans (Nat.min_le_right _ _) hz) (by decide)
  · have hl : i < xs.length := (List.getElem?_eq_some_iff.mp hi).1
    rw [upd_same, take_next hi, List.mapIdx_append]
    have e1 : (xs.take i).length = i := by rw [List.length_take]; omega
    simp [e1]
abbrev Block (J : It) (g : TG) (tt : TT) (te : TE) (vs : List Nat) (σ : L2.St) (H1 : Hp) (D : Addr) (Qd : Hp → Prop) : Prop := ∃ W : Nat → Nat → Hp → Prop, (∃ m, W 0 m (upd H1 D (.lst []))) ∧ ∀ i m H, W i m H →
  (J.stop i H ∧ Qd H) ∨ (J.go i H ∧ ∃ Nx : Hp → Prop, (∀ H', Nx H' → ∃ m', m' < m ∧ W (i + 1) m' H') ∧ ∀ x H', J.yld i H x H' → g x (wipe σ vs) H' fun σ2 H2 => wipe σ2 vs = wipe σ vs ∧ tt σ2 H2 fun b H3 =>
    if b = true then te σ2 H3 fun y H4 => ∃ acc, H4 D = some (.lst acc) ∧ acc.length < sizeLine ∧ Nx (upd H4 D (.lst (acc ++ [y]))) else Nx H3)
theorem map_list {Qd : Hp → Prop} (f : Nat → V → V) (hx : SqL K H1 a xs) (hD : H1 D = none) (hz : xs.length ≤ 1000000) (hw : ∀ x, wipe ((wipe σ vs).set j (some x)) vs = wipe σ vs)
    (he : ∀ i x H', xs[i]? = some x → Ext H1 H' → ∀ Q' : VK, (∀ H'', Ext H' H'' → Q' (f i x) H'') → te ((wipe σ vs).set j (some x)) H' Q') (hd : ∀ H', Ext H1 H' → H' D = some (.lst (xs.mapIdx f)) → Qd H') :
    Block (Itl K a) (gName j) tYes te vs σ H1 D Qd :=
  lc_list (xs := xs) (Made H1 D f xs) ⟨hD, ext_new (ext_refl H1) hD, upd_same⟩ (fun i H' _ p => hx.ext p.2.1) (fun i x H' hi p => ⟨hw x, made_turn hz hi p (he i x H' hi p.2.1)⟩) fun H' p => hd H' p.2.1 (by have q := p.2.2; rw [List.take_length] at q; exact q)
theorem map_tup {Qd : Hp → Prop} (f : Nat → V → V) (hx : SqT K H1 a xs) (hD : H1 D = none) (hz : xs.length ≤ 1000000) (hw : ∀ x, wipe ((wipe σ vs).set j (some x)) vs = wipe σ vs)
    (he : ∀ i x H', xs[i]? = some x → Ext H1 H' → ∀ Q' : VK, (∀ H'', Ext H' H'' → Q' (f i x) H'') → te ((wipe σ vs).set j (some x)) H' Q') (hd : ∀ H', Ext H1 H' → H' D = some (.lst (xs.mapIdx f)) → Qd H') :
    Block (Itt K a) (gName j) tYes te vs σ H1 D Qd :=
  lc_tup (xs := xs) (Made H1 D f xs) ⟨hD, ext_new (ext_refl H1) hD, upd_same⟩ (fun i H' _ p => hx.ext p.2.1) (fun i x H' hi p => ⟨hw x, made_turn hz hi p (he i x H' hi p.2.1)⟩) fun H' p => hd H' p.2.1 (by have q := p.2.2; rw [List.take_length] at q; exact q)
end
end My
namespace My
open PySem PySem.Spec PyProof.Rows L2
def top (i : Nat) : Stmt := PySem.Challenge.pw_pieceround_k03_numbers_compared.main.body.getD i (.Pass ⟨0, 0, 0, 0⟩)
abbrev s_dice : Stmt := top 28
abbrev s_roll : Stmt := top 29
abbrev s_pick : Stmt := top 30

local macro_rules | `(tactic| walk_at "side") => `(tactic| first | assumption | decide | exact Or.inl ⟨by decide, by decide⟩ | exact Or.inr ⟨by decide, by decide⟩ | exact ⟨by decide, by decide, by decide⟩ | omega | (unfold CMulW; decide +kernel) | (dsimp only; first | assumption | omega | decide +kernel) | exact len_ok (Nat.le_of_ble_eq_true rfl) | fail "side")
local macro_rules | `(tactic| walk_at "rd") => `(tactic| first
  | refine ⟨_, _, _, _, rfl, rfl, SqL.of upd_same, atI_nat (j := 0) rfl, ?_⟩ | refine ⟨_, _, _, _, rfl, rfl, SqL.of upd_same, atI_nat (j := 1) rfl, ?_⟩ | refine ⟨_, _, _, _, rfl, rfl, SqL.of upd_same, atI_nat (j := 2) rfl, ?_⟩
  | refine ⟨_, _, _, _, rfl, rfl, upd_same, rfl, ?_⟩
  | refine ⟨_, _, rfl, rfl, ?_⟩ | refine ⟨_, rfl, ?_⟩ | refine ⟨_, _, rfl, ?_⟩ | refine Or.inl ⟨_, rfl, ?_⟩ | refine Or.inr ⟨_, rfl, ?_⟩ | refine ⟨(by walk_at "side"), ?_⟩ | fail "rd")
def spDice (K : PySem.W.Frag) : Sp := fun vs H Q _ => ∃ (a : Addr) (i : Int) (ns : List Int), vs = [.ref a, .int i] ∧ SqL K H a (ns.map V.int) ∧ 0 ≤ i ∧ i < 1000 ∧
  ∀ p H', H p = none → Ext H H' → H' p = some (DiceO p) → Q (.ref p) H'
def spRoll : Sp := fun vs H Q _ => ∃ (a : Addr) (n : Int), vs = [.ref a, .int n] ∧ H a = some (DiceO a) ∧ 0 < n ∧ Sz 9000 n ∧ ∀ r : Int, 0 ≤ r → r < n → Q (.int r) H
def spPick (K : PySem.W.Frag) : Sp := fun vs H Q _ => ∃ (a b : Addr) (xs : List V), vs = [.ref a, .ref b] ∧ H a = some (DiceO a) ∧ SqL K H b xs ∧ xs ≠ [] ∧ xs.length ≤ 1000000 ∧ ∀ x, x ∈ xs → Q x H

section
variable {P : Program} {w : World} {K : PySem.W.Frag} {mg : Str → Option Value} {base : Heap}
theorem sc_dice : FnScope ["_law_script", "_law_spot", "_law_cell", "_law_left"] ["_law_script", "_law_spot"] (defScope s_dice) := ⟨rfl, rfl, rfl, by decide +kernel, rfl, by decide +kernel, by decide +kernel⟩
theorem ok_dice (T : Bn mg) (D : DefAt K mg "_law_dice" s_dice) : FnAt P w K mg base 1 "_law_dice" ["_law_script", "_law_spot"] (spDice K) := by
  refine fnAt D sc_dice (fun _ _ _ _ _ _ us hl => match us, hl with | [_, _], _ => rfl) (fun vs H Q E h => ?_) fun f cdv A outer s H vs Q E hr h => ?_
  · obtain ⟨a, i, ns, rfl, _⟩ := h
    rfl
  obtain ⟨a, i, ns, rfl, hS, h0, h1, k⟩ := h
  refine ⟨_, pss_diced (pss_cons (ps_set (i := 2) sc_dice.nd rfl (Or.inl rfl) (pe_ifExp (pt_cmpR op_lt (pv 1) (pe_callB call_len_seq (by rfl) T.b_len (by decide +kernel) (pa_cons (pv 0) pa_nil)) (nomark _)) (pe_callTy call_int1 (by rfl) T.b_int (by decide +kernel) (pa_cons (pe_ix ix_list (pv 0) (pv 1) (fun _ _ => rfl)) pa_nil)) (pe_op op_add (pe_op op_mul pe_int (pv 1)) pe_int)))
    (pss_cons (ps_set (i := 3) sc_dice.nd rfl (Or.inl rfl) (pe_op op_modN (pe_callB (call_max2 rfl) (by rfl) T.b_max (by decide +kernel) (pa_cons pe_int (pa_cons (pe_op op_sub (pe_callB call_abs (by rfl) T.b_abs (by decide +kernel) (pa_cons (pv 2) pa_nil)) (pe_op op_pow pe_int pe_int)) pa_nil))) (pe_op op_mulW (pe_op op_pow pe_int pe_int) (pe_op op_pow pe_int pe_int))))
    (pss_one (ps_ret (pe_lst (pa_cons (pv 3) (pa_cons (pe_op op_add (pe_op op_add (pe_op op_add (pe_op op_mul (pe_op op_modN (pe_callB call_abs (by rfl) T.b_abs (by decide +kernel) (pa_cons (pv 2) pa_nil)) pe_int) pe_int) (pe_op op_mul pe_int (pv 1))) (pe_op op_mul pe_int (pe_callTy call_int1 (by rfl) T.b_int (by decide +kernel) (pa_cons (pe_cmpR op_lt (pv 2) pe_int (nomark _)) pa_nil)))) pe_int) (pa_cons pe_int pa_nil)))))))), ?_⟩
  refine ⟨_, rfl, _, rfl, a, _, rfl, .inl hS, _, _, rfl, rfl, _, rfl, ite2 (fun hlt => ?a) (fun hge => ?b)⟩
  case' a =>
    have hj : i < (ns.length : Int) := by
      have z := of_decide_eq_true hlt
      rw [List.length_map] at z
      exact z
    obtain ⟨j, rfl⟩ : ∃ j : Nat, i = (j : Int) := ⟨i.toNat, by omega⟩
    obtain ⟨c, hc⟩ : ∃ c, ns[j]? = some c := ⟨ns[j], List.getElem?_eq_getElem (by omega)⟩
    refine ⟨_, rfl, _, rfl, a, _, _, V.int c, rfl, rfl, hS, atI_nat (by rw [List.getElem?_map, hc]; rfl), .inl ⟨_, rfl, ?_⟩⟩
  case' b => 
    repeat' (walk_at "rd")
  all_goals
    repeat' (walk_at "rd")
    intro p hp
    exact ⟨p, _, _, _, rfl, upd_same, k p _ hp (ext_mut (ext_new (ext_refl H) hp) hp) upd_same⟩

theorem fmod_in {i n : Int} (h : 0 < n) : 0 ≤ i.fmod n ∧ i.fmod n < n := by
  rw [Int.fmod_eq_emod_of_nonneg _ (by omega)]
  exact ⟨Int.emod_nonneg _ (by omega), Int.emod_lt_of_pos _ h⟩
theorem sc_roll : FnScope ["_law_dice_here", "_law_total", "_law_found", "_law_one", "_law_two"] ["_law_dice_here", "_law_total"] (defScope s_roll) := ⟨rfl, rfl, rfl, by decide +kernel, rfl, by decide +kernel, by decide +kernel⟩
theorem ok_roll (T : Bn mg) (D : DefAt K mg "_law_roll" s_roll) : FnAt P w K mg base 1 "_law_roll" ["_law_dice_here", "_law_total"] spRoll := by
  refine fnAt D sc_roll (fun _ _ _ _ _ _ us hl => match us, hl with | [_, _], _ => rfl) (fun vs H Q E h => ?_) fun f cdv A outer s H vs Q E hr h => ?_
  · obtain ⟨a, i, rfl, _⟩ := h
    rfl
  obtain ⟨a, n, rfl, ha, h0, hz, k⟩ := h
  have n0 : n ≠ 0 := by omega
  have hd : CDivX 0 n := ⟨n0, hz.log (by decide)⟩
  have h64 : ∀ x : Int, -(2 ^ 64) < x.fmod 2305843009213693951 ∧ x.fmod 2305843009213693951 < 2 ^ 64 := fun x => by
    have := fmod_in (i := x) (n := 2305843009213693951) (by decide)
    omega
  have h64' : ∀ x : Int, -(2 ^ 64) < x.fmod 2305843009213693921 ∧ x.fmod 2305843009213693921 < 2 ^ 64 := fun x => by
    have := fmod_in (i := x) (n := 2305843009213693921) (by decide)
    omega
  refine ⟨_, pss_dice (i := 0) (pss_cons (ps_if (pt_cmpR op_gt (pe_ix ix_list (pv 0) pe_int (fun _ _ => rfl)) pe_int (nomark _)) (pss_cons (ps_set (i := 2) sc_roll.nd rfl (Or.inl rfl) (pe_op op_modN (pe_callTy call_int1 (by rfl) T.b_int (by decide +kernel) (pa_cons (pe_ix ix_list (pv 0) pe_int (fun _ _ => rfl)) pa_nil)) (pv 1)))
    (pss_cons (ps_asg (pe_op op_fdivX (pe_ix ix_list (pv 0) pe_int (fun _ _ => rfl)) (pv 1)) (pg_sub (pv 0) pe_int set_list))
    (pss_one (ps_ret (pv 2))))) pss_nil)
    (pss_cons (ps_asg (pe_op op_add (pe_ix ix_list (pv 0) pe_int (fun _ _ => rfl)) pe_int) (pg_sub (pv 0) pe_int set_list))
    (pss_cons (ps_set (i := 3) sc_roll.nd rfl (Or.inl rfl) (pe_op op_modN (pe_callTy call_int1 (by rfl) T.b_int (by decide +kernel) (pa_cons (pe_op op_add (pe_ix ix_list (pv 0) pe_int (fun _ _ => rfl)) (pe_op op_mul pe_int (pe_ix ix_list (pv 0) pe_int (fun _ _ => rfl)))) pa_nil)) pe_int))
    (pss_cons (ps_set (i := 4) sc_roll.nd rfl (Or.inl rfl) (pe_op op_add (pe_op op_mul (pe_op op_modN (pe_callTy call_int1 (by rfl) T.b_int (by decide +kernel) (pa_cons (pe_op op_add (pe_op op_mul (pv 3) (pv 3)) (pe_op op_mul pe_int (pe_ix ix_list (pv 0) pe_int (fun _ _ => rfl)))) pa_nil)) pe_int) pe_int) (pv 3)))
    (pss_one (ps_ret (pe_op op_modN (pe_callTy call_int1 (by rfl) T.b_int (by decide +kernel) (pa_cons (pe_op op_fdivX (pv 4) pe_int) pa_nil)) (pv 1)))))))), ?_⟩
  refine ⟨a, rfl, ha, fun l z c => ?_⟩
  have back : ∀ o, upd (upd (upd H a (d3 l z c)) a o) a (DiceO a) = H := fun o => by
    rw [upd_upd, upd_upd]
    funext b
    by_cases hb : b = a
    · rw [hb, upd_same, ha]
    · rw [upd_ne hb]
  repeat' (walk_at "rd")
  refine ite2 (fun h1 => ?_) (fun h2 => ?_)
  · have hdl : CDivX l n := hd
    repeat' (walk_at "rd")
    exact ⟨⟨_, _, _, upd_same⟩, (by
      show Q _ (upd (upd (upd H a _) a _) a _)
      rw [back]
      exact k _ (fmod_in h0).1 (fmod_in h0).2)⟩
  · repeat' (first | walk_at "rd" | refine ⟨.inl (h64 _), ?_⟩  | refine ⟨.inl (h64' _), ?_⟩ | refine ⟨(show CDivX _ 65536 from ⟨by decide, by decide +kernel⟩), ?_⟩ | fail)
    exact ⟨⟨_, _, _, upd_same⟩, (by
      show Q _ (upd (upd (upd H a _) a _) a _)
      rw [back]
      exact k _ (fmod_in h0).1 (fmod_in h0).2)⟩
theorem sc_pick : FnScope ["_law_dice_here", "_law_items"] ["_law_dice_here", "_law_items"] (defScope s_pick) := ⟨rfl, rfl, rfl, by decide +kernel, rfl, by decide +kernel, by decide +kernel⟩
theorem ok_pick (T : Bn mg) (D : DefAt K mg "_law_pick" s_pick) (F__law_roll : FnAt P w K mg base 1 "_law_roll" ["_law_dice_here", "_law_total"] spRoll) : FnAt P w K mg base 2 "_law_pick" ["_law_dice_here", "_law_items"] (spPick K) := by
  refine fnAt D sc_pick (fun _ _ _ _ _ _ us hl => match us, hl with | [_, _], _ => rfl) (fun vs H Q E h => ?_) fun f cdv A outer s H vs Q E hr h => ?_
  · obtain ⟨a, b, xs, rfl, _⟩ := h
    rfl
  obtain ⟨a, b, xs, rfl, ha, hb, hne, hl, k⟩ := h
  have hp : 0 < xs.length := List.length_pos_iff.mpr hne
  refine ⟨_, pss_one (ps_ret (pe_ix ix_list (pv 1) (callA F__law_roll (hr.mono (by decide)) rfl (pa_cons (pv 0) (pa_cons (pe_callB call_len_seq (by rfl) T.b_len (by decide +kernel) (pa_cons (pv 1) pa_nil)) pa_nil))) (fun _ _ => rfl))), ?_⟩
  refine ⟨_, rfl, _, rfl, _, rfl, b, xs, rfl, .inl hb, a, _, rfl, ha, by omega, ?_, fun r h0 h1 => ?_⟩
  · exact Nat.lt_of_le_of_lt (show ((xs.length : Int)).natAbs ≤ 1000000 by omega) (by decide +kernel)
  obtain ⟨j, rfl⟩ : ∃ j : Nat, r = (j : Int) := ⟨r.toNat, by omega⟩
  have hj : j < xs.length := by omega
  exact ⟨b, xs, _, xs[j], rfl, rfl, hb, atI_nat (List.getElem?_eq_getElem hj), k _ (List.getElem_mem hj)⟩
end
end My
namespace My
open PySem PySem.Spec PyProof.Rows L2
local macro_rules | `(tactic| walk_at "side") => `(tactic| first | assumption | decide | exact Or.inl ⟨by decide, by decide⟩ | exact Or.inr ⟨by decide, by decide⟩ | exact ⟨by decide, by decide, by decide⟩ | omega | (unfold CMulW; decide +kernel) | (dsimp only; first | assumption | omega | decide +kernel) | exact len_ok (Nat.le_of_ble_eq_true rfl) | fail "side")
local macro_rules | `(tactic| walk_at "rd") => `(tactic| first
  | refine ⟨_, _, _, _, rfl, rfl, SqL.of upd_same, atI_nat (j := 0) rfl, ?_⟩ | refine ⟨_, _, _, _, rfl, rfl, SqL.of upd_same, atI_nat (j := 1) rfl, ?_⟩ | refine ⟨_, _, _, _, rfl, rfl, SqL.of upd_same, atI_nat (j := 2) rfl, ?_⟩
  | refine ⟨_, _, _, _, rfl, rfl, upd_same, rfl, ?_⟩
  | refine ⟨_, _, rfl, rfl, ?_⟩ | refine ⟨_, rfl, ?_⟩ | refine ⟨_, _, rfl, ?_⟩ | refine Or.inl ⟨_, rfl, ?_⟩ | refine Or.inr ⟨_, rfl, ?_⟩ | refine ⟨(by walk_at "side"), ?_⟩ | fail "rd")
/-! ### numbers -/
structure Nm where
  t : Int
  p : Int
  r : Int
  b : Int
  deriving DecidableEq
def nf (n : Nm) : List (Str × V) := [("_top", .int n.t), ("_part", .int n.p), ("_root", .int n.r), ("_bottom", .int n.b)]
theorem nf_top (n : Nm) : (nf n).lookup ("_top" : Str) = some (.int n.t) := rfl
theorem nf_part (n : Nm) : (nf n).lookup ("_part" : Str) = some (.int n.p) := rfl
theorem nf_root (n : Nm) : (nf n).lookup ("_root" : Str) = some (.int n.r) := rfl
theorem nf_bottom (n : Nm) : (nf n).lookup ("_bottom" : Str) = some (.int n.b) := rfl
def NumAt (C : Addr) (H : Hp) (a : Addr) (n : Nm) : Prop := ∃ dx, H a = some (.ins C dx (nf n))
theorem NumAt.ext {C : Addr} {H H' : Hp} {a : Addr} {n : Nm} (h : NumAt C H a n) (e : Ext H H') : NumAt C H' a n := let ⟨dx, q⟩ := h; ⟨dx, e _ _ q⟩
def squares : List Int := [4, 9, 25, 49, 121, 169, 289, 361, 529, 841, 961]
def rootOk (r : Int) : Bool := (decide (2 ≤ r) && decide (r ≤ 999)) && squares.all fun q => !decide (r.fmod q = 0)
def validN (t p r b : Int) : Bool := if b = 0 then false else if r = 0 then decide (p = 0) else rootOk r
def com (t p b : Int) : Int := ((Nat.gcd (Nat.gcd b.natAbs p.natAbs) t.natAbs : Nat) : Int)
def coms (t p b : Int) : Int := if b < 0 then -com t p b else com t p b
def lst (t p r b : Int) : Nm := ⟨t.fdiv (coms t p b), p.fdiv (coms t p b), if p = 0 then 0 else r, b.fdiv (coms t p b)⟩
/-! ### the class as the top has made it -/
structure PropT (K : PySem.W.Frag) (C : Addr) (x : Str) (qual : Str) (st : Stmt) : Prop where
  ex : ∃ (p g : Addr) (fd : FuncData), PropOf K C x p g ∧ Fun K x qual st g fd
structure MethT (K : PySem.W.Frag) (C : Addr) (x : Str) (qual : Str) (st : Stmt) : Prop where
  ex : ∃ (f : Addr) (fd : FuncData), Meth K C x f ∧ PySem.W.isFn K (.ref f) = true ∧ Fun K x qual st f fd
structure OpT (K : PySem.W.Frag) (C : Addr) (op : Operator) (x qual : Str) (st : Stmt) : Prop where
  ex : ∃ (f : Addr) (fd : FuncData), OwnOp K C op f ∧ Fun K x qual st f fd
structure SpT (K : PySem.W.Frag) (C : Addr) (x qual : Str) (st : Stmt) : Prop where
  ex : ∃ (f : Addr) (fd : FuncData), PySem.W.findIn K (.ref C) x = some (some (.ref f)) ∧ PySem.W.isFn K (.ref f) = true ∧ Fun K x qual st f fd
/-- the promises of these -/
structure PropAt (P : Program) (w : World) (K : PySem.W.Frag) (mg : Str → Option Value) (base : Heap) (k : Nat) (C : Addr) (x : Str) (sp : Sp) : Prop where
  ex : ∃ (p g : Addr) (fd : FuncData), PropOf K C x p g ∧ Binds K fd ["self"] [] ∧ FnOk P w K mg base CX0 k g fd ["self"] sp
structure MethAt (P : Program) (w : World) (K : PySem.W.Frag) (mg : Str → Option Value) (base : Heap) (k : Nat) (C : Addr) (x : Str) (ps : List Str) (sp : Sp) : Prop where
  ex : ∃ (f : Addr) (fd : FuncData), Meth K C x f ∧ Binds K fd ps [] ∧ FnOk P w K mg base CX0 k f fd ps sp
structure OpAt (P : Program) (w : World) (K : PySem.W.Frag) (mg : Str → Option Value) (base : Heap) (k : Nat) (C : Addr) (op : Operator) (sp : Sp) : Prop where
  ex : ∃ (f : Addr) (fd : FuncData), OwnOp K C op f ∧ Binds K fd ["self", "other"] [] ∧ FnOk P w K mg base CX0 k f fd ["self", "other"] sp
structure SpAt (P : Program) (w : World) (K : PySem.W.Frag) (mg : Str → Option Value) (base : Heap) (k : Nat) (C : Addr) (x : Str) (ps : List Str) (sp : Sp) : Prop where
  ex : ∃ (f : Addr) (fd : FuncData), PySem.W.findIn K (.ref C) x = some (some (.ref f)) ∧ PySem.W.isFn K (.ref f) = true ∧ Binds K fd ps [] ∧ FnOk P w K mg base CX0 k f fd ps sp
section
variable {X : Cx} {k n : Nat} {C : Addr} {x : Str} {ps : List Str} {sp : Sp} {p pos apos : Pos} {e o : Expr} {es : List Expr} {t : TA} {ta to : TE}
theorem propA (F : PropAt X.prog X.w X.K X.mg X.base k C x sp) (c : Cls X.K C) (hr : Room (k + 1) X.A) (he : PE X e ta) (hab : attributeBase e x X.env (eval e X.env) = eval e X.env := by rfl) : PE X (.Attribute e x pos) (tProp C sp [] E0 ta) := by
  obtain ⟨q, g, fd, hp, hb, G⟩ := F.ex
  exact pe_prop he c hp G hr hb .nil pass0 hab
theorem opA {op : Operator} (F : OpAt X.prog X.w X.K X.mg X.base k C op sp) (hr : Room k X.A) : OpR X (binaryOp op) (rOwn C sp E0) := by
  obtain ⟨f, fd, W, hb, G⟩ := F.ex
  exact op_own W G hr hb pass0
theorem negA (F : SpAt X.prog X.w X.K X.mg X.base k C "__neg__" ["self"] sp) (hr : Room k X.A) : UnR X (unaryOp .USub) (rOwnU C sp E0) := by
  obtain ⟨f, fd, hs, hf, hb, G⟩ := F.ex
  exact un_ownNeg hs hf G hr hb pass0
theorem eqA (F : SpAt X.prog X.w X.K X.mg X.base k C "__eq__" ["self", "other"] sp) (hr : Room k X.A) : OpR X (compareOp .Eq) (rOwnEq C sp E0) := by
  obtain ⟨f, fd, hs, hf, hb, G⟩ := F.ex
  exact op_ownEq hs hf G hr hb pass0
end
section
variable {P : Program} {w : World} {K : PySem.W.Frag} {mg : Str → Option Value} {base : Heap} {C : Addr}
theorem propAt {x qual : Str} {st : Stmt} {N : List Str} {k : Nat} {sp : Sp} (D : PropT K C x qual st) (S : FnScope N ["self"] (defScope st))
    (hbind : ∀ (kV doc pm : Value) (an : Option Addr) (cdv ct : Value) (us : List Value), us.length = 1 → bindArgs (PySem.W.fnOf x qual (defArgs st) (defBody st) (defScope st) .none kV doc pm an cdv ct) ⟨us, []⟩ = pure ((["self"] : List Str).zip us))
    (len : ∀ vs H Q E, sp vs H Q E → vs.length = 1)
    (hbody : ∀ (f : Addr) (cdv : Value) (A : Around) (outer : List Env) (s : Shared) (H : Hp) (vs : List V) (Q : VK) (E : XK), Room k (A.deeper (envOfC qual (defScope st) s.heap.objs.size f cdv)) → sp vs H Q E →
      ∃ t, PSs (cxOf CX0 P w K mg base N qual (defScope st) f cdv A outer s H E).nox (defBody st) t ∧ t { nx := fun _ H' => Q .non H', rt := Q } (start N vs) H) : PropAt P w K mg base (k + 1) C x sp := by
  obtain ⟨p, g, fd, hp, F⟩ := D.ex
  exact ⟨p, g, fd, hp, F.binds hbind, F.ok S len fun cdv A outer s H vs Q E hr h => hbody g cdv A outer s H vs Q E hr h⟩
theorem spAt {x qual : Str} {st : Stmt} {N ps : List Str} {k : Nat} {sp : Sp} (D : SpT K C x qual st) (S : FnScope N ps (defScope st))
    (hbind : ∀ (kV doc pm : Value) (an : Option Addr) (cdv ct : Value) (us : List Value), us.length = ps.length → bindArgs (PySem.W.fnOf x qual (defArgs st) (defBody st) (defScope st) .none kV doc pm an cdv ct) ⟨us, []⟩ = pure (ps.zip us))
    (len : ∀ vs H Q E, sp vs H Q E → vs.length = ps.length)
    (hbody : ∀ (f : Addr) (cdv : Value) (A : Around) (outer : List Env) (s : Shared) (H : Hp) (vs : List V) (Q : VK) (E : XK), Room k (A.deeper (envOfC qual (defScope st) s.heap.objs.size f cdv)) → sp vs H Q E →
      ∃ t, PSs (cxOf CX0 P w K mg base N qual (defScope st) f cdv A outer s H E).nox (defBody st) t ∧ t { nx := fun _ H' => Q .non H', rt := Q } (start N vs) H) : SpAt P w K mg base (k + 1) C x ps sp := by
  obtain ⟨f, fd, hs, hf, F⟩ := D.ex
  exact ⟨f, fd, hs, hf, F.binds hbind, F.ok S len fun cdv A outer s H vs Q E hr h => hbody f cdv A outer s H vs Q E hr h⟩
theorem opAt {op : Operator} {x qual : Str} {st : Stmt} {N : List Str} {k : Nat} {sp : Sp} (D : OpT K C op x qual st) (S : FnScope N ["self", "other"] (defScope st))
    (hbind : ∀ (kV doc pm : Value) (an : Option Addr) (cdv ct : Value) (us : List Value), us.length = 2 → bindArgs (PySem.W.fnOf x qual (defArgs st) (defBody st) (defScope st) .none kV doc pm an cdv ct) ⟨us, []⟩ = pure ((["self", "other"] : List Str).zip us))
    (len : ∀ vs H Q E, sp vs H Q E → vs.length = 2)
    (hbody : ∀ (f : Addr) (cdv : Value) (A : Around) (outer : List Env) (s : Shared) (H : Hp) (vs : List V) (Q : VK) (E : XK), Room k (A.deeper (envOfC qual (defScope st) s.heap.objs.size f cdv)) → sp vs H Q E →
      ∃ t, PSs (cxOf CX0 P w K mg base N qual (defScope st) f cdv A outer s H E).nox (defBody st) t ∧ t { nx := fun _ H' => Q .non H', rt := Q } (start N vs) H) : OpAt P w K mg base (k + 1) C op sp := by
  obtain ⟨f, fd, hs, F⟩ := D.ex
  exact ⟨f, fd, hs, F.binds hbind, F.ok S len fun cdv A outer s H vs Q E hr h => hbody f cdv A outer s H vs Q E hr h⟩
theorem methAt {x qual : Str} {st : Stmt} {N ps : List Str} {k : Nat} {sp : Sp} (D : MethT K C x qual st) (S : FnScope N ps (defScope st))
    (hbind : ∀ (kV doc pm : Value) (an : Option Addr) (cdv ct : Value) (us : List Value), us.length = ps.length → bindArgs (PySem.W.fnOf x qual (defArgs st) (defBody st) (defScope st) .none kV doc pm an cdv ct) ⟨us, []⟩ = pure (ps.zip us))
    (len : ∀ vs H Q E, sp vs H Q E → vs.length = ps.length)
    (hbody : ∀ (f : Addr) (cdv : Value) (A : Around) (outer : List Env) (s : Shared) (H : Hp) (vs : List V) (Q : VK) (E : XK), Room k (A.deeper (envOfC qual (defScope st) s.heap.objs.size f cdv)) → sp vs H Q E →
      ∃ t, PSs (cxOf CX0 P w K mg base N qual (defScope st) f cdv A outer s H E).nox (defBody st) t ∧ t { nx := fun _ H' => Q .non H', rt := Q } (start N vs) H) : MethAt P w K mg base (k + 1) C x ps sp := by
  obtain ⟨f, fd, hs, hf, F⟩ := D.ex
  exact ⟨f, fd, hs, F.binds hbind, F.ok S len fun cdv A outer s H vs Q E hr h => hbody f cdv A outer s H vs Q E hr h⟩

/-! ### is_any_integer, _are_valid -/
abbrev s_isint : Stmt := top 7
abbrev s_valid : Stmt := top 13
theorem sc_valid : FnScope ["top", "part", "root", "bottom", "value", "square"] ["top", "part", "root", "bottom"] (defScope s_valid) := ⟨rfl, rfl, rfl, by decide +kernel, rfl, by decide +kernel, by decide +kernel⟩
/-- its kind is told; ints are ints -/
def spIsInt : Sp := fun vs H Q _ => ∃ i : Int, vs = [.int i] ∧ Q (.bl true) H
theorem sc_isint : FnScope ["value"] ["value"] (defScope s_isint) := ⟨rfl, rfl, rfl, by decide +kernel, rfl, by decide +kernel, by decide +kernel⟩
theorem kit_int : kitB "int" "int" = some true := by decide +kernel
theorem kit_intbool : kitB "int" "bool" = some false := by decide +kernel
theorem ok_isint (T : Bn mg) (D : DefAt K mg "is_any_integer" s_isint) : FnAt P w K mg base 1 "is_any_integer" ["value"] spIsInt := by
  refine fnAt D sc_isint (fun _ _ _ _ _ _ us hl => match us, hl with | [_], _ => rfl) (fun vs H Q E h => ?_) fun f cdv A outer s H vs Q E hr h => ?_
  · obtain ⟨i, rfl, _⟩ := h
    rfl
  obtain ⟨i, rfl, k⟩ := h
  refine ⟨_, (pss_one (ps_ret (pe_and (pe_callB call_isi (by rfl) T.b_isinstance (by decide +kernel) (pa_cons (pv 0) (pa_cons (pe_bltn (v := .ty "int") (by rfl) T.b_int (by decide +kernel) rfl) pa_nil))) (pe_one (pe_not (pe_callB call_isi (by rfl) T.b_isinstance (by decide +kernel) (pa_cons (pv 0) (pa_cons (pe_bltn (v := .ty "bool") (by rfl) T.b_bool (by decide +kernel) rfl) pa_nil)))))))), ?_⟩
  refine ⟨_, rfl, _, _, _, _, true, rfl, .ty _, .base (.int _), kit_ty kit_int, _, rfl, ?_⟩
  refine iteT ?_
  refine ⟨_, rfl, _, _, _, _, false, rfl, .ty _, .base (.int _), kit_ty kit_intbool, _, rfl, ?_⟩
  exact k

def spValid : Sp := fun vs H Q _ => ∃ t p r b : Int, vs = [.int t, .int p, .int r, .int b] ∧ ∀ H', Ext H H' → Q (.bl (validN t p r b)) H'
/-- the module's constants -/
structure NumK (K : PySem.W.Frag) (mg : Str → Option Value) : Prop where
  g_MAX_ROOT : ∃ t, mg "MAX_ROOT" = some (.int 999 t)
  g_SQ : ∃ q : Addr, mg "PRIME_SQUARES" = some (.ref q) ∧ ∀ H : Hp, SqT K H q (squares.map V.int)
theorem ok_valid (T : Bn mg) (N : NumK K mg) (D : DefAt K mg "_are_valid" s_valid) (F_is_any_integer : FnAt P w K mg base 1 "is_any_integer" ["value"] spIsInt) : FnAt P w K mg base 2 "_are_valid" ["top", "part", "root", "bottom"] spValid := by
  refine fnAt D sc_valid (fun _ _ _ _ _ _ us hl => match us, hl with | [_, _, _, _], _ => rfl) (fun vs H Q E h => ?_) fun f cdv A outer s H vs Q E hr h => ?_
  · obtain ⟨t, p, r, b, rfl, _⟩ := h
    rfl
  obtain ⟨t, p, r, b, rfl, k⟩ := h
  obtain ⟨tk, g1⟩ := N.g_MAX_ROOT
  obtain ⟨sq, g2, g3⟩ := N.g_SQ
  refine ⟨_, (pss_cons (ps_if (pt_not (pt_val (pe_callB (cr_all rfl) (by rfl) T.b_all (by decide +kernel) (pa_cons (pe_lc (own := [("value", 4)]) (g := gName 4) (tt := tYes) rfl sc_valid.nd (pi_tup (pe_tup (pa_cons (pv 0) (pa_cons (pv 1) (pa_cons (pv 2) (pa_cons (pv 3) pa_nil)))))) (blkOk_by (N := ["top", "part", "root", "bottom", "value", "square"]) (sc := defScope s_valid) (by decide +kernel)) (fun _ _ _ _ _ => pg_name (i := 4) sc_valid.nd rfl (Or.inl rfl)) (fun _ _ _ _ _ => pts_nil) (fun _ _ _ _ _ => (callA F_is_any_integer (hr.mono (by decide)) rfl (pa_cons (pv 4) pa_nil)))) pa_nil)))) (pss_one (ps_ret pe_bl)) pss_nil)
    (pss_cons (ps_if (pt_cmpR op_eq (pv 3) pe_int (nomark _)) (pss_one (ps_ret pe_bl)) pss_nil)
    (pss_cons (ps_if (pt_cmpR op_eq (pv 2) pe_int (nomark _)) (pss_one (ps_ret (pe_cmpR op_eq (pv 1) pe_int (nomark _)))) pss_nil)
    (pss_one (ps_ret (pe_and (pe_chain op_le op_le pe_int (pv 2) (pe_glob (v := .int 999) rfl g1 ⟨_, rfl⟩)) (pe_one (pe_callB (cr_all rfl) (by rfl) T.b_all (by decide +kernel) (pa_cons (pe_lc (own := [("square", 5)]) (g := gName 5) (tt := tYes) rfl sc_valid.nd (pi_tup (pe_glob (v := .ref sq) rfl g2 rfl)) (blkOk_by (N := ["top", "part", "root", "bottom", "value", "square"]) (sc := defScope s_valid) (by decide +kernel)) (fun _ _ _ _ _ => pg_name (i := 5) sc_valid.nd rfl (Or.inl rfl)) (fun _ _ _ _ _ => pts_nil) (fun _ _ _ _ _ => (pe_cmpR op_ne (pe_op op_modN (pv 2) (pv 5)) pe_int (nomark _)))) pa_nil))))))))), ?_⟩
  refine ⟨_, rfl, _, rfl, _, rfl, _, rfl, len_ok (Nat.le_of_ble_eq_true rfl), fun q hq => ?_⟩
  refine ⟨q, rfl, ⟨_, SqT.of upd_same⟩, fun D hD => map_tup (xs := [.int t, .int p, .int r, .int b]) (fun _ _ => .bl true) (SqT.of upd_same) hD (Nat.le_of_ble_eq_true rfl) (fun _ => rfl) (fun i x H' hi e Q' k' => ?_) fun H' e hl => ?_⟩
  · refine ⟨x, rfl, ?_⟩
    have hx : ∃ z : Int, x = .int z := by
      match i, hi with
      | 0, hi => exact ⟨_, (Option.some.inj hi).symm⟩
      | 1, hi => exact ⟨_, (Option.some.inj hi).symm⟩
      | 2, hi => exact ⟨_, (Option.some.inj hi).symm⟩
      | 3, hi => exact ⟨_, (Option.some.inj hi).symm⟩
      | i + 4, hi => simp at hi
    obtain ⟨z, rfl⟩ := hx
    exact ⟨z, rfl, k' H' (ext_refl _)⟩
  have e0 : Ext H H' := (ext_new (ext_refl H) hq).trans e
  refine ⟨D, [true, true, true, true], rfl, SqL.of hl, _, rfl, ?_⟩
  refine iteF ?_
  refine ⟨_, rfl, rfl, _, rfl, ite2 (fun hb => ?_) (fun hb => ?_)⟩
  · have hb' : b = 0 := V.int.inj (of_decide_eq_true hb)
    have ev : validN t p r b = false := by unfold validN; rw [if_pos hb']
    exact ev ▸ k H' e0
  have nb : ¬ b = 0 := fun z => hb (decide_eq_true (by rw [z]))
  refine ⟨_, rfl, rfl, _, rfl, ite2 (fun hb => ?_) (fun hb => ?_)⟩
  · have hr' : r = 0 := V.int.inj (of_decide_eq_true hb)
    have ev : validN t p r b = decide (V.int p = V.int 0) := by
      unfold validN
      rw [if_neg nb, if_pos hr']
      exact decide_eq_decide.mpr ⟨fun z => by rw [z], fun z => V.int.inj z⟩
    refine ⟨_, rfl, rfl, ?_⟩
    exact ev ▸ k H' e0
  have nr : ¬ r = 0 := fun z => hb (decide_eq_true (by rw [z]))
  have ev : validN t p r b = rootOk r := by unfold validN; rw [if_neg nb, if_neg nr]
  rw [ev] at k
  refine ⟨_, rfl, _, _, rfl, rfl, _, rfl, ite2 (fun h2 => ?_) (fun h2 => ?_)⟩
  · refine ⟨_, _, rfl, rfl, _, rfl, ite2 (fun h9 => ?_) (fun h9 => ?_)⟩
    · refine ⟨sq, rfl, ⟨_, g3 _⟩, fun D2 hD2 => map_tup (xs := squares.map V.int) (fun _ x => match x with | .int q => .bl (!decide (r.fmod q = 0)) | _ => .non) (g3 _) hD2 (by decide) (fun _ => rfl) (fun i x H2 hi e2 Q' k' => ?_) fun H2 e2 hl2 => ?_⟩
      · rw [List.getElem?_map] at hi
        cases hq : squares[i]? with
        | none => rw [hq] at hi; cases hi
        | some z =>
          rw [hq] at hi
          cases (Option.some.inj hi)
          have hz : z ≠ 0 := by
            have hm := List.mem_of_getElem? hq
            intro z0
            rw [z0] at hm
            exact absurd hm (by decide)
          refine ⟨_, rfl, _, rfl, _, _, rfl, rfl, hz, rfl, ?_⟩
          have e5 : (!decide (V.int (r.fmod z) = V.int 0)) = !decide (r.fmod z = 0) := congrArg (!·) (decide_eq_decide.mpr ⟨fun z => V.int.inj z, fun z => by rw [z]⟩)
          show Q' (.bl (!decide (V.int (r.fmod z) = V.int 0))) _
          rw [e5]
          exact k' H2 (ext_refl _)
      · refine ⟨D2, squares.map (fun q => !decide (r.fmod q = 0)), rfl, SqL.of ?_, ?_⟩
        · rw [hl2]
          rfl
        · have e6 : (squares.map (fun q => !decide (r.fmod q = 0))).all id = rootOk r := by
            unfold rootOk
            rw [h2, h9, List.all_map]
            rfl
          show Q (.bl ((squares.map (fun q => !decide (r.fmod q = 0))).all id)) H2
          rw [e6]
          exact k H2 (e0.trans e2)
    · have e7 : rootOk r = false := by unfold rootOk; rw [decide_eq_false (fun z => h9 (decide_eq_true z)), Bool.and_false]; rfl
      exact e7 ▸ k H' e0
  · have e7 : rootOk r = false := by unfold rootOk; rw [decide_eq_false (fun z => h2 (decide_eq_true z))]; rfl
    refine ⟨_, rfl, iteF ?_⟩
    exact e7 ▸ k H' e0
end
end My
namespace My
open PySem PySem.Spec PyProof.Rows L2
local macro_rules | `(tactic| walk_at "side") => `(tactic| first | assumption | decide | exact Or.inl ⟨by decide, by decide⟩ | exact Or.inr ⟨by decide, by decide⟩ | exact ⟨by decide, by decide, by decide⟩ | omega | (unfold CMulW; decide +kernel) | (dsimp only; first | assumption | omega | decide +kernel) | exact len_ok (Nat.le_of_ble_eq_true rfl) | fail "side")
local macro_rules | `(tactic| walk_at "rd") => `(tactic| first
  | refine ⟨_, _, _, _, rfl, rfl, SqL.of upd_same, atI_nat (j := 0) rfl, ?_⟩ | refine ⟨_, _, _, _, rfl, rfl, SqL.of upd_same, atI_nat (j := 1) rfl, ?_⟩ | refine ⟨_, _, _, _, rfl, rfl, SqL.of upd_same, atI_nat (j := 2) rfl, ?_⟩
  | refine ⟨_, _, _, _, rfl, rfl, upd_same, rfl, ?_⟩
  | refine ⟨_, _, rfl, rfl, ?_⟩ | refine ⟨_, rfl, ?_⟩ | refine ⟨_, _, rfl, ?_⟩ | refine Or.inl ⟨_, rfl, ?_⟩ | refine Or.inr ⟨_, rfl, ?_⟩ | refine ⟨(by walk_at "side"), ?_⟩ | fail "rd")

abbrev s_ninit : Stmt := inClass (top 12) 0
theorem sc_ninit : FnScope ["self", "top", "part", "root", "bottom", "common"] ["self", "top", "part", "root", "bottom"] (defScope s_ninit) := ⟨rfl, rfl, rfl, by decide +kernel, rfl, by decide +kernel, by decide +kernel⟩
abbrev s_ntop : Stmt := inClass (top 12) 2
theorem sc_ntop : FnScope ["self"] ["self"] (defScope s_ntop) := ⟨rfl, rfl, rfl, by decide +kernel, rfl, by decide +kernel, by decide +kernel⟩
abbrev s_npart : Stmt := inClass (top 12) 3
theorem sc_npart : FnScope ["self"] ["self"] (defScope s_npart) := ⟨rfl, rfl, rfl, by decide +kernel, rfl, by decide +kernel, by decide +kernel⟩
abbrev s_nroot : Stmt := inClass (top 12) 4
theorem sc_nroot : FnScope ["self"] ["self"] (defScope s_nroot) := ⟨rfl, rfl, rfl, by decide +kernel, rfl, by decide +kernel, by decide +kernel⟩
abbrev s_nbottom : Stmt := inClass (top 12) 5
theorem sc_nbottom : FnScope ["self"] ["self"] (defScope s_nbottom) := ⟨rfl, rfl, rfl, by decide +kernel, rfl, by decide +kernel, by decide +kernel⟩
/-- the class Number as the top has made it -/
structure NumT (K : PySem.W.Frag) (mg : Str → Option Value) (C : Addr) : Prop where
  g : mg "Number" = some (.ref C)
  cl : Cls K C
  nT : NoAttr K C "_top"
  nP : NoAttr K C "_part"
  nR : NoAttr K C "_root"
  nB : NoAttr K C "_bottom"
  ini : ∃ f fd, Mk K C f ∧ FunD K "__init__" "Number.__init__" (defArgs s_ninit) (defBody s_ninit) (defScope s_ninit) [.int 0] [("root", .int 0), ("bottom", .int 1)] f fd
  m_gcd : mg "gcd" = some (.builtin "math.gcd")
  m_isqrt : mg "isqrt" = some (.builtin "math.isqrt")
/-- arguments of a number: right, and not too long -/
structure NV (t p r b : Int) : Prop where
  ok : validN t p r b = true
  zb : Sz 9000 b
theorem NV.b0 {t p r b : Int} (h : NV t p r b) : b ≠ 0 := fun z => by
  have := h.ok
  unfold validN at this
  rw [if_pos z] at this
  cases this
def spInit (C : Addr) : Sp := fun vs H Q _ => ∃ (x dx : Addr) (t p r b : Int), vs = [.ref x, .int t, .int p, .int r, .int b] ∧ H x = some (.ins C dx []) ∧ NV t p r b ∧
  ∀ H', (∀ a o, H a = some o → a ≠ x → H' a = some o) → H' x = some (.ins C dx (nf (lst t p r b))) → Q .non H'
structure InitAt (P : Program) (w : World) (K : PySem.W.Frag) (mg : Str → Option Value) (base : Heap) (k : Nat) (C : Addr) (sp : Sp) : Prop where
  ex : ∃ (f : Addr) (fd : FuncData), Mk K C f ∧ FnOk P w K mg base CX0 k f fd ["self", "top", "part", "root", "bottom"] sp ∧
    (∃ g, KBn K fd ["self", "top", "part", "root", "bottom"] 3 ["root", "bottom"] g (fun vs zs => vs ++ zs)) ∧
    (∃ g, KBn K fd ["self", "top", "part", "root", "bottom"] 2 ["bottom"] g (fun vs zs => vs ++ (.int 0 :: .int 0 :: zs))) ∧
    (∃ ds, Vals [.int 0, .int 0, .int 1] ds ∧ Binds K fd ["self", "top", "part", "root", "bottom"] ds) ∧
    ∃ g, KBn K fd ["self", "top", "part", "root", "bottom"] 3 ["root"] g (fun vs zs => vs ++ (zs ++ [.int 1]))
theorem com_pos {t p b : Int} (h : b ≠ 0) : 0 < com t p b := by
  unfold com
  have h1 : 0 < Nat.gcd b.natAbs p.natAbs := Nat.gcd_pos_of_pos_left _ (by omega)
  have h2 : 0 < Nat.gcd (Nat.gcd b.natAbs p.natAbs) t.natAbs := Nat.gcd_pos_of_pos_left _ h1
  omega
theorem com_le {t p b : Int} (h : b ≠ 0) : (com t p b).natAbs ≤ b.natAbs := by
  unfold com
  rw [Int.natAbs_natCast]
  exact Nat.le_trans (Nat.le_of_dvd (Nat.gcd_pos_of_pos_left _ (by omega)) (Nat.gcd_dvd_left _ _)) (Nat.le_of_dvd (by omega) (Nat.gcd_dvd_left _ _))
theorem coms_abs {t p b : Int} : (coms t p b).natAbs = (com t p b).natAbs := by
  unfold coms
  split
  · rw [Int.natAbs_neg]
  · rfl
theorem coms_ne {t p b : Int} (h : b ≠ 0) : coms t p b ≠ 0 := fun z => by
  have := com_pos (t := t) (p := p) h
  have e := coms_abs (t := t) (p := p) (b := b)
  rw [z] at e
  omega
theorem NV.div {t p r b : Int} (h : NV t p r b) (i : Int) : CDivX i (coms t p b) :=
  Sz.cdiv (coms_ne h.b0) (Sz.ofLt (by rw [coms_abs]; exact com_le h.b0) h.zb) (by decide) (by decide)
section
variable {P : Program} {w : World} {K : PySem.W.Frag} {mg : Str → Option Value} {base : Heap} {C : Addr}
theorem ok_init (T : Bn mg) (NC : NumT K mg C) (F__are_valid : FnAt P w K mg base 2 "_are_valid" ["top", "part", "root", "bottom"] spValid) : InitAt P w K mg base 3 C (spInit C) := by
  obtain ⟨f, fd, M, F⟩ := NC.ini
  refine ⟨f, fd, M, F.ok sc_ninit (fun vs H Q E h => ?_) (fun cdv A outer s H vs Q E hr h => ?_), ?_, ?_, ?_, ?_⟩
  · obtain ⟨x, dx, t, p, r, b, rfl, _⟩ := h
    rfl
  · obtain ⟨x, dx, t, p, r, b, rfl, hx, hv, k⟩ := h
    refine ⟨_, PSs.nox (pss_cons (ps_if (pt_not (pt_val (callA F__are_valid (hr.mono (by decide)) rfl (pa_cons (pv 1) (pa_cons (pv 2) (pa_cons (pv 3) (pa_cons (pv 4) pa_nil))))))) (pss_one ps_never) pss_nil)
    (pss_cons (ps_set (i := 5) sc_ninit.nd rfl (Or.inl rfl) (pe_callBfun cr_gcd3 (by rfl) NC.m_gcd (pa_cons (pv 4) (pa_cons (pv 2) (pa_cons (pv 1) pa_nil)))))
    (Evl.pss_cut (ps_if (pt_cmpR op_lt (pv 4) pe_int (nomark _)) (pss_one (ps_set (i := 5) sc_ninit.nd rfl (Or.inl rfl) (pe_un un_neg (pv 5)))) pss_nil)
    (pss_cons (ps_fld (pv 0) (pe_op op_fdivX (pv 1) (pv 5)) rfl)
    (pss_cons (ps_fld (pv 0) (pe_op op_fdivX (pv 2) (pv 5)) rfl)
    (pss_cons (ps_fld (pv 0) (pe_ifExp (pt_cmpR op_ne (pv 2) pe_int (nomark _)) (pv 3) pe_int) rfl)
    (pss_one (ps_fld (pv 0) (pe_op op_fdivX (pv 4) (pv 5)) rfl)))))))), ?_⟩
    refine ⟨_, rfl, _, rfl, _, rfl, _, rfl, t, p, r, b, rfl, fun H1 e1 => ?_⟩
    rw [hv.ok]
    refine ⟨_, rfl, iteF ?_⟩
    refine ⟨_, rfl, _, rfl, _, rfl, _, _, _, rfl, ?_⟩
    refine ⟨fun σ' H' => σ' = [some (.ref x), some (.int t), some (.int p), some (.int r), some (.int b), some (.int (coms t p b))] ∧ H' = H1, ⟨_, rfl, _, _, rfl, rfl, _, rfl, ite2 (fun hb => ?_) (fun hb => ?_)⟩, ?_⟩
    · refine ⟨_, rfl, _, rfl, ?_, rfl⟩
      have e : coms t p b = -com t p b := if_pos (of_decide_eq_true hb)
      rw [e]
      rfl
    · refine ⟨?_, rfl⟩
      have e : coms t p b = com t p b := if_neg (fun z => hb (decide_eq_true z))
      rw [e]
      rfl
    rintro σ' H' ⟨rfl, rfl⟩
    have hx1 : H' x = some (.ins C dx []) := e1 _ _ hx
    refine ⟨_, rfl, _, rfl, _, _, rfl, rfl, hv.div _, _, rfl, x, C, dx, _, rfl, hx1, NC.cl, NC.nT, (by show 0 < 1000; decide), ?_⟩
    refine ⟨_, rfl, _, rfl, _, _, rfl, rfl, hv.div _, _, rfl, x, C, dx, _, rfl, upd_same, NC.cl, NC.nP, (by show 1 < 1000; decide), ?_⟩
    refine ⟨_, rfl, rfl, _, rfl, ?_⟩
    refine ite2 (fun hp => ?a) (fun hp => ?b)
    case' a =>
      have el : lst t p r b = ⟨t.fdiv (coms t p b), p.fdiv (coms t p b), r, b.fdiv (coms t p b)⟩ := by
        unfold lst
        rw [if_neg (fun z => by rw [z] at hp; exact absurd hp (by decide))]
      refine ⟨_, rfl, _, rfl, x, C, dx, _, rfl, upd_same, NC.cl, NC.nR, (by show 2 < 1000; decide), ?_⟩
    case' b =>
      have el : lst t p r b = ⟨t.fdiv (coms t p b), p.fdiv (coms t p b), 0, b.fdiv (coms t p b)⟩ := by
        unfold lst
        rw [if_pos (Classical.byContradiction fun z => hp (by rw [decide_eq_false (fun y => z (V.int.inj y))]; rfl))]
      refine ⟨_, rfl, x, C, dx, _, rfl, upd_same, NC.cl, NC.nR, (by show 2 < 1000; decide), ?_⟩
    all_goals
      refine ⟨_, rfl, _, rfl, _, _, rfl, rfl, hv.div _, _, rfl, x, C, dx, _, rfl, upd_same, NC.cl, NC.nB, (by show 3 < 1000; decide), ?_⟩
      rw [el] at k
      exact k _ (fun a o e hne => by rw [upd_ne hne, upd_ne hne, upd_ne hne, upd_ne hne]; exact e1 _ _ e) upd_same
  · obtain ⟨its, mv, hb⟩ := F.kbinds 3 ["root", "bottom"] [] (fun us its mv ws => us ++ ws) (by simp) (by simp) (fun q hq => by cases hq) (fun r1 _ _ r2 => r1.append r2) (fun T D doc pm an cdv ct us its mv ws h1 h2 h3 h4 =>
      match us, its, mv, ws, h1, h2, h3, h4 with | [_, _, _], [_], [], [_, _], _, _, _, _ => ⟨_, rfl, (by show _ = pure _; first | (with_unfolding_all rfl) | kernel_rfl)⟩)
    exact ⟨_, hb⟩
  · obtain ⟨its, mv, hb⟩ := F.kbinds 2 ["bottom"] [("root", .int 0)] (fun us its mv ws => us ++ (its ++ (mv ++ ws))) (by simp) (by simp) (fun q hq => by simp at hq; simp [hq]) (fun r1 r2 r3 r4 => r1.append (r2.append (r3.append r4))) (fun T D doc pm an cdv ct us its mv ws h1 h2 h3 h4 =>
      match us, its, mv, ws, h1, h2, h3, h4 with | [_, _], [_], [_], [_], _, _, _, _ => ⟨_, rfl, ⟨_, _, _, _, _, _, rfl, rfl, (by show _ = pure _; first | (with_unfolding_all rfl) | kernel_rfl)⟩⟩)
    exact ⟨_, hb⟩
  · exact F.binds 2 0 (by simp) rfl (fun T D doc pm an cdv ct us its ks h1 h2 h3 =>
      match us, its, ks, h1, h2, h3 with | [_, _], [_], [_, _], _, _, _ => ⟨_, rfl, ⟨_, _, _, _, _, _, rfl, rfl, ⟨_, _, _, _, _, _, rfl, rfl, rfl⟩⟩⟩) (by simp)
  · obtain ⟨its, mv, hb⟩ := F.kbinds 3 ["root"] [("bottom", .int 1)] (fun us its mv ws => us ++ (ws ++ mv)) (by simp) (by simp) (fun q hq => by simp at hq; simp [hq]) (fun r1 _ r3 r4 => r1.append (r4.append r3)) (fun T D doc pm an cdv ct us its mv ws h1 h2 h3 h4 =>
      match us, its, mv, ws, h1, h2, h3, h4 with | [_, _, _], [_], [_], [_], _, _, _, _ => ⟨_, rfl, ⟨_, _, _, _, _, _, rfl, rfl, (by show _ = pure _; first | (with_unfolding_all rfl) | kernel_rfl)⟩⟩)
    exact ⟨_, hb⟩
end
end My
namespace My
open PySem
/-! ### least forms: plain arithmetic -/
theorem com_dt {t p b : Int} : com t p b ∣ t := by
  unfold com
  exact Int.natAbs_dvd_natAbs.mp (by rw [Int.natAbs_natCast]; exact Nat.gcd_dvd_right _ _)
theorem com_dp {t p b : Int} : com t p b ∣ p := by
  unfold com
  exact Int.natAbs_dvd_natAbs.mp (by rw [Int.natAbs_natCast]; exact Nat.dvd_trans (Nat.gcd_dvd_left _ _) (Nat.gcd_dvd_right _ _))
theorem com_db {t p b : Int} : com t p b ∣ b := by
  unfold com
  exact Int.natAbs_dvd_natAbs.mp (by rw [Int.natAbs_natCast]; exact Nat.dvd_trans (Nat.gcd_dvd_left _ _) (Nat.gcd_dvd_left _ _))
theorem coms_dvd {t p b x : Int} (h : com t p b ∣ x) : coms t p b ∣ x := by
  unfold coms
  split
  · exact Int.neg_dvd.mpr h
  · exact h
theorem fdiv_of_dvd {x c : Int} (h : c ∣ x) : x.fdiv c * c = x := by
  rw [Int.fdiv_eq_ediv_of_dvd h]
  exact Int.ediv_mul_cancel h
/-- what lst divides by, and its four parts -/
structure LstIs (t p r b c : Int) (n : Nm) : Prop where
  c0 : c ≠ 0
  ht : n.t * c = t
  hp : n.p * c = p
  hb : n.b * c = b
  hr : n.r = if p = 0 then 0 else r
  b1 : 1 ≤ n.b
  cop : com n.t n.p n.b = 1
theorem abs_mul_right {a b : Int} : (a * b).natAbs = a.natAbs * b.natAbs := Int.natAbs_mul a b
theorem lst_is {t p r b : Int} (h : b ≠ 0) : LstIs t p r b (coms t p b) (lst t p r b) := by
  have c0 := coms_ne (t := t) (p := p) h
  have ht : (lst t p r b).t * coms t p b = t := fdiv_of_dvd (coms_dvd com_dt)
  have hp : (lst t p r b).p * coms t p b = p := fdiv_of_dvd (coms_dvd com_dp)
  have hb : (lst t p r b).b * coms t p b = b := fdiv_of_dvd (coms_dvd com_db)
  refine ⟨c0, ht, hp, hb, rfl, ?_, ?_⟩
  · have hc := com_pos (t := t) (p := p) h
    have hs : coms t p b = if b < 0 then -com t p b else com t p b := rfl
    generalize (lst t p r b).b = x at *
    generalize hcc : coms t p b = c at *
    by_cases hneg : b < 0
    · rw [if_pos hneg] at hs
      have : c < 0 := by omega
      refine Classical.byContradiction fun hx => ?_
      have hx' : x ≤ 0 := by omega
      have := Int.mul_nonneg_of_nonpos_of_nonpos hx' (by omega : c ≤ 0)
      omega
    · rw [if_neg hneg] at hs
      refine Classical.byContradiction fun hx => ?_
      have hx' : x ≤ 0 := by omega
      have := Int.mul_nonpos_of_nonpos_of_nonneg hx' (by omega : 0 ≤ c)
      omega
  · have e : (coms t p b).natAbs = Nat.gcd (Nat.gcd b.natAbs p.natAbs) t.natAbs := by
      rw [coms_abs]
      unfold com
      rw [Int.natAbs_natCast]
    have et : t.natAbs = (lst t p r b).t.natAbs * (coms t p b).natAbs := by rw [← abs_mul_right, ht]
    have ep : p.natAbs = (lst t p r b).p.natAbs * (coms t p b).natAbs := by rw [← abs_mul_right, hp]
    have eb : b.natAbs = (lst t p r b).b.natAbs * (coms t p b).natAbs := by rw [← abs_mul_right, hb]
    have e2 : Nat.gcd (Nat.gcd b.natAbs p.natAbs) t.natAbs = Nat.gcd (Nat.gcd (lst t p r b).b.natAbs (lst t p r b).p.natAbs) (lst t p r b).t.natAbs * (coms t p b).natAbs := by
      conv => lhs; rw [et, ep, eb]
      rw [Nat.gcd_mul_right, Nat.gcd_mul_right]
    rw [← e] at e2
    have hc : 0 < (coms t p b).natAbs := by omega
    have e3 : Nat.gcd (Nat.gcd (lst t p r b).b.natAbs (lst t p r b).p.natAbs) (lst t p r b).t.natAbs = 1 := by
      have : 1 * (coms t p b).natAbs = Nat.gcd (Nat.gcd (lst t p r b).b.natAbs (lst t p r b).p.natAbs) (lst t p r b).t.natAbs * (coms t p b).natAbs := by rw [Nat.one_mul]; exact e2
      exact (Nat.eq_of_mul_eq_mul_right hc this).symm
    unfold com
    rw [e3]
    rfl
/-- equal ratios, both least: equal -/
theorem least_eq {t p b t' p' b' : Int} (h1 : 1 ≤ b) (h1' : 1 ≤ b') (c : com t p b = 1) (c' : com t' p' b' = 1) (et : t * b' = t' * b) (ep : p * b' = p' * b) : b = b' ∧ t = t' ∧ p = p' := by
  have key : ∀ {t p b t' p' b' : Int}, com t p b = 1 → t * b' = t' * b → p * b' = p' * b → b.natAbs ∣ b'.natAbs := by
    intro t p b t' p' b' c et ep
    have d1 : b.natAbs ∣ b'.natAbs * b.natAbs := Nat.dvd_mul_left _ _
    have d2 : b.natAbs ∣ b'.natAbs * p.natAbs := by
      rw [Nat.mul_comm, ← abs_mul_right, ep, abs_mul_right]
      exact Nat.dvd_mul_left _ _
    have d3 : b.natAbs ∣ b'.natAbs * t.natAbs := by
      rw [Nat.mul_comm, ← abs_mul_right, et, abs_mul_right]
      exact Nat.dvd_mul_left _ _
    have d4 := Nat.dvd_gcd d1 d2
    rw [Nat.gcd_mul_left] at d4
    have d5 := Nat.dvd_gcd d4 d3
    rw [Nat.gcd_mul_left] at d5
    have e : Nat.gcd (Nat.gcd b.natAbs p.natAbs) t.natAbs = 1 := by
      unfold com at c
      omega
    rw [e, Nat.mul_one] at d5
    exact d5
  have a1 := key c et ep
  have a2 := key (t := t') (p := p') (b := b') (t' := t) (p' := p) (b' := b) c' et.symm ep.symm
  have a3 := Nat.dvd_antisymm a1 a2
  have eb : b = b' := by omega
  subst eb
  have hb : b ≠ 0 := by omega
  exact ⟨rfl, Int.eq_of_mul_eq_mul_right hb et, Int.eq_of_mul_eq_mul_right hb ep⟩
theorem lst_eq {t p r b t' p' r' b' : Int} (h : b ≠ 0) (h' : b' ≠ 0) (et : t * b' = t' * b) (ep : p * b' = p' * b) (er : (if p = 0 then 0 else r) = if p' = 0 then 0 else r') : lst t p r b = lst t' p' r' b' := by
  have A := lst_is (t := t) (p := p) (r := r) h
  have B := lst_is (t := t') (p := p') (r := r') h'
  generalize lst t p r b = n at *
  generalize lst t' p' r' b' = m at *
  generalize coms t p b = c at *
  generalize coms t' p' b' = d at *
  have hcd : c * d ≠ 0 := Int.mul_ne_zero A.c0 B.c0
  have e1 : n.t * m.b = m.t * n.b := by
    refine Int.eq_of_mul_eq_mul_right hcd ?_
    have := A.ht; have := A.hb; have := B.ht; have := B.hb
    grind
  have e2 : n.p * m.b = m.p * n.b := by
    refine Int.eq_of_mul_eq_mul_right hcd ?_
    have := A.hp; have := A.hb; have := B.hp; have := B.hb
    grind
  obtain ⟨x1, x2, x3⟩ := least_eq A.b1 B.b1 A.cop B.cop e1 e2
  have x4 : n.r = m.r := by rw [A.hr, B.hr, er]
  cases n; cases m
  simp only at x1 x2 x3 x4
  rw [x1, x2, x3, x4]
/-- a number as it is kept: least, of at most k bits -/
structure Good (k : Nat) (n : Nm) : Prop where
  t : Sz k n.t
  p : Sz k n.p
  b : Sz k n.b
  b1 : 1 ≤ n.b
  cop : com n.t n.p n.b = 1
  rt : n.r = 0 ∧ n.p = 0 ∨ n.p ≠ 0 ∧ rootOk n.r = true
theorem Good.mono {k m : Nat} {n : Nm} (h : Good k n) (l : k ≤ m) : Good m n := ⟨h.t.mono l, h.p.mono l, h.b.mono l, h.b1, h.cop, h.rt⟩
theorem lst_self {k : Nat} {n : Nm} (h : Good k n) : lst n.t n.p n.r n.b = n := by
  have hb : n.b ≠ 0 := by have := h.b1; omega
  have A := lst_is (t := n.t) (p := n.p) (r := n.r) hb
  generalize lst n.t n.p n.r n.b = m at *
  generalize coms n.t n.p n.b = c at *
  obtain ⟨x1, x2, x3⟩ := least_eq A.b1 h.b1 A.cop h.cop (by have := A.ht; have := A.hb; grind) (by have := A.hp; have := A.hb; grind)
  have x4 : m.r = n.r := by
    rw [A.hr]
    rcases h.rt with ⟨a, b⟩ | ⟨a, b⟩
    · rw [if_pos b, a]
    · rw [if_neg a]
  cases n; cases m
  simp only at x1 x2 x3 x4
  rw [x1, x2, x3, x4]
theorem rootOk_ge {r : Int} (h : rootOk r = true) : 2 ≤ r ∧ r ≤ 999 := by
  unfold rootOk at h
  simp only [Bool.and_eq_true, decide_eq_true_eq] at h
  exact h.1
theorem sz_of_dvd {k : Nat} {x c y : Int} (h : x * c = y) (c0 : c ≠ 0) (hy : Sz k y) : Sz k x := by
  refine Sz.ofLt ?_ hy
  rw [← h, Int.natAbs_mul]
  exact Nat.le_mul_of_pos_right _ (by omega)
theorem lst_good {k : Nat} {t p r b : Int} (h : validN t p r b = true) (zt : Sz k t) (zp : Sz k p) (zb : Sz k b) : Good k (lst t p r b) := by
  have hb : b ≠ 0 := fun z => by unfold validN at h; rw [if_pos z] at h; cases h
  have A := lst_is (t := t) (p := p) (r := r) hb
  refine ⟨sz_of_dvd A.ht A.c0 zt, sz_of_dvd A.hp A.c0 zp, sz_of_dvd A.hb A.c0 zb, A.b1, A.cop, ?_⟩
  by_cases hp : p = 0
  · left
    refine ⟨by rw [A.hr, if_pos hp], ?_⟩
    exact (Int.mul_eq_zero.mp (A.hp.trans hp)).resolve_right A.c0
  · right
    refine ⟨fun z => hp (by rw [← A.hp, z, Int.zero_mul]), ?_⟩
    rw [A.hr, if_neg hp]
    unfold validN at h
    rw [if_neg hb] at h
    by_cases hr : r = 0
    · rw [if_pos hr] at h
      exact absurd (of_decide_eq_true h) hp
    · rw [if_neg hr] at h
      exact h
end My
namespace My
open PySem PySem.Spec PyProof.Rows L2
local macro_rules | `(tactic| walk_at "side") => `(tactic| first | assumption | decide | exact Or.inl ⟨by decide, by decide⟩ | exact Or.inr ⟨by decide, by decide⟩ | exact ⟨by decide, by decide, by decide⟩ | omega | (unfold CMulW; decide +kernel) | (dsimp only; first | assumption | omega | decide +kernel) | exact len_ok (Nat.le_of_ble_eq_true rfl) | fail "side")
local macro_rules | `(tactic| walk_at "rd") => `(tactic| first
  | refine ⟨_, _, _, _, rfl, rfl, SqL.of upd_same, atI_nat (j := 0) rfl, ?_⟩ | refine ⟨_, _, _, _, rfl, rfl, SqL.of upd_same, atI_nat (j := 1) rfl, ?_⟩ | refine ⟨_, _, _, _, rfl, rfl, SqL.of upd_same, atI_nat (j := 2) rfl, ?_⟩
  | refine ⟨_, _, _, _, rfl, rfl, upd_same, rfl, ?_⟩
  | refine ⟨_, _, rfl, rfl, ?_⟩ | refine ⟨_, rfl, ?_⟩ | refine ⟨_, _, rfl, ?_⟩ | refine Or.inl ⟨_, rfl, ?_⟩ | refine Or.inr ⟨_, rfl, ?_⟩ | refine ⟨(by walk_at "side"), ?_⟩ | fail "rd")

/-- what isinstance finds of the class -/
structure NumI (K : PySem.W.Frag) (C : Addr) : Prop where
  kInt : PySem.W.kitOne K (.ref C) (.type "int") = some false
  kNum : PySem.W.kitOne K (.ref C) (.ref C) = some true
  ha : PySem.W.findIn K (.ref C) "__class__" = some (some (.builtin "object.__class__"))
  hn : PySem.W.specialIn K (.builtin "object.__class__") "__get__" = some (some (.builtin "getset_descriptor.__get__"))
  htk : PySem.W.takesIn K (.builtin "object.__class__") = some true
  hm : PySem.W.mroIn K C (.type "object") = some true
theorem NumAt.ty {K : PySem.W.Frag} {H : Hp} {C a : Addr} {n : Nm} (h : NumAt C H a n) (c : Cls K C) (I : NumI K C) : TyX K H (.ref a) (.ref C) := let ⟨dx, e⟩ := h; .base (.ins e c I.ha I.hn I.htk I.hm)
theorem prop_use {C a : Addr} {H : Hp} {n : Nm} {sp : Sp} {Q : VK} {E : XK} (h : NumAt C H a n) (q : sp [.ref a] H Q E) : ∃ a' dx fs, V.ref a = .ref a' ∧ H a' = some (.ins C dx fs) ∧ sp (.ref a' :: []) H Q E := let ⟨dx, e⟩ := h; ⟨a, dx, _, rfl, e, q⟩
theorem mk4_use {C : Addr} {H2 : Hp} {Q : VK} {t p r b : Int} (hv : NV t p r b) (k : ∀ x H3, H2 x = none → Ext H2 H3 → NumAt C H3 x (lst t p r b) → Q (.ref x) H3) : ([V.int t, V.int p] : List V).length = 2 ∧ ([V.int r, V.int b] : List V).length = 2 ∧
    ∀ x dx, H2 x = none → H2 dx = none → dx ≠ x → spInit C ((fun vs zs => vs ++ zs) (V.ref x :: [V.int t, V.int p]) [V.int r, V.int b]) (upd (upd H2 dx (.own x)) x (.ins C dx [])) (fun v H3 => v = .non ∧ Q (.ref x) H3) E0 :=
  ⟨rfl, rfl, fun x dx hx hdx hne => ⟨x, dx, t, p, r, b, rfl, upd_same, hv, fun H' keep hn => ⟨rfl, k x H' hx (fun a o e => keep a o (by rw [upd_ne (ne_of_none e hx), upd_ne (ne_of_none e hdx)]; exact e) (ne_of_none e hx)) ⟨dx, hn⟩⟩⟩⟩
theorem mk2_use {C : Addr} {H2 : Hp} {Q : VK} {t b : Int} (hv : NV t 0 0 b) (k : ∀ x H3, H2 x = none → Ext H2 H3 → NumAt C H3 x (lst t 0 0 b) → Q (.ref x) H3) : ([V.int t] : List V).length = 1 ∧ ([V.int b] : List V).length = 1 ∧
    ∀ x dx, H2 x = none → H2 dx = none → dx ≠ x → spInit C ((fun vs zs => vs ++ (.int 0 :: .int 0 :: zs)) (V.ref x :: [V.int t]) [V.int b]) (upd (upd H2 dx (.own x)) x (.ins C dx [])) (fun v H3 => v = .non ∧ Q (.ref x) H3) E0 :=
  ⟨rfl, rfl, fun x dx hx hdx hne => ⟨x, dx, t, 0, 0, b, rfl, upd_same, hv, fun H' keep hn => ⟨rfl, k x H' hx (fun a o e => keep a o (by rw [upd_ne (ne_of_none e hx), upd_ne (ne_of_none e hdx)]; exact e) (ne_of_none e hx)) ⟨dx, hn⟩⟩⟩⟩
theorem mk1_use {C : Addr} {H2 : Hp} {Q : VK} {t : Int} (k : ∀ x H3, H2 x = none → Ext H2 H3 → NumAt C H3 x (lst t 0 0 1) → Q (.ref x) H3) : 
    ∀ x dx, H2 x = none → H2 dx = none → dx ≠ x → spInit C (V.ref x :: ([V.int t] ++ [.int 0, .int 0, .int 1])) (upd (upd H2 dx (.own x)) x (.ins C dx [])) (fun v H3 => v = .non ∧ Q (.ref x) H3) E0 :=
  fun x dx hx hdx hne => ⟨x, dx, t, 0, 0, 1, rfl, upd_same, ⟨rfl, by show (1 : Int).natAbs < 2 ^ 9000; decide +kernel⟩, fun H' keep hn => ⟨rfl, k x H' hx (fun a o e => keep a o (by rw [upd_ne (ne_of_none e hx), upd_ne (ne_of_none e hdx)]; exact e) (ne_of_none e hx)) ⟨dx, hn⟩⟩⟩
section
variable {X : Cx} {k : Nat} {C : Addr} {p pos : Pos} {e : Expr} {es : List Expr} {kws : List Keyword} {t tk : TA}
theorem mk4A (F : InitAt X.prog X.w X.K X.mg X.base k C (spInit C)) (g : X.mg "Number" = some (.ref C)) (hr : Room (k + 1) X.A) (hg : Gl X "Number") (ha : PA X (e :: es) t) (hkw : PK X kws tk)
    (hall : (backToKw pos (keywordEach kws X.env)).all (·.1.isSome) = true := by rfl) (hks : (backToKw pos (keywordEach kws X.env)).filterMap (·.1) = (["root", "bottom"] : List Str) := by rfl)
    (he : starEach (e :: es) X.env = (false, eval e X.env) :: starEach es X.env := by rfl) (hpl : ((backTo pos (starEach (e :: es) X.env)).any (·.1) || (backToKw pos (keywordEach kws X.env)).any (·.1.isNone)) = false := by rfl) :
    PE X (.Call (.Name "Number" p) (e :: es) kws pos) (tMakeK C 2 2 (spInit C) (fun vs zs => vs ++ zs) E0 t tk) := by
  obtain ⟨f, fd, M, G, ⟨g4, h4⟩, _, _⟩ := F.ex
  exact pe_makeK (n := 2) M G hr hg g h4 pass0 ha hkw hall hks (by decide) he hpl
theorem mk2A (F : InitAt X.prog X.w X.K X.mg X.base k C (spInit C)) (g : X.mg "Number" = some (.ref C)) (hr : Room (k + 1) X.A) (hg : Gl X "Number") (ha : PA X (e :: es) t) (hkw : PK X kws tk)
    (hall : (backToKw pos (keywordEach kws X.env)).all (·.1.isSome) = true := by rfl) (hks : (backToKw pos (keywordEach kws X.env)).filterMap (·.1) = (["bottom"] : List Str) := by rfl)
    (he : starEach (e :: es) X.env = (false, eval e X.env) :: starEach es X.env := by rfl) (hpl : ((backTo pos (starEach (e :: es) X.env)).any (·.1) || (backToKw pos (keywordEach kws X.env)).any (·.1.isNone)) = false := by rfl) :
    PE X (.Call (.Name "Number" p) (e :: es) kws pos) (tMakeK C 1 1 (spInit C) (fun vs zs => vs ++ (.int 0 :: .int 0 :: zs)) E0 t tk) := by
  obtain ⟨f, fd, M, G, _, ⟨g4, h4⟩, _⟩ := F.ex
  exact pe_makeK (n := 1) M G hr hg g h4 pass0 ha hkw hall hks (by decide) he hpl
theorem mkRA (F : InitAt X.prog X.w X.K X.mg X.base k C (spInit C)) (g : X.mg "Number" = some (.ref C)) (hr : Room (k + 1) X.A) (hg : Gl X "Number") (ha : PA X (e :: es) t) (hkw : PK X kws tk)
    (hall : (backToKw pos (keywordEach kws X.env)).all (·.1.isSome) = true := by rfl) (hks : (backToKw pos (keywordEach kws X.env)).filterMap (·.1) = (["root"] : List Str) := by rfl)
    (he : starEach (e :: es) X.env = (false, eval e X.env) :: starEach es X.env := by rfl) (hpl : ((backTo pos (starEach (e :: es) X.env)).any (·.1) || (backToKw pos (keywordEach kws X.env)).any (·.1.isNone)) = false := by rfl) :
    PE X (.Call (.Name "Number" p) (e :: es) kws pos) (tMakeK C 2 1 (spInit C) (fun vs zs => vs ++ (zs ++ [.int 1])) E0 t tk) := by
  obtain ⟨f, fd, M, G, _, _, _, g4, h4⟩ := F.ex
  exact pe_makeK (n := 2) M G hr hg g h4 pass0 ha hkw hall hks (by decide) he hpl
theorem mk1A (F : InitAt X.prog X.w X.K X.mg X.base k C (spInit C)) (g : X.mg "Number" = some (.ref C)) (hr : Room (k + 1) X.A) (hg : Gl X "Number") (ha : PA X (e :: es) t)
    (he : starEach (e :: es) X.env = (false, eval e X.env) :: starEach es X.env := by rfl) (hpl : (backTo pos (starEach es X.env)).any (·.1) = false := by rfl) :
    PE X (.Call (.Name "Number" p) (e :: es) [] pos) (tMake C (spInit C) [.int 0, .int 0, .int 1] E0 t) := by
  obtain ⟨f, fd, M, G, _, _, ⟨ds, hd, hb⟩, _⟩ := F.ex
  exact pe_make M G hr hg g hb hd pass0 ha (by decide) he hpl
end
/-! ### the promises -/
def spProp (C : Addr) (g : Nm → V) : Sp := fun vs H Q _ => ∃ a n, vs = [.ref a] ∧ NumAt C H a n ∧ Q (g n) H
/-- what stands for a number: one, or an int -/
def Opd (C : Addr) (H : Hp) (v : V) (n : Nm) : Prop := (∃ a, v = .ref a ∧ NumAt C H a n) ∨ (∃ i, v = .int i ∧ n = ⟨i, 0, 0, 1⟩)
theorem Opd.ext {C : Addr} {H H' : Hp} {v : V} {n : Nm} (h : Opd C H v n) (e : Ext H H') : Opd C H' v n := by
  rcases h with ⟨a, rfl, h⟩ | ⟨i, rfl, rfl⟩
  · exact .inl ⟨a, rfl, h.ext e⟩
  · exact .inr ⟨i, rfl, rfl⟩
def spIsInt2 (C : Addr) : Sp := fun vs H Q _ => (∃ i : Int, vs = [.int i] ∧ Q (.bl true) H) ∨ ∃ a n, vs = [.ref a] ∧ NumAt C H a n ∧ Q (.bl false) H
def spOpd (C : Addr) : Sp := fun vs H Q _ => ∃ v n, vs = [v] ∧ Opd C H v n ∧ ∀ a H', Ext H H' → NumAt C H' a n → Q (.ref a) H'
def spSgI : Sp := fun vs H Q _ => ∃ i, vs = [.int i] ∧ Q (.int (if i = 0 then 0 else if 0 < i then 1 else -1)) H
def sgI (i : Int) : Int := if i = 0 then 0 else if 0 < i then 1 else -1
def sgn (t p r : Int) : Int := if sgI t = sgI p ∨ sgI p = 0 then sgI t else if p * p * r < t * t then sgI t else sgI p
def spSgn : Sp := fun vs H Q _ => ∃ t p r, vs = [.int t, .int p, .int r] ∧ Sz 5000 t ∧ Sz 5000 p ∧ Sz 10 r ∧ ∀ H', Ext H H' → Q (.int (sgn t p r)) H'
def flr (p r : Int) : Int := if 0 ≤ p then ((Float64.isqrt (p * p * r).toNat : Nat) : Int) else -((Float64.isqrt (p * p * r).toNat : Nat) : Int) - 1
def spFlr : Sp := fun vs H Q _ => ∃ p r, vs = [.int p, .int r] ∧ Sz 5000 p ∧ 0 ≤ r ∧ Sz 10 r ∧ ∀ H', Ext H H' → Q (.int (flr p r)) H'
theorem Sz.lt64 {n : Nat} {i : Int} (h : Sz n i) (l : n ≤ 64) : -(2 ^ 64) < i ∧ i < 2 ^ 64 := by
  have := h.mono l
  unfold Sz at this
  omega
section
variable {P : Program} {w : World} {K : PySem.W.Frag} {mg : Str → Option Value} {base : Heap} {C : Addr}
theorem ok_ntop (D : PropT K C "top" "Number.top" s_ntop) (NC : NumT K mg C) : PropAt P w K mg base 1 C "top" (spProp C fun n => .int n.t) := by
  refine propAt D sc_ntop (fun _ _ _ _ _ _ us hl => match us, hl with | [_], _ => rfl) (fun vs H Q E h => ?_) fun f cdv A outer s H vs Q E hr h => ?_
  · obtain ⟨a, n, rfl, _⟩ := h
    rfl
  obtain ⟨a, n, rfl, ⟨dx, e⟩, k⟩ := h
  exact ⟨_, (pss_one (ps_ret (pe_fld (pv 0) rfl))), _, rfl, a, C, dx, _, _, rfl, e, NC.cl, NC.nT, nf_top n, k⟩
theorem ok_npart (D : PropT K C "part" "Number.part" s_npart) (NC : NumT K mg C) : PropAt P w K mg base 1 C "part" (spProp C fun n => .int n.p) := by
  refine propAt D sc_npart (fun _ _ _ _ _ _ us hl => match us, hl with | [_], _ => rfl) (fun vs H Q E h => ?_) fun f cdv A outer s H vs Q E hr h => ?_
  · obtain ⟨a, n, rfl, _⟩ := h
    rfl
  obtain ⟨a, n, rfl, ⟨dx, e⟩, k⟩ := h
  exact ⟨_, (pss_one (ps_ret (pe_fld (pv 0) rfl))), _, rfl, a, C, dx, _, _, rfl, e, NC.cl, NC.nP, nf_part n, k⟩
theorem ok_nroot (D : PropT K C "root" "Number.root" s_nroot) (NC : NumT K mg C) : PropAt P w K mg base 1 C "root" (spProp C fun n => .int n.r) := by
  refine propAt D sc_nroot (fun _ _ _ _ _ _ us hl => match us, hl with | [_], _ => rfl) (fun vs H Q E h => ?_) fun f cdv A outer s H vs Q E hr h => ?_
  · obtain ⟨a, n, rfl, _⟩ := h
    rfl
  obtain ⟨a, n, rfl, ⟨dx, e⟩, k⟩ := h
  exact ⟨_, (pss_one (ps_ret (pe_fld (pv 0) rfl))), _, rfl, a, C, dx, _, _, rfl, e, NC.cl, NC.nR, nf_root n, k⟩
theorem ok_nbottom (D : PropT K C "bottom" "Number.bottom" s_nbottom) (NC : NumT K mg C) : PropAt P w K mg base 1 C "bottom" (spProp C fun n => .int n.b) := by
  refine propAt D sc_nbottom (fun _ _ _ _ _ _ us hl => match us, hl with | [_], _ => rfl) (fun vs H Q E h => ?_) fun f cdv A outer s H vs Q E hr h => ?_
  · obtain ⟨a, n, rfl, _⟩ := h
    rfl
  obtain ⟨a, n, rfl, ⟨dx, e⟩, k⟩ := h
  exact ⟨_, (pss_one (ps_ret (pe_fld (pv 0) rfl))), _, rfl, a, C, dx, _, _, rfl, e, NC.cl, NC.nB, nf_bottom n, k⟩
theorem kit_intint {K : PySem.W.Frag} : PySem.W.kitOne K (.type "int") (.type "int") = some true := kit_ty kit_int
theorem ok_isint2 (T : Bn mg) (NC : NumT K mg C) (NI : NumI K C) (D : DefAt K mg "is_any_integer" s_isint) : FnAt P w K mg base 1 "is_any_integer" ["value"] (spIsInt2 C) := by
  refine fnAt D sc_isint (fun _ _ _ _ _ _ us hl => match us, hl with | [_], _ => rfl) (fun vs H Q E h => ?_) fun f cdv A outer s H vs Q E hr h => ?_
  · rcases h with ⟨i, rfl, _⟩ | ⟨a, n, rfl, _⟩ <;> rfl
  refine ⟨_, (pss_one (ps_ret (pe_and (pe_callB call_isi (by rfl) T.b_isinstance (by decide +kernel) (pa_cons (pv 0) (pa_cons (pe_bltn (v := .ty "int") (by rfl) T.b_int (by decide +kernel) rfl) pa_nil))) (pe_one (pe_not (pe_callB call_isi (by rfl) T.b_isinstance (by decide +kernel) (pa_cons (pv 0) (pa_cons (pe_bltn (v := .ty "bool") (by rfl) T.b_bool (by decide +kernel) rfl) pa_nil)))))))), ?_⟩
  rcases h with ⟨i, rfl, k⟩ | ⟨a, n, rfl, hn, k⟩
  · refine ⟨_, rfl, _, _, _, _, true, rfl, .ty _, .base (.int _), kit_ty kit_int, _, rfl, iteT ?_⟩
    exact ⟨_, rfl, _, _, _, _, false, rfl, .ty _, .base (.int _), kit_ty kit_intbool, _, rfl, k⟩
  · exact ⟨_, rfl, _, _, _, _, false, rfl, .ty _, hn.ty NC.cl NI, NI.kInt, _, rfl, iteF k⟩
abbrev s_sgi : Stmt := top 19
theorem sc_sgi : FnScope ["value"] ["value"] (defScope s_sgi) := ⟨rfl, rfl, rfl, by decide +kernel, rfl, by decide +kernel, by decide +kernel⟩
abbrev s_sgn : Stmt := top 20
theorem sc_sgn : FnScope ["top", "part", "root", "above", "beside"] ["top", "part", "root"] (defScope s_sgn) := ⟨rfl, rfl, rfl, by decide +kernel, rfl, by decide +kernel, by decide +kernel⟩
abbrev s_flr : Stmt := top 21
theorem sc_flr : FnScope ["part", "root", "least"] ["part", "root"] (defScope s_flr) := ⟨rfl, rfl, rfl, by decide +kernel, rfl, by decide +kernel, by decide +kernel⟩
theorem ok_sgi (T : Bn mg) (D : DefAt K mg "_sign_of_integer" s_sgi) : FnAt P w K mg base 1 "_sign_of_integer" ["value"] spSgI := by
  refine fnAt D sc_sgi (fun _ _ _ _ _ _ us hl => match us, hl with | [_], _ => rfl) (fun vs H Q E h => ?_) fun f cdv A outer s H vs Q E hr h => ?_
  · obtain ⟨i, rfl, _⟩ := h
    rfl
  obtain ⟨i, rfl, k⟩ := h
  refine ⟨_, (pss_cons (ps_if (pt_cmpR op_eq (pv 0) pe_int (nomark _)) (pss_one (ps_ret pe_int)) pss_nil)
    (pss_one (ps_ret (pe_ifExp (pt_cmpR op_gt (pv 0) pe_int (nomark _)) pe_int (pe_un un_neg pe_int))))), ?_⟩
  refine ⟨_, rfl, rfl, _, rfl, ite2 (fun h0 => ?_) (fun h0 => ?_)⟩
  · have e : i = 0 := V.int.inj (of_decide_eq_true h0)
    rw [if_pos e] at k
    exact k
  · have e : ¬ i = 0 := fun z => h0 (by rw [z]; rfl)
    rw [if_neg e] at k
    refine ⟨_, rfl, _, _, rfl, rfl, _, rfl, ite2 (fun h1 => ?_) (fun h1 => ?_)⟩
    · rw [if_pos (of_decide_eq_true h1)] at k
      exact k
    · rw [if_neg (fun z => h1 (decide_eq_true z))] at k
      exact ⟨_, rfl, k⟩
theorem sgI_cases (i : Int) : sgI i = 0 ∨ sgI i = 1 ∨ sgI i = -1 := by
  unfold sgI
  split
  · exact .inl rfl
  · split
    · exact .inr (.inl rfl)
    · exact .inr (.inr rfl)
theorem ok_sgn (T : Bn mg) (D : DefAt K mg "sign_of_sum" s_sgn) (F__sign_of_integer : FnAt P w K mg base 1 "_sign_of_integer" ["value"] spSgI) : FnAt P w K mg base 2 "sign_of_sum" ["top", "part", "root"] spSgn := by
  refine fnAt D sc_sgn (fun _ _ _ _ _ _ us hl => match us, hl with | [_, _, _], _ => rfl) (fun vs H Q E h => ?_) fun f cdv A outer s H vs Q E hr h => ?_
  · obtain ⟨t, p, r, rfl, _⟩ := h
    rfl
  obtain ⟨t, p, r, rfl, zt, zp, zr, k⟩ := h
  have k0 := k H (ext_refl H)
  refine ⟨_, (pss_cons (ps_par (i := 3) (j := 4) rfl sc_sgn.nd rfl rfl (by decide) rfl rfl (pa_cons (callA F__sign_of_integer (hr.mono (by decide)) rfl (pa_cons (pv 0) pa_nil)) (pa_cons (callA F__sign_of_integer (hr.mono (by decide)) rfl (pa_cons (pv 1) pa_nil)) pa_nil)) (by rfl))
    (pss_cons (ps_if (PW.pt (pw_or (pt_cmpR op_eq (pv 3) (pv 4) (nomark _)) (pw_or1 (pt_cmpR op_eq (pv 4) pe_int (nomark _))))) (pss_one (ps_ret (pv 3))) pss_nil)
    (pss_one (ps_ret (pe_ifExp (pt_cmpR op_gt (pe_op op_mulW (pv 0) (pv 0)) (pe_op op_mulW (pe_op op_mulW (pv 1) (pv 1)) (pv 2)) (nomark _)) (pv 3) (pv 4)))))), ?_⟩
  refine ⟨_, rfl, t, rfl, _, rfl, p, rfl, _, _, rfl, ?_⟩
  have e1 : ∀ a b : Int, decide (V.int a = V.int b) = decide (a = b) := fun a b => decide_eq_decide.mpr ⟨fun z => V.int.inj z, fun z => by rw [z]⟩
  refine ⟨_, rfl, _, rfl, rfl, _, rfl, ite2 (fun h0 => ?_) (fun h0 => ?_)⟩
  · have h0' : sgI t = sgI p := V.int.inj (of_decide_eq_true h0)
    refine iteT ⟨_, rfl, ?_⟩
    have e : sgn t p r = sgI t := if_pos (.inl h0')
    rw [e] at k0
    exact k0
  · refine ⟨_, rfl, rfl, _, rfl, ite2 (fun h1 => ?_) (fun h1 => ?_)⟩
    · have h1' : sgI p = 0 := V.int.inj (of_decide_eq_true h1)
      refine ⟨_, rfl, ?_⟩
      have e : sgn t p r = sgI t := if_pos (.inr h1')
      rw [e] at k0
      exact k0
    · have hn : ¬ (sgI t = sgI p ∨ sgI p = 0) := fun z => z.elim (fun z => h0 (decide_eq_true (congrArg V.int z))) (fun z => h1 (decide_eq_true (congrArg V.int z)))
      refine ⟨_, rfl, _, rfl, _, _, rfl, rfl, zt.cmul zt (by decide) (by decide) (by decide), _, rfl, _, rfl, _, _, rfl, rfl, zp.cmul zp (by decide) (by decide) (by decide), _, rfl, _, _, rfl, rfl, (zp.mul zp).cmul zr (by decide) (by decide) (by decide), _, _, rfl, rfl, _, rfl, ite2 (fun h2 => ?_) (fun h2 => ?_)⟩
      · have e : sgn t p r = sgI t := by
          unfold sgn
          rw [if_neg hn, if_pos (of_decide_eq_true h2)]
        rw [e] at k0
        exact ⟨_, rfl, k0⟩
      · have e : sgn t p r = sgI p := by
          unfold sgn
          rw [if_neg hn, if_neg (fun z => h2 (decide_eq_true z))]
        rw [e] at k0
        exact ⟨_, rfl, k0⟩
theorem ok_flr (T : Bn mg) (NC : NumT K mg C) (D : DefAt K mg "_floor_of_root" s_flr) : FnAt P w K mg base 1 "_floor_of_root" ["part", "root"] spFlr := by
  refine fnAt D sc_flr (fun _ _ _ _ _ _ us hl => match us, hl with | [_, _], _ => rfl) (fun vs H Q E h => ?_) fun f cdv A outer s H vs Q E hr h => ?_
  · obtain ⟨p, r, rfl, _⟩ := h
    rfl
  obtain ⟨p, r, rfl, zp, hr0, zr, k⟩ := h
  have k0 := k H (ext_refl H)
  have hpp : 0 ≤ p * p := by
    rcases Int.le_total 0 p with z | z
    · exact Int.mul_nonneg z z
    · exact Int.mul_nonneg_of_nonpos_of_nonpos z z
  have hn : 0 ≤ p * p * r := Int.mul_nonneg hpp hr0
  have hz : (p * p * r).toNat < 2 ^ 13000 := by
    have := ((zp.mul zp).mul zr).mono (m := 13000) (by decide)
    unfold Sz at this
    omega
  refine ⟨_, (pss_cons (ps_set (i := 2) sc_flr.nd rfl (Or.inl rfl) (pe_callBfun cr_isqrt (by rfl) NC.m_isqrt (pa_cons (pe_op op_mulW (pe_op op_mulW (pv 0) (pv 0)) (pv 1)) pa_nil)))
    (pss_one (ps_ret (pe_ifExp (pt_cmpR op_ge (pv 0) pe_int (nomark _)) (pv 2) (pe_op op_sub (pe_un un_neg (pv 2)) pe_int))))), ?_⟩
  refine ⟨_, rfl, _, rfl, _, _, rfl, rfl, zp.cmul zp (by decide) (by decide) (by decide), _, rfl, _, _, rfl, rfl, (zp.mul zp).cmul zr (by decide) (by decide) (by decide), _, rfl, hn, hz, ?_⟩
  refine ⟨_, rfl, _, _, rfl, rfl, _, rfl, ite2 (fun h1 => ?_) (fun h1 => ?_)⟩
  · have e : flr p r = _ := if_pos (of_decide_eq_true h1)
    rw [e] at k0
    exact ⟨_, rfl, k0⟩
  · have e : flr p r = _ := if_neg (fun z => h1 (decide_eq_true z))
    rw [e] at k0
    exact ⟨_, rfl, _, rfl, _, _, rfl, rfl, k0⟩
end
end My
namespace My
open PySem
/-! ### the operations, as plain functions -/
def rt1 (n m : Nm) : Int := if m.r > n.r then m.r else n.r
def normA (n : Nm) : Int := n.t * n.t - n.p * n.p * n.r
def mirN (n : Nm) : Nm := lst n.t (-n.p) n.r n.b
def negN (n : Nm) : Nm := lst (-n.t) (-n.p) n.r n.b
def normN (n : Nm) : Nm := lst (normA n) 0 0 (n.b * n.b)
def addN (n m : Nm) : Nm := lst (n.t * m.b + m.t * n.b) (n.p * m.b + m.p * n.b) (rt1 n m) (n.b * m.b)
def subN (n m : Nm) : Nm := lst (n.t * m.b - m.t * n.b) (n.p * m.b - m.p * n.b) (rt1 n m) (n.b * m.b)
def mulN (n m : Nm) : Nm := lst (n.t * m.t + n.p * m.p * rt1 n m) (n.t * m.p + n.p * m.t) (rt1 n m) (n.b * m.b)
def overN (n m : Nm) : Nm := lst ((n.t * m.t - n.p * m.p * rt1 n m) * m.b) ((n.p * m.t - n.t * m.p) * m.b) (rt1 n m) (n.b * normA m)
def OneRoot (n m : Nm) : Prop := n.r = 0 ∨ m.r = 0 ∨ n.r = m.r
theorem Good.r0 {k : Nat} {n : Nm} (h : Good k n) : 0 ≤ n.r ∧ n.r ≤ 999 := by
  rcases h.rt with ⟨a, _⟩ | ⟨_, a⟩
  · omega
  · have := rootOk_ge a; omega
theorem Good.zr {k : Nat} {n : Nm} (h : Good k n) : Sz 10 n.r := by
  have := h.r0
  unfold Sz
  omega
theorem Good.b0 {k : Nat} {n : Nm} (h : Good k n) : n.b ≠ 0 := by have := h.b1; omega
theorem rt1_is {k : Nat} {n m : Nm} (h : Good k n) (g : Good k m) : (rt1 n m = 0 ∧ n.p = 0 ∧ m.p = 0) ∨ rootOk (rt1 n m) = true := by
  unfold rt1
  rcases h.rt with ⟨a, b⟩ | ⟨a, b⟩
  · rcases g.rt with ⟨c, d⟩ | ⟨c, d⟩
    · left; rw [a, c]; exact ⟨rfl, b, d⟩
    · right
      have := rootOk_ge d
      rw [if_pos (by omega)]
      exact d
  · right
    rcases g.rt with ⟨c, d⟩ | ⟨c, d⟩
    · have := rootOk_ge b
      rw [if_neg (by omega)]
      exact b
    · split
      · exact d
      · exact b
theorem rt1_zr {k : Nat} {n m : Nm} (h : Good k n) (g : Good k m) : Sz 10 (rt1 n m) := by
  unfold rt1
  split
  · exact g.zr
  · exact h.zr
theorem valid_of {t p r b : Int} (hb : b ≠ 0) (h : (r = 0 ∧ p = 0) ∨ rootOk r = true) : validN t p r b = true := by
  unfold validN
  rw [if_neg hb]
  rcases h with ⟨a, b⟩ | h
  · rw [if_pos a, b]; rfl
  · have := rootOk_ge h
    rw [if_neg (by omega)]
    exact h
theorem Good.valid {k : Nat} {n : Nm} (h : Good k n) (t p : Int) (hp : n.p = 0 → p = 0) : validN t p n.r n.b = true := valid_of h.b0 (by
  rcases h.rt with ⟨a, b⟩ | ⟨a, b⟩
  · exact .inl ⟨a, hp b⟩
  · exact .inr b)
/-- no square is a root -/
theorem root_nosq : ∀ r : Nat, r < 1000 → rootOk (r : Int) = true → ∀ s : Nat, s < 32 → s * s ≠ r := by decide +kernel
theorem sq_root {t p r : Int} (hr : rootOk r = true) (h : t * t = p * p * r) : t = 0 ∧ p = 0 := by
  have hg := rootOk_ge hr
  by_cases hp : p = 0
  · refine ⟨?_, hp⟩
    rw [hp, Int.zero_mul, Int.zero_mul] at h
    exact (Int.mul_eq_zero.mp h).elim id id
  exfalso
  obtain ⟨s, rfl⟩ : ∃ s : Nat, r = (s : Int) := ⟨r.toNat, by omega⟩
  have e : t.natAbs * t.natAbs = p.natAbs * p.natAbs * s := by
    have := congrArg Int.natAbs h
    rw [Int.natAbs_mul, Int.natAbs_mul, Int.natAbs_mul, Int.natAbs_natCast] at this
    exact this
  have hpp : 0 < p.natAbs := by omega
  generalize t.natAbs = a at *
  generalize p.natAbs = b at *
  have hg0 : 0 < Nat.gcd a b := Nat.gcd_pos_of_pos_right _ hpp
  obtain ⟨a', ha⟩ := Nat.gcd_dvd_left a b
  obtain ⟨b', hb⟩ := Nat.gcd_dvd_right a b
  have hc : Nat.gcd a' b' = 1 := by
    have key : Nat.gcd (Nat.gcd a b * a') (Nat.gcd a b * b') = Nat.gcd a b * Nat.gcd a' b' := Nat.gcd_mul_left _ _ _
    rw [← ha, ← hb] at key
    have : Nat.gcd a b * 1 = Nat.gcd a b * Nat.gcd a' b' := by rw [Nat.mul_one]; exact key
    exact (Nat.eq_of_mul_eq_mul_left hg0 this).symm
  generalize Nat.gcd a b = g at *
  have e2 : a' * a' = b' * b' * s := by
    have : (g * g) * (a' * a') = (g * g) * (b' * b' * s) := by
      have e' := e
      rw [ha, hb] at e'
      grind
    exact Nat.eq_of_mul_eq_mul_left (Nat.mul_pos hg0 hg0) this
  have d1 : b' ∣ a' * a' := by rw [e2, Nat.mul_assoc]; exact Nat.dvd_mul_right _ _
  have cop : Nat.Coprime b' a' := by
    show Nat.gcd b' a' = 1
    rw [Nat.gcd_comm]
    exact hc
  have d2 : b' ∣ a' := cop.dvd_of_dvd_mul_left d1
  have d3 : b' ∣ 1 := by
    rw [← hc]
    exact Nat.dvd_gcd d2 (Nat.dvd_refl _)
  have b1 : b' = 1 := Nat.dvd_one.mp d3
  rw [b1] at e2
  have hs : s < 1000 := by omega
  have ha32 : a' < 32 := by
    refine Classical.byContradiction fun z => ?_
    have z' : 32 ≤ a' := by omega
    have := Nat.mul_le_mul z' z'
    omega
  exact root_nosq s hs hr a' ha32 (by omega)
theorem normA_ne {k : Nat} {n : Nm} (h : Good k n) (hn : ¬ (n.t = 0 ∧ n.p = 0)) : normA n ≠ 0 := fun z => by
  unfold normA at z
  have e : n.t * n.t = n.p * n.p * n.r := by omega
  rcases h.rt with ⟨a, b⟩ | ⟨a, b⟩
  · refine hn ⟨?_, b⟩
    rw [b, Int.zero_mul, Int.zero_mul] at e
    exact (Int.mul_eq_zero.mp e).elim id id
  · exact hn (sq_root b e)
theorem sq_nonneg (p : Int) : 0 ≤ p * p := by
  rcases Int.le_total 0 p with z | z
  · exact Int.mul_nonneg z z
  · exact Int.mul_nonneg_of_nonpos_of_nonpos z z
theorem sgI_zero {i : Int} : sgI i = 0 ↔ i = 0 := by
  unfold sgI
  constructor
  · intro h
    split at h
    · assumption
    · split at h <;> omega
  · intro h
    rw [if_pos h]
theorem sgn_ne {t p r : Int} (hr : 0 ≤ r) (hn : ¬ (t = 0 ∧ p = 0)) : sgn t p r ≠ 0 := by
  unfold sgn
  split
  · rename_i h
    intro z
    have t0 := sgI_zero.mp z
    rcases h with h | h
    · rw [z] at h
      exact hn ⟨t0, sgI_zero.mp h.symm⟩
    · exact hn ⟨t0, sgI_zero.mp h⟩
  · rename_i h
    split
    · rename_i h2
      intro z
      have t0 := sgI_zero.mp z
      rw [t0] at h2
      have := Int.mul_nonneg (sq_nonneg p) hr
      omega
    · intro z
      exact h (.inr z)
end My
namespace My
open PySem PySem.Spec PyProof.Rows L2
local macro_rules | `(tactic| walk_at "side") => `(tactic| first | assumption | decide | exact Or.inl ⟨by decide, by decide⟩ | exact Or.inr ⟨by decide, by decide⟩ | exact ⟨by decide, by decide, by decide⟩ | omega | (unfold CMulW; decide +kernel) | (dsimp only; first | assumption | omega | decide +kernel) | exact len_ok (Nat.le_of_ble_eq_true rfl) | fail "side")
local macro_rules | `(tactic| walk_at "rd") => `(tactic| first
  | refine ⟨_, _, _, _, rfl, rfl, SqL.of upd_same, atI_nat (j := 0) rfl, ?_⟩ | refine ⟨_, _, _, _, rfl, rfl, SqL.of upd_same, atI_nat (j := 1) rfl, ?_⟩ | refine ⟨_, _, _, _, rfl, rfl, SqL.of upd_same, atI_nat (j := 2) rfl, ?_⟩
  | refine ⟨_, _, _, _, rfl, rfl, upd_same, rfl, ?_⟩
  | refine ⟨_, _, rfl, rfl, ?_⟩ | refine ⟨_, rfl, ?_⟩ | refine ⟨_, _, rfl, ?_⟩ | refine Or.inl ⟨_, rfl, ?_⟩ | refine Or.inr ⟨_, rfl, ?_⟩ | refine ⟨(by walk_at "side"), ?_⟩ | fail "rd")

abbrev s_nsign : Stmt := inClass (top 12) 6
theorem sc_nsign : FnScope ["self"] ["self"] (defScope s_nsign) := ⟨rfl, rfl, rfl, by decide +kernel, rfl, by decide +kernel, by decide +kernel⟩
abbrev s_nfloor : Stmt := inClass (top 12) 7
theorem sc_nfloor : FnScope ["self"] ["self"] (defScope s_nfloor) := ⟨rfl, rfl, rfl, by decide +kernel, rfl, by decide +kernel, by decide +kernel⟩
abbrev s_nadd : Stmt := inClass (top 12) 10
theorem sc_nadd : FnScope ["self", "other", "number", "root", "top", "part"] ["self", "other"] (defScope s_nadd) := ⟨rfl, rfl, rfl, by decide +kernel, rfl, by decide +kernel, by decide +kernel⟩
abbrev s_nsub : Stmt := inClass (top 12) 11
theorem sc_nsub : FnScope ["self", "other", "number", "root", "top", "part"] ["self", "other"] (defScope s_nsub) := ⟨rfl, rfl, rfl, by decide +kernel, rfl, by decide +kernel, by decide +kernel⟩
abbrev s_nmul : Stmt := inClass (top 12) 12
theorem sc_nmul : FnScope ["self", "other", "number", "root", "top", "part"] ["self", "other"] (defScope s_nmul) := ⟨rfl, rfl, rfl, by decide +kernel, rfl, by decide +kernel, by decide +kernel⟩
abbrev s_nneg : Stmt := inClass (top 12) 13
theorem sc_nneg : FnScope ["self"] ["self"] (defScope s_nneg) := ⟨rfl, rfl, rfl, by decide +kernel, rfl, by decide +kernel, by decide +kernel⟩
abbrev s_neq : Stmt := inClass (top 12) 16
theorem sc_neq : FnScope ["self", "other"] ["self", "other"] (defScope s_neq) := ⟨rfl, rfl, rfl, by decide +kernel, rfl, by decide +kernel, by decide +kernel⟩
abbrev s_asnum : Stmt := top 14
theorem sc_asnum : FnScope ["value"] ["value"] (defScope s_asnum) := ⟨rfl, rfl, rfl, by decide +kernel, rfl, by decide +kernel, by decide +kernel⟩
abbrev s_operand : Stmt := top 15
theorem sc_operand : FnScope ["value", "number"] ["value"] (defScope s_operand) := ⟨rfl, rfl, rfl, by decide +kernel, rfl, by decide +kernel, by decide +kernel⟩
abbrev s_argument : Stmt := top 16
theorem sc_argument : FnScope ["value", "number"] ["value"] (defScope s_argument) := ⟨rfl, rfl, rfl, by decide +kernel, rfl, by decide +kernel, by decide +kernel⟩
abbrev s_croot : Stmt := top 17
theorem sc_croot : FnScope ["one", "other"] ["one", "other"] (defScope s_croot) := ⟨rfl, rfl, rfl, by decide +kernel, rfl, by decide +kernel, by decide +kernel⟩
abbrev s_diff : Stmt := top 18
theorem sc_diff : FnScope ["one", "other", "top", "part"] ["one", "other"] (defScope s_diff) := ⟨rfl, rfl, rfl, by decide +kernel, rfl, by decide +kernel, by decide +kernel⟩
def spPropE (C : Addr) (k : Nat) (g : Nm → V) : Sp := fun vs H Q _ => ∃ a n, vs = [.ref a] ∧ NumAt C H a n ∧ Good k n ∧ ∀ H', Ext H H' → Q (g n) H'
def spPropN (C : Addr) (k : Nat) (g : Nm → Nm) : Sp := fun vs H Q _ => ∃ a n, vs = [.ref a] ∧ NumAt C H a n ∧ Good k n ∧ ∀ x H', Ext H H' → NumAt C H' x (g n) → Q (.ref x) H'
def spBin (C : Addr) (g : Nm → Nm → Nm) : Sp := fun vs H Q _ => ∃ a v n m, vs = [.ref a, v] ∧ NumAt C H a n ∧ Opd C H v m ∧ Good 2000 n ∧ Good 2000 m ∧ OneRoot n m ∧ ∀ x H', Ext H H' → NumAt C H' x (g n m) → Q (.ref x) H'
def spOver (C : Addr) : Sp := fun vs H Q _ => ∃ a v n m, vs = [.ref a, v] ∧ NumAt C H a n ∧ Opd C H v m ∧ Good 2000 n ∧ Good 2000 m ∧ OneRoot n m ∧ ¬ (m.t = 0 ∧ m.p = 0) ∧ ∀ x H', Ext H H' → NumAt C H' x (overN n m) → Q (.ref x) H'
def spCRoot (C : Addr) : Sp := fun vs H Q _ => ∃ a b n m, vs = [.ref a, .ref b] ∧ NumAt C H a n ∧ NumAt C H b m ∧ OneRoot n m ∧ Q (.int (rt1 n m)) H
def spNormA (C : Addr) : Sp := fun vs H Q _ => ∃ a n, vs = [.ref a] ∧ NumAt C H a n ∧ Good 2000 n ∧ Q (.int (normA n)) H
def spDiff (C : Addr) : Sp := fun vs H Q _ => ∃ a b n m, vs = [.ref a, .ref b] ∧ NumAt C H a n ∧ NumAt C H b m ∧ Good 2000 n ∧ Good 2000 m ∧ ∀ q H', Ext H H' → H' q = some (.tup [.int (n.t * m.b - m.t * n.b), .int (n.p * m.b - m.p * n.b)]) → Q (.ref q) H'
def spEqN (C : Addr) : Sp := fun vs H Q _ => ∃ a b n m, vs = [.ref a, .ref b] ∧ NumAt C H a n ∧ NumAt C H b m ∧ Q (.bl (decide (n = m))) H
section
variable {P : Program} {w : World} {K : PySem.W.Frag} {mg : Str → Option Value} {base : Heap} {C : Addr}
theorem ok_nsign (D : PropT K C "sign" "Number.sign" s_nsign) (NC : NumT K mg C) (F__sign_of : FnAt P w K mg base 2 "sign_of_sum" ["top", "part", "root"] spSgn) : PropAt P w K mg base 3 C "sign" (spPropE C 5000 fun n => .int (sgn n.t n.p n.r)) := by
  refine propAt D sc_nsign (fun _ _ _ _ _ _ us hl => match us, hl with | [_], _ => rfl) (fun vs H Q E h => ?_) fun f cdv A outer s H vs Q E hr h => ?_
  · obtain ⟨a, n, rfl, _⟩ := h
    rfl
  obtain ⟨a, n, rfl, ⟨dx, e⟩, g, k⟩ := h
  exact ⟨_, (pss_one (ps_ret (callA F__sign_of (hr.mono (by decide)) rfl (pa_cons (pe_fld (pv 0) rfl) (pa_cons (pe_fld (pv 0) rfl) (pa_cons (pe_fld (pv 0) rfl) pa_nil)))))), _, rfl, a, C, dx, _, _, rfl, e, NC.cl, NC.nT, nf_top n, _, rfl, a, C, dx, _, _, rfl, e, NC.cl, NC.nP, nf_part n, _, rfl, a, C, dx, _, _, rfl, e, NC.cl, NC.nR, nf_root n, n.t, n.p, n.r, rfl, g.t, g.p, g.zr, k⟩
theorem ok_nfloor (D : PropT K C "floor" "Number.floor" s_nfloor) (NC : NumT K mg C) (F__floor_of_root : FnAt P w K mg base 1 "_floor_of_root" ["part", "root"] spFlr) : PropAt P w K mg base 3 C "floor" (spPropE C 5000 fun n => .int ((n.t + flr n.p n.r).fdiv n.b)) := by
  refine propAt D sc_nfloor (fun _ _ _ _ _ _ us hl => match us, hl with | [_], _ => rfl) (fun vs H Q E h => ?_) fun f cdv A outer s H vs Q E hr h => ?_
  · obtain ⟨a, n, rfl, _⟩ := h
    rfl
  obtain ⟨a, n, rfl, ⟨dx, e⟩, g, k⟩ := h
  refine ⟨_, (pss_one (ps_ret (pe_op op_fdivX (pe_op op_add (pe_fld (pv 0) rfl) (callA F__floor_of_root (hr.mono (by decide)) rfl (pa_cons (pe_fld (pv 0) rfl) (pa_cons (pe_fld (pv 0) rfl) pa_nil)))) (pe_fld (pv 0) rfl)))), _, rfl, a, C, dx, _, _, rfl, e, NC.cl, NC.nT, nf_top n, _, rfl, a, C, dx, _, _, rfl, e, NC.cl, NC.nP, nf_part n, _, rfl, a, C, dx, _, _, rfl, e, NC.cl, NC.nR, nf_root n, n.p, n.r, rfl, g.p, g.r0.1, g.zr, fun H1 e1 => ?_⟩
  exact ⟨_, _, rfl, rfl, _, rfl, a, C, dx, _, _, rfl, e1 _ _ e, NC.cl, NC.nB, nf_bottom n, _, _, rfl, rfl, g.b.cdiv g.b0 (by decide) (by decide), k H1 e1⟩
theorem ok_nneg (D : SpT K C "__neg__" "Number.__neg__" s_nneg) (NC : NumT K mg C) (F_init : InitAt P w K mg base 3 C (spInit C)) : SpAt P w K mg base 5 C "__neg__" ["self"] (spPropN C 9000 negN) := by
  refine spAt D sc_nneg (fun _ _ _ _ _ _ us hl => match us, hl with | [_], _ => rfl) (fun vs H Q E h => ?_) fun f cdv A outer s H vs Q E hr h => ?_
  · obtain ⟨a, n, rfl, _⟩ := h
    rfl
  obtain ⟨a, n, rfl, ⟨dx, e⟩, g, k⟩ := h
  refine ⟨_, (pss_one (ps_ret (mk4A F_init NC.g (hr.mono (by decide)) rfl (pa_cons (pe_un un_neg (pe_fld (pv 0) rfl)) (pa_cons (pe_un un_neg (pe_fld (pv 0) rfl)) pa_nil)) (pk_cons (pe_fld (pv 0) rfl) (pk_cons (pe_fld (pv 0) rfl) pk_nil))))), _, rfl, a, C, dx, _, _, rfl, e, NC.cl, NC.nT, nf_top n, _, rfl, _, rfl, a, C, dx, _, _, rfl, e, NC.cl, NC.nP, nf_part n, _, rfl, _, rfl, a, C, dx, _, _, rfl, e, NC.cl, NC.nR, nf_root n, _, rfl, a, C, dx, _, _, rfl, e, NC.cl, NC.nB, nf_bottom n, ?_⟩
  exact mk4_use ⟨g.valid _ _ (fun z => by rw [z]; rfl), g.b⟩ fun x H3 hx ex hn => k x H3 ex hn
theorem ok_asnum (T : Bn mg) (D : DefAt K mg "_as_number" s_asnum) (NC : NumT K mg C) (NI : NumI K C) (F_init : InitAt P w K mg base 3 C (spInit C)) (F_is_any_integer : FnAt P w K mg base 1 "is_any_integer" ["value"] (spIsInt2 C)) : FnAt P w K mg base 5 "_as_number" ["value"] (spOpd C) := by
  refine fnAt D sc_asnum (fun _ _ _ _ _ _ us hl => match us, hl with | [_], _ => rfl) (fun vs H Q E h => ?_) fun f cdv A outer s H vs Q E hr h => ?_
  · obtain ⟨v, n, rfl, _⟩ := h
    rfl
  obtain ⟨v, n, rfl, h, k⟩ := h
  refine ⟨_, (pss_cons (ps_if (pt_val (callA F_is_any_integer (hr.mono (by decide)) rfl (pa_cons (pv 0) pa_nil))) (pss_one (ps_ret (mk1A F_init NC.g (hr.mono (by decide)) rfl (pa_cons (pv 0) pa_nil)))) pss_nil)
    (pss_one (ps_ret (pe_ifExp (pt_val (pe_callB call_isi (by rfl) T.b_isinstance (by decide +kernel) (pa_cons (pv 0) (pa_cons (pe_glob (v := .ref C) rfl NC.g rfl) pa_nil)))) (pv 0) pe_non)))), ?_⟩
  rcases h with ⟨a, rfl, hn⟩ | ⟨i, rfl, rfl⟩
  · refine ⟨_, rfl, .inr ⟨a, n, rfl, hn, _, rfl, iteF ?_⟩⟩
    exact ⟨_, rfl, _, _, _, _, true, rfl, .own C, hn.ty NC.cl NI, NI.kNum, _, rfl, iteT ⟨_, rfl, k a H (ext_refl H) hn⟩⟩
  · refine ⟨_, rfl, .inl ⟨i, rfl, _, rfl, iteT ⟨_, rfl, mk1_use fun x H3 hx ex hn => ?_⟩⟩⟩
    have el : lst i 0 0 1 = ⟨i, 0, 0, 1⟩ := by
      have c1 : coms i 0 1 = 1 := by
        unfold coms com
        rw [if_neg (by decide)]
        simp
      unfold lst
      rw [c1]
      simp
    rw [el] at hn
    exact k x H3 ex hn
theorem ok_operand (T : Bn mg) (D : DefAt K mg "_operand" s_operand) (F__as_number : FnAt P w K mg base 5 "_as_number" ["value"] (spOpd C)) : FnAt P w K mg base 6 "_operand" ["value"] (spOpd C) := by
  refine fnAt D sc_operand (fun _ _ _ _ _ _ us hl => match us, hl with | [_], _ => rfl) (fun vs H Q E h => ?_) fun f cdv A outer s H vs Q E hr h => ?_
  · obtain ⟨v, n, rfl, _⟩ := h
    rfl
  obtain ⟨v, n, rfl, h, k⟩ := h
  exact ⟨_, (pss_cons (ps_set (i := 1) sc_operand.nd rfl (Or.inl rfl) (callA F__as_number (hr.mono (by decide)) rfl (pa_cons (pv 0) pa_nil)))
    (pss_cons (ps_if (pt_cmpR op_isN (pv 1) pe_non (nomark _)) (pss_one ps_never) pss_nil)
    (pss_one (ps_ret (pv 1))))), _, rfl, v, n, rfl, h, fun x H1 e1 hn => ⟨_, rfl, rfl, _, rfl, iteF ⟨_, rfl, k x H1 e1 hn⟩⟩⟩
theorem ok_argument (T : Bn mg) (D : DefAt K mg "_argument" s_argument) (F__as_number : FnAt P w K mg base 5 "_as_number" ["value"] (spOpd C)) : FnAt P w K mg base 6 "_argument" ["value"] (spOpd C) := by
  refine fnAt D sc_argument (fun _ _ _ _ _ _ us hl => match us, hl with | [_], _ => rfl) (fun vs H Q E h => ?_) fun f cdv A outer s H vs Q E hr h => ?_
  · obtain ⟨v, n, rfl, _⟩ := h
    rfl
  obtain ⟨v, n, rfl, h, k⟩ := h
  exact ⟨_, (pss_cons (ps_set (i := 1) sc_argument.nd rfl (Or.inl rfl) (callA F__as_number (hr.mono (by decide)) rfl (pa_cons (pv 0) pa_nil)))
    (pss_cons (ps_if (pt_cmpR op_isN (pv 1) pe_non (nomark _)) (pss_one ps_never) pss_nil)
    (pss_one (ps_ret (pv 1))))), _, rfl, v, n, rfl, h, fun x H1 e1 hn => ⟨_, rfl, rfl, _, rfl, iteF ⟨_, rfl, k x H1 e1 hn⟩⟩⟩
theorem e_int (a b : Int) : decide (V.int a = V.int b) = decide (a = b) := decide_eq_decide.mpr ⟨fun z => V.int.inj z, fun z => by rw [z]⟩
theorem ok_croot (T : Bn mg) (D : DefAt K mg "_common_root" s_croot) (NC : NumT K mg C) (F_root : PropAt P w K mg base 1 C "root" (spProp C fun n => .int n.r)) : FnAt P w K mg base 3 "_common_root" ["one", "other"] (spCRoot C) := by
  refine fnAt D sc_croot (fun _ _ _ _ _ _ us hl => match us, hl with | [_, _], _ => rfl) (fun vs H Q E h => ?_) fun f cdv A outer s H vs Q E hr h => ?_
  · obtain ⟨a, b, n, m, rfl, _⟩ := h
    rfl
  obtain ⟨a, b, n, m, rfl, hn, hm, h1, k⟩ := h
  have pu : ∀ {gg : Nm → V} {Q : VK}, Q (gg n) H → ∃ a' dx fs, V.ref a = .ref a' ∧ H a' = some (.ins C dx fs) ∧ spProp C gg (.ref a' :: []) H Q E0 := fun q => prop_use hn ⟨a, n, rfl, hn, q⟩
  have pv_ : ∀ {gg : Nm → V} {Q : VK}, Q (gg m) H → ∃ a' dx fs, V.ref b = .ref a' ∧ H a' = some (.ins C dx fs) ∧ spProp C gg (.ref a' :: []) H Q E0 := fun q => prop_use hm ⟨b, m, rfl, hm, q⟩
  refine ⟨_, Evl.pss_cut (ps_if (PW.pt (pw_and (pt_cmpR op_ne (propA F_root NC.cl (hr.mono (by decide)) (pv 0)) pe_int (nomark _)) (pw_and (pt_cmpR op_ne (propA F_root NC.cl (hr.mono (by decide)) (pv 1)) pe_int (nomark _)) (pw_and1 (pt_cmpR op_ne (propA F_root NC.cl (hr.mono (by decide)) (pv 0)) (propA F_root NC.cl (hr.mono (by decide)) (pv 1)) (nomark _)))))) (pss_one ps_never) pss_nil) (pss_one (ps_ret (pe_callB (call_max2 rfl) (by rfl) T.b_max (by decide +kernel) (pa_cons (propA F_root NC.cl (hr.mono (by decide)) (pv 0)) (pa_cons (propA F_root NC.cl (hr.mono (by decide)) (pv 1)) pa_nil))))), fun σ' H' => σ' = [some (.ref a), some (.ref b)] ∧ H' = H, ?_, ?_⟩
  · refine ⟨_, rfl, pu ⟨rfl, _, rfl, ite2 (fun c1 => ?_) (fun c1 => ?_)⟩⟩
    · refine ⟨_, rfl, pv_ ⟨rfl, _, rfl, ite2 (fun c2 => ?_) (fun c2 => ?_)⟩⟩
      · refine ⟨_, rfl, pu ⟨_, rfl, pv_ ⟨rfl, _, rfl, ?_⟩⟩⟩
        rcases h1 with z | z | z
        · rw [z] at c1; exact absurd c1 (by decide)
        · rw [z] at c2; exact absurd c2 (by decide)
        · rw [z]
          simp only [decide_true, Bool.not_true]
          exact iteF ⟨rfl, rfl⟩
      · exact iteF ⟨rfl, rfl⟩
    · exact iteF ⟨rfl, rfl⟩
  · rintro σ' H' ⟨rfl, rfl⟩
    exact ⟨_, rfl, pu ⟨_, rfl, pv_ ⟨_, _, rfl, k⟩⟩⟩
end
end My
namespace My
open PySem PySem.Spec PyProof.Rows L2
local macro_rules | `(tactic| walk_at "side") => `(tactic| first | assumption | decide | exact Or.inl ⟨by decide, by decide⟩ | exact Or.inr ⟨by decide, by decide⟩ | exact ⟨by decide, by decide, by decide⟩ | omega | (unfold CMulW; decide +kernel) | (dsimp only; first | assumption | omega | decide +kernel) | exact len_ok (Nat.le_of_ble_eq_true rfl) | fail "side")
local macro_rules | `(tactic| walk_at "rd") => `(tactic| first
  | refine ⟨_, _, _, _, rfl, rfl, SqL.of upd_same, atI_nat (j := 0) rfl, ?_⟩ | refine ⟨_, _, _, _, rfl, rfl, SqL.of upd_same, atI_nat (j := 1) rfl, ?_⟩ | refine ⟨_, _, _, _, rfl, rfl, SqL.of upd_same, atI_nat (j := 2) rfl, ?_⟩
  | refine ⟨_, _, _, _, rfl, rfl, upd_same, rfl, ?_⟩
  | refine ⟨_, _, rfl, rfl, ?_⟩ | refine ⟨_, rfl, ?_⟩ | refine ⟨_, _, rfl, ?_⟩ | refine Or.inl ⟨_, rfl, ?_⟩ | refine Or.inr ⟨_, rfl, ?_⟩ | refine ⟨(by walk_at "side"), ?_⟩ | fail "rd")

theorem rt1_valid {k : Nat} {n m : Nm} {t p b : Int} (g : Good k n) (g' : Good k m) (hb : b ≠ 0) (hp : n.p = 0 → m.p = 0 → p = 0) : validN t p (rt1 n m) b = true :=
  valid_of hb ((rt1_is g g').elim (fun z => .inl ⟨z.1, hp z.2.1 z.2.2⟩) .inr)
section
variable {P : Program} {w : World} {K : PySem.W.Frag} {mg : Str → Option Value} {base : Heap} {C : Addr}
theorem pu {C a : Addr} {H : Hp} {n : Nm} {gg : Nm → V} {Q : VK} (hn : NumAt C H a n) (q : Q (gg n) H) : ∃ a' dx fs, V.ref a = .ref a' ∧ H a' = some (.ins C dx fs) ∧ spProp C gg (.ref a' :: []) H Q E0 := prop_use hn ⟨a, n, rfl, hn, q⟩
theorem ok_diff (D : DefAt K mg "_difference_above" s_diff) (NC : NumT K mg C) (F_top : PropAt P w K mg base 1 C "top" (spProp C fun n => .int n.t)) (F_part : PropAt P w K mg base 1 C "part" (spProp C fun n => .int n.p)) (F_bottom : PropAt P w K mg base 1 C "bottom" (spProp C fun n => .int n.b)) :
    FnAt P w K mg base 3 "_difference_above" ["one", "other"] (spDiff C) := by
  refine fnAt D sc_diff (fun _ _ _ _ _ _ us hl => match us, hl with | [_, _], _ => rfl) (fun vs H Q E h => ?_) fun f cdv A outer s H vs Q E hr h => ?_
  · obtain ⟨a, b, n, m, rfl, _⟩ := h
    rfl
  obtain ⟨a, b, n, m, rfl, hn, hm, g, g', k⟩ := h
  refine ⟨_, (pss_cons (ps_set (i := 2) sc_diff.nd rfl (Or.inl rfl) (pe_op op_sub (pe_op op_mulW (propA F_top NC.cl (hr.mono (by decide)) (pv 0)) (propA F_bottom NC.cl (hr.mono (by decide)) (pv 1))) (pe_op op_mulW (propA F_top NC.cl (hr.mono (by decide)) (pv 1)) (propA F_bottom NC.cl (hr.mono (by decide)) (pv 0)))))
    (pss_cons (ps_set (i := 3) sc_diff.nd rfl (Or.inl rfl) (pe_op op_sub (pe_op op_mulW (propA F_part NC.cl (hr.mono (by decide)) (pv 0)) (propA F_bottom NC.cl (hr.mono (by decide)) (pv 1))) (pe_op op_mulW (propA F_part NC.cl (hr.mono (by decide)) (pv 1)) (propA F_bottom NC.cl (hr.mono (by decide)) (pv 0)))))
    (pss_one (ps_ret (pe_tup (pa_cons (pv 2) (pa_cons (pv 3) pa_nil))))))), ?_⟩
  refine ⟨_, rfl, pu hn ⟨_, rfl, pu hm ⟨_, _, rfl, rfl, g.t.cmul g'.b (by decide) (by decide) (by decide), _, rfl, pu hm ⟨_, rfl, pu hn ⟨_, _, rfl, rfl, g'.t.cmul g.b (by decide) (by decide) (by decide), _, _, rfl, rfl, ?_⟩⟩⟩⟩⟩
  refine ⟨_, rfl, pu hn ⟨_, rfl, pu hm ⟨_, _, rfl, rfl, g.p.cmul g'.b (by decide) (by decide) (by decide), _, rfl, pu hm ⟨_, rfl, pu hn ⟨_, _, rfl, rfl, g'.p.cmul g.b (by decide) (by decide) (by decide), _, _, rfl, rfl, ?_⟩⟩⟩⟩⟩
  exact ⟨_, rfl, _, rfl, len_ok (Nat.le_of_ble_eq_true rfl), fun q hq => k q _ (ext_new (ext_refl H) hq) upd_same⟩
theorem ok_nadd (D : OpT K C .Add "__add__" "Number.__add__" s_nadd) (NC : NumT K mg C) (F_init : InitAt P w K mg base 3 C (spInit C)) (F__operand : FnAt P w K mg base 6 "_operand" ["value"] (spOpd C)) (F__common_root : FnAt P w K mg base 3 "_common_root" ["one", "other"] (spCRoot C))
    (F_top : PropAt P w K mg base 1 C "top" (spProp C fun n => .int n.t)) (F_part : PropAt P w K mg base 1 C "part" (spProp C fun n => .int n.p)) (F_bottom : PropAt P w K mg base 1 C "bottom" (spProp C fun n => .int n.b)) : OpAt P w K mg base 7 C .Add (spBin C addN) := by
  refine opAt D sc_nadd (fun _ _ _ _ _ _ us hl => match us, hl with | [_, _], _ => rfl) (fun vs H Q E h => ?_) fun f cdv A outer s H vs Q E hr h => ?_
  · obtain ⟨a, v, n, m, rfl, _⟩ := h
    rfl
  obtain ⟨a, v, n, m, rfl, hn, hv, g, g', h1, k⟩ := h
  refine ⟨_, (pss_cons (ps_set (i := 2) sc_nadd.nd rfl (Or.inl rfl) (callA F__operand (hr.mono (by decide)) rfl (pa_cons (pv 1) pa_nil)))
    (pss_cons (ps_set (i := 3) sc_nadd.nd rfl (Or.inl rfl) (callA F__common_root (hr.mono (by decide)) rfl (pa_cons (pv 0) (pa_cons (pv 2) pa_nil))))
    (pss_cons (ps_set (i := 4) sc_nadd.nd rfl (Or.inl rfl) (pe_op op_add (pe_op op_mulW (pe_fld (pv 0) rfl) (propA F_bottom NC.cl (hr.mono (by decide)) (pv 2))) (pe_op op_mulW (propA F_top NC.cl (hr.mono (by decide)) (pv 2)) (pe_fld (pv 0) rfl))))
    (pss_cons (ps_set (i := 5) sc_nadd.nd rfl (Or.inl rfl) (pe_op op_add (pe_op op_mulW (pe_fld (pv 0) rfl) (propA F_bottom NC.cl (hr.mono (by decide)) (pv 2))) (pe_op op_mulW (propA F_part NC.cl (hr.mono (by decide)) (pv 2)) (pe_fld (pv 0) rfl))))
    (pss_one (ps_ret (mk4A F_init NC.g (hr.mono (by decide)) rfl (pa_cons (pv 4) (pa_cons (pv 5) pa_nil)) (pk_cons (pv 3) (pk_cons (pe_op op_mulW (pe_fld (pv 0) rfl) (propA F_bottom NC.cl (hr.mono (by decide)) (pv 2))) pk_nil))))))))), _, rfl, v, m, rfl, hv, fun b H1 e1 hm => ?_⟩
  have hn1 := hn.ext e1
  have hn2 := hn1
  obtain ⟨dx, q⟩ := hn2
  refine ⟨_, rfl, _, rfl, a, b, n, m, rfl, hn1, hm, h1, ?_⟩
  refine ⟨_, rfl, a, C, dx, _, _, rfl, q, NC.cl, NC.nT, nf_top n, _, rfl, pu hm ⟨_, _, rfl, rfl, g.t.cmul g'.b (by decide) (by decide) (by decide), _, rfl, pu hm ⟨_, rfl, a, C, dx, _, _, rfl, q, NC.cl, NC.nB, nf_bottom n, _, _, rfl, rfl, g'.t.cmul g.b (by decide) (by decide) (by decide), _, _, rfl, rfl, ?_⟩⟩⟩
  refine ⟨_, rfl, a, C, dx, _, _, rfl, q, NC.cl, NC.nP, nf_part n, _, rfl, pu hm ⟨_, _, rfl, rfl, g.p.cmul g'.b (by decide) (by decide) (by decide), _, rfl, pu hm ⟨_, rfl, a, C, dx, _, _, rfl, q, NC.cl, NC.nB, nf_bottom n, _, _, rfl, rfl, g'.p.cmul g.b (by decide) (by decide) (by decide), _, _, rfl, rfl, ?_⟩⟩⟩
  refine ⟨_, rfl, _, rfl, _, rfl, _, rfl, a, C, dx, _, _, rfl, q, NC.cl, NC.nB, nf_bottom n, _, rfl, pu hm ⟨_, _, rfl, rfl, g.b.cmul g'.b (by decide) (by decide) (by decide), ?_⟩⟩
  exact mk4_use ⟨rt1_valid g g' (Int.mul_ne_zero g.b0 g'.b0) (fun x y => by rw [x, y]; simp), (g.b.mul g'.b).mono (by decide)⟩ fun x H3 hx ex hz => k x H3 (e1.trans ex) hz
theorem ok_nsub (D : OpT K C .Sub "__sub__" "Number.__sub__" s_nsub) (NC : NumT K mg C) (F_init : InitAt P w K mg base 3 C (spInit C)) (F__operand : FnAt P w K mg base 6 "_operand" ["value"] (spOpd C)) (F__common_root : FnAt P w K mg base 3 "_common_root" ["one", "other"] (spCRoot C))
    (F__difference_above : FnAt P w K mg base 3 "_difference_above" ["one", "other"] (spDiff C)) (F_bottom : PropAt P w K mg base 1 C "bottom" (spProp C fun n => .int n.b)) : OpAt P w K mg base 7 C .Sub (spBin C subN) := by
  refine opAt D sc_nsub (fun _ _ _ _ _ _ us hl => match us, hl with | [_, _], _ => rfl) (fun vs H Q E h => ?_) fun f cdv A outer s H vs Q E hr h => ?_
  · obtain ⟨a, v, n, m, rfl, _⟩ := h
    rfl
  obtain ⟨a, v, n, m, rfl, hn, hv, g, g', h1, k⟩ := h
  refine ⟨_, (pss_cons (ps_set (i := 2) sc_nsub.nd rfl (Or.inl rfl) (callA F__operand (hr.mono (by decide)) rfl (pa_cons (pv 1) pa_nil)))
    (pss_cons (ps_set (i := 3) sc_nsub.nd rfl (Or.inl rfl) (callA F__common_root (hr.mono (by decide)) rfl (pa_cons (pv 0) (pa_cons (pv 2) pa_nil))))
    (pss_cons (ps_asg (callA F__difference_above (hr.mono (by decide)) rfl (pa_cons (pv 0) (pa_cons (pv 2) pa_nil))) (pg_tup (by rfl) (pgs_cons (pg_name (i := 4) sc_nsub.nd rfl (Or.inl rfl)) (pgs_cons (pg_name (i := 5) sc_nsub.nd rfl (Or.inl rfl)) pgs_nil))))
    (pss_one (ps_ret (mk4A F_init NC.g (hr.mono (by decide)) rfl (pa_cons (pv 4) (pa_cons (pv 5) pa_nil)) (pk_cons (pv 3) (pk_cons (pe_op op_mulW (pe_fld (pv 0) rfl) (propA F_bottom NC.cl (hr.mono (by decide)) (pv 2))) pk_nil)))))))), _, rfl, v, m, rfl, hv, fun b H1 e1 hm => ?_⟩
  have hn1 := hn.ext e1
  refine ⟨_, rfl, _, rfl, a, b, n, m, rfl, hn1, hm, h1, ?_⟩
  refine ⟨_, rfl, _, rfl, a, b, n, m, rfl, hn1, hm, g, g', fun q H2 e2 hq => ?_⟩
  have hm2 := hm.ext e2
  obtain ⟨dx, hq2⟩ := hn1.ext e2
  refine ⟨q, _, rfl, SqT.of hq, rfl, _, _, rfl, _, _, rfl, rfl, ?_⟩
  refine ⟨_, rfl, _, rfl, _, rfl, _, rfl, a, C, dx, _, _, rfl, hq2, NC.cl, NC.nB, nf_bottom n, _, rfl, pu hm2 ⟨_, _, rfl, rfl, g.b.cmul g'.b (by decide) (by decide) (by decide), ?_⟩⟩
  exact mk4_use ⟨rt1_valid g g' (Int.mul_ne_zero g.b0 g'.b0) (fun x y => by rw [x, y]; simp), (g.b.mul g'.b).mono (by decide)⟩ fun x H3 hx ex hz => k x H3 ((e1.trans e2).trans ex) hz
theorem ok_nmul (D : OpT K C .Mult "__mul__" "Number.__mul__" s_nmul) (NC : NumT K mg C) (F_init : InitAt P w K mg base 3 C (spInit C)) (F__operand : FnAt P w K mg base 6 "_operand" ["value"] (spOpd C)) (F__common_root : FnAt P w K mg base 3 "_common_root" ["one", "other"] (spCRoot C))
    (F_top : PropAt P w K mg base 1 C "top" (spProp C fun n => .int n.t)) (F_part : PropAt P w K mg base 1 C "part" (spProp C fun n => .int n.p)) (F_bottom : PropAt P w K mg base 1 C "bottom" (spProp C fun n => .int n.b)) : OpAt P w K mg base 7 C .Mult (spBin C mulN) := by
  refine opAt D sc_nmul (fun _ _ _ _ _ _ us hl => match us, hl with | [_, _], _ => rfl) (fun vs H Q E h => ?_) fun f cdv A outer s H vs Q E hr h => ?_
  · obtain ⟨a, v, n, m, rfl, _⟩ := h
    rfl
  obtain ⟨a, v, n, m, rfl, hn, hv, g, g', h1, k⟩ := h
  refine ⟨_, (pss_cons (ps_set (i := 2) sc_nmul.nd rfl (Or.inl rfl) (callA F__operand (hr.mono (by decide)) rfl (pa_cons (pv 1) pa_nil)))
    (pss_cons (ps_set (i := 3) sc_nmul.nd rfl (Or.inl rfl) (callA F__common_root (hr.mono (by decide)) rfl (pa_cons (pv 0) (pa_cons (pv 2) pa_nil))))
    (pss_cons (ps_set (i := 4) sc_nmul.nd rfl (Or.inl rfl) (pe_op op_add (pe_op op_mulW (pe_fld (pv 0) rfl) (propA F_top NC.cl (hr.mono (by decide)) (pv 2))) (pe_op op_mulW (pe_op op_mulW (pe_fld (pv 0) rfl) (propA F_part NC.cl (hr.mono (by decide)) (pv 2))) (pv 3))))
    (pss_cons (ps_set (i := 5) sc_nmul.nd rfl (Or.inl rfl) (pe_op op_add (pe_op op_mulW (pe_fld (pv 0) rfl) (propA F_part NC.cl (hr.mono (by decide)) (pv 2))) (pe_op op_mulW (pe_fld (pv 0) rfl) (propA F_top NC.cl (hr.mono (by decide)) (pv 2)))))
    (pss_one (ps_ret (mk4A F_init NC.g (hr.mono (by decide)) rfl (pa_cons (pv 4) (pa_cons (pv 5) pa_nil)) (pk_cons (pv 3) (pk_cons (pe_op op_mulW (pe_fld (pv 0) rfl) (propA F_bottom NC.cl (hr.mono (by decide)) (pv 2))) pk_nil))))))))), _, rfl, v, m, rfl, hv, fun b H1 e1 hm => ?_⟩
  have hn1 := hn.ext e1
  have hn2 := hn1
  obtain ⟨dx, q⟩ := hn2
  have zr := rt1_zr g g'
  refine ⟨_, rfl, _, rfl, a, b, n, m, rfl, hn1, hm, h1, ?_⟩
  refine ⟨_, rfl, a, C, dx, _, _, rfl, q, NC.cl, NC.nT, nf_top n, _, rfl, pu hm ⟨_, _, rfl, rfl, g.t.cmul g'.t (by decide) (by decide) (by decide), _, rfl, a, C, dx, _, _, rfl, q, NC.cl, NC.nP, nf_part n, _, rfl, pu hm ⟨_, _, rfl, rfl, g.p.cmul g'.p (by decide) (by decide) (by decide), _, rfl, _, _, rfl, rfl, (g.p.mul g'.p).cmul zr (by decide) (by decide) (by decide), _, _, rfl, rfl, ?_⟩⟩⟩
  refine ⟨_, rfl, a, C, dx, _, _, rfl, q, NC.cl, NC.nT, nf_top n, _, rfl, pu hm ⟨_, _, rfl, rfl, g.t.cmul g'.p (by decide) (by decide) (by decide), _, rfl, a, C, dx, _, _, rfl, q, NC.cl, NC.nP, nf_part n, _, rfl, pu hm ⟨_, _, rfl, rfl, g.p.cmul g'.t (by decide) (by decide) (by decide), _, _, rfl, rfl, ?_⟩⟩⟩
  refine ⟨_, rfl, _, rfl, _, rfl, _, rfl, a, C, dx, _, _, rfl, q, NC.cl, NC.nB, nf_bottom n, _, rfl, pu hm ⟨_, _, rfl, rfl, g.b.cmul g'.b (by decide) (by decide) (by decide), ?_⟩⟩
  exact mk4_use ⟨rt1_valid g g' (Int.mul_ne_zero g.b0 g'.b0) (fun x y => by rw [x, y]; simp), (g.b.mul g'.b).mono (by decide)⟩ fun x H3 hx ex hz => k x H3 (e1.trans ex) hz
theorem ok_neq (T : Bn mg) (D : SpT K C "__eq__" "Number.__eq__" s_neq) (NC : NumT K mg C) (NI : NumI K C) : SpAt P w K mg base 1 C "__eq__" ["self", "other"] (spEqN C) := by
  refine spAt D sc_neq (fun _ _ _ _ _ _ us hl => match us, hl with | [_, _], _ => rfl) (fun vs H Q E h => ?_) fun f cdv A outer s H vs Q E hr h => ?_
  · obtain ⟨a, b, n, m, rfl, _⟩ := h
    rfl
  obtain ⟨a, b, n, m, rfl, hn, hm, k⟩ := h
  obtain ⟨dx, q⟩ := id hn
  obtain ⟨dy, q'⟩ := id hm
  have ne : ∀ {x y : Int}, n ≠ m → True := fun _ => True.intro
  refine ⟨_, (pss_one (ps_ret (pe_and (pe_callB call_isi (by rfl) T.b_isinstance (by decide +kernel) (pa_cons (pv 1) (pa_cons (pe_glob (v := .ref C) rfl NC.g rfl) pa_nil))) (pe_and (pe_cmpR op_eq (pe_fld (pv 0) rfl) (pe_fld (pv 1) rfl) (nomark _)) (pe_and (pe_cmpR op_eq (pe_fld (pv 0) rfl) (pe_fld (pv 1) rfl) (nomark _)) (pe_and (pe_cmpR op_eq (pe_fld (pv 0) rfl) (pe_fld (pv 1) rfl) (nomark _)) (pe_one (pe_cmpR op_eq (pe_fld (pv 0) rfl) (pe_fld (pv 1) rfl) (nomark _))))))))), _, rfl, _, _, _, _, true, rfl, .own C, hm.ty NC.cl NI, NI.kNum, _, rfl, iteT ?_⟩
  refine ⟨_, rfl, a, C, dx, _, _, rfl, q, NC.cl, NC.nT, nf_top n, _, rfl, b, C, dy, _, _, rfl, q', NC.cl, NC.nT, nf_top m, rfl, _, rfl, ?_⟩
  rw [e_int]
  refine ite2 (fun c1 => ?_) (fun c1 => ?_)
  · refine ⟨_, rfl, a, C, dx, _, _, rfl, q, NC.cl, NC.nP, nf_part n, _, rfl, b, C, dy, _, _, rfl, q', NC.cl, NC.nP, nf_part m, rfl, _, rfl, ?_⟩
    rw [e_int]
    refine ite2 (fun c2 => ?_) (fun c2 => ?_)
    · refine ⟨_, rfl, a, C, dx, _, _, rfl, q, NC.cl, NC.nR, nf_root n, _, rfl, b, C, dy, _, _, rfl, q', NC.cl, NC.nR, nf_root m, rfl, _, rfl, ?_⟩
      rw [e_int]
      refine ite2 (fun c3 => ?_) (fun c3 => ?_)
      · refine ⟨_, rfl, a, C, dx, _, _, rfl, q, NC.cl, NC.nB, nf_bottom n, _, rfl, b, C, dy, _, _, rfl, q', NC.cl, NC.nB, nf_bottom m, rfl, ?_⟩
        have e : decide (n = m) = decide (V.int n.b = V.int m.b) := by
          rw [e_int]
          refine decide_eq_decide.mpr ⟨fun z => by rw [z], fun z => ?_⟩
          have x1 := of_decide_eq_true c1
          have x2 := of_decide_eq_true c2
          have x3 := of_decide_eq_true c3
          cases n; cases m
          simp only at x1 x2 x3 z
          rw [x1, x2, x3, z]
        rw [e] at k
        exact k
      · have e : decide (n = m) = false := decide_eq_false fun z => c3 (by rw [z]; exact decide_eq_true rfl)
        rw [e] at k
        exact k
    · have e : decide (n = m) = false := decide_eq_false fun z => c2 (by rw [z]; exact decide_eq_true rfl)
      rw [e] at k
      exact k
  · have e : decide (n = m) = false := decide_eq_false fun z => c1 (by rw [z]; exact decide_eq_true rfl)
    rw [e] at k
    exact k
end
end My
namespace My
open PySem PySem.Spec PyProof.Rows L2
/-- the class has the def at f as __eq__ and no __ne__ -/
structure NeK (K : PySem.W.Frag) (C f : Addr) : Prop where
  cls : ∃ nm q N bs hdct sn sub ab col dd k0 k1 k2 k3 k5 newId, K.lookup C = some (excClassObj nm q C N bs [.type "object"] hdct sn sub ab col dd k0 k1 k2 k3 k5 newId) ∧ PySem.W.nsOkIn K N = true ∧
    PySem.W.nsIn K N "__eq__" = some (some (.ref f)) ∧ PySem.W.nsIn K N "__ne__" = some none
  fn : ∃ od fd sl, K.lookup f = some ⟨.type "function", od, .func fd, sl⟩
theorem ty_eq : ∃ y, typeLookup (.type "object") ("__eq__" : Str) = pure y := ⟨some (.builtin "object.__eq__"), by kernel_rfl⟩
theorem ns_some {K : PySem.W.Frag} {h : Heap} {N : Addr} {mg : Str → Option Value} {n : Str} {v : Value} (X : K.In h) (G : h.Ns N mg) (e : PySem.W.nsIn K N n = some (some v)) : mg n = some v := by
  obtain ⟨o, es, ep, ho, hd, _, hf⟩ := G
  cases q : K.lookup N with
  | none => unfold PySem.W.nsIn at e; rw [q] at e; cases e
  | some on =>
    have z := X _ _ q
    rw [ho] at z
    cases z
    obtain ⟨cl, od, dt, sl⟩ := o
    dsimp only at hd
    subst hd
    unfold PySem.W.nsIn at e
    rw [q] at e
    dsimp only at e
    cases he : es.toList.find? (·.key.isStr n) with
    | none => rw [he] at e; dsimp only at e; split at e <;> cases e
    | some en =>
      rw [he] at e
      cases e
      rw [← hf]
      unfold nsFind findBy
      rw [← Array.find?_toList, he]
      rfl
section
variable {X : Cx} {CX : CXT} {k : Nat} {f C : Addr} {fd : FuncData} {ps : List Str} {sp : Sp} {E : XK}
def rOwnNe (C : Addr) (sp : Sp) (E : XK) : R2 := fun x y H Q => ∃ a dx fs b dy gs, x = .ref a ∧ H a = some (.ins C dx fs) ∧ y = .ref b ∧ H b = some (.ins C dy gs) ∧ sp [.ref a, .ref b] H (fun v H' => ∃ c, v = .bl c ∧ Q (.bl (!c)) H') E
theorem op_ownNe (T : NeK X.K C f) (F : FnOk X.prog X.w X.K X.mg X.base CX k f fd ps sp) (hr : Room (k + 1) X.A) (hb : Binds X.K fd ps []) (hx : Passes CX X E) : OpR X (compareOp .NotEq) (rOwnNe C sp E) := by
  intro pins s σ H x y v u Q I rx ry hq
  obtain ⟨a, dx, fs, b, dy, gs, rfl, ea, rfl, eb, hsp⟩ := hq
  cases rx
  cases ry
  obtain ⟨mA, O, _⟩ := ins_get I.hok ea
  obtain ⟨od, J, _⟩ := O.look
  obtain ⟨mB, O', _⟩ := ins_get I.hok eb
  obtain ⟨od', J', _⟩ := O'.look
  obtain ⟨nm, q, N, bs, hdct, sn, sub, ab, col, dd, k0, k1, k2, k3, k5, nid, hC, hok, heq, hne⟩ := T.cls
  obtain ⟨ofd, fdd, sl, hf⟩ := T.fn
  obtain ⟨yv, hy⟩ := ty_eq
  have X0 := I.kIn
  have hns : s.heap.Ns N (s.heap.nsMap N) := .of_isNs (PySem.W.isNs_of_in X0 hok)
  have Y : s.heap.OwnEqNoNe a C f "object" [.type "object"] :=
    ⟨_, _, nm, q, N, bs, hdct, sn, sub, ab, col, dd, k0, k1, k2, k3, k5, nid, _, yv, J.at_, J.cls, X0 _ _ hC, hns, ns_some X0 hns heq, X0 _ _ hf, rfl, PySem.F.mro_object, hy, PySem.W.ns_none_of X0 hns hne⟩
  obtain ⟨hp, g, d, t, os⟩ := s
  have fr : FnOk X.prog X.w X.K X.mg X.base CX k f fd ps sp := F
  refine compareOp_ne_ownEq PySem.F.cmp_object Y J'.at_ J'.cls (by have := hr.un; omega) ?_
  refine wpAny_call ?_
  have hl : ([Value.ref a, Value.ref b] : List Value).length = ps.length := by
    have := F.len _ _ _ _ hsp
    exact this
  have bd : BindsTo ⟨hp, g, d, t, os⟩ fd ⟨[.ref a, .ref b], []⟩ (ps.zip [.ref a, .ref b]) := by
    have z := hb ⟨hp, g, d, t, os⟩ [.ref a, .ref b] I.kIn (by rw [List.append_nil]; exact hl)
    rw [List.append_nil] at z
    exact z
  refine codeAny_mono (F.run X.A.in1 X.stack ⟨hp, g, d, t, os⟩ H ⟨[.ref a, .ref b], []⟩ [.ref a, .ref b] [.ref a, .ref b] _ E hr.in1 I.env0.in1 bd (.cons rfl (.cons rfl .nil)) hsp) fun r2 s2 hq => ?_
  match r2, hq with
  | .error er, hq => exact hx pins σ H _ er s2 I hq
  | .ok (.ret u), hq =>
    obtain ⟨z, H', I', rz, c, ez, q⟩ := I.after hq
    subst ez
    cases rz
    exact ⟨c, rfl, .bl (!c), H', I', rfl, q⟩
end
end My
namespace My
open PySem PySem.Spec PyProof.Rows L2
section
variable {K : PySem.W.Frag} {h : Heap} {mg : Str → Option Value}
theorem defAt_mk {x : Str} {st : Stmt} {f : Addr} {oc : Value} {od an : Option Addr} {osl : Array (Option Value)} {kV doc pm cdv ct : Value} (X : K.In h) (G : h.Ns mainGlobals mg) (a : PySem.W.nsIn K mainGlobals x = some (some (.ref f)))
    (l : K.lookup f = some ⟨oc, od, .func (PySem.W.fnOf x x (defArgs st) (defBody st) (defScope st) .none kV doc pm an cdv ct), osl⟩) (c : PySem.W.codeIn K cdv x = true) (k : PySem.W.keepIn K (.ref f) = true) : DefAt K mg x st :=
  ⟨f, _, PySem.W.mg_of X G a, fun_mk l c k⟩
theorem spT_mk {C : Addr} {x qual : Str} {st : Stmt} {f : Addr} {oc : Value} {od an : Option Addr} {osl : Array (Option Value)} {kV doc pm cdv ct : Value} (a : PySem.W.findIn K (.ref C) x = some (some (.ref f))) (i : PySem.W.isFn K (.ref f) = true)
    (l : K.lookup f = some ⟨oc, od, .func (PySem.W.fnOf x qual (defArgs st) (defBody st) (defScope st) .none kV doc pm an cdv ct), osl⟩) (c : PySem.W.codeIn K cdv qual = true) (k : PySem.W.keepIn K (.ref f) = true) : SpT K C x qual st :=
  ⟨f, _, a, i, fun_mk l c k⟩
theorem methT_mk {C : Addr} {x qual : Str} {st : Stmt} {f : Addr} {oc : Value} {od an : Option Addr} {osl : Array (Option Value)} {kV doc pm cdv ct : Value} (a : PySem.W.findIn K (.ref C) x = some (some (.ref f))) (i : PySem.W.isFn K (.ref f) = true)
    (l : K.lookup f = some ⟨oc, od, .func (PySem.W.fnOf x qual (defArgs st) (defBody st) (defScope st) .none kV doc pm an cdv ct), osl⟩) (c : PySem.W.codeIn K cdv qual = true) (k : PySem.W.keepIn K (.ref f) = true) : MethT K C x qual st :=
  ⟨f, _, ⟨a, i, k⟩, i, fun_mk l c k⟩
theorem opT_mk {C : Addr} {op : Operator} {x qual : Str} {st : Stmt} {f : Addr} {oc : Value} {od an : Option Addr} {osl : Array (Option Value)} {kV doc pm cdv ct : Value} (W : OwnOp K C op f)
    (l : K.lookup f = some ⟨oc, od, .func (PySem.W.fnOf x qual (defArgs st) (defBody st) (defScope st) .none kV doc pm an cdv ct), osl⟩) (c : PySem.W.codeIn K cdv qual = true) (k : PySem.W.keepIn K (.ref f) = true) : OpT K C op x qual st :=
  ⟨f, _, W, fun_mk l c k⟩
theorem propT_mk {C : Addr} {x qual : Str} {st : Stmt} {p g : Addr} {oc : Value} {od an : Option Addr} {osl : Array (Option Value)} {kV doc pm cdv ct : Value} (W : PropOf K C x p g)
    (l : K.lookup g = some ⟨oc, od, .func (PySem.W.fnOf x qual (defArgs st) (defBody st) (defScope st) .none kV doc pm an cdv ct), osl⟩) (c : PySem.W.codeIn K cdv qual = true) (k : PySem.W.keepIn K (.ref g) = true) : PropT K C x qual st :=
  ⟨p, g, _, W, fun_mk l c k⟩
end
end My
namespace My
open PySem PySem.Spec PyProof.Rows L2
section
variable {K : PySem.W.Frag} {h : Heap} {mg : Str → Option Value}
theorem numT_mk {C f : Addr} {T D : Addr} {oT oc : Value} {odT od an : Option Addr} {slT osl : Array (Option Value)} {nT : Nat} {tk1 tk2 tk3 : Tok} {doc pm cdv ct : Value} (X : K.In h) (G : h.Ns mainGlobals mg)
    (a : PySem.W.nsIn K mainGlobals "Number" = some (some (.ref C))) (pg : PySem.W.plainGet K C Str.empty = true) (hd : PySem.W.hasDictIn K C = true) (po : PySem.W.plainOver K C = true) (sa : PySem.W.findIn K (.ref C) "__setattr__" = some (some (.builtin "object.__setattr__")))
    (n1 : PySem.W.findIn K (.ref C) "_top" = some none) (n2 : PySem.W.findIn K (.ref C) "_part" = some none) (n3 : PySem.W.findIn K (.ref C) "_root" = some none) (n4 : PySem.W.findIn K (.ref C) "_bottom" = some none)
    (mk : PySem.W.makesIn K C = true) (ai : PySem.W.findIn K (.ref C) "__init__" = some (some (.ref f))) (ii : PySem.W.isFn K (.ref f) = true) (kc : PySem.W.keepIn K (.ref C) = true)
    (l : K.lookup f = some ⟨oc, od, .func (PySem.W.fnOf "__init__" "Number.__init__" (defArgs s_ninit) (defBody s_ninit) (defScope s_ninit) (.ref T) (.ref D) doc pm an cdv ct), osl⟩) (c : PySem.W.codeIn K cdv "Number.__init__" = true) (kf : PySem.W.keepIn K (.ref f) = true)
    (lT : K.lookup T = some ⟨oT, odT, .seq #[.int 0 tk1] nT, slT⟩) (d1 : PySem.W.nsIn K D "root" = some (some (.int 0 tk2))) (d2 : PySem.W.nsIn K D "bottom" = some (some (.int 1 tk3)))
    (g1 : PySem.W.nsIn K mainGlobals "gcd" = some (some (.builtin "math.gcd"))) (g2 : PySem.W.nsIn K mainGlobals "isqrt" = some (some (.builtin "math.isqrt"))) : NumT K mg C :=
  ⟨PySem.W.mg_of X G a, ⟨pg, hd, po, sa⟩, n1, n2, n3, n4, ⟨f, _, ⟨mk, ai, ii, kc⟩, ⟨⟨oc, od, .ref T, .ref D, doc, pm, an, cdv, ct, osl, rfl, l, c, .inr ⟨by simp, T, _, [.int 0 tk1], nT, rfl, lT, rfl, .cons ⟨_, rfl⟩ .nil⟩, .inr ⟨D, rfl, fun q hq => by
    rcases List.mem_cons.mp hq with rfl | hq
    · exact ⟨_, d1, ⟨_, rfl⟩⟩
    · rcases List.mem_cons.mp hq with rfl | hq
      · exact ⟨_, d2, ⟨_, rfl⟩⟩
      · cases hq⟩⟩, kf⟩⟩, PySem.W.mg_of X G g1, PySem.W.mg_of X G g2⟩
theorem numK_mk {q : Addr} {tk : Tok} {od : Option Addr} {n : Nat} {sl : Array (Option Value)} {t1 t2 t3 t4 t5 t6 t7 t8 t9 t10 t11 : Tok} (X : K.In h) (G : h.Ns mainGlobals mg) (a : PySem.W.nsIn K mainGlobals "MAX_ROOT" = some (some (.int 999 tk))) (b : PySem.W.nsIn K mainGlobals "PRIME_SQUARES" = some (some (.ref q)))
    (l : K.lookup q = some ⟨.type "tuple", od, .seq #[.int 4 t1, .int 9 t2, .int 25 t3, .int 49 t4, .int 121 t5, .int 169 t6, .int 289 t7, .int 361 t8, .int 529 t9, .int 841 t10, .int 961 t11] n, sl⟩) : NumK K mg :=
  ⟨⟨_, PySem.W.mg_of X G a⟩, ⟨q, PySem.W.mg_of X G b, fun H => .inr ⟨_, _, _, l, rfl, rfl, by show 11 ≤ sizeLine; decide, .cons ⟨_, rfl⟩ (.cons ⟨_, rfl⟩ (.cons ⟨_, rfl⟩ (.cons ⟨_, rfl⟩ (.cons ⟨_, rfl⟩ (.cons ⟨_, rfl⟩ (.cons ⟨_, rfl⟩ (.cons ⟨_, rfl⟩ (.cons ⟨_, rfl⟩ (.cons ⟨_, rfl⟩ (.cons ⟨_, rfl⟩ .nil))))))))))⟩⟩⟩
end
end My
namespace My
open PySem PySem.Spec PyProof.Rows L2
section
variable {K : PySem.W.Frag} {h : Heap} {mg : Str → Option Value}
theorem neK_mk {C N f : Addr} {o : Obj} {es : List DictEntry} {oc2 : Value} {od2 : Option Addr} {sl2 : Array (Option Value)} {n2 : Nat} {nm q : Str} {bs : List Value} {hdct : Bool} {sn : List Str} {sub : List Value} {ab : Bool} {col : Option Bool} {dd : Option Addr} {k0 k1 k2 k3 k5 : Option Value} {newId : String} {od : Option Addr} {fd : FuncData} {sl : Array (Option Value)}
    (a1 : K.lookup C = some o) (e : o = excClassObj nm q C N bs [.type "object"] hdct sn sub ab col dd k0 k1 k2 k3 k5 newId) (a2 : K.lookup N = some ⟨oc2, od2, .dict es.toArray n2, sl2⟩) (e2 : (es.all fun e => match e.key with | .str _ _ => true | _ => false) = true)
    (a3 : PySem.W.nsIn K N "__eq__" = some (some (.ref f))) (a4 : PySem.W.nsIn K N "__ne__" = some none) (a5 : K.lookup f = some ⟨.type "function", od, .func fd, sl⟩) (ef : PySem.W.findIn K (.ref C) "__eq__" = some (some (.ref f))) :
    ∃ f, NeK K C f ∧ PySem.W.findIn K (.ref C) "__eq__" = some (some (.ref f)) :=
  ⟨f, ⟨⟨nm, q, N, bs, hdct, sn, sub, ab, col, dd, k0, k1, k2, k3, k5, newId, by rw [a1, e], by unfold PySem.W.nsOkIn; rw [a2]; show (es.toArray.all _) = true; rw [List.all_toArray]; exact e2, a3, a4⟩, od, fd, sl, a5⟩, ef⟩
end
end My
namespace My
open PySem
/-! ### the law's sign -/
theorem sgI_pos {i : Int} (h : 0 < i) : sgI i = 1 := by unfold sgI; rw [if_neg (by omega), if_pos h]
theorem sgI_neg {i : Int} (h : i < 0) : sgI i = -1 := by unfold sgI; rw [if_neg (by omega), if_neg (by omega)]
theorem sgI_z : sgI 0 = 0 := rfl
theorem sgn_y0 {x r : Int} : sgn x 0 r = sgI x := if_pos (.inr rfl)
theorem sgn_x0 {y r : Int} (hr : 0 ≤ r) : sgn 0 y r = sgI y := by
  by_cases hy : y = 0
  · rw [hy]; exact sgn_y0
  · unfold sgn
    have : sgI y ≠ 0 := fun z => hy (sgI_zero.mp z)
    have h0 : 0 ≤ y * y * r := Int.mul_nonneg (sq_nonneg y) hr
    rw [if_neg (by rw [sgI_z]; rintro (h | h) <;> omega), if_neg (by omega)]
theorem sgn_same {x y r : Int} (hx : x ≠ 0) (hy : y ≠ 0) (h : (0 < x) ↔ (0 < y)) : sgn x y r = sgI x := by
  have e : sgI x = sgI y := by
    by_cases hp : 0 < x
    · rw [sgI_pos hp, sgI_pos (h.mp hp)]
    · have : ¬ 0 < y := fun z => hp (h.mpr z)
      rw [sgI_neg (by omega), sgI_neg (by omega)]
  exact if_pos (.inl e)
theorem sgn_diff {x y r : Int} (hx : x ≠ 0) (hy : y ≠ 0) (h : ¬ ((0 < x) ↔ (0 < y))) : sgn x y r = if y * y * r < x * x then sgI x else sgI y := by
  have e : sgI x ≠ sgI y := by
    by_cases hp : 0 < x
    · have : ¬ 0 < y := fun z => h ⟨fun _ => z, fun _ => hp⟩
      rw [sgI_pos hp, sgI_neg (by omega)]; decide
    · have : 0 < y := Classical.byContradiction fun z => h ⟨fun q => absurd q hp, fun q => absurd q z⟩
      rw [sgI_neg (by omega), sgI_pos this]; decide
  have : sgI y ≠ 0 := fun z => hy (sgI_zero.mp z)
  unfold sgn
  rw [if_neg (by rintro (h | h); exact e h; exact this h)]
/-! ### Euclid, with a count of turns -/
structure Euc (i : Nat) (g P : Nat) (a b : Nat) : Prop where
  g : Nat.gcd a b = g
  or : i = 0 ∨ b < a
  m : a * b * 2 ^ i ≤ P
theorem Euc.step {i g P a b : Nat} (h : Euc i g P a b) (h0 : a * b * 2 ≤ P) (hb : b ≠ 0) : Euc (i + 1) g P b (a % b) := by
  have hlt := Nat.mod_lt a (Nat.pos_of_ne_zero hb)
  refine ⟨?_, .inr hlt, ?_⟩
  · rw [← h.g, Nat.gcd_comm a b, Nat.gcd_rec b a, Nat.gcd_comm]
  · by_cases hab : b ≤ a
    · have e := Nat.div_add_mod a b
      have hq : 1 ≤ a / b := Nat.div_pos hab (Nat.pos_of_ne_zero hb)
      have h2 : 2 * (a % b) ≤ a := by
        have : b * 1 ≤ b * (a / b) := Nat.mul_le_mul_left _ hq
        omega
      have h3 : b * (2 * (a % b)) ≤ b * a := Nat.mul_le_mul_left _ h2
      have h4 : b * (a % b) * 2 ^ (i + 1) ≤ a * b * 2 ^ i := by
        have : b * (2 * (a % b)) * 2 ^ i ≤ b * a * 2 ^ i := Nat.mul_le_mul_right _ h3
        rw [Nat.pow_succ]
        calc b * (a % b) * (2 ^ i * 2) = b * (2 * (a % b)) * 2 ^ i := by grind
          _ ≤ b * a * 2 ^ i := this
          _ = a * b * 2 ^ i := by rw [Nat.mul_comm b a]
      exact Nat.le_trans h4 h.m
    · rcases h.or with z | z
      · rw [Nat.mod_eq_of_lt (by omega), z, Nat.mul_comm b a]
        exact h0
      · omega
theorem Euc.start {a b P : Nat} (h : a * b ≤ P) : Euc 0 (Nat.gcd a b) P a b := ⟨rfl, .inl rfl, by omega⟩
theorem Euc.stop {i g P a b : Nat} (h : Euc i g P a b) (hi : 0 < i) (hP : P < 2 ^ i) : b = 0 := by
  refine Classical.byContradiction fun z => ?_
  have ha : 1 ≤ a := by rcases h.or with q | q <;> omega
  have : 1 * 1 ≤ a * b := Nat.mul_le_mul ha (by omega)
  have h2 : 1 * 2 ^ i ≤ a * b * 2 ^ i := Nat.mul_le_mul_right _ (by omega)
  have := h.m
  omega
theorem Euc.res {i g P a : Nat} (h : Euc i g P a 0) : a = g := by rw [← h.g, Nat.gcd_zero_right]
/-! ### the floor -/
theorem isq (n : Int) (h : 0 ≤ n) : ∃ s : Int, ((Float64.isqrt n.toNat : Nat) : Int) = s ∧ 0 ≤ s ∧ s * s ≤ n ∧ n < (s + 1) * (s + 1) := by
  obtain ⟨h1, h2⟩ := PySem.Float64.isqrt_spec n.toNat
  refine ⟨_, rfl, by omega, ?_, ?_⟩
  · have : ((Float64.isqrt n.toNat * Float64.isqrt n.toNat : Nat) : Int) ≤ (n.toNat : Int) := by exact_mod_cast h1
    rw [Int.natCast_mul] at this
    omega
  · have : (n.toNat : Int) < (((Float64.isqrt n.toNat + 1) * (Float64.isqrt n.toNat + 1) : Nat) : Int) := by exact_mod_cast h2
    rw [Int.natCast_mul] at this
    simp only [Int.natCast_add, Int.natCast_one] at this
    omega
theorem sq_le {a b : Int} (h0 : 0 ≤ a) (h : a ≤ b) : a * a ≤ b * b := Int.mul_le_mul h h h0 (by omega)
theorem sgn_flr {x p r : Int} (hr : 0 ≤ r) (hp0 : p ≠ 0 → 0 < r) : 0 ≤ sgn x p r ↔ 0 ≤ x + flr p r := by
  have hn : 0 ≤ p * p * r := Int.mul_nonneg (sq_nonneg p) hr
  obtain ⟨s, es, s0, s1, s2⟩ := isq (p * p * r) hn
  unfold flr
  rw [es]
  by_cases hp : p = 0
  · subst hp
    rw [sgn_y0, if_pos (by decide)]
    have : s = 0 := by
      refine Classical.byContradiction fun z => ?_
      have := sq_le (a := 1) (b := s) (by decide) (by omega)
      simp at s1
      omega
    subst this
    rcases Int.lt_trichotomy x 0 with z | z | z
    · rw [sgI_neg z]; omega
    · rw [z, sgI_z]; omega
    · rw [sgI_pos z]; omega
  by_cases hx : x = 0
  · subst hx
    rw [sgn_x0 hr]
    by_cases h : 0 ≤ p
    · rw [sgI_pos (by omega), if_pos h]; omega
    · rw [sgI_neg (by omega), if_neg h]; omega
  by_cases h : 0 < p
  · rw [if_pos (by omega)]
    by_cases h' : 0 < x
    · rw [sgn_same hx hp ⟨fun _ => h, fun _ => h'⟩, sgI_pos h']; omega
    · rw [sgn_diff hx hp (fun z => h' (z.mpr h)), sgI_neg (by omega), sgI_pos h]
      by_cases hlt : p * p * r < x * x
      · rw [if_pos hlt]
        have : ¬ -x ≤ s := fun z => by
          have := sq_le (a := -x) (b := s) (by omega) z
          have e : -x * -x = x * x := by grind
          omega
        omega
      · rw [if_neg hlt]
        have : ¬ s + 1 ≤ -x := fun z => by
          have := sq_le (a := s + 1) (b := -x) (by omega) z
          have e : -x * -x = x * x := by grind
          omega
        omega
  · rw [if_neg (by omega)]
    by_cases h' : 0 < x
    · rw [sgn_diff hx hp (fun z => h (z.mp h')), sgI_pos h', sgI_neg (by omega)]
      by_cases hlt : p * p * r < x * x
      · rw [if_pos hlt]
        have : ¬ x ≤ s := fun z => by
          have := sq_le (a := x) (b := s) (by omega) z
          omega
        omega
      · rw [if_neg hlt]
        have : ¬ s + 1 ≤ x := fun z => by
          have := sq_le (a := s + 1) (b := x) (by omega) z
          omega
        omega
    · rw [sgn_same hx hp ⟨fun z => absurd z h', fun z => absurd z h⟩, sgI_neg (by omega)]; omega
end My
namespace My
open PySem
theorem com_abs {t p b t' p' b' : Int} (ht : t.natAbs = t'.natAbs) (hp : p.natAbs = p'.natAbs) (hb : b.natAbs = b'.natAbs) : com t p b = com t' p' b' := by unfold com; rw [ht, hp, hb]
theorem Good.flip {k : Nat} {n : Nm} (h : Good k n) : Good k ⟨-n.t, -n.p, n.r, n.b⟩ :=
  ⟨h.t.neg, h.p.neg, h.b, h.b1, by rw [← h.cop]; exact com_abs (Int.natAbs_neg _) (Int.natAbs_neg _) rfl, by
    rcases h.rt with ⟨a, b⟩ | ⟨a, b⟩
    · exact .inl ⟨a, by rw [show (-n.p) = 0 by omega]⟩
    · exact .inr ⟨show -n.p ≠ 0 by omega, b⟩⟩
theorem Good.mir {k : Nat} {n : Nm} (h : Good k n) : Good k ⟨n.t, -n.p, n.r, n.b⟩ :=
  ⟨h.t, h.p.neg, h.b, h.b1, by rw [← h.cop]; exact com_abs rfl (Int.natAbs_neg _) rfl, by
    rcases h.rt with ⟨a, b⟩ | ⟨a, b⟩
    · exact .inl ⟨a, by rw [show (-n.p) = 0 by omega]⟩
    · exact .inr ⟨show -n.p ≠ 0 by omega, b⟩⟩
theorem negN_eq {k : Nat} {n : Nm} (h : Good k n) : negN n = ⟨-n.t, -n.p, n.r, n.b⟩ := lst_self h.flip
theorem mirN_eq {k : Nat} {n : Nm} (h : Good k n) : mirN n = ⟨n.t, -n.p, n.r, n.b⟩ := lst_self h.mir
theorem Good.rpos {k : Nat} {n : Nm} (h : Good k n) : n.p ≠ 0 → 0 < n.r := fun hp => by
  rcases h.rt with ⟨a, b⟩ | ⟨a, b⟩
  · exact absurd b hp
  · have := rootOk_ge b; omega
theorem fdiv_bounds {F b : Int} (hb : 1 ≤ b) : F.fdiv b * b ≤ F ∧ F < F.fdiv b * b + b := by
  have e := Int.fmod_def F b
  have h1 : 0 ≤ F.fmod b := by rw [Int.fmod_eq_emod_of_nonneg _ (by omega)]; exact Int.emod_nonneg _ (by omega)
  have h2 : F.fmod b < b := by rw [Int.fmod_eq_emod_of_nonneg _ (by omega)]; exact Int.emod_lt_of_pos _ (by omega)
  have e2 : b * F.fdiv b = F.fdiv b * b := Int.mul_comm _ _
  omega
theorem flr_sz {p r : Int} {k : Nat} (hp : Sz k p) (hr0 : 0 ≤ r) (hr : Sz 10 r) : Sz (2 * k + 11) (flr p r) := by
  have hn : 0 ≤ p * p * r := Int.mul_nonneg (sq_nonneg p) hr0
  obtain ⟨s, es, s0, s1, s2⟩ := isq (p * p * r) hn
  have z := (hp.mul hp).mul hr
  unfold flr
  rw [es]
  have zs : s ≤ p * p * r := by
    by_cases h : s = 0
    · omega
    · have : s * 1 ≤ s * s := Int.mul_le_mul_of_nonneg_left (by omega) s0
      omega
  have zf : Sz (k + k + 10) s := by
    unfold Sz at *
    omega
  have z2 : Sz (k + k + 10 + 1) s ∧ Sz (k + k + 10 + 1) (-s - 1) := by
    constructor
    · exact zf.mono (by omega)
    · refine Sz.sub zf.neg ?_
      unfold Sz
      exact Nat.one_lt_two_pow (by omega)
  have e : 2 * k + 11 = k + k + 10 + 1 := by omega
  rw [e]
  split
  · exact z2.1
  · exact z2.2
theorem fdiv_sz {F b : Int} {k : Nat} (hb : 1 ≤ b) (h : Sz k F) : Sz k (F.fdiv b) := by
  obtain ⟨h1, h2⟩ := fdiv_bounds (F := F) hb
  generalize F.fdiv b = q at *
  refine Sz.ofLt ?_ h
  by_cases hq : 0 ≤ q
  · have : q * 1 ≤ q * b := Int.mul_le_mul_of_nonneg_left hb hq
    omega
  · have : (q + 1) * b ≤ (q + 1) * 1 := Int.mul_le_mul_of_nonpos_left (by omega) hb
    have e : (q + 1) * b = q * b + b := by grind
    omega
/-- the floor is right -/
theorem floor_ge {k : Nat} {n : Nm} (h : Good k n) : 0 ≤ sgn (n.t - (n.t + flr n.p n.r).fdiv n.b * n.b) n.p n.r := by
  rw [sgn_flr h.r0.1 h.rpos]
  have := (fdiv_bounds (F := n.t + flr n.p n.r) h.b1).1
  omega
theorem floor_lt {k : Nat} {n : Nm} (h : Good k n) : sgn (n.t - (n.t + flr n.p n.r).fdiv n.b * n.b - n.b) n.p n.r < 0 := by
  have a : ¬ 0 ≤ sgn (n.t - (n.t + flr n.p n.r).fdiv n.b * n.b - n.b) n.p n.r := by
    rw [sgn_flr h.r0.1 h.rpos]
    have := (fdiv_bounds (F := n.t + flr n.p n.r) h.b1).2
    omega
  omega
end My
namespace My
open PySem PySem.Spec PyProof.Rows L2
section
variable {prog : Program} {w : World} {A : Around} {E : Value → Shared → Prop} {h : Heap} {g : Array GenState} {d : Drawn} {t : Nat} {os : OsState} {C x f : Addr} {B : String} {bm : List Value} {v tb : Value} {K : PySem.W.Frag}
theorem neA_entry (X : h.OwnEqNoNe x C f B bm) (hu : A.units < cLine) {Q : Fin → Shared → Prop}
    (hcall : wpAny (model prog w) A (call (.ref f) [.ref x, v]) (fun v s' => ∃ b, v = .bool b ∧ Q (.done (.ret (.bool (!b)))) s') E ⟨h, g, d, t, os⟩) :
    wpAny (model prog w) A (Builtin.«object.__ne__» ⟨[.ref x, v], []⟩) Q E ⟨h, g, d, t, os⟩ := by
  unfold Builtin.«object.__ne__»
  repeat (first
    | with_reducible refine wpAny_cRoomFor hu ?_
    | (refine wpAny_bind (m := callSpecialIfBound? (.ref x) (Str.ofString "__eq__") [v])
        (wpAny_callSpecialIfBound?_own X.ownEq (wpAny_mono hcall (fun r s' hr => by
          obtain ⟨b, rfl, hq⟩ := hr
          repeat (first | exact hq | exact wpAny_pure hq | exact wpAny_truthy_bool hq | (refine wpAny_bind (m := truthy (.bool _)) (wpAny_truthy_bool ?_)) | wp_step)) fun _ _ e => e)))
    | wp_step)
theorem neA_try (FB : CmpFacts B bm) (X : h.OwnEqNoNe x C f B bm) (hu : A.units + 1 < cLine) {Q : Option Value → Shared → Prop}
    (hcall : wpAny (model prog w) A.in1 (call (.ref f) [.ref x, v]) (fun v s' => ∃ b, v = .bool b ∧ Q (some (.bool (!b))) s') E ⟨h, g, d, t, os⟩) :
    wpAny (model prog w) A (tryCompare (.ref x) "__ne__" v) Q E ⟨h, g, d, t, os⟩ := by
  obtain ⟨o, of, nm, q, N, bs, hdct, sn, sub, ab, col, dd, k0, k1, k2, k3, k5, newId, mN, yv, hx, hc, hC, hn, _, _, _, _, _, hne⟩ := id X
  simp only [tryCompare]
  refine wpAny_bind (wpAny_callSpecialIfBound?_inst hx hc hC hn hne FB.mro FB.ne (wpAny_call (codeAny_call_builtin FB.ne.plain F.cmpEntry_ne
    (wpAny_check_slot_inst F.cmpKind_ne F.cmpSplit_ne (F.cmpArgs_ne _ _) FB.hasObject hx hc hC
      (neA_entry (A := A.in1) X hu (wpAny_mono hcall (fun v s' hv => ?_) fun _ _ e => e))))))
  obtain ⟨b, rfl, hq⟩ := hv
  first | exact ⟨b, rfl, wpAny_pure hq⟩ | exact ⟨b, rfl, wpAny_pure (wpAny_pure hq)⟩ | exact ⟨b, rfl, hq⟩
theorem neA_cmp (FB : CmpFacts B bm) (X : h.OwnEqNoNe x C f B bm) (KX : K.In h) (hb : PySem.W.Looks (model prog w) h (typeOf v) tb) (hn : PySem.W.notFirst K C tb = true) (hu : A.units + 1 < cLine) {Q : Value → Shared → Prop}
    (hcall : wpAny (model prog w) A.in1 (call (.ref f) [.ref x, v]) (fun v s' => ∃ b, v = .bool b ∧ Q (.bool (!b)) s') E ⟨h, g, d, t, os⟩) :
    wpAny (model prog w) A (compareOp .NotEq (.ref x) v) Q E ⟨h, g, d, t, os⟩ := by
  have X' := X
  obtain ⟨o, of, nm, q, N, bs, hdct, sn, sub, ab, col, dd, k0, k1, k2, k3, k5, newId, mN, yv, hx, hc, _⟩ := X'
  unfold compareOp
  show wpAny (model prog w) A (richCompare .NotEq (.ref x) v) Q E _
  unfold richCompare
  simp only [oneThing_ref]
  refine wpAny_holding ?_
  refine wpAny_bind (wpAny_cRoomFor (Nat.lt_of_succ_lt hu) ?_)
  rw [cmpInfo_NotEq]
  dsimp only
  refine wpAny_bind (wpAny_typeOf_ref hx ?_)
  rw [hc]
  refine wpAny_bind (hb.here ?_)
  have fin : wpAny (model prog w) A (tryCompare (.ref x) "__ne__" v) (fun r s' => ∃ b, r = some (.bool b) ∧ Q (.bool b) s') E ⟨h, g, d, t, os⟩ := neA_try FB X hu (wpAny_mono hcall (fun v s' hv => by
    obtain ⟨b, rfl, hq⟩ := hv
    exact ⟨b, rfl, _, rfl, hq⟩) fun _ _ e => e)
  split
  · rename_i q
    have e : PySem.W.subIn K tb (.ref C) = some false := by
      rcases Bool.or_eq_true_iff.mp hn with e | e
      · rw [beq_iff_eq.mp e] at q; simp at q
      · exact beq_iff_eq.mp e
    refine wpAny_bind ((PySem.W.looks_subIn KX e).here ?_)
    simp only [Bool.false_eq_true, if_false]
    refine wpAny_bind (wpAny_mono fin (fun r s' z => ?_) fun _ _ e => e)
    obtain ⟨b, rfl, hq⟩ := z
    exact wpAny_pure hq
  · refine wpAny_bind (wpAny_pure ?_)
    simp only [Bool.false_eq_true, if_false]
    refine wpAny_bind (wpAny_mono fin (fun r s' z => ?_) fun _ _ e => e)
    obtain ⟨b, rfl, hq⟩ := z
    exact wpAny_pure hq
end
section
variable {X : Cx} {CX : CXT} {k : Nat} {f C : Addr} {fd : FuncData} {ps : List Str} {sp : Sp} {E : XK}
/-- x == y, x an instance, y of any kind that does not go first -/
def rOwnEqA (K : PySem.W.Frag) (C : Addr) (sp : Sp) (E : XK) : R2 := fun x y H Q => ∃ a dx fs t, x = .ref a ∧ H a = some (.ins C dx fs) ∧ TyX K H y t ∧ PySem.W.notFirst K C t = true ∧ sp [.ref a, y] H Q E
theorem op_ownEqA (hs : PySem.W.findIn X.K (.ref C) "__eq__" = some (some (.ref f))) (hf : PySem.W.isFn X.K (.ref f) = true) (F : FnOk X.prog X.w X.K X.mg X.base CX k f fd ps sp) (hr : Room k X.A) (hb : Binds X.K fd ps []) (hx : Passes CX X E) : OpR X (compareOp .Eq) (rOwnEqA X.K C sp E) := by
  intro pins s σ H x y v u Q I rx ry hq
  obtain ⟨a, dx, fs, t, rfl, ea, ty, hn, hsp⟩ := hq
  cases rx
  obtain ⟨mA, O, _⟩ := ins_get I.hok ea
  obtain ⟨od, J, _⟩ := O.look
  obtain ⟨P, Z, p, _⟩ := kit_of I ry ty
  obtain ⟨m, hF⟩ := I.fr
  show wpAny (model X.prog X.w) X.A (richCompare .Eq (.ref a) u) (EP X pins σ Q) X.xe s
  refine PySem.W.cmp_K (op := .Eq) (tb := t) hr.units0 hF I.ok.mod.kin J (Z.ty _ _ I.kIn p) hn hs hf ?_
  refine wpAny_mono (run_fn (us := [.ref a, u]) (vs := [.ref a, y]) (dvs := []) (ds := []) F hr hb .nil hx I (.cons rfl (.cons ry .nil)) hsp) (fun w s' hw => ?_) fun _ _ e => e
  obtain ⟨z, H', I', rz, q⟩ := hw
  exact cmpBack_of rz ⟨z, H', I', rz, q⟩
def rOwnNeA (K : PySem.W.Frag) (C : Addr) (sp : Sp) (E : XK) : R2 := fun x y H Q => ∃ a dx fs t, x = .ref a ∧ H a = some (.ins C dx fs) ∧ TyX K H y t ∧ PySem.W.notFirst K C t = true ∧ sp [.ref a, y] H (fun v H' => ∃ c, v = .bl c ∧ Q (.bl (!c)) H') E
theorem op_ownNeA (T : NeK X.K C f) (F : FnOk X.prog X.w X.K X.mg X.base CX k f fd ps sp) (hr : Room (k + 1) X.A) (hb : Binds X.K fd ps []) (hx : Passes CX X E) : OpR X (compareOp .NotEq) (rOwnNeA X.K C sp E) := by
  intro pins s σ H x y v u Q I rx ry hq
  obtain ⟨a, dx, fs, ty, rfl, ea, tyx, hnf, hsp⟩ := hq
  cases rx
  obtain ⟨mA, O, _⟩ := ins_get I.hok ea
  obtain ⟨od, J, _⟩ := O.look
  obtain ⟨P, Z, p, _⟩ := kit_of I ry tyx
  obtain ⟨nm, q, N, bs, hdct, sn, sub, ab, col, dd, k0, k1, k2, k3, k5, nid, hC, hok, heq, hne⟩ := T.cls
  obtain ⟨ofd, fdd, sl, hf⟩ := T.fn
  obtain ⟨yv, hy⟩ := ty_eq
  have X0 := I.kIn
  have hns : s.heap.Ns N (s.heap.nsMap N) := .of_isNs (PySem.W.isNs_of_in X0 hok)
  have Y : s.heap.OwnEqNoNe a C f "object" [.type "object"] :=
    ⟨_, _, nm, q, N, bs, hdct, sn, sub, ab, col, dd, k0, k1, k2, k3, k5, nid, _, yv, J.at_, J.cls, X0 _ _ hC, hns, ns_some X0 hns heq, X0 _ _ hf, rfl, PySem.F.mro_object, hy, PySem.W.ns_none_of X0 hns hne⟩
  have Lk := Z.ty (model X.prog X.w) s.heap I.kIn p
  obtain ⟨hp, g, d, t, os⟩ := s
  refine neA_cmp PySem.F.cmp_object Y X0 Lk hnf (by have := hr.un; omega) ?_
  refine wpAny_call ?_
  have hl : ([Value.ref a, u] : List Value).length = ps.length := by
    have := F.len _ _ _ _ hsp
    exact this
  have bd : BindsTo ⟨hp, g, d, t, os⟩ fd ⟨[.ref a, u], []⟩ (ps.zip [.ref a, u]) := by
    have z := hb ⟨hp, g, d, t, os⟩ [.ref a, u] I.kIn (by rw [List.append_nil]; exact hl)
    rw [List.append_nil] at z
    exact z
  refine codeAny_mono (F.run X.A.in1 X.stack ⟨hp, g, d, t, os⟩ H ⟨[.ref a, u], []⟩ [.ref a, u] [.ref a, y] _ E hr.in1 I.env0.in1 bd (.cons rfl (.cons ry .nil)) hsp) fun r2 s2 hq => ?_
  match r2, hq with
  | .error er, hq => exact hx pins σ H _ er s2 I hq
  | .ok (.ret u), hq =>
    obtain ⟨z, H', I', rz, c, ez, q⟩ := I.after hq
    subst ez
    cases rz
    exact ⟨c, rfl, .bl (!c), H', I', rfl, q⟩
end
end My
namespace My
open PySem PySem.Spec PyProof.Rows L2 Builtin Float
/-! ### {x:+d} -/
def plusText (a : Int) : Str := ⟨((if a < 0 then [45] else [43]) ++ (Nat.toDigits 10 a.natAbs).map Char.toNat).toArray⟩
def plusSpec : Str := Str.ofString "+d"
theorem plusText_len {a : Int} (h : a.natAbs < 10 ^ 1000) : (plusText a).length ≤ 1001 := by
  have h1 := digits10_le (k := 1000) (by decide) h
  unfold plusText Str.length
  simp only [List.size_toArray, List.length_append, List.length_map]
  split <;> simp <;> omega
theorem gives_plus (a : Int) (t u : Tok) (h : a.natAbs.log2 < 1920) : Gives (Builtin.«int.__format__» ⟨[.int a t, .str plusSpec u], []⟩) (.str (plusText a)) := by
  intro prog w A R s hq
  have hp : parseFormatSpec plusSpec.cps.toList "int" 62 = .ok ⟨32, 62, some 43, false, false, none, none, none, some 100⟩ := rfl
  have ne0 : (plusSpec.length == 0) = false := rfl
  have asc : ((plusSpec.cps.toList.drop 1).any (· ≥ 128) || (plusSpec.cps.getD 0 0 ≥ 128 && !([60, 62, 61, 94] : List Nat).contains (plusSpec.cps.getD 1 0))) = false := rfl
  unfold Builtin.«int.__format__»
  simp only [selfAndOne, noKeywords, Int.intOfSelf, asInt?, asStr?, List.isEmpty_nil, if_true, pure_bind, bind_pure, bind_assoc, ne0, asc, Bool.false_eq_true, if_false, show (Value.str plusSpec u == Value.none) = false from rfl]
  refine wpAny_bind (wpAny_typeNameOf (T := "str") (typeIs_str _ _ _) (by decide) fun _ => ?_)
  refine wpAny_bind (wpAny_typeNameOfCut_int ?_)
  simp only [hp]
  rw [if_pos (by decide)]
  show wpAny _ _ (Bind.bind (overDigitLimit? a) _) _ _ _
  rw [PySem.overDigitLimit_small h]
  refine wpAny_bind (wpAny_pure ?_)
  show wpAny _ _ (retStr _) _ _ _
  have go : ∀ z : Str, z = plusText a → (Made.str z).post (fun v s' => R (.ok (.ret v)) s') s := fun z e => e ▸ hq
  refine gives_retStr _ prog w A R s (go _ ?_)
  show Str.mk _ = Str.mk _
  refine congrArg Str.mk ?_
  have nn : ∀ x y : Nat, (-1 - (x : Int) - (y : Int)).toNat = 0 := fun x y => by omega
  have n1 : ∀ y : Nat, (-1 - 1 - (y : Int)).toNat = 0 := fun y => by omega
  have n2 : ∀ y : Nat, (-2 - (y : Int)).toNat = 0 := fun y => by omega
  have n3 : ∀ y : Nat, (-2 - ((y : Int) + 1)).toNat = 0 := fun y => by omega
  by_cases ha : a < 0
  · cases hD : Nat.toDigits 10 a.natAbs <;> simp [ha, nn, n1, n2, n3]
  · cases hD : Nat.toDigits 10 a.natAbs <;> simp [ha, nn, n1, n2, n3]
section
variable {X : Cx}
/-- {x:+d} -/
def tPlus (te : TE) : TE := fun σ H Q => te σ H fun x H1 => ∃ i : Int, x = .int i ∧ i.natAbs.log2 < 1920 ∧ Q (.str (plusText i)) H1
theorem log_pow {i : Int} (h : i.natAbs.log2 < 1920) : i.natAbs < 10 ^ 1000 := by
  have h1 : i.natAbs < 2 ^ 1920 := Nat.lt_of_lt_of_le Nat.lt_log2_self (Nat.pow_le_pow_right (by decide) (by omega))
  exact Nat.lt_trans h1 (by decide +kernel)
theorem pe_plus {e spec : Expr} {te : TE} {pos : Pos} (he : PE X e te) (hs : PE X spec (tC (.str plusSpec))) : PE X (.FormattedValue e (-1) (some spec) pos) (tPlus te) := by
  refine ⟨fun pins s σ H Q I h => ?_⟩
  refine wpAny_FormattedValue_spec (thn (he.run pins s σ H _ I h) fun v s1 hv => ?_)
  obtain ⟨x, H1, I1, r1, i, rfl, hz, q⟩ := hv
  obtain ⟨t, rfl⟩ := r1
  refine thn (hs.run pins s1 σ H1 (fun y H2 => y = .str plusSpec ∧ Q (.str (plusText i)) H2) I1 ⟨rfl, q⟩) fun r s2 hr => ?_
  obtain ⟨y, H2, I2, r2, rfl, q2⟩ := hr
  obtain ⟨t2, rfl⟩ := r2
  exact ⟨plusSpec, t2, rfl, wpAny_formatField_spec rfl (fun s' => typeIs_int s' i t) F.slot_int_format F.entry_int_format F.args_int_format_2 (fun u => gives_plus i t u hz) ⟨.str (plusText i), H2, I2.tok _, ⟨_, rfl⟩, q2⟩ (by decide) (Nat.le_trans (plusText_len (log_pow hz)) (by decide))⟩
variable {CX : CXT} {k : Nat} {f C : Addr} {fd : FuncData} {ps : List Str} {sp : Sp} {E : XK}
/-- str(x), x an instance whose class has a def for it -/
def rStrOwn (C : Addr) (sp : Sp) (E : XK) : List V → Hp → VK → Prop := fun vs H Q => ∃ a dx fs, vs = [.ref a] ∧ H a = some (.ins C dx fs) ∧ sp [.ref a] H (fun v H' => ∃ y, v = .str y ∧ Q (.str y) H') E
theorem call_strOwn (hs : PySem.W.findIn X.K (.ref C) "__str__" = some (some (.ref f))) (hf : PySem.W.isFn X.K (.ref f) = true) (F : FnOk X.prog X.w X.K X.mg X.base CX k f fd ps sp) (hr : Room (k + 2) X.A) (hb : Binds X.K fd ps []) (hx : Passes CX X E) : CallR X (.type "str") (rStrOwn C sp E) := by
  intro pins s σ H vs us Q I r h
  obtain ⟨a, dx, fs, rfl, ea, hsp⟩ := h
  obtain ⟨u, rfl, ru⟩ := vals1 r
  cases ru
  obtain ⟨mA, O, _⟩ := ins_get I.hok ea
  obtain ⟨od, J, _⟩ := O.look
  have r2 : Room k X.A.in1.in1 := hr.in1.in1
  refine PySem.W.kso_call (K := X.K) r2.units0 I.kIn J hs hf ?_
  refine wpAny_call ?_
  have hl : ([Value.ref a] : List Value).length = ps.length := F.len _ _ _ _ hsp
  have bd : BindsTo s fd ⟨[.ref a], []⟩ (ps.zip [.ref a]) := by
    have z := hb s [.ref a] I.kIn (by rw [List.append_nil]; exact hl)
    rw [List.append_nil] at z
    exact z
  refine codeAny_mono (F.run X.A.in1.in1 X.stack s H ⟨[.ref a], []⟩ [.ref a] [.ref a] _ E r2 I.env0.in1.in1 bd (.cons rfl .nil) hsp) fun r2 s2 hq => ?_
  match r2, hq with
  | .error er, hq => exact hx pins σ H _ er s2 I hq
  | .ok (.ret u), hq =>
    obtain ⟨z, H', I', rz, y, ez, q⟩ := I.after hq
    subst ez
    obtain ⟨t, rfl⟩ := rz
    exact ⟨.str y, H', I', ⟨t, rfl⟩, q⟩
end
end My
namespace My
open PySem PySem.Spec PyProof.Rows L2
section
variable {K : PySem.W.Frag} {a D : Addr} {xs : List V} {te : TE} {vs : List Nat} {σ : L2.St} {H1 : Hp} {j : Nat}
/-- what is said of the list D survives, when only D changes -/
def Keeps (D : Addr) (Pv : List V → Hp → Prop) : Prop := ∀ acc H H', Pv acc H → (∃ l, H D = some (.lst l)) → (∀ a u, H a = some u → a ≠ D → H' a = some u) → Pv acc H'
def MadeP (H1 : Hp) (D : Addr) (Pv : List V → Hp → Prop) (i : Nat) (H' : Hp) : Prop := H1 D = none ∧ Ext H1 H' ∧ ∃ acc, H' D = some (.lst acc) ∧ acc.length = i ∧ Pv acc H'
theorem madeP_turn {Pv : List V → Hp → Prop} {i : Nat} {H' : Hp} {σ2 : L2.St} (hz : i ≤ 1000000) (kp : Keeps D Pv) (p : MadeP H1 D Pv i H')
    (he : ∀ acc, acc.length = i → Pv acc H' → Ext H1 H' → ∀ Q' : VK, (∀ y H'', Ext H' H'' → Pv (acc ++ [y]) H'' → Q' y H'') → te σ2 H' Q') :
    tYes σ2 H' fun b H3 => if b = true then te σ2 H3 fun y H4 => ∃ acc, H4 D = some (.lst acc) ∧ acc.length < sizeLine ∧ MadeP H1 D Pv (i + 1) (upd H4 D (.lst (acc ++ [y]))) else MadeP H1 D Pv (i + 1) H3 := by
  obtain ⟨p1, p2, acc, p3, p4, p5⟩ := p
  unfold tYes
  dsimp only
  rw [if_pos rfl]
  refine he acc p4 p5 p2 _ fun y H'' e pv => ⟨acc, e _ _ p3, ?_, p1, ext_mut (p2.trans e) p1, acc ++ [y], upd_same, by simp [p4], ?_⟩
  · rw [p4]
    exact Nat.lt_of_le_of_lt hz (by decide)
  · exact kp _ _ _ pv ⟨_, e _ _ p3⟩ fun a u q ne => by rw [upd_ne ne]; exact q
theorem made_range {Qd : Hp → Prop} {n : Nat} (Pv : List V → Hp → Prop) (kp : Keeps D Pv) (hD : H1 D = none) (hz : n ≤ 1000000) (hw : ∀ x, wipe ((wipe σ vs).set j (some x)) vs = wipe σ vs) (h0 : ∀ H, Pv [] H)
    (he : ∀ i H' acc, i < n → Ext H1 H' → acc.length = i → Pv acc H' → ∀ Q' : VK, (∀ y H'', Ext H' H'' → Pv (acc ++ [y]) H'' → Q' y H'') → te ((wipe σ vs).set j (some (.int (0 + i)))) H' Q')
    (hd : ∀ H' acc, Ext H1 H' → H' D = some (.lst acc) → acc.length = n → Pv acc H' → Qd H') :
    Block (Itr 0 n) (gName j) tYes te vs σ H1 D Qd :=
  lc_range (MadeP H1 D Pv) ⟨hD, ext_new (ext_refl H1) hD, [], upd_same, rfl, h0 _⟩ (fun i H' hi p => ⟨hw _, madeP_turn (by omega) kp p fun acc hl pv e Q' k => he i H' acc hi e hl pv Q' k⟩) fun H' ⟨_, e, acc, q, hl, pv⟩ => hd H' acc e q hl pv
theorem made_list {Qd : Hp → Prop} (Pv : List V → Hp → Prop) (kp : Keeps D Pv) (hx : SqL K H1 a xs) (hD : H1 D = none) (hz : xs.length ≤ 1000000) (hw : ∀ x, wipe ((wipe σ vs).set j (some x)) vs = wipe σ vs) (h0 : ∀ H, Pv [] H)
    (he : ∀ i x H' acc, xs[i]? = some x → Ext H1 H' → acc.length = i → Pv acc H' → ∀ Q' : VK, (∀ y H'', Ext H' H'' → Pv (acc ++ [y]) H'' → Q' y H'') → te ((wipe σ vs).set j (some x)) H' Q')
    (hd : ∀ H' acc, Ext H1 H' → H' D = some (.lst acc) → acc.length = xs.length → Pv acc H' → Qd H') :
    Block (Itl K a) (gName j) tYes te vs σ H1 D Qd :=
  lc_list (xs := xs) (MadeP H1 D Pv) ⟨hD, ext_new (ext_refl H1) hD, [], upd_same, rfl, h0 _⟩ (fun i H' _ p => hx.ext p.2.1)
    (fun i x H' hi p => ⟨hw _, madeP_turn (Nat.le_trans (Nat.le_of_lt (List.getElem?_eq_some_iff.mp hi).1) hz) kp p fun acc hl pv e Q' k => he i x H' acc hi e hl pv Q' k⟩) fun H' ⟨_, e, acc, q, hl, pv⟩ => hd H' acc e q hl pv
end
end My
namespace My
open PySem PySem.Spec PyProof.Rows L2
local macro_rules | `(tactic| walk_at "side") => `(tactic| first | assumption | decide | exact Or.inl ⟨by decide, by decide⟩ | exact Or.inr ⟨by decide, by decide⟩ | exact ⟨by decide, by decide, by decide⟩ | omega | (unfold CMulW; decide +kernel) | (dsimp only; first | assumption | omega | decide +kernel) | exact len_ok (Nat.le_of_ble_eq_true rfl) | fail "side")
local macro_rules | `(tactic| walk_at "rd") => `(tactic| first
  | refine ⟨_, _, _, _, rfl, rfl, SqL.of upd_same, atI_nat (j := 0) rfl, ?_⟩ | refine ⟨_, _, _, _, rfl, rfl, SqL.of upd_same, atI_nat (j := 1) rfl, ?_⟩ | refine ⟨_, _, _, _, rfl, rfl, SqL.of upd_same, atI_nat (j := 2) rfl, ?_⟩
  | refine ⟨_, _, _, _, rfl, rfl, upd_same, rfl, ?_⟩
  | refine ⟨_, _, rfl, rfl, ?_⟩ | refine ⟨_, rfl, ?_⟩ | refine ⟨_, _, rfl, ?_⟩ | refine Or.inl ⟨_, rfl, ?_⟩ | refine Or.inr ⟨_, rfl, ?_⟩ | refine ⟨(by walk_at "side"), ?_⟩ | fail "rd")

abbrev s_sumt : Stmt := top 22
theorem sc_sumt : FnScope ["top", "part", "root"] ["top", "part", "root"] (defScope s_sumt) := ⟨rfl, rfl, rfl, by decide +kernel, rfl, by decide +kernel, by decide +kernel⟩
abbrev s_numt : Stmt := top 23
theorem sc_numt : FnScope ["top", "part", "root", "bottom", "above"] ["top", "part", "root", "bottom"] (defScope s_numt) := ⟨rfl, rfl, rfl, by decide +kernel, rfl, by decide +kernel, by decide +kernel⟩
abbrev s_nstr : Stmt := inClass (top 12) 17
theorem sc_nstr : FnScope ["self"] ["self"] (defScope s_nstr) := ⟨rfl, rfl, rfl, by decide +kernel, rfl, by decide +kernel, by decide +kernel⟩
abbrev s_ncomp : Stmt := inClass (top 12) 15
theorem sc_ncomp : FnScope ["self", "other", "number", "root", "top", "part"] ["self", "other"] (defScope s_ncomp) := ⟨rfl, rfl, rfl, by decide +kernel, rfl, by decide +kernel, by decide +kernel⟩
theorem llen {n : Nat} (h : n ≤ 20000) : n ≤ sizeLine := Nat.le_trans h (by decide)
theorem txt_len {i : Int} (h : i.natAbs.log2 < 1920) : (Str.ofString (toString i)).length ≤ 1921 := int_text_len_1921 h
theorem l_app (a b : Str) : (a ++ b).length = a.length + b.length := PySem.Str.length_append a b
theorem l_e : Str.empty.length = 0 := rfl
theorem l_r : (Str.ofString "r").length = 1 := rfl
theorem l_o : (Str.ofString "(").length = 1 := rfl
theorem l_c : (Str.ofString ")/").length = 2 := rfl
theorem l_s : (Str.ofString "/").length = 1 := rfl
local macro_rules | `(tactic| walk_at "len") => `(tactic| first | (refine llen ?_; simp only [l_app, l_e, l_r, l_o, l_c, l_s]; omega) | (simp only [l_app, l_e, l_r, l_o, l_c, l_s]; omega))
def spSumT : Sp := fun vs H Q _ => ∃ t p r : Int, vs = [.int t, .int p, .int r] ∧ t.natAbs.log2 < 1920 ∧ p.natAbs.log2 < 1920 ∧ r.natAbs.log2 < 1920 ∧ ∀ x : Str, x.length ≤ 6000 → Q (.str x) H
def spNumT : Sp := fun vs H Q _ => ∃ t p r b : Int, vs = [.int t, .int p, .int r, .int b] ∧ t.natAbs.log2 < 1920 ∧ p.natAbs.log2 < 1920 ∧ r.natAbs.log2 < 1920 ∧ b.natAbs.log2 < 1920 ∧ ∀ x : Str, x.length ≤ 9000 → Q (.str x) H
section
variable {P : Program} {w : World} {K : PySem.W.Frag} {mg : Str → Option Value} {base : Heap} {C : Addr}
theorem ok_sumt (T : Bn mg) (D : DefAt K mg "_sum_text" s_sumt) : FnAt P w K mg base 1 "_sum_text" ["top", "part", "root"] spSumT := by
  refine fnAt D sc_sumt (fun _ _ _ _ _ _ us hl => match us, hl with | [_, _, _], _ => rfl) (fun vs H Q E h => ?_) fun f cdv A outer s H vs Q E hr h => ?_
  · obtain ⟨t, p, r, rfl, _⟩ := h
    rfl
  obtain ⟨t, p, r, rfl, zt, zp, zr, k⟩ := h
  have lt := txt_len zt
  have lp := txt_len zp
  have lr := txt_len zr
  have lq := plusText_len (log_pow zp)
  refine ⟨_, (pss_cons (ps_if (pt_cmpR op_eq (pv 1) pe_int (nomark _)) (pss_one (ps_ret (pe_callTy call_str_int (by rfl) T.b_str (by decide +kernel) (pa_cons (pv 0) pa_nil)))) pss_nil)
    (pss_cons (ps_if (pt_cmpR op_eq (pv 0) pe_int (nomark _)) (pss_one (ps_ret (pe_joined (.cons (pe_fmt (pv 1)) (.cons pe_str (.cons (pe_fmt (pv 2)) .nil)))))) pss_nil)
    (pss_one (ps_ret (pe_joined (.cons (pe_fmt (pv 0)) (.cons (pe_plus (pv 1) (pe_joined1 pe_str)) (.cons pe_str (.cons (pe_fmt (pv 2)) .nil))))))))), ?_⟩
  refine ⟨_, rfl, rfl, _, rfl, ite2 (fun h => ?_) (fun h => ?_)⟩
  · exact ⟨_, rfl, _, rfl, zt, k _ (by omega)⟩
  refine ⟨_, rfl, rfl, _, rfl, ite2 (fun h => ?_) (fun h => ?_)⟩
  · refine ⟨_, rfl, .inr ⟨_, rfl, zp, _, rfl, ?_, _, rfl, ?_, _, rfl, .inr ⟨_, rfl, zr, _, rfl, ?_, k _ ?_⟩⟩⟩
    all_goals walk_at "len"
  · refine ⟨_, rfl, .inr ⟨_, rfl, zt, _, rfl, ?_, _, rfl, _, rfl, zp, _, rfl, ?_, _, rfl, ?_, _, rfl, .inr ⟨_, rfl, zr, _, rfl, ?_, k _ ?_⟩⟩⟩
    all_goals walk_at "len"
theorem ok_numt (T : Bn mg) (D : DefAt K mg "_number_text" s_numt) (F__sum_text : FnAt P w K mg base 1 "_sum_text" ["top", "part", "root"] spSumT) : FnAt P w K mg base 2 "_number_text" ["top", "part", "root", "bottom"] spNumT := by
  refine fnAt D sc_numt (fun _ _ _ _ _ _ us hl => match us, hl with | [_, _, _, _], _ => rfl) (fun vs H Q E h => ?_) fun f cdv A outer s H vs Q E hr h => ?_
  · obtain ⟨t, p, r, b, rfl, _⟩ := h
    rfl
  obtain ⟨t, p, r, b, rfl, zt, zp, zr, zb, k⟩ := h
  have lb := txt_len zb
  refine ⟨_, (pss_cons (ps_set (i := 4) sc_numt.nd rfl (Or.inl rfl) (callA F__sum_text (hr.mono (by decide)) rfl (pa_cons (pv 0) (pa_cons (pv 1) (pa_cons (pv 2) pa_nil)))))
    (pss_cons (ps_if (pt_cmpR op_eq (pv 3) pe_int (nomark _)) (pss_one (ps_ret (pv 4))) pss_nil)
    (pss_cons (ps_if (PW.pt (pw_and (pt_cmpR op_ne (pv 0) pe_int (nomark _)) (pw_and1 (pt_cmpR op_ne (pv 1) pe_int (nomark _))))) (pss_one (ps_ret (pe_joined (.cons pe_str (.cons (pe_fmt (pv 4)) (.cons pe_str (.cons (pe_fmt (pv 3)) .nil))))))) pss_nil)
    (pss_one (ps_ret (pe_joined (.cons (pe_fmt (pv 4)) (.cons pe_str (.cons (pe_fmt (pv 3)) .nil))))))))), ?_⟩
  refine ⟨_, rfl, _, rfl, _, rfl, t, p, r, rfl, zt, zp, zr, fun x lx => ?_⟩
  have lx' : x.length ≤ sizeLine := llen (by omega)
  refine ⟨_, rfl, rfl, _, rfl, ite2 (fun h => ⟨_, rfl, k _ (by omega)⟩) (fun h => ?_)⟩
  have plain : ∀ y, y.length ≤ 8000 → Q (.str y) H := fun y hy => k y (by omega)
  have e1 : (Str.empty ++ x).length ≤ 6000 := by simp only [l_app, l_e]; omega
  refine ⟨_, rfl, rfl, _, rfl, ite2 (fun h => ⟨_, rfl, rfl, _, rfl, ite2 (fun h => ?_) (fun h => ?_)⟩) (fun h => ?_)⟩
  · refine ⟨_, rfl, ?_, _, rfl, .inl ⟨_, rfl, lx', _, rfl, ?_, _, rfl, ?_, _, rfl, .inr ⟨_, rfl, zb, _, rfl, ?_, plain _ ?_⟩⟩⟩
    all_goals walk_at "len"
  all_goals
    refine ⟨_, rfl, .inl ⟨_, rfl, lx', _, rfl, ?_, _, rfl, ?_, _, rfl, .inr ⟨_, rfl, zb, _, rfl, ?_, plain _ ?_⟩⟩⟩
    all_goals walk_at "len"
def spStrN (C : Addr) : Sp := fun vs H Q _ => ∃ (a : Addr) (n : Nm), vs = [.ref a] ∧ NumAt C H a n ∧ Good 1900 n ∧ ∀ x : Str, x.length ≤ 9000 → Q (.str x) H
theorem ok_nstr (T : Bn mg) (D : SpT K C "__str__" "Number.__str__" s_nstr) (NC : NumT K mg C) (F__number_text : FnAt P w K mg base 2 "_number_text" ["top", "part", "root", "bottom"] spNumT) : SpAt P w K mg base 3 C "__str__" ["self"] (spStrN C) := by
  refine spAt D sc_nstr (fun _ _ _ _ _ _ us hl => match us, hl with | [_], _ => rfl) (fun vs H Q E h => ?_) fun f cdv A outer s H vs Q E hr h => ?_
  · obtain ⟨a, n, rfl, _⟩ := h
    rfl
  obtain ⟨a, n, rfl, ⟨dx, e⟩, g, k⟩ := h
  refine ⟨_, (pss_one (ps_ret (pe_callTy SkE.call_str_str (by rfl) T.b_str (by decide +kernel) (pa_cons (callA F__number_text (hr.mono (by decide)) rfl (pa_cons (pe_fld (pv 0) rfl) (pa_cons (pe_fld (pv 0) rfl) (pa_cons (pe_fld (pv 0) rfl) (pa_cons (pe_fld (pv 0) rfl) pa_nil))))) pa_nil)))), _, rfl, a, C, dx, _, _, rfl, e, NC.cl, NC.nT, nf_top n, _, rfl, a, C, dx, _, _, rfl, e, NC.cl, NC.nP, nf_part n, _, rfl, a, C, dx, _, _, rfl, e, NC.cl, NC.nR, nf_root n, _, rfl, a, C, dx, _, _, rfl, e, NC.cl, NC.nB, nf_bottom n, ?_⟩
  refine ⟨_, _, _, _, rfl, Nat.lt_of_lt_of_le (g.t.log (by decide)) (by decide), Nat.lt_of_lt_of_le (g.p.log (by decide)) (by decide), Nat.lt_of_lt_of_le (g.zr.log (by decide)) (by decide), Nat.lt_of_lt_of_le (g.b.log (by decide)) (by decide), fun x hx => ?_⟩
  exact ⟨_, rfl, k x hx⟩
def cmpN (n m : Nm) : Int := sgn (n.t * m.b - m.t * n.b) (n.p * m.b - m.p * n.b) (rt1 n m)
def spCmp (C : Addr) : Sp := fun vs H Q _ => ∃ a v n m, vs = [.ref a, v] ∧ NumAt C H a n ∧ Opd C H v m ∧ Good 2000 n ∧ Good 2000 m ∧ OneRoot n m ∧ ∀ H', Ext H H' → Q (.int (cmpN n m)) H'
theorem ok_ncomp (D : MethT K C "compared" "Number.compared" s_ncomp) (NC : NumT K mg C) (F__argument : FnAt P w K mg base 6 "_argument" ["value"] (spOpd C)) (F__common_root : FnAt P w K mg base 3 "_common_root" ["one", "other"] (spCRoot C))
    (F__difference_above : FnAt P w K mg base 3 "_difference_above" ["one", "other"] (spDiff C)) (F__sign_of : FnAt P w K mg base 2 "sign_of_sum" ["top", "part", "root"] spSgn) : MethAt P w K mg base 7 C "compared" ["self", "other"] (spCmp C) := by
  refine methAt D sc_ncomp (fun _ _ _ _ _ _ us hl => match us, hl with | [_, _], _ => rfl) (fun vs H Q E h => ?_) fun f cdv A outer s H vs Q E hr h => ?_
  · obtain ⟨a, v, n, m, rfl, _⟩ := h
    rfl
  obtain ⟨a, v, n, m, rfl, hn, hv, g, g', h1, k⟩ := h
  refine ⟨_, (pss_cons (ps_set (i := 2) sc_ncomp.nd rfl (Or.inl rfl) (callA F__argument (hr.mono (by decide)) rfl (pa_cons (pv 1) pa_nil)))
    (pss_cons (ps_set (i := 3) sc_ncomp.nd rfl (Or.inl rfl) (callA F__common_root (hr.mono (by decide)) rfl (pa_cons (pv 0) (pa_cons (pv 2) pa_nil))))
    (pss_cons (ps_asg (callA F__difference_above (hr.mono (by decide)) rfl (pa_cons (pv 0) (pa_cons (pv 2) pa_nil))) (pg_tup (by rfl) (pgs_cons (pg_name (i := 4) sc_ncomp.nd rfl (Or.inl rfl)) (pgs_cons (pg_name (i := 5) sc_ncomp.nd rfl (Or.inl rfl)) pgs_nil))))
    (pss_one (ps_ret (callA F__sign_of (hr.mono (by decide)) rfl (pa_cons (pv 4) (pa_cons (pv 5) (pa_cons (pv 3) pa_nil))))))))), _, rfl, v, m, rfl, hv, fun b H1 e1 hm => ?_⟩
  have hn1 := hn.ext e1
  refine ⟨_, rfl, _, rfl, a, b, n, m, rfl, hn1, hm, h1, ?_⟩
  refine ⟨_, rfl, _, rfl, a, b, n, m, rfl, hn1, hm, g, g', fun q H2 e2 hq => ?_⟩
  refine ⟨q, _, rfl, SqT.of hq, rfl, _, _, rfl, _, _, rfl, rfl, ?_⟩
  refine ⟨_, rfl, _, rfl, _, rfl, _, _, _, rfl, ?_, ?_, rt1_zr g g', fun H3 e3 => k H3 ((e1.trans e2).trans e3)⟩
  · exact Sz.mono (n := 4001) (Sz.sub (n := 4000) (Sz.mul (n := 2000) (m := 2000) g.t g'.b) (Sz.mul (n := 2000) (m := 2000) g'.t g.b)) (by decide)
  · exact Sz.mono (n := 4001) (Sz.sub (n := 4000) (Sz.mul (n := 2000) (m := 2000) g.p g'.b) (Sz.mul (n := 2000) (m := 2000) g'.p g.b)) (by decide)
end
end My
namespace My
open PySem PySem.Spec PyProof.Rows L2
local macro_rules | `(tactic| walk_at "side") => `(tactic| first | assumption | decide | exact Or.inl ⟨by decide, by decide⟩ | exact Or.inr ⟨by decide, by decide⟩ | exact ⟨by decide, by decide, by decide⟩ | omega | (unfold CMulW; decide +kernel) | (dsimp only; first | assumption | omega | decide +kernel) | exact len_ok (Nat.le_of_ble_eq_true rfl) | fail "side")
local macro_rules | `(tactic| walk_at "rd") => `(tactic| first
  | refine ⟨_, _, _, _, rfl, rfl, SqL.of upd_same, atI_nat (j := 0) rfl, ?_⟩ | refine ⟨_, _, _, _, rfl, rfl, SqL.of upd_same, atI_nat (j := 1) rfl, ?_⟩ | refine ⟨_, _, _, _, rfl, rfl, SqL.of upd_same, atI_nat (j := 2) rfl, ?_⟩
  | refine ⟨_, _, _, _, rfl, rfl, upd_same, rfl, ?_⟩
  | refine ⟨_, _, rfl, rfl, ?_⟩ | refine ⟨_, rfl, ?_⟩ | refine ⟨_, _, rfl, ?_⟩ | refine Or.inl ⟨_, rfl, ?_⟩ | refine Or.inr ⟨_, rfl, ?_⟩ | refine ⟨(by walk_at "side"), ?_⟩ | fail "rd")

abbrev s_lsign : Stmt := top 32
theorem sc_lsign : FnScope ["_law_pair", "_law_root", "_law_x", "_law_y", "_law_both", "_law_greater"] ["_law_pair", "_law_root"] (defScope s_lsign) := ⟨rfl, rfl, rfl, by decide +kernel, rfl, by decide +kernel, by decide +kernel⟩
abbrev s_lparts : Stmt := top 33
theorem sc_lparts : FnScope ["_law_dice_here", "_law_root", "_law_near_here", "_law_top", "_law_part"] ["_law_dice_here", "_law_root"] (defScope s_lparts) := ⟨rfl, rfl, rfl, by decide +kernel, rfl, by decide +kernel, by decide +kernel⟩
abbrev s_lmade : Stmt := top 34
theorem sc_lmade : FnScope ["_law_parts"] ["_law_parts"] (defScope s_lmade) := ⟨rfl, rfl, rfl, by decide +kernel, rfl, by decide +kernel, by decide +kernel⟩
abbrev s_lmixed : Stmt := top 31
theorem sc_lmixed : FnScope ["_law_dice_here", "_law_items", "_law_left", "_law_found", "_law_turn"] ["_law_dice_here", "_law_items"] (defScope s_lmixed) := ⟨rfl, rfl, rfl, by decide +kernel, rfl, by decide +kernel, by decide +kernel⟩
abbrev s_lbeside : Stmt := top 35
theorem sc_lbeside : FnScope ["_law_one", "_law_other", "_law_root"] ["_law_one", "_law_other", "_law_root"] (defScope s_lbeside) := ⟨rfl, rfl, rfl, by decide +kernel, rfl, by decide +kernel, by decide +kernel⟩
abbrev s_lnear : Stmt := top 36
theorem sc_lnear : FnScope ["_law_dice_here", "_law_root", "_law_top", "_law_bottom", "_law_side", "_law_turn"] ["_law_dice_here", "_law_root"] (defScope s_lnear) := ⟨rfl, rfl, rfl, by decide +kernel, rfl, by decide +kernel, by decide +kernel⟩
abbrev s_lrow : Stmt := top 37
theorem sc_lrow : FnScope ["_law_dice_here", "_law_root", "_law_rows", "_law_turn", "_law_top", "_law_part", "_law_side", "_law_bottom", "_law_factor"] ["_law_dice_here", "_law_root"] (defScope s_lrow) := ⟨rfl, rfl, rfl, by decide +kernel, rfl, by decide +kernel, by decide +kernel⟩
def spLSign (K : PySem.W.Frag) : Sp := fun vs H Q _ => ∃ (q : Addr) (x y r : Int), vs = [.ref q, .int r] ∧ SqT K H q [.int x, .int y] ∧ Sz 5000 x ∧ Sz 5000 y ∧ 0 ≤ r ∧ Sz 10 r ∧ Q (.int (sgn x y r)) H
def nt (n : Nm) : List V := [.int n.t, .int n.p, .int n.r, .int n.b]
structure Rw (k : Nat) (n : Nm) : Prop where
  t : Sz k n.t
  p : Sz k n.p
  b : Sz k n.b
  b0 : n.b ≠ 0
def spLParts : Sp := fun vs H Q _ => ∃ (a : Addr) (r : Int), vs = [.ref a, .int r] ∧ H a = some (DiceO a) ∧ ∀ (n : Nm) q H', Rw 110 n → n.r = r → (r = 0 → n.p = 0) → Ext H H' → H' q = some (.tup (nt n)) → Q (.ref q) H'
def spLMade (K : PySem.W.Frag) (C : Addr) : Sp := fun vs H Q _ => ∃ (q : Addr) (n : Nm), vs = [.ref q] ∧ SqT K H q (nt n) ∧ NV n.t n.p n.r n.b ∧ ∀ x H', Ext H H' → NumAt C H' x (lst n.t n.p n.r n.b) → Q (.ref x) H'
section
variable {P : Program} {w : World} {K : PySem.W.Frag} {mg : Str → Option Value} {base : Heap} {C : Addr}
theorem sgi_code (x : Int) : ((if decide (0 < x) = true then (1 : Int) else 0) - if decide (x < 0) = true then 1 else 0) = sgI x := by
  unfold sgI
  simp only [decide_eq_true_eq]
  split <;> split <;> omega
theorem ok_lsign (T : Bn mg) (D : DefAt K mg "_law_sign" s_lsign) : FnAt P w K mg base 1 "_law_sign" ["_law_pair", "_law_root"] (spLSign K) := by
  refine fnAt D sc_lsign (fun _ _ _ _ _ _ us hl => match us, hl with | [_, _], _ => rfl) (fun vs H Q E h => ?_) fun f cdv A outer s H vs Q E hr h => ?_
  · obtain ⟨q, x, y, r, rfl, _⟩ := h
    rfl
  obtain ⟨q, x, y, r, rfl, hq, zx, zy, hr0, zr, k⟩ := h
  refine ⟨_, (pss_cons (ps_asg (pv 0) (pg_tup (by rfl) (pgs_cons (pg_name (i := 2) sc_lsign.nd rfl (Or.inl rfl)) (pgs_cons (pg_name (i := 3) sc_lsign.nd rfl (Or.inl rfl)) pgs_nil))))
    (pss_cons (ps_if (PW.pt (pw_or (pt_cmpR op_eq (pv 3) pe_int (nomark _)) (pw_or (pt_cmpR op_eq (pv 2) pe_int (nomark _)) (pw_or1 (pt_cmpR op_eq (pe_cmpR op_gt (pv 2) pe_int (nomark _)) (pe_cmpR op_gt (pv 3) pe_int (nomark _)) (nomark _)))))) (pss_cons (ps_set (i := 4) sc_lsign.nd rfl (Or.inl rfl) (pe_ifExp (pt_cmpR op_ne (pv 2) pe_int (nomark _)) (pv 2) (pv 3)))
    (pss_one (ps_ret (pe_op op_sub (pe_callTy call_int1 (by rfl) T.b_int (by decide +kernel) (pa_cons (pe_cmpR op_gt (pv 4) pe_int (nomark _)) pa_nil)) (pe_callTy call_int1 (by rfl) T.b_int (by decide +kernel) (pa_cons (pe_cmpR op_lt (pv 4) pe_int (nomark _)) pa_nil)))))) pss_nil)
    (pss_cons (ps_set (i := 5) sc_lsign.nd rfl (Or.inl rfl) (pe_ifExp (pt_cmpR op_gt (pe_op op_mulW (pv 2) (pv 2)) (pe_op op_mulW (pe_op op_mulW (pv 3) (pv 3)) (pv 1)) (nomark _)) (pv 2) (pv 3)))
    (pss_one (ps_ret (pe_ifExp (pt_cmpR op_gt (pv 5) pe_int (nomark _)) pe_int (pe_un un_neg pe_int))))))), ?_⟩
  refine ⟨_, rfl, ⟨q, _, rfl, hq, rfl, _, _, rfl, _, _, rfl, rfl, ?_⟩⟩
  have both : ∀ v : Int, sgn x y r = sgI v → Q (.int ((if decide (0 < v) = true then (1 : Int) else 0) - if decide (v < 0) = true then 1 else 0)) H := fun v e => by
    rw [sgi_code, ← e]
    exact k
  have sq : ∀ {v : Int}, Sz 5000 v → Sz 10000 (v * v) := fun z => z.mul z
  refine ⟨_, rfl, rfl, _, rfl, ite2 (fun h1 => ?_) (fun h1 => ?_)⟩
  · have y0 : y = 0 := V.int.inj (of_decide_eq_true h1)
    subst y0
    refine iteT ⟨_, rfl, rfl, _, rfl, ite2 (fun h2 => ?_) (fun h2 => ?_)⟩
    · repeat' (walk_at "rd")
      exact both _ sgn_y0
    · have x0 : x = 0 := by
        simp only [Bool.not_eq_true, Bool.not_eq_false', decide_eq_true_eq] at h2
        exact V.int.inj h2
      subst x0
      repeat' (walk_at "rd")
      exact both _ sgn_y0
  have y0 : y ≠ 0 := fun z => h1 (by rw [z]; rfl)
  refine ⟨_, rfl, rfl, _, rfl, ite2 (fun h2 => ?_) (fun h2 => ?_)⟩
  · have x0 : x = 0 := V.int.inj (of_decide_eq_true h2)
    subst x0
    refine iteT ⟨_, rfl, rfl, _, rfl, iteF ?_⟩
    repeat' (walk_at "rd")
    exact both _ (sgn_x0 hr0)
  have x0 : x ≠ 0 := fun z => h2 (by rw [z]; rfl)
  have xne : (!decide (V.int x = V.int 0)) = true := by rw [e_int]; simp [x0]
  refine ⟨_, rfl, _, _, rfl, rfl, _, rfl, _, _, rfl, rfl, ?_⟩
  refine ⟨rfl, _, rfl, ite2 (fun h3 => ?_) (fun h3 => ?_)⟩
  · have e := of_decide_eq_true h3
    rw [V.bl.injEq, decide_eq_decide] at e
    refine ⟨_, rfl, rfl, _, rfl, ?_⟩
    rw [xne]
    refine iteT ?_
    repeat' (walk_at "rd")
    exact both _ (sgn_same x0 y0 e)
  · have e : ¬ (0 < x ↔ 0 < y) := fun z => h3 (by rw [decide_eq_true_eq, V.bl.injEq, decide_eq_decide]; exact z)
    have d := sgn_diff (r := r) x0 y0 e
    refine ⟨_, rfl, _, rfl, _, _, rfl, rfl, zx.cmul zx (by decide) (by decide) (by decide), _, rfl, _, rfl, _, _, rfl, rfl, zy.cmul zy (by decide) (by decide) (by decide), _, rfl, _, _, rfl, rfl, (zy.mul zy).cmul zr (by decide) (by decide) (by decide), _, _, rfl, rfl, _, rfl, ite2 (fun h4 => ?_) (fun h4 => ?_)⟩
    · rw [if_pos (of_decide_eq_true h4)] at d
      refine ⟨_, rfl, _, rfl, _, _, rfl, rfl, _, rfl, ite2 (fun h5 => ?_) (fun h5 => ?_)⟩
      · rw [d, sgI_pos (of_decide_eq_true h5)] at k
        exact k
      · have h5' : ¬ 0 < x := fun z => h5 (decide_eq_true z)
        rw [d, sgI_neg (by omega)] at k
        exact ⟨_, rfl, k⟩
    · rw [if_neg (fun z => h4 (decide_eq_true z))] at d
      refine ⟨_, rfl, _, rfl, _, _, rfl, rfl, _, rfl, ite2 (fun h5 => ?_) (fun h5 => ?_)⟩
      · rw [d, sgI_pos (of_decide_eq_true h5)] at k
        exact k
      · have h5' : ¬ 0 < y := fun z => h5 (decide_eq_true z)
        rw [d, sgI_neg (by omega)] at k
        exact ⟨_, rfl, k⟩
theorem ok_lmade (D : DefAt K mg "_law_made" s_lmade) (NC : NumT K mg C) (F_init : InitAt P w K mg base 3 C (spInit C)) : FnAt P w K mg base 5 "_law_made" ["_law_parts"] (spLMade K C) := by
  refine fnAt D sc_lmade (fun _ _ _ _ _ _ us hl => match us, hl with | [_], _ => rfl) (fun vs H Q E h => ?_) fun f cdv A outer s H vs Q E hr h => ?_
  · obtain ⟨q, n, rfl, _⟩ := h
    rfl
  obtain ⟨q, n, rfl, hq, hv, k⟩ := h
  refine ⟨_, (pss_one (ps_ret (mk4A F_init NC.g (hr.mono (by decide)) rfl (pa_cons (pe_ix ix_tup (pv 0) pe_int (fun _ _ => rfl)) (pa_cons (pe_ix ix_tup (pv 0) pe_int (fun _ _ => rfl)) pa_nil)) (pk_cons (pe_ix ix_tup (pv 0) pe_int (fun _ _ => rfl)) (pk_cons (pe_ix ix_tup (pv 0) pe_int (fun _ _ => rfl)) pk_nil))))), ?_⟩
  refine ⟨_, rfl, _, _, _, _, rfl, rfl, hq, atI_nat (j := 0) rfl, _, rfl, _, _, _, _, rfl, rfl, hq, atI_nat (j := 1) rfl, _, rfl, _, _, _, _, rfl, rfl, hq, atI_nat (j := 2) rfl, _, rfl, _, _, _, _, rfl, rfl, hq, atI_nat (j := 3) rfl, ?_⟩
  exact mk4_use hv fun x H3 hx ex hn => k x H3 ex hn
theorem ok_lparts (D : DefAt K mg "_law_parts_drawn" s_lparts) (F__law_roll : FnAt P w K mg base 1 "_law_roll" ["_law_dice_here", "_law_total"] spRoll) (F__law_pick : FnAt P w K mg base 2 "_law_pick" ["_law_dice_here", "_law_items"] (spPick K)) :
    FnAt P w K mg base 3 "_law_parts_drawn" ["_law_dice_here", "_law_root"] spLParts := by
  refine fnAt D sc_lparts (fun _ _ _ _ _ _ us hl => match us, hl with | [_, _], _ => rfl) (fun vs H Q E h => ?_) fun f cdv A outer s H vs Q E hr h => ?_
  · obtain ⟨a, r, rfl, _⟩ := h
    rfl
  obtain ⟨a, r, rfl, ha, k⟩ := h
  refine ⟨_, (pss_cons (ps_set (i := 2) sc_lparts.nd rfl (Or.inl rfl) (callA F__law_pick (hr.mono (by decide)) rfl (pa_cons (pv 0) (pa_cons (pe_lst (pa_cons pe_int (pa_cons pe_int (pa_cons pe_int (pa_cons (pe_op op_pow pe_int pe_int) (pa_cons (pe_op op_pow pe_int pe_int) pa_nil)))))) pa_nil))))
    (pss_cons (ps_set (i := 3) sc_lparts.nd rfl (Or.inl rfl) (pe_op op_sub (callA F__law_roll (hr.mono (by decide)) rfl (pa_cons (pv 0) (pa_cons (pe_op op_add (pe_op op_mulW pe_int (pv 2)) pe_int) pa_nil))) (pv 2)))
    (pss_cons (ps_set (i := 4) sc_lparts.nd rfl (Or.inl rfl) (pe_ifExp (pt_cmpR op_eq (pv 1) pe_int (nomark _)) pe_int (pe_op op_sub (callA F__law_roll (hr.mono (by decide)) rfl (pa_cons (pv 0) (pa_cons (pe_op op_add (pe_op op_mulW pe_int (pv 2)) pe_int) pa_nil))) (pv 2))))
    (pss_one (ps_ret (pe_tup (pa_cons (pv 3) (pa_cons (pv 4) (pa_cons (pv 1) (pa_cons (callA F__law_pick (hr.mono (by decide)) rfl (pa_cons (pv 0) (pa_cons (pe_lst (pa_cons pe_int (pa_cons pe_int (pa_cons pe_int (pa_cons pe_int (pa_cons (pe_un un_neg pe_int) (pa_cons pe_int (pa_cons (pe_un un_neg pe_int) (pa_cons pe_int (pa_cons (pe_op op_add pe_int (callA F__law_roll (hr.mono (by decide)) rfl (pa_cons (pv 0) (pa_cons (pv 2) pa_nil)))) pa_nil)))))))))) pa_nil))) pa_nil)))))))))), ?_⟩
  repeat' (walk_at "rd")
  intro p0 hp0
  have e0 := ext_new (ext_refl H) hp0 (o := .lst [.int 10, .int 10, .int 10, .int (10 ^ 6), .int (10 ^ 30)])
  refine ⟨a, p0, [.int 10, .int 10, .int 10, .int (10 ^ 6), .int (10 ^ 30)], rfl, e0 _ _ ha, SqL.of upd_same, by simp, Nat.le_of_ble_eq_true rfl, fun x hx => ?_⟩
  obtain ⟨n, rfl, n0, n1⟩ : ∃ n : Int, x = .int n ∧ 1 ≤ n ∧ n ≤ 10 ^ 30 := by
    rcases List.mem_cons.mp hx with rfl | hx
    · exact ⟨_, rfl, by decide +kernel, by decide +kernel⟩
    rcases List.mem_cons.mp hx with rfl | hx
    · exact ⟨_, rfl, by decide +kernel, by decide +kernel⟩
    rcases List.mem_cons.mp hx with rfl | hx
    · exact ⟨_, rfl, by decide +kernel, by decide +kernel⟩
    rcases List.mem_cons.mp hx with rfl | hx
    · exact ⟨_, rfl, by decide +kernel, by decide +kernel⟩
    rcases List.mem_cons.mp hx with rfl | hx
    · exact ⟨_, rfl, by decide +kernel, by decide +kernel⟩
    cases hx
  have big : (10 : Int) ^ 30 < 2 ^ 100 := by decide +kernel
  have zz : ∀ {z : Int}, -(3 * 10 ^ 30) ≤ z → z ≤ 3 * 10 ^ 30 → Sz 110 z := fun h1 h2 => by
    have : (3 * 10 ^ 30 : Nat) < 2 ^ 110 := by decide +kernel
    unfold Sz
    omega
  have zn : Sz 110 n := zz (by omega) (by omega)
  have ha' := e0 _ _ ha
  refine ⟨_, rfl, _, rfl, _, _, rfl, rfl, (show Sz 110 2 by unfold Sz; decide +kernel).cmul zn (by decide) (by decide) (by decide), _, _, rfl, rfl, a, _, rfl, ha', by omega, (zz (by omega) (by omega)).mono (by decide), fun x x0 x1 => ⟨_, rfl, _, _, rfl, rfl, ?_⟩⟩
  refine ⟨_, rfl, rfl, _, rfl, ite2 (fun h => ?a) (fun h => ?b)⟩
  case' a =>
    have hps : Sz 110 0 := zz (by decide +kernel) (by decide +kernel)
    have hp0 : r = 0 → (0 : Int) = 0 := fun _ => rfl
  case' b =>
    refine ⟨_, rfl, _, rfl, _, _, rfl, rfl, (show Sz 110 2 by unfold Sz; decide +kernel).cmul zn (by decide) (by decide) (by decide), _, _, rfl, rfl, a, _, rfl, ha', by omega, (zz (by omega) (by omega)).mono (by decide), fun y y0 y1 => ⟨_, rfl, _, _, rfl, rfl, ?_⟩⟩
    have hps : Sz 110 (y - n) := zz (by omega) (by omega)
    have hp0 : r = 0 → y - n = 0 := fun z => absurd (by rw [z]; rfl) h
  all_goals
    refine ⟨_, rfl, _, rfl, _, rfl, _, rfl, _, rfl, _, rfl, _, rfl, _, rfl, a, _, rfl, ha', by omega, zn.mono (by decide), fun z z0 z1 => ⟨_, _, rfl, rfl, len_ok (Nat.le_of_ble_eq_true rfl), fun p1 hp1 => ?_⟩⟩
    have e1 := ext_new e0 hp1 (o := .lst [.int 1, .int 1, .int 2, .int 3, .int (-4), .int 6, .int (-1), .int 12, .int (1 + z)])
    refine ⟨a, p1, [.int 1, .int 1, .int 2, .int 3, .int (-4), .int 6, .int (-1), .int 12, .int (1 + z)], rfl, e1 _ _ ha, SqL.of upd_same, by simp, Nat.le_of_ble_eq_true rfl, fun x hx => ?_⟩
    obtain ⟨b, rfl, b0, b1⟩ : ∃ b : Int, x = .int b ∧ b ≠ 0 ∧ Sz 110 b := by
      simp only [List.mem_cons, List.not_mem_nil, or_false] at hx
      rcases hx with rfl | rfl | rfl | rfl | rfl | rfl | rfl | rfl | rfl
      all_goals first | exact ⟨_, rfl, by decide, zz (by decide +kernel) (by decide +kernel)⟩ | exact ⟨_, rfl, by omega, zz (by omega) (by omega)⟩
    exact ⟨len_ok (Nat.le_of_ble_eq_true rfl), fun q hq => k ⟨_, _, r, b⟩ q _ ⟨zz (z := x - n) (by omega) (by omega), hps, b1, b0⟩ rfl hp0 (ext_new e1 hq) upd_same⟩
end
def spLMix (K : PySem.W.Frag) : Sp := fun vs H Q _ => ∃ (a l : Addr) (xs : List V), vs = [.ref a, .ref l] ∧ H a = some (DiceO a) ∧ SqL K H l xs ∧ xs.length ≤ 100 ∧ ∀ p H' ys, Ext H H' → H' p = some (.lst ys) → ys.length = xs.length → (∀ y, y ∈ ys → y ∈ xs) → Q (.ref p) H'
theorem two_new {H H' : Hp} {L : Addr} {o : HO} (hL : H L = none) (e : ∀ a u, H a = some u → H' a = some u) : ∀ a u, H a = some u → upd H' L o a = some u := fun a u q => by
  rw [upd_ne (ne_of_none q hL)]
  exact e a u q
section
variable {P : Program} {w : World} {K : PySem.W.Frag} {mg : Str → Option Value} {base : Heap} {C : Addr}
theorem ok_lmixed (T : Bn mg) (D : DefAt K mg "_law_mixed" s_lmixed) (F__law_roll : FnAt P w K mg base 1 "_law_roll" ["_law_dice_here", "_law_total"] spRoll) : FnAt P w K mg base 2 "_law_mixed" ["_law_dice_here", "_law_items"] (spLMix K) := by
  refine fnAt D sc_lmixed (fun _ _ _ _ _ _ us hl => match us, hl with | [_, _], _ => rfl) (fun vs H Q E h => ?_) fun f cdv A outer s H vs Q E hr h => ?_
  · obtain ⟨a, l, xs, rfl, _⟩ := h
    rfl
  obtain ⟨a, l, xs, rfl, ha, hl, hz, k⟩ := h
  refine ⟨_, (pss_cons (ps_par (i := 2) (j := 3) rfl sc_lmixed.nd rfl rfl (by decide) rfl rfl (pa_cons (pe_callTy call_list_of (by rfl) T.b_list (by decide +kernel) (pa_cons (pv 1) pa_nil)) (pa_cons (pe_lst pa_nil) pa_nil)) (by rfl))
    (pss_cons (ps_for PassesOwn.never rfl (pi_range1 (by rfl) T.b_range (pa_cons (pe_callB call_len_seq (by rfl) T.b_len (by decide +kernel) (pa_cons (pv 1) pa_nil)) pa_nil)) (pg_name (i := 4) sc_lmixed.nd rfl (Or.inl rfl))
      (pss_one (ps_expr (pe_bm PySem.F.plainAttrs_list PySem.F.slot_list_append PySem.F.type_list_append mt_append (pv 3) (pa_cons (pe_bm PySem.F.plainAttrs_list PySem.F.slot_list_pop PySem.F.type_list_pop mt_popAt (pv 2) (pa_cons (callA F__law_roll (hr.mono (by decide)) rfl (pa_cons (pv 0) (pa_cons (pe_callB call_len_seq (by rfl) T.b_len (by decide +kernel) (pa_cons (pv 2) pa_nil)) pa_nil))) pa_nil)) pa_nil)))))
    (pss_one (ps_ret (pv 3))))), ?_⟩
  refine ⟨_, rfl, l, xs, rfl, .inl hl, fun L hL => ⟨len_ok (Nat.le_of_ble_eq_true rfl), fun F hF => ⟨_, _, rfl, ?_⟩⟩⟩
  have E1 := ext_new (o := .lst xs) (ext_refl H) hL
  have E2 := ext_new (o := .lst []) E1 hF
  have FL : F ≠ L := fun z => by rw [z, upd_same] at hF; cases hF
  have hF0 : H F = none := ext_none E1 hF
  refine ⟨_, rfl, l, xs, rfl, .inl (hl.ext E2), _, rfl, by omega, by omega, ?_⟩
  refine for_range (lo := 0) (fun i σ H' => ∃ ls fs z, σ = [some (.ref a), some (.ref l), some (.ref L), some (.ref F), z] ∧ (∀ a u, H a = some u → H' a = some u) ∧ H' L = some (.lst ls) ∧ H' F = some (.lst fs) ∧ ls.length + i = xs.length ∧ fs.length = i ∧ (∀ y, y ∈ ls → y ∈ xs) ∧ (∀ y, y ∈ fs → y ∈ xs)) ?_ ?_ ?_
  · exact ⟨xs, [], _, rfl, E2, by rw [upd_ne FL.symm, upd_same], upd_same, rfl, rfl, fun y h => h, fun y h => by cases h⟩
  · rintro i σ H' hi ⟨ls, fs, z, rfl, e, hL', hF', c1, c2, c3, c4⟩
    have hp : 0 < ls.length := by omega
    refine ⟨_, rfl, .inl ⟨rfl, fs, SqL.of hF'⟩, _, rfl, .inl ⟨rfl, ls, SqL.of hL'⟩, _, rfl, _, rfl, L, ls, rfl, .inl (SqL.of hL'), a, _, rfl, e _ _ ha, by omega, Sz.mono (n := 10) (by unfold Sz; omega) (by decide), fun r r0 r1 => ?_⟩
    obtain ⟨j, rfl⟩ : ∃ j : Nat, r = (j : Int) := ⟨r.toNat, by omega⟩
    have hj : j < ls.length := by omega
    have sj : seqIndex? (j : Int) ls.length = some j := PySem.StrLaws.seqIndex_nonneg (by omega) (by omega)
    refine ⟨L, ls, j, j, ls[j], rfl, rfl, hL', by omega, by omega, sj, List.getElem?_eq_getElem hj, F, fs, _, rfl, rfl, by rw [upd_ne FL]; exact hF', Nat.lt_of_le_of_lt (show fs.length ≤ 1000 by omega) (by decide), ?_⟩
    refine ⟨ls.eraseIdx j, fs ++ [ls[j]], _, rfl, two_new hF0 (two_new hL e), by rw [upd_ne FL.symm, upd_same], upd_same, ?_, by simp [c2], fun y h => c3 y (List.mem_of_mem_eraseIdx h), fun y h => ?_⟩
    · rw [List.length_eraseIdx, if_pos hj]
      omega
    · rcases List.mem_append.mp h with h | h
      · exact c4 y h
      · rw [List.mem_singleton.mp h]
        exact c3 _ (List.getElem_mem hj)
  · rintro σ H' ⟨ls, fs, z, rfl, e, hL', hF', c1, c2, c3, c4⟩
    exact ⟨_, rfl, k F H' fs e hF' (by omega) c4⟩
def nrm (n : Nm) : Nm := if n.b < 0 then ⟨-n.t, -n.p, n.r, -n.b⟩ else n
def besN (n m : Nm) (r : Int) : Int := sgn ((nrm n).t * (nrm m).b - (nrm m).t * (nrm n).b) ((nrm n).p * (nrm m).b - (nrm m).p * (nrm n).b) r
theorem nrm_rw {k : Nat} {n : Nm} (h : Rw k n) : Rw k (nrm n) := by
  unfold nrm
  split
  · exact ⟨h.t.neg, h.p.neg, h.b.neg, by have := h.b0; show -n.b ≠ 0; omega⟩
  · exact h
def spLBes (K : PySem.W.Frag) : Sp := fun vs H Q _ => ∃ (p q : Addr) (n m : Nm) (r : Int), vs = [.ref p, .ref q, .int r] ∧ SqT K H p (nt n) ∧ SqT K H q (nt m) ∧ Rw 1000 n ∧ Rw 1000 m ∧ 0 ≤ r ∧ Sz 10 r ∧ ∀ H', Ext H H' → Q (.int (besN n m r)) H'
theorem ok_lbeside (T : Bn mg) (D : DefAt K mg "_law_beside" s_lbeside) (F__law_sign : FnAt P w K mg base 1 "_law_sign" ["_law_pair", "_law_root"] (spLSign K)) : FnAt P w K mg base 2 "_law_beside" ["_law_one", "_law_other", "_law_root"] (spLBes K) := by
  refine fnAt D sc_lbeside (fun _ _ _ _ _ _ us hl => match us, hl with | [_, _, _], _ => rfl) (fun vs H Q E h => ?_) fun f cdv A outer s H vs Q E hr h => ?_
  · obtain ⟨p, q, n, m, r, rfl, _⟩ := h
    rfl
  obtain ⟨p, q, n, m, r, rfl, hp, hq, zn, zm, r0, zr, k⟩ := h
  refine ⟨_, (Evl.pss_cut (ps_if (pt_cmpR op_lt (pe_ix ix_tup (pv 0) pe_int (fun _ _ => rfl)) pe_int (nomark _)) (pss_one (ps_set (i := 0) sc_lbeside.nd rfl (Or.inl rfl) (pe_tup (pa_cons (pe_un un_neg (pe_ix ix_tup (pv 0) pe_int (fun _ _ => rfl))) (pa_cons (pe_un un_neg (pe_ix ix_tup (pv 0) pe_int (fun _ _ => rfl))) (pa_cons (pe_ix ix_tup (pv 0) pe_int (fun _ _ => rfl)) (pa_cons (pe_un un_neg (pe_ix ix_tup (pv 0) pe_int (fun _ _ => rfl))) pa_nil))))))) pss_nil)
    (Evl.pss_cut (ps_if (pt_cmpR op_lt (pe_ix ix_tup (pv 1) pe_int (fun _ _ => rfl)) pe_int (nomark _)) (pss_one (ps_set (i := 1) sc_lbeside.nd rfl (Or.inl rfl) (pe_tup (pa_cons (pe_un un_neg (pe_ix ix_tup (pv 1) pe_int (fun _ _ => rfl))) (pa_cons (pe_un un_neg (pe_ix ix_tup (pv 1) pe_int (fun _ _ => rfl))) (pa_cons (pe_ix ix_tup (pv 1) pe_int (fun _ _ => rfl)) (pa_cons (pe_un un_neg (pe_ix ix_tup (pv 1) pe_int (fun _ _ => rfl))) pa_nil))))))) pss_nil)
    (pss_one (ps_ret (callA F__law_sign (hr.mono (by decide)) rfl (pa_cons (pe_tup (pa_cons (pe_op op_sub (pe_op op_mulW (pe_ix ix_tup (pv 0) pe_int (fun _ _ => rfl)) (pe_ix ix_tup (pv 1) pe_int (fun _ _ => rfl))) (pe_op op_mulW (pe_ix ix_tup (pv 1) pe_int (fun _ _ => rfl)) (pe_ix ix_tup (pv 0) pe_int (fun _ _ => rfl)))) (pa_cons (pe_op op_sub (pe_op op_mulW (pe_ix ix_tup (pv 0) pe_int (fun _ _ => rfl)) (pe_ix ix_tup (pv 1) pe_int (fun _ _ => rfl))) (pe_op op_mulW (pe_ix ix_tup (pv 1) pe_int (fun _ _ => rfl)) (pe_ix ix_tup (pv 0) pe_int (fun _ _ => rfl)))) pa_nil))) (pa_cons (pv 2) pa_nil))))))), ?_⟩
  refine ⟨fun σ' H' => ∃ p', σ' = [some (.ref p'), some (.ref q), some (.int r)] ∧ Ext H H' ∧ SqT K H' p' (nt (nrm n)), ?_, ?_⟩
  · refine ⟨_, rfl, _, _, _, _, rfl, rfl, hp, atI_nat (j := 3) rfl, _, _, rfl, rfl, _, rfl, ite2 (fun hb => ?_) (fun hb => ?_)⟩
    · have e : nrm n = ⟨-n.t, -n.p, n.r, -n.b⟩ := if_pos (of_decide_eq_true hb)
      rw [e]
      exact ⟨_, rfl, _, _, _, _, rfl, rfl, hp, atI_nat (j := 0) rfl, _, rfl, _, rfl, _, _, _, _, rfl, rfl, hp, atI_nat (j := 1) rfl, _, rfl, _, rfl, _, _, _, _, rfl, rfl, hp, atI_nat (j := 2) rfl, _, rfl, _, _, _, _, rfl, rfl, hp, atI_nat (j := 3) rfl, _, rfl, len_ok (Nat.le_of_ble_eq_true rfl), fun q1 hq1 => ⟨q1, rfl, ext_new (ext_refl H) hq1, SqT.of upd_same⟩⟩
    · have e : nrm n = n := if_neg (fun z => hb (decide_eq_true z))
      rw [e]
      exact ⟨p, rfl, ext_refl H, hp⟩
  rintro σ' H1 ⟨p', rfl, e1, hp'⟩
  have hq1 := hq.ext e1
  refine ⟨fun σ' H' => ∃ q', σ' = [some (.ref p'), some (.ref q'), some (.int r)] ∧ Ext H1 H' ∧ SqT K H' q' (nt (nrm m)), ?_, ?_⟩
  · refine ⟨_, rfl, _, _, _, _, rfl, rfl, hq1, atI_nat (j := 3) rfl, _, _, rfl, rfl, _, rfl, ite2 (fun hb => ?_) (fun hb => ?_)⟩
    · have e : nrm m = ⟨-m.t, -m.p, m.r, -m.b⟩ := if_pos (of_decide_eq_true hb)
      rw [e]
      exact ⟨_, rfl, _, _, _, _, rfl, rfl, hq1, atI_nat (j := 0) rfl, _, rfl, _, rfl, _, _, _, _, rfl, rfl, hq1, atI_nat (j := 1) rfl, _, rfl, _, rfl, _, _, _, _, rfl, rfl, hq1, atI_nat (j := 2) rfl, _, rfl, _, _, _, _, rfl, rfl, hq1, atI_nat (j := 3) rfl, _, rfl, len_ok (Nat.le_of_ble_eq_true rfl), fun q2 hq2 => ⟨q2, rfl, ext_new (ext_refl H1) hq2, SqT.of upd_same⟩⟩
    · have e : nrm m = m := if_neg (fun z => hb (decide_eq_true z))
      rw [e]
      exact ⟨q, rfl, ext_refl H1, hq1⟩
  rintro σ' H2 ⟨q', rfl, e2, hq'⟩
  have kp := hp'.ext e2
  have kq := hq'
  have zn := nrm_rw zn
  have zm := nrm_rw zm
  refine ⟨_, rfl, _, _, _, _, rfl, rfl, kp, atI_nat (j := 0) rfl, _, rfl, _, _, _, _, rfl, rfl, kq, atI_nat (j := 3) rfl, _, _, rfl, rfl, zn.t.cmul zm.b (by decide) (by decide) (by decide), _, rfl, _, _, _, _, rfl, rfl, kq, atI_nat (j := 0) rfl, _, rfl, _, _, _, _, rfl, rfl, kp, atI_nat (j := 3) rfl, _, _, rfl, rfl, zm.t.cmul zn.b (by decide) (by decide) (by decide), _, _, rfl, rfl, ?_⟩
  refine ⟨_, rfl, _, _, _, _, rfl, rfl, kp, atI_nat (j := 1) rfl, _, rfl, _, _, _, _, rfl, rfl, kq, atI_nat (j := 3) rfl, _, _, rfl, rfl, zn.p.cmul zm.b (by decide) (by decide) (by decide), _, rfl, _, _, _, _, rfl, rfl, kq, atI_nat (j := 1) rfl, _, rfl, _, _, _, _, rfl, rfl, kp, atI_nat (j := 3) rfl, _, _, rfl, rfl, zm.p.cmul zn.b (by decide) (by decide) (by decide), _, _, rfl, rfl, len_ok (Nat.le_of_ble_eq_true rfl), fun q5 hq5 => ⟨_, rfl, q5, _, _, _, rfl, SqT.of upd_same, ?_, ?_, r0, zr, k _ ((e1.trans e2).trans (ext_new (ext_refl H2) hq5))⟩⟩
  · exact Sz.mono (n := 2001) (Sz.sub (n := 2000) (Sz.mul (n := 1000) (m := 1000) zn.t zm.b) (Sz.mul (n := 1000) (m := 1000) zm.t zn.b)) (by decide)
  · exact Sz.mono (n := 2001) (Sz.sub (n := 2000) (Sz.mul (n := 1000) (m := 1000) zn.p zm.b) (Sz.mul (n := 1000) (m := 1000) zm.p zn.b)) (by decide)
end
end My
namespace My
open PySem
def addL (n m : Nm) (r : Int) : Nm := lst (n.t * m.b + m.t * n.b) (n.p * m.b + m.p * n.b) r (n.b * m.b)
def mulL (n m : Nm) (r : Int) : Nm := lst (n.t * m.t + n.p * m.p * r) (n.t * m.p + n.p * m.t) r (n.b * m.b)
/-- a number of the root r -/
def Rt (r : Int) (n : Nm) : Prop := n.r = if n.p = 0 then 0 else r
theorem lst_root {t p r r' b : Int} (h : p ≠ 0 → r = r') : lst t p r b = lst t p r' b := by
  unfold lst
  by_cases hp : p = 0
  · rw [if_pos hp, if_pos hp]
  · rw [h hp]
theorem lst_eqr {t p r b t' p' b' : Int} (h : b ≠ 0) (h' : b' ≠ 0) (et : t * b' = t' * b) (ep : p * b' = p' * b) : lst t p r b = lst t' p' r b' := by
  refine lst_eq h h' et ep ?_
  by_cases hp : p = 0
  · have : p' = 0 := by
      rw [hp, Int.zero_mul] at ep
      exact (Int.mul_eq_zero.mp ep.symm).resolve_right h
    rw [if_pos hp, if_pos this]
  · have : p' ≠ 0 := fun z => by
      rw [z, Int.zero_mul] at ep
      exact ((Int.mul_eq_zero.mp ep).elim hp h')
    rw [if_neg hp, if_neg this]
theorem lst_own {k : Nat} {n : Nm} {r : Int} (h : Good k n) (g : Rt r n) : lst n.t n.p r n.b = n := by
  refine Eq.trans (lst_root fun hp => ?_) (lst_self h)
  unfold Rt at g
  rw [g, if_neg hp]
theorem rt_lst {t p r R b : Int} (hb : b ≠ 0) (h : p ≠ 0 → R = r) : Rt r (lst t p R b) := by
  have A := lst_is (t := t) (p := p) (r := R) hb
  unfold Rt
  rw [A.hr]
  by_cases hp : p = 0
  · have : (lst t p R b).p = 0 := (Int.mul_eq_zero.mp (A.hp.trans hp)).resolve_right A.c0
    rw [if_pos hp, if_pos this]
  · have : (lst t p R b).p ≠ 0 := fun z => by
      have := A.hp
      rw [z, Int.zero_mul] at this
      exact hp this.symm
    rw [if_neg hp, if_neg this, h hp]
section
variable {r : Int} {n m l : Nm}
theorem rt1_of (h0 : 0 ≤ r) (h : Rt r n) (g : Rt r m) : (n.p ≠ 0 ∨ m.p ≠ 0) → rt1 n m = r := fun c => by
  unfold rt1
  unfold Rt at h g
  rw [h, g]
  by_cases a : n.p = 0 <;> by_cases b : m.p = 0
  · exact absurd c (by rw [a, b]; simp)
  · rw [if_pos a, if_neg b]; split <;> omega
  · rw [if_neg a, if_pos b]; split <;> omega
  · rw [if_neg a, if_neg b]; split <;> omega
theorem rt_one (h : Rt r n) (g : Rt r m) : OneRoot n m := by
  unfold OneRoot
  unfold Rt at h g
  by_cases a : n.p = 0
  · rw [if_pos a] at h; exact .inl h
  · by_cases b : m.p = 0
    · rw [if_pos b] at g; exact .inr (.inl g)
    · rw [if_neg a] at h; rw [if_neg b] at g; exact .inr (.inr (h.trans g.symm))
def subL (n m : Nm) (r : Int) : Nm := lst (n.t * m.b - m.t * n.b) (n.p * m.b - m.p * n.b) r (n.b * m.b)
def overL (n m : Nm) (r : Int) : Nm := lst ((n.t * m.t - n.p * m.p * r) * m.b) ((n.p * m.t - n.t * m.p) * m.b) r (n.b * (m.t * m.t - m.p * m.p * r))
theorem pp_or {x y a b : Int} (h : a * x + b * y ≠ 0) : a ≠ 0 ∨ b ≠ 0 := by
  refine Classical.byContradiction fun z => h ?_
  have a0 : a = 0 := Classical.byContradiction fun q => z (.inl q)
  have b0 : b = 0 := Classical.byContradiction fun q => z (.inr q)
  rw [a0, b0]; simp
theorem addN_L (h0 : 0 ≤ r) (h : Rt r n) (g : Rt r m) : addN n m = addL n m r := lst_root fun hp => rt1_of h0 h g (pp_or hp)
theorem subN_L (h0 : 0 ≤ r) (h : Rt r n) (g : Rt r m) : subN n m = subL n m r := lst_root fun hp => rt1_of h0 h g (by
  have : n.p * m.b + m.p * (-n.b) ≠ 0 := fun z => hp (by grind)
  exact pp_or this)
theorem pq_root (h0 : 0 ≤ r) (h : Rt r n) (g : Rt r m) : n.p * m.p * rt1 n m = n.p * m.p * r := by
  by_cases a : n.p = 0
  · rw [a]; simp
  · rw [rt1_of h0 h g (.inl a)]
theorem mulN_L (h0 : 0 ≤ r) (h : Rt r n) (g : Rt r m) : mulN n m = mulL n m r := by
  unfold mulN mulL
  rw [pq_root h0 h g]
  exact lst_root fun hp => rt1_of h0 h g (by
    have : m.p * n.t + n.p * m.t ≠ 0 := fun z => hp (by grind)
    exact (pp_or this).symm)
theorem normA_L (h : Rt r n) : normA n = n.t * n.t - n.p * n.p * r := by
  unfold normA
  unfold Rt at h
  by_cases a : n.p = 0
  · rw [a]; simp
  · rw [h, if_neg a]
theorem overN_L (h0 : 0 ≤ r) (h : Rt r n) (g : Rt r m) : overN n m = overL n m r := by
  unfold overN overL
  rw [pq_root h0 h g, normA_L g]
  exact lst_root fun hp => rt1_of h0 h g (by
    have : n.p * (m.t * m.b) + m.p * (-(n.t * m.b)) ≠ 0 := fun z => hp (by grind)
    exact pp_or this)
theorem neg_sub : addL n ⟨-m.t, -m.p, m.r, m.b⟩ r = subL n m r := by
  unfold addL subL
  have e1 : n.t * m.b + -m.t * n.b = n.t * m.b - m.t * n.b := by grind
  have e2 : n.p * m.b + -m.p * n.b = n.p * m.b - m.p * n.b := by grind
  rw [e1, e2]
theorem sub_add {k k' : Nat} (hn : Good k n) (hm : Good k' m) (h : Rt r n) : addL (subL n m r) m r = n := by
  refine Eq.trans ?_ (lst_own hn h)
  have A := lst_is (t := n.t * m.b - m.t * n.b) (p := n.p * m.b - m.p * n.b) (r := r) (b := n.b * m.b) (Int.mul_ne_zero hn.b0 hm.b0)
  unfold addL
  have hx : (subL n m r) = lst (n.t * m.b - m.t * n.b) (n.p * m.b - m.p * n.b) r (n.b * m.b) := rfl
  rw [← hx] at A
  generalize subL n m r = x at *
  generalize coms _ _ _ = c at *
  have xb : x.b ≠ 0 := by have := A.b1; omega
  refine lst_eqr (Int.mul_ne_zero xb hm.b0) hn.b0 ?_ ?_
  · refine Int.eq_of_mul_eq_mul_right A.c0 ?_
    have := A.ht; have := A.hb
    grind
  · refine Int.eq_of_mul_eq_mul_right A.c0 ?_
    have := A.hp; have := A.hb
    grind
theorem over_mul {k k' : Nat} (hn : Good k n) (hm : Good k' m) (h : Rt r n) (g : Rt r m) (h0 : ¬ (m.t = 0 ∧ m.p = 0)) : mulL (overL n m r) m r = n := by
  refine Eq.trans ?_ (lst_own hn h)
  have nz : m.t * m.t - m.p * m.p * r ≠ 0 := by rw [← normA_L g]; exact normA_ne hm h0
  have A := lst_is (t := (n.t * m.t - n.p * m.p * r) * m.b) (p := (n.p * m.t - n.t * m.p) * m.b) (r := r) (b := n.b * (m.t * m.t - m.p * m.p * r)) (Int.mul_ne_zero hn.b0 nz)
  unfold mulL
  have hx : (overL n m r) = lst ((n.t * m.t - n.p * m.p * r) * m.b) ((n.p * m.t - n.t * m.p) * m.b) r (n.b * (m.t * m.t - m.p * m.p * r)) := rfl
  rw [← hx] at A
  generalize overL n m r = x at *
  generalize coms _ _ _ = c at *
  have xb : x.b ≠ 0 := by have := A.b1; omega
  have e1 := A.ht
  have e2 := A.hp
  have e3 := A.hb
  refine lst_eqr (Int.mul_ne_zero xb hm.b0) hn.b0 ?_ ?_
  · refine Int.eq_of_mul_eq_mul_right A.c0 ?_
    have z : (x.t * m.t + x.p * m.p * r) * n.b * c = ((x.t * c) * m.t + (x.p * c) * m.p * r) * n.b := by grind
    have z2 : n.t * (x.b * m.b) * c = n.t * (x.b * c) * m.b := by grind
    rw [z, z2, e1, e2, e3]
    grind
  · refine Int.eq_of_mul_eq_mul_right A.c0 ?_
    have z : (x.t * m.p + x.p * m.t) * n.b * c = ((x.t * c) * m.p + (x.p * c) * m.t) * n.b := by grind
    have z2 : n.p * (x.b * m.b) * c = n.p * (x.b * c) * m.b := by grind
    rw [z, z2, e1, e2, e3]
    grind
theorem mul_comm' : mulL n m r = mulL m n r := by
  unfold mulL
  have e1 : n.t * m.t + n.p * m.p * r = m.t * n.t + m.p * n.p * r := by grind
  have e2 : n.t * m.p + n.p * m.t = m.t * n.p + m.p * n.t := by grind
  rw [e1, e2, Int.mul_comm n.b m.b]
theorem lstx {t p b : Int} (hb : b ≠ 0) : ∃ c, LstIs t p r b c (lst t p r b) := ⟨_, lst_is hb⟩
theorem mul_add' (hn : n.b ≠ 0) (hm : m.b ≠ 0) (hl : l.b ≠ 0) : mulL (addL n m r) l r = addL (mulL n l r) (mulL m l r) r := by
  obtain ⟨c, A⟩ := lstx (r := r) (t := n.t * m.b + m.t * n.b) (p := n.p * m.b + m.p * n.b) (Int.mul_ne_zero hn hm)
  obtain ⟨d, B⟩ := lstx (r := r) (t := n.t * l.t + n.p * l.p * r) (p := n.t * l.p + n.p * l.t) (Int.mul_ne_zero hn hl)
  obtain ⟨e, D⟩ := lstx (r := r) (t := m.t * l.t + m.p * l.p * r) (p := m.t * l.p + m.p * l.t) (Int.mul_ne_zero hm hl)
  have ex : addL n m r = lst (n.t * m.b + m.t * n.b) (n.p * m.b + m.p * n.b) r (n.b * m.b) := rfl
  have ey : mulL n l r = lst (n.t * l.t + n.p * l.p * r) (n.t * l.p + n.p * l.t) r (n.b * l.b) := rfl
  have ez : mulL m l r = lst (m.t * l.t + m.p * l.p * r) (m.t * l.p + m.p * l.t) r (m.b * l.b) := rfl
  rw [← ex] at A; rw [← ey] at B; rw [← ez] at D
  generalize addL n m r = x at *
  generalize mulL n l r = y at *
  generalize mulL m l r = z at *
  have xb : x.b ≠ 0 := by have := A.b1; omega
  have yb : y.b ≠ 0 := by have := B.b1; omega
  have zb : z.b ≠ 0 := by have := D.b1; omega
  have a1 := A.ht; have a2 := A.hp; have a3 := A.hb
  have b1 := B.ht; have b2 := B.hp; have b3 := B.hb
  have d1 := D.ht; have d2 := D.hp; have d3 := D.hb
  unfold mulL addL
  refine lst_eqr (Int.mul_ne_zero xb hl) (Int.mul_ne_zero yb zb) ?_ ?_
  · refine Int.eq_of_mul_eq_mul_right (Int.mul_ne_zero A.c0 (Int.mul_ne_zero B.c0 D.c0)) ?_
    have z1 : (x.t * l.t + x.p * l.p * r) * (y.b * z.b) * (c * (d * e)) = ((x.t * c) * l.t + (x.p * c) * l.p * r) * ((y.b * d) * (z.b * e)) := by grind
    have z2 : (y.t * z.b + z.t * y.b) * (x.b * l.b) * (c * (d * e)) = ((y.t * d) * (z.b * e) + (z.t * e) * (y.b * d)) * ((x.b * c) * l.b) := by grind
    rw [z1, z2, a1, a2, a3, b1, b3, d1, d3]
    grind
  · refine Int.eq_of_mul_eq_mul_right (Int.mul_ne_zero A.c0 (Int.mul_ne_zero B.c0 D.c0)) ?_
    have z1 : (x.t * l.p + x.p * l.t) * (y.b * z.b) * (c * (d * e)) = ((x.t * c) * l.p + (x.p * c) * l.t) * ((y.b * d) * (z.b * e)) := by grind
    have z2 : (y.p * z.b + z.p * y.b) * (x.b * l.b) * (c * (d * e)) = ((y.p * d) * (z.b * e) + (z.p * e) * (y.b * d)) * ((x.b * c) * l.b) := by grind
    rw [z1, z2, a1, a2, a3, b2, b3, d2, d3]
    grind
theorem mir_mul {k k' : Nat} {r : Int} (hn : Good k n) (hm : Good k' m) : ∀ x, x = mulL n m r → ∀ j, Good j x → Rt r x → mirN x = mulL ⟨n.t, -n.p, n.r, n.b⟩ ⟨m.t, -m.p, m.r, m.b⟩ r := fun x hx j gx rx => by
  obtain ⟨c, A⟩ := lstx (r := r) (t := n.t * m.t + n.p * m.p * r) (p := n.t * m.p + n.p * m.t) (Int.mul_ne_zero hn.b0 hm.b0)
  have ex : mulL n m r = lst (n.t * m.t + n.p * m.p * r) (n.t * m.p + n.p * m.t) r (n.b * m.b) := rfl
  rw [← ex, ← hx] at A
  unfold mirN
  have e : lst x.t (-x.p) x.r x.b = lst x.t (-x.p) r x.b := lst_root fun hp => by
    unfold Rt at rx
    rw [rx, if_neg (fun z => hp (by rw [z]; rfl))]
  rw [e]
  unfold mulL
  have a1 := A.ht; have a2 := A.hp; have a3 := A.hb
  refine lst_eqr gx.b0 (Int.mul_ne_zero hn.b0 hm.b0) ?_ ?_
  · refine Int.eq_of_mul_eq_mul_right A.c0 ?_
    grind
  · refine Int.eq_of_mul_eq_mul_right A.c0 ?_
    grind
theorem norm_mul (hn : n.b ≠ 0) (hm : m.b ≠ 0) (rn : Rt r n) (rm : Rt r m) : ∀ x, x = mulL n m r → Rt r x → normN x = mulL (normN n) (normN m) r := fun x hx rx => by
  obtain ⟨c, A⟩ := lstx (r := r) (t := n.t * m.t + n.p * m.p * r) (p := n.t * m.p + n.p * m.t) (Int.mul_ne_zero hn hm)
  have ex : mulL n m r = lst (n.t * m.t + n.p * m.p * r) (n.t * m.p + n.p * m.t) r (n.b * m.b) := rfl
  rw [← ex, ← hx] at A
  obtain ⟨d, B⟩ := lstx (r := 0) (t := normA n) (p := 0) (Int.mul_ne_zero hn hn)
  obtain ⟨e, D⟩ := lstx (r := 0) (t := normA m) (p := 0) (Int.mul_ne_zero hm hm)
  have ey : normN n = lst (normA n) 0 0 (n.b * n.b) := rfl
  have ez : normN m = lst (normA m) 0 0 (m.b * m.b) := rfl
  rw [← ey] at B; rw [← ez] at D
  generalize normN n = y at *
  generalize normN m = z at *
  have xb : x.b ≠ 0 := by have := A.b1; omega
  have yb : y.b ≠ 0 := by have := B.b1; omega
  have zb : z.b ≠ 0 := by have := D.b1; omega
  have a1 := A.ht; have a2 := A.hp; have a3 := A.hb
  have b1 := B.ht; have b3 := B.hb
  have d1 := D.ht; have d3 := D.hb
  have yp : y.p = 0 := (Int.mul_eq_zero.mp B.hp).resolve_right B.c0
  have zp : z.p = 0 := (Int.mul_eq_zero.mp D.hp).resolve_right D.c0
  rw [normA_L rn] at b1
  rw [normA_L rm] at d1
  unfold normN mulL
  rw [normA_L rx]
  have e0 : lst (x.t * x.t - x.p * x.p * r) 0 0 (x.b * x.b) = lst (x.t * x.t - x.p * x.p * r) 0 r (x.b * x.b) := lst_root fun h => absurd rfl h
  rw [e0]
  refine lst_eqr (Int.mul_ne_zero xb xb) (Int.mul_ne_zero yb zb) ?_ ?_
  · refine Int.eq_of_mul_eq_mul_right (Int.mul_ne_zero (Int.mul_ne_zero A.c0 A.c0) (Int.mul_ne_zero B.c0 D.c0)) ?_
    have z1 : (x.t * x.t - x.p * x.p * r) * (y.b * z.b) * (c * c * (d * e)) = ((x.t * c) * (x.t * c) - (x.p * c) * (x.p * c) * r) * ((y.b * d) * (z.b * e)) := by grind
    have z2 : (y.t * z.t + y.p * z.p * r) * (x.b * x.b) * (c * c * (d * e)) = ((y.t * d) * (z.t * e)) * ((x.b * c) * (x.b * c)) := by rw [yp]; grind
    rw [z1, z2, a1, a2, a3, b1, b3, d1, d3]
    grind
  · rw [yp, zp]; simp
end
/-! ### sizes -/
section
variable {k : Nat} {n m : Nm}
theorem addN_good (hn : Good k n) (hm : Good k m) : Good (2 * k + 1) (addN n m) :=
  lst_good (rt1_valid hn hm (Int.mul_ne_zero hn.b0 hm.b0) (fun x y => by rw [x, y]; simp)) (((hn.t.mul hm.b).add (hm.t.mul hn.b)).mono (by omega)) (((hn.p.mul hm.b).add (hm.p.mul hn.b)).mono (by omega)) ((hn.b.mul hm.b).mono (by omega))
theorem subN_good (hn : Good k n) (hm : Good k m) : Good (2 * k + 1) (subN n m) :=
  lst_good (rt1_valid hn hm (Int.mul_ne_zero hn.b0 hm.b0) (fun x y => by rw [x, y]; simp)) (((hn.t.mul hm.b).sub (hm.t.mul hn.b)).mono (by omega)) (((hn.p.mul hm.b).sub (hm.p.mul hn.b)).mono (by omega)) ((hn.b.mul hm.b).mono (by omega))
theorem mulN_good (hn : Good k n) (hm : Good k m) : Good (2 * k + 11) (mulN n m) :=
  lst_good (rt1_valid hn hm (Int.mul_ne_zero hn.b0 hm.b0) (fun x y => by rw [x, y]; simp))
    (Sz.mono (Sz.add (n := k + k + 10) ((hn.t.mul hm.t).mono (by omega)) ((hn.p.mul hm.p).mul (rt1_zr hn hm))) (by omega)) (((hn.t.mul hm.p).add (hn.p.mul hm.t)).mono (by omega)) ((hn.b.mul hm.b).mono (by omega))
theorem normA_sz (hn : Good k n) : Sz (2 * k + 11) (normA n) := Sz.mono (Sz.sub (n := k + k + 10) ((hn.t.mul hn.t).mono (by omega)) ((hn.p.mul hn.p).mul hn.zr)) (by omega)
theorem normN_good (hn : Good k n) : Good (2 * k + 11) (normN n) :=
  lst_good (valid_of (Int.mul_ne_zero hn.b0 hn.b0) (.inl ⟨rfl, rfl⟩)) (normA_sz hn) (by unfold Sz; exact Nat.two_pow_pos _) ((hn.b.mul hn.b).mono (by omega))
theorem overN_good (hn : Good k n) (hm : Good k m) (h0 : ¬ (m.t = 0 ∧ m.p = 0)) : Good (3 * k + 11) (overN n m) :=
  lst_good (rt1_valid hn hm (Int.mul_ne_zero hn.b0 (normA_ne hm h0)) (fun x y => by rw [x, y]; simp))
    (((Sz.sub (n := k + k + 10) ((hn.t.mul hm.t).mono (by omega)) ((hn.p.mul hm.p).mul (rt1_zr hn hm))).mul hm.b).mono (by omega)) ((((hn.p.mul hm.t).sub (hn.t.mul hm.p)).mul hm.b).mono (by omega)) ((hn.b.mul (normA_sz hm)).mono (by omega))
end
theorem rt_norm {r : Int} {n : Nm} (h : n.b ≠ 0) : Rt r (normN n) := rt_lst (Int.mul_ne_zero h h) fun z => absurd rfl z
theorem rt_mir {k : Nat} {r : Int} {n : Nm} (g : Good k n) (h : Rt r n) : Rt r (mirN n) := rt_lst g.b0 fun z => by
  unfold Rt at h
  rw [h, if_neg (fun y => z (by rw [y]; rfl))]
theorem rt_add {r : Int} {n m : Nm} (h : n.b ≠ 0) (g : m.b ≠ 0) : Rt r (addL n m r) := rt_lst (Int.mul_ne_zero h g) fun _ => rfl
theorem rt_sub {r : Int} {n m : Nm} (h : n.b ≠ 0) (g : m.b ≠ 0) : Rt r (subL n m r) := rt_lst (Int.mul_ne_zero h g) fun _ => rfl
theorem rt_mul {r : Int} {n m : Nm} (h : n.b ≠ 0) (g : m.b ≠ 0) : Rt r (mulL n m r) := rt_lst (Int.mul_ne_zero h g) fun _ => rfl
theorem rt_int {r i : Int} : Rt r ⟨i, 0, 0, 1⟩ := rfl
end My
namespace My
open PySem
theorem sgI_scale {c x : Int} (h : 0 < c) : sgI (x * c) = sgI x := by
  rcases Int.lt_trichotomy x 0 with z | z | z
  · rw [sgI_neg z, sgI_neg (Int.mul_neg_of_neg_of_pos z h)]
  · rw [z, Int.zero_mul]
  · rw [sgI_pos z, sgI_pos (Int.mul_pos z h)]
theorem sgn_scale {c x y r : Int} (h : 0 < c) : sgn (x * c) (y * c) r = sgn x y r := by
  have e : (y * c * (y * c) * r < x * c * (x * c)) ↔ (y * y * r < x * x) := by
    have h2 : 0 < c * c := Int.mul_pos h h
    have e1 : y * c * (y * c) * r = (y * y * r) * (c * c) := by grind
    have e2 : x * c * (x * c) = (x * x) * (c * c) := by grind
    rw [e1, e2]
    exact Int.mul_lt_mul_right h2
  unfold sgn
  rw [sgI_scale h, sgI_scale h]
  by_cases q : y * y * r < x * x
  · rw [if_pos q, if_pos (e.mpr q)]
  · rw [if_neg q, if_neg (fun z => q (e.mp z))]
theorem sgn_root {x y r r' : Int} (h : y ≠ 0 → r = r') : sgn x y r = sgn x y r' := by
  by_cases q : y = 0
  · rw [q, sgn_y0, sgn_y0]
  · rw [h q]
theorem nrm_lst {n : Nm} (h : n.b ≠ 0) : ∃ c, 0 < c ∧ (nrm n).t = (lst n.t n.p n.r n.b).t * c ∧ (nrm n).p = (lst n.t n.p n.r n.b).p * c ∧ (nrm n).b = (lst n.t n.p n.r n.b).b * c := by
  have A := lst_is (t := n.t) (p := n.p) (r := n.r) h
  generalize lst n.t n.p n.r n.b = m at *
  generalize coms n.t n.p n.b = c at *
  have b1 := A.b1
  have e1 := A.ht; have e2 := A.hp; have e3 := A.hb
  by_cases hn : n.b < 0
  · have hc : c < 0 := by
      refine Classical.byContradiction fun z => ?_
      have : 0 ≤ m.b * c := Int.mul_nonneg (by omega) (by omega)
      omega
    have en : nrm n = ⟨-n.t, -n.p, n.r, -n.b⟩ := if_pos hn
    rw [en]
    exact ⟨-c, by omega, by show -n.t = _; grind, by show -n.p = _; grind, by show -n.b = _; grind⟩
  · have hc : 0 < c := by
      refine Classical.byContradiction fun z => ?_
      have : m.b * c ≤ 0 := Int.mul_nonpos_of_nonneg_of_nonpos (by omega) (by omega)
      omega
    have en : nrm n = n := if_neg hn
    rw [en]
    exact ⟨c, hc, e1.symm, e2.symm, e3.symm⟩
def difX (n m : Nm) : Int := n.t * m.b - m.t * n.b
def difY (n m : Nm) : Int := n.p * m.b - m.p * n.b
section
variable {r : Int} {n m : Nm}
theorem bes_eq (hn : n.b ≠ 0) (hm : m.b ≠ 0) : besN n m r = sgn (difX (lst n.t n.p n.r n.b) (lst m.t m.p m.r m.b)) (difY (lst n.t n.p n.r n.b) (lst m.t m.p m.r m.b)) r := by
  obtain ⟨c, c0, a1, a2, a3⟩ := nrm_lst hn
  obtain ⟨d, d0, b1, b2, b3⟩ := nrm_lst hm
  unfold besN difX difY
  rw [a1, a2, a3, b1, b2, b3]
  generalize lst n.t n.p n.r n.b = x
  generalize lst m.t m.p m.r m.b = y
  have e1 : x.t * c * (y.b * d) - y.t * d * (x.b * c) = (x.t * y.b - y.t * x.b) * (c * d) := by grind
  have e2 : x.p * c * (y.b * d) - y.p * d * (x.b * c) = (x.p * y.b - y.p * x.b) * (c * d) := by grind
  rw [e1, e2]
  exact sgn_scale (Int.mul_pos c0 d0)
theorem cmp_eq (r0 : 0 ≤ r) (h : Rt r n) (g : Rt r m) : cmpN n m = sgn (difX n m) (difY n m) r := by
  unfold cmpN difX difY
  refine sgn_root fun hy => rt1_of r0 h g ?_
  have : n.p * m.b + m.p * (-n.b) ≠ 0 := fun z => hy (by grind)
  exact pp_or this
theorem sgn_zero (r0 : 0 ≤ r) {x y : Int} : sgn x y r = 0 ↔ x = 0 ∧ y = 0 := by
  constructor
  · intro h
    exact Classical.byContradiction fun z => sgn_ne r0 z h
  · rintro ⟨rfl, rfl⟩
    exact sgn_y0
theorem eq_dif {k k' : Nat} (r0 : 0 ≤ r) (hn : Good k n) (hm : Good k' m) (h : Rt r n) (g : Rt r m) : n = m ↔ sgn (difX n m) (difY n m) r = 0 := by
  rw [sgn_zero r0]
  unfold difX difY
  constructor
  · rintro rfl
    exact ⟨by omega, by omega⟩
  · rintro ⟨e1, e2⟩
    obtain ⟨x1, x2, x3⟩ := least_eq hn.b1 hm.b1 hn.cop hm.cop (by omega) (by omega)
    have x4 : n.r = m.r := by
      unfold Rt at h g
      rw [h, g, x3]
    cases n; cases m
    simp only at x1 x2 x3 x4
    rw [x1, x2, x3, x4]
theorem sub_dif {k k' : Nat} (r0 : 0 ≤ r) (hn : Good k n) (hm : Good k' m) (h : Rt r n) (g : Rt r m) : sgn (subN n m).t (subN n m).p (subN n m).r = sgn (difX n m) (difY n m) r := by
  have hb : 0 < n.b * m.b := Int.mul_pos (by have := hn.b1; omega) (by have := hm.b1; omega)
  have A := lst_is (t := n.t * m.b - m.t * n.b) (p := n.p * m.b - m.p * n.b) (r := rt1 n m) (b := n.b * m.b) (by omega)
  have rx : Rt r (subN n m) := by rw [subN_L r0 h g]; exact rt_sub hn.b0 hm.b0
  have ex : subN n m = lst (n.t * m.b - m.t * n.b) (n.p * m.b - m.p * n.b) (rt1 n m) (n.b * m.b) := rfl
  rw [← ex] at A
  generalize subN n m = x at *
  generalize coms _ _ _ = c at *
  have b1 := A.b1
  have c0 : 0 < c := by
    refine Classical.byContradiction fun z => ?_
    have : x.b * c ≤ 0 := Int.mul_nonpos_of_nonneg_of_nonpos (by omega) (by omega)
    have := A.hb
    omega
  unfold difX difY
  rw [← A.ht, ← A.hp, sgn_scale c0]
  refine sgn_root fun hp => ?_
  unfold Rt at rx
  rw [rx, if_neg hp]
theorem cmp_int {k : Nat} {w : Int} (hn : Good k n) : cmpN n ⟨w, 0, 0, 1⟩ = sgn (n.t - w * n.b) n.p n.r := by
  unfold cmpN
  have e1 : n.t * 1 - w * n.b = n.t - w * n.b := by omega
  have e2 : n.p * 1 - 0 * n.b = n.p := by omega
  show sgn (n.t * 1 - w * n.b) (n.p * 1 - 0 * n.b) (rt1 n ⟨w, 0, 0, 1⟩) = _
  rw [e1, e2]
  refine sgn_root fun hp => ?_
  unfold rt1
  have := hn.r0
  show (if (0 : Int) > n.r then 0 else n.r) = n.r
  rw [if_neg (by omega)]
theorem cmp_floor {k : Nat} (hn : Good k n) : 0 ≤ cmpN n ⟨(n.t + flr n.p n.r).fdiv n.b, 0, 0, 1⟩ := by
  rw [cmp_int hn]
  exact floor_ge hn
theorem cmp_above {k : Nat} (hn : Good k n) : cmpN n ⟨(n.t + flr n.p n.r).fdiv n.b + 1, 0, 0, 1⟩ < 0 := by
  rw [cmp_int hn]
  have e : n.t - ((n.t + flr n.p n.r).fdiv n.b + 1) * n.b = n.t - (n.t + flr n.p n.r).fdiv n.b * n.b - n.b := by grind
  rw [e]
  exact floor_lt hn
theorem cmp_zero {k : Nat} (hn : Good k n) : cmpN n ⟨0, 0, 0, 1⟩ = sgn n.t n.p n.r := by
  rw [cmp_int hn]
  have e : n.t - 0 * n.b = n.t := by omega
  rw [e]
end
end My
namespace My
open PySem PySem.Spec PyProof.Rows L2
local macro_rules | `(tactic| walk_at "side") => `(tactic| first | assumption | decide | exact Or.inl ⟨by decide, by decide⟩ | exact Or.inr ⟨by decide, by decide⟩ | exact ⟨by decide, by decide, by decide⟩ | omega | (unfold CMulW; decide +kernel) | (dsimp only; first | assumption | omega | decide +kernel) | exact len_ok (Nat.le_of_ble_eq_true rfl) | fail "side")
local macro_rules | `(tactic| walk_at "rd") => `(tactic| first
  | refine ⟨_, _, _, _, rfl, rfl, SqL.of upd_same, atI_nat (j := 0) rfl, ?_⟩ | refine ⟨_, _, _, _, rfl, rfl, SqL.of upd_same, atI_nat (j := 1) rfl, ?_⟩ | refine ⟨_, _, _, _, rfl, rfl, SqL.of upd_same, atI_nat (j := 2) rfl, ?_⟩
  | refine ⟨_, _, _, _, rfl, rfl, upd_same, rfl, ?_⟩
  | refine ⟨_, _, rfl, rfl, ?_⟩ | refine ⟨_, rfl, ?_⟩ | refine ⟨_, _, rfl, ?_⟩ | refine Or.inl ⟨_, rfl, ?_⟩ | refine Or.inr ⟨_, rfl, ?_⟩ | refine ⟨(by walk_at "side"), ?_⟩ | fail "rd")

def bt : Nat → Nat
  | 0 => 6
  | n + 1 => 2 * bt n + 11
theorem bt_le {i : Nat} (h : i ≤ 5) : bt i ≤ 533 := by
  match i, h with
  | 0, _ => decide
  | 1, _ => decide
  | 2, _ => decide
  | 3, _ => decide
  | 4, _ => decide
  | 5, _ => decide
theorem bt_pos {i : Nat} : 6 ≤ bt i := by
  cases i with
  | zero => decide
  | succ n => show 6 ≤ 2 * bt n + 11; omega
def spLNear : Sp := fun vs H Q _ => ∃ (a : Addr) (r : Int), vs = [.ref a, .int r] ∧ H a = some (DiceO a) ∧ rootOk r = true ∧ ∀ (n : Nm) q H', Rw 600 n → n.r = 0 → n.p = 0 → Ext H H' → H' q = some (.tup (nt n)) → Q (.ref q) H'
section
variable {P : Program} {w : World} {K : PySem.W.Frag} {mg : Str → Option Value} {base : Heap} {C : Addr}
theorem ok_lnear (T : Bn mg) (D : DefAt K mg "_law_near" s_lnear) (F__law_roll : FnAt P w K mg base 1 "_law_roll" ["_law_dice_here", "_law_total"] spRoll) : FnAt P w K mg base 2 "_law_near" ["_law_dice_here", "_law_root"] spLNear := by
  refine fnAt D sc_lnear (fun _ _ _ _ _ _ us hl => match us, hl with | [_, _], _ => rfl) (fun vs H Q E h => ?_) fun f cdv A outer s H vs Q E hr h => ?_
  · obtain ⟨a, r, rfl, _⟩ := h
    rfl
  obtain ⟨a, r, rfl, ha, hr0, k⟩ := h
  have hg := rootOk_ge hr0
  have zr : Sz 10 r := by unfold Sz; omega
  refine ⟨_, (pss_cons (ps_par (i := 2) (j := 3) rfl sc_lnear.nd rfl rfl (by decide) rfl rfl (pa_cons (pe_op op_add pe_int (pe_callB (cr_max rfl) (by rfl) T.b_max (by decide +kernel) (pa_cons (pe_lc (own := [("_law_side", 4)]) (g := gName 4) (tt := _) rfl sc_lnear.nd (pi_range1 (by rfl) T.b_range (pa_cons pe_int pa_nil)) (blkOk_by (N := ["_law_dice_here", "_law_root", "_law_top", "_law_bottom", "_law_side", "_law_turn"]) (sc := defScope s_lnear) (by decide +kernel)) (fun _ _ _ _ _ => pg_name (i := 4) sc_lnear.nd rfl (Or.inl rfl)) (fun _ _ _ _ _ => pts_one (pt_cmpR op_lt (pe_op op_mulW (pv 4) (pv 4)) (pv 1) (nomark _))) (fun _ _ _ _ _ => (pv 4))) pa_nil))) (pa_cons pe_int pa_nil)) (by rfl))
    (pss_cons (ps_for PassesOwn.never rfl (pi_range1 (by rfl) T.b_range (pa_cons (pe_op op_add pe_int (callA F__law_roll (hr.mono (by decide)) rfl (pa_cons (pv 0) (pa_cons pe_int pa_nil)))) pa_nil)) (pg_name (i := 5) sc_lnear.nd rfl (Or.inl rfl))
      (pss_one (ps_par (i := 2) (j := 3) rfl sc_lnear.nd rfl rfl (by decide) rfl rfl (pa_cons (pe_op op_add (pe_op op_mulW (pv 2) (pv 2)) (pe_op op_mulW (pe_op op_mulW (pv 1) (pv 3)) (pv 3))) (pa_cons (pe_op op_mulW (pe_op op_mulW pe_int (pv 2)) (pv 3)) pa_nil)) (by rfl))))
    (pss_one (ps_ret (pe_ifExp (pt_cmpR op_eq (callA F__law_roll (hr.mono (by decide)) rfl (pa_cons (pv 0) (pa_cons pe_int pa_nil))) pe_int (nomark _)) (pe_tup (pa_cons (pv 2) (pa_cons pe_int (pa_cons pe_int (pa_cons (pv 3) pa_nil))))) (pe_tup (pa_cons (pe_op op_mulW (pv 1) (pv 3)) (pa_cons pe_int (pa_cons pe_int (pa_cons (pv 2) pa_nil)))))))))), ?_⟩
  refine ⟨_, rfl, by decide, by decide, fun D hD => lc_range (fun i H' => H D = none ∧ Ext H H' ∧ ∃ ns : List Int, H' D = some (.lst (ns.map V.int)) ∧ (∀ y, y ∈ ns → 0 ≤ y ∧ y < 40) ∧ ns.length ≤ i ∧ (1 ≤ i → ns ≠ [])) ⟨hD, ext_new (ext_refl H) hD, [], upd_same, (fun y h => by cases h), Nat.le_refl 0, fun h => absurd h (by decide)⟩ (fun i H' hi p => ?_) (fun H1 p1 => ?_)⟩
  · obtain ⟨p1, p2, ns, p3, p4, p5, p6⟩ := p
    have zi : Sz 6 (0 + (i : Int)) := by unfold Sz; omega
    refine ⟨rfl, _, rfl, _, rfl, _, _, rfl, rfl, zi.cmul zi (by decide) (by decide) (by decide), _, rfl, _, _, rfl, rfl, _, rfl, ?_⟩
    refine ite2 (fun h => ?_) (fun h => ?_)
    · refine ⟨_, rfl, ns.map V.int, p3, by rw [List.length_map]; exact Nat.lt_of_le_of_lt (show ns.length ≤ 1000 by omega) (by decide), p1, ext_mut p2 p1, ns ++ [0 + (i : Int)], by rw [upd_same, List.map_append]; rfl, fun y hy => ?_, by simp; omega, fun _ => by simp⟩
      rcases List.mem_append.mp hy with hy | hy
      · exact p4 y hy
      · rw [List.mem_singleton.mp hy]; omega
    · refine ⟨p1, p2, ns, p3, p4, by omega, fun _ => ?_⟩
      by_cases i0 : i = 0
      · subst i0
        exact absurd (decide_eq_true (show (0 + ((0 : Nat) : Int)) * (0 + ((0 : Nat) : Int)) < r by simp; omega)) h
      · exact p6 (by omega)
  obtain ⟨p1, p2, ns, p3, p4, p5, p6⟩ := p1
  refine ⟨D, ns, rfl, SqL.of p3, List.length_pos_iff.mpr (p6 (by decide)), fun m hm _ => ?_⟩
  have hm := p4 m hm
  refine ⟨_, _, rfl, rfl, _, _, rfl, _, rfl, a, _, rfl, p2 _ _ ha, by decide, Sz.mono (n := 10) (by unfold Sz; decide) (by decide), fun t t0 t1 => ⟨_, _, rfl, rfl, _, rfl, by omega, by omega, for_range (lo := 0) (fun i σ H' => ∃ T B z, σ = [some (.ref a), some (.int r), some (.int T), some (.int B), none, z] ∧ H' = H1 ∧ 1 ≤ T ∧ 1 ≤ B ∧ Sz (bt i) T ∧ Sz (bt i) B) ⟨1 + m, 1, _, rfl, rfl, by omega, by omega, by show Sz 6 _; unfold Sz; omega, by show Sz 6 _; unfold Sz; decide⟩ ?_ ?_⟩⟩
  · rintro i σ H' hi ⟨T, B, z, rfl, rfl, hT, hB, zT, zB⟩
    have l1 := bt_le (i := i) (by omega)
    have l2 := bt_pos (i := i)
    have cTT := zT.cmul zT (by omega) (by omega) (by omega)
    have crB := zr.cmul zB (by omega) (by omega) (by omega)
    have crBB := (zr.mul zB).cmul zB (by omega) (by omega) (by omega)
    have z2 : Sz 2 2 := by unfold Sz; decide
    have c2T := z2.cmul zT (by omega) (by omega) (by omega)
    have c2TB := (z2.mul zT).cmul zB (by omega) (by omega) (by omega)
    refine ⟨_, rfl, _, rfl, _, _, rfl, rfl, cTT, _, rfl, _, rfl, _, _, rfl, rfl, crB, _, rfl, _, _, rfl, rfl, crBB, _, _, rfl, rfl, _, rfl, _, _, rfl, rfl, c2T, _, rfl, _, _, rfl, rfl, c2TB, _, _, rfl, ?_⟩
    have q1 : 1 ≤ T * T := Int.mul_pos hT hT
    have q2 : 0 < r * B := Int.mul_pos (by omega) (by omega)
    have q3 : 0 < r * B * B := Int.mul_pos q2 (by omega)
    have q4 : 0 < 2 * T * B := Int.mul_pos (by omega) (by omega)
    refine ⟨_, _, _, rfl, rfl, by omega, by omega, ?_, ?_⟩
    · show Sz (2 * bt i + 11) _
      exact Sz.mono (Sz.add (n := 10 + bt i + bt i) ((zT.mul zT).mono (by omega)) ((zr.mul zB).mul zB)) (by omega)
    · show Sz (2 * bt i + 11) _
      exact ((z2.mul zT).mul zB).mono (by omega)
  · rintro σ H' ⟨T, B, z, rfl, rfl, hT, hB, zT, zB⟩
    have l1 := bt_le (i := (1 + t).toNat) (by omega)
    have l2 := bt_pos (i := (1 + t).toNat)
    refine ⟨_, rfl, a, _, rfl, p2 _ _ ha, by decide, Sz.mono (n := 10) (by unfold Sz; decide) (by decide), fun t2 _ _ => ⟨rfl, _, rfl, ite2 (fun _ => ?_) (fun _ => ?_)⟩⟩
    · exact ⟨_, rfl, _, rfl, len_ok (Nat.le_of_ble_eq_true rfl), fun q hq => k ⟨T, 0, 0, B⟩ q _ ⟨zT.mono (by omega), by unfold Sz; exact Nat.two_pow_pos _, zB.mono (by omega), by show B ≠ 0; omega⟩ rfl rfl (ext_new p2 hq) upd_same⟩
    · exact ⟨_, rfl, _, rfl, _, _, rfl, rfl, zr.cmul zB (by omega) (by omega) (by omega), _, rfl, len_ok (Nat.le_of_ble_eq_true rfl), fun q hq => k ⟨r * B, 0, 0, T⟩ q _ ⟨(zr.mul zB).mono (by omega), by unfold Sz; exact Nat.two_pow_pos _, zT.mono (by omega), by show T ≠ 0; omega⟩ rfl rfl (ext_new p2 hq) upd_same⟩
end
end My
namespace My
open PySem PySem.Spec PyProof.Rows L2
local macro_rules | `(tactic| walk_at "side") => `(tactic| first | assumption | decide | exact Or.inl ⟨by decide, by decide⟩ | exact Or.inr ⟨by decide, by decide⟩ | exact ⟨by decide, by decide, by decide⟩ | omega | (unfold CMulW; decide +kernel) | (dsimp only; first | assumption | omega | decide +kernel) | exact len_ok (Nat.le_of_ble_eq_true rfl) | fail "side")
local macro_rules | `(tactic| walk_at "rd") => `(tactic| first
  | refine ⟨_, _, _, _, rfl, rfl, SqL.of upd_same, atI_nat (j := 0) rfl, ?_⟩ | refine ⟨_, _, _, _, rfl, rfl, SqL.of upd_same, atI_nat (j := 1) rfl, ?_⟩ | refine ⟨_, _, _, _, rfl, rfl, SqL.of upd_same, atI_nat (j := 2) rfl, ?_⟩
  | refine ⟨_, _, _, _, rfl, rfl, upd_same, rfl, ?_⟩
  | refine ⟨_, _, rfl, rfl, ?_⟩ | refine ⟨_, rfl, ?_⟩ | refine ⟨_, _, rfl, ?_⟩ | refine Or.inl ⟨_, rfl, ?_⟩ | refine Or.inr ⟨_, rfl, ?_⟩ | refine ⟨(by walk_at "side"), ?_⟩ | fail "rd")

structure RowK (k : Nat) (r : Int) (n : Nm) : Prop where
  w : Rw k n
  r1 : n.r = 0 ∨ n.r = r
  r2 : n.r = 0 → n.p = 0
theorem Rw.mono {k j : Nat} {n : Nm} (h : Rw k n) (l : k ≤ j) : Rw j n := ⟨h.t.mono l, h.p.mono l, h.b.mono l, h.b0⟩
theorem RowK.mono {k j : Nat} {r : Int} {n : Nm} (h : RowK k r n) (l : k ≤ j) : RowK j r n := ⟨h.w.mono l, h.r1, h.r2⟩
def RowV (k : Nat) (r : Int) (v : V) (H : Hp) : Prop := ∃ q n, v = .ref q ∧ H q = some (.tup (nt n)) ∧ RowK k r n
theorem RowV.ext {k : Nat} {r : Int} {v : V} {H H' : Hp} (h : RowV k r v H) (e : Ext H H') : RowV k r v H' := let ⟨q, n, a, b, c⟩ := h; ⟨q, n, a, e _ _ b, c⟩
def spLRow : Sp := fun vs H Q _ => ∃ (a : Addr) (r : Int), vs = [.ref a, .int r] ∧ H a = some (DiceO a) ∧ rootOk r = true ∧ ∀ p H' ys, Ext H H' → H' p = some (.lst ys) → ys.length = 7 → (∀ v, v ∈ ys → RowV 700 r v H') → Q (.ref p) H'
section
variable {P : Program} {w : World} {K : PySem.W.Frag} {mg : Str → Option Value} {base : Heap} {C : Addr}
theorem ok_lrow (T : Bn mg) (D : DefAt K mg "_law_row" s_lrow) (F__law_roll : FnAt P w K mg base 1 "_law_roll" ["_law_dice_here", "_law_total"] spRoll) (F__law_pick : FnAt P w K mg base 2 "_law_pick" ["_law_dice_here", "_law_items"] (spPick K))
    (F__law_parts_drawn : FnAt P w K mg base 3 "_law_parts_drawn" ["_law_dice_here", "_law_root"] spLParts) (F__law_near : FnAt P w K mg base 2 "_law_near" ["_law_dice_here", "_law_root"] spLNear) (F__law_mixed : FnAt P w K mg base 2 "_law_mixed" ["_law_dice_here", "_law_items"] (spLMix K)) :
    FnAt P w K mg base 4 "_law_row" ["_law_dice_here", "_law_root"] spLRow := by
  refine fnAt D sc_lrow (fun _ _ _ _ _ _ us hl => match us, hl with | [_, _], _ => rfl) (fun vs H Q E h => ?_) fun f cdv A outer s H vs Q E hr h => ?_
  · obtain ⟨a, r, rfl, _⟩ := h
    rfl
  obtain ⟨a, r, rfl, ha, hr0, k⟩ := h
  have hg := rootOk_ge hr0
  refine ⟨_, (pss_cons (ps_set (i := 2) sc_lrow.nd rfl (Or.inl rfl) (pe_lst (pa_cons (pe_tup (pa_cons pe_int (pa_cons pe_int (pa_cons (pv 1) (pa_cons pe_int pa_nil))))) (pa_cons (callA F__law_near (hr.mono (by decide)) rfl (pa_cons (pv 0) (pa_cons (pv 1) pa_nil))) (pa_cons (callA F__law_near (hr.mono (by decide)) rfl (pa_cons (pv 0) (pa_cons (pv 1) pa_nil))) pa_nil)))))
    (pss_cons (ps_set (i := 2) sc_lrow.nd rfl (Or.inl rfl) (pe_op op_cat (pv 2) (pe_lc (own := [("_law_turn", 3)]) (g := gName 3) (tt := tYes) rfl sc_lrow.nd (pi_range1 (by rfl) T.b_range (pa_cons pe_int pa_nil)) (blkOk_by (N := ["_law_dice_here", "_law_root", "_law_rows", "_law_turn", "_law_top", "_law_part", "_law_side", "_law_bottom", "_law_factor"]) (sc := defScope s_lrow) (by decide +kernel)) (fun _ _ _ _ _ => pg_name (i := 3) sc_lrow.nd rfl (Or.inl rfl)) (fun _ _ _ _ _ => pts_nil) (fun _ _ _ _ _ => (callA F__law_parts_drawn (hr.mono (by decide)) rfl (pa_cons (pv 0) (pa_cons (callA F__law_pick (hr.mono (by decide)) rfl (pa_cons (pv 0) (pa_cons (pe_lst (pa_cons (pv 1) (pa_cons (pv 1) (pa_cons pe_int pa_nil)))) pa_nil))) pa_nil)))))))
    (pss_cons (ps_asg (pe_ix ix_list (pv 2) (callA F__law_roll (hr.mono (by decide)) rfl (pa_cons (pv 0) (pa_cons pe_int pa_nil))) (fun _ _ => rfl)) (pg_tup (by rfl) (pgs_cons (pg_name (i := 4) sc_lrow.nd rfl (Or.inl rfl)) (pgs_cons (pg_name (i := 5) sc_lrow.nd rfl (Or.inl rfl)) (pgs_cons (pg_name (i := 6) sc_lrow.nd rfl (Or.inl rfl)) (pgs_cons (pg_name (i := 7) sc_lrow.nd rfl (Or.inl rfl)) pgs_nil))))))
    (pss_cons (ps_set (i := 8) sc_lrow.nd rfl (Or.inl rfl) (callA F__law_pick (hr.mono (by decide)) rfl (pa_cons (pv 0) (pa_cons (pe_lst (pa_cons pe_int (pa_cons (pe_un un_neg pe_int) (pa_cons (pe_op op_pow pe_int pe_int) pa_nil)))) pa_nil))))
    (pss_one (ps_ret (callA F__law_mixed (hr.mono (by decide)) rfl (pa_cons (pv 0) (pa_cons (pe_op op_cat (pv 2) (pe_lst (pa_cons (pe_tup (pa_cons (pe_op op_mulW (pv 4) (pv 8)) (pa_cons (pe_op op_mulW (pv 5) (pv 8)) (pa_cons (pv 6) (pa_cons (pe_op op_mulW (pv 7) (pv 8)) pa_nil))))) pa_nil))) pa_nil))))))))), ?_⟩
  refine ⟨_, rfl, len_ok (Nat.le_of_ble_eq_true rfl), fun q0 hq0 => ?_⟩
  have E0' := ext_new (o := .tup (nt ⟨0, 1, r, 1⟩)) (ext_refl H) hq0
  have h0 : RowV 600 r (.ref q0) (upd H q0 (.tup (nt ⟨0, 1, r, 1⟩))) := ⟨q0, ⟨0, 1, r, 1⟩, rfl, upd_same, ⟨by unfold Sz; exact Nat.two_pow_pos _, by unfold Sz; exact Nat.one_lt_two_pow (by decide), by unfold Sz; exact Nat.one_lt_two_pow (by decide), (by decide : (1 : Int) ≠ 0)⟩, .inr rfl, fun z => by have : r = 0 := z; omega⟩
  refine ⟨_, rfl, _, rfl, a, r, rfl, E0' _ _ ha, hr0, fun n1 q1 H1 w1 z1 z1' e1 h1 => ?_⟩
  have E1 := E0'.trans e1
  refine ⟨_, rfl, _, rfl, a, r, rfl, E1 _ _ ha, hr0, fun n2 q2 H2 w2 z2 z2' e2 h2 => ⟨len_ok (Nat.le_of_ble_eq_true rfl), fun L hL => ?_⟩⟩
  have X2 := ext_new (o := .lst [.ref q0, .ref q1, .ref q2]) (ext_refl H2) hL
  have E2 := (E1.trans e2).trans X2
  have v0 := h0.ext ((e1.trans e2).trans X2)
  have v1 : RowV 600 r (.ref q1) _ := RowV.ext (H := H1) ⟨q1, n1, rfl, h1, w1, .inl z1, fun _ => z1'⟩ (e2.trans X2)
  have v2 : RowV 600 r (.ref q2) _ := RowV.ext (H := H2) ⟨q2, n2, rfl, h2, w2, .inl z2, fun _ => z2'⟩ X2
  -- three more
  refine ⟨_, rfl, _, rfl, by decide, by decide, fun D0 hD0 => made_range (fun (acc : List V) (H : Hp) => ∀ v, v ∈ acc → RowV 600 r v H) ?_ hD0 (by decide) (fun _ => rfl) (fun _ v hv => by cases hv) (fun i H' acc hi e hl pv Q' k' => ?_) (fun H3 acc e3 hD1 hl pv => ?_)⟩
  · rintro acc H H' p ⟨l, hl⟩ kp v hv
    obtain ⟨q, n, rfl, hq, ok⟩ := p v hv
    exact ⟨q, n, rfl, kp _ _ hq (fun z => by rw [z, hl] at hq; cases hq), ok⟩
  · refine ⟨_, rfl, _, rfl, _, rfl, _, rfl, len_ok (Nat.le_of_ble_eq_true rfl), fun p1 hp1 => ?_⟩
    have X1 := ext_new (o := .lst [.int r, .int r, .int 0]) (ext_refl H') hp1
    have ha' := X1 _ _ (e _ _ (E2 _ _ ha))
    refine ⟨a, p1, _, rfl, ha', SqL.of upd_same, by simp, Nat.le_of_ble_eq_true rfl, fun x hx => ?_⟩
    obtain ⟨r', rfl, hr'⟩ : ∃ r' : Int, x = .int r' ∧ (r' = 0 ∨ r' = r) := by
      simp only [List.mem_cons, List.not_mem_nil, or_false] at hx
      rcases hx with rfl | rfl | rfl
      · exact ⟨_, rfl, .inr rfl⟩
      · exact ⟨_, rfl, .inr rfl⟩
      · exact ⟨_, rfl, .inl rfl⟩
    refine ⟨a, r', rfl, ha', fun n q H'' w1 w2 w3 e' hq => k' (.ref q) H'' (X1.trans e') fun v hv => ?_⟩
    rcases List.mem_append.mp hv with hv | hv
    · exact (pv v hv).ext (X1.trans e')
    · obtain rfl := List.mem_singleton.mp hv
      exact ⟨q, n, rfl, hq, w1.mono (by decide), by rw [w2]; exact hr', by rw [w2]; exact w3⟩
  have E3 := E2.trans e3
  have hL3 := e3 L _ upd_same
  refine ⟨L, D0, _, _, rfl, rfl, hL3, hD1, by rw [hl]; exact len_ok (Nat.le_of_ble_eq_true rfl), fun R hR => ?_⟩
  have X4 := ext_new (o := .lst ([.ref q0, .ref q1, .ref q2] ++ acc)) (ext_refl H3) hR
  have E4 := E3.trans X4
  have hl6 : ([.ref q0, .ref q1, .ref q2] ++ acc : List V).length = 6 := by rw [List.length_append, hl]; rfl
  have all6 : ∀ v, v ∈ ([.ref q0, .ref q1, .ref q2] ++ acc : List V) → RowV 600 r v (upd H3 R (.lst ([.ref q0, .ref q1, .ref q2] ++ acc))) := fun v hv => by
    rcases List.mem_append.mp hv with hv | hv
    · simp only [List.mem_cons, List.not_mem_nil, or_false] at hv
      rcases hv with rfl | rfl | rfl
      · exact v0.ext (e3.trans X4)
      · exact v1.ext (e3.trans X4)
      · exact v2.ext (e3.trans X4)
    · exact (pv v hv).ext X4
  have hR4 : (upd H3 R (.lst ([.ref q0, .ref q1, .ref q2] ++ acc))) R = some (.lst ([.ref q0, .ref q1, .ref q2] ++ acc)) := upd_same
  generalize hH4 : upd H3 R (.lst ([.ref q0, .ref q1, .ref q2] ++ acc)) = H4 at *
  generalize hrows : ([.ref q0, .ref q1, .ref q2] ++ acc : List V) = rows at *
  refine ⟨_, rfl, _, rfl, a, _, rfl, E4 _ _ ha, by decide, Sz.mono (n := 10) (by unfold Sz; decide) (by decide), fun j j0 j1 => ?_⟩
  obtain ⟨j, rfl⟩ : ∃ i : Nat, j = (i : Int) := ⟨j.toNat, by omega⟩
  have hj : j < rows.length := by omega
  obtain ⟨q, n, hv, hq, ok⟩ := all6 rows[j] (List.getElem_mem hj)
  have at_ := List.getElem?_eq_getElem hj
  rw [hv] at at_
  refine ⟨R, rows, j, .ref q, rfl, rfl, SqL.of hR4, atI_nat at_, q, _, rfl, SqT.of hq, rfl, _, _, rfl, _, _, rfl, _, _, rfl, _, _, rfl, rfl, ?_⟩
  refine ⟨_, rfl, ?_⟩
  repeat' (walk_at "rd")
  intro p5 hp5
  have X5 := ext_new (o := .lst [.int 2, .int (-3), .int (10 ^ 20)]) (ext_refl H4) hp5
  have E5 := E4.trans X5
  refine ⟨a, p5, [.int 2, .int (-3), .int (10 ^ 20)], rfl, E5 _ _ ha, SqL.of upd_same, by simp, Nat.le_of_ble_eq_true rfl, fun x hx => ?_⟩
  obtain ⟨c, rfl, c0, zc⟩ : ∃ c : Int, x = .int c ∧ c ≠ 0 ∧ Sz 67 c := by
    simp only [List.mem_cons, List.not_mem_nil, or_false] at hx
    rcases hx with rfl | rfl | rfl
    · exact ⟨_, rfl, by decide, by unfold Sz; decide +kernel⟩
    · exact ⟨_, rfl, by decide, by unfold Sz; decide +kernel⟩
    · exact ⟨_, rfl, by decide +kernel, by unfold Sz; decide +kernel⟩
  have w := ok.w
  refine ⟨_, rfl, _, rfl, _, rfl, _, rfl, _, _, rfl, rfl, w.t.cmul zc (by decide) (by decide) (by decide), _, rfl, _, rfl, _, _, rfl, rfl, w.p.cmul zc (by decide) (by decide) (by decide), _, rfl, _, rfl, _, rfl, _, _, rfl, rfl, w.b.cmul zc (by decide) (by decide) (by decide), len_ok (Nat.le_of_ble_eq_true rfl), fun q6 hq6 => ⟨len_ok (Nat.le_of_ble_eq_true rfl), fun L7 hL7 => ?_⟩⟩
  have X6 := ext_new (o := .tup (nt ⟨n.t * c, n.p * c, n.r, n.b * c⟩)) X5 hq6
  have X7 := ext_new (o := .lst [.ref q6]) X6 hL7
  have v6 : RowV 700 r (.ref q6) (upd (upd (upd H4 p5 (.lst [.int 2, .int (-3), .int (10 ^ 20)])) q6 (.tup (nt ⟨n.t * c, n.p * c, n.r, n.b * c⟩))) L7 (.lst [.ref q6])) :=
    ⟨q6, ⟨n.t * c, n.p * c, n.r, n.b * c⟩, rfl, (ext_new (o := .lst [.ref q6]) (ext_refl _) hL7) _ _ upd_same, ⟨Sz.mono (n := 667) (Sz.mul (n := 600) (m := 67) w.t zc) (by decide), Sz.mono (n := 667) (Sz.mul (n := 600) (m := 67) w.p zc) (by decide), Sz.mono (n := 667) (Sz.mul (n := 600) (m := 67) w.b zc) (by decide), Int.mul_ne_zero w.b0 c0⟩, ok.r1, fun z => by show n.p * c = 0; rw [ok.r2 z, Int.zero_mul]⟩
  refine ⟨R, L7, rows, [.ref q6], rfl, rfl, X7 _ _ hR4, upd_same, by rw [hl6]; exact len_ok (Nat.le_of_ble_eq_true rfl), fun M hM => ?_⟩
  have X8 := ext_new (o := .lst (rows ++ [.ref q6])) X7 hM
  have Y8 := ext_new (o := .lst (rows ++ [.ref q6])) (ext_refl _) hM
  refine ⟨a, M, rows ++ [.ref q6], rfl, (E4.trans X8) _ _ ha, SqL.of upd_same, by rw [List.length_append, hl6]; exact Nat.le_of_ble_eq_true rfl, fun p H' ys e hp hlen hmem => k p H' ys (E4.trans (X8.trans e)) hp (by rw [hlen, List.length_append, hl6]; rfl) fun v hv => ?_⟩
  rcases List.mem_append.mp (hmem v hv) with hv | hv
  · obtain ⟨q', n', a', b', c'⟩ := (all6 v hv).ext (X8.trans e)
    exact ⟨q', n', a', b', c'.mono (by decide)⟩
  · rw [List.mem_singleton.mp hv]
    exact v6.ext (Y8.trans e)
end
end My
namespace My
open PySem PySem.Spec PyProof.Rows L2
local macro_rules | `(tactic| walk_at "side") => `(tactic| first | assumption | decide | exact Or.inl ⟨by decide, by decide⟩ | exact Or.inr ⟨by decide, by decide⟩ | exact ⟨by decide, by decide, by decide⟩ | omega | (unfold CMulW; decide +kernel) | (dsimp only; first | assumption | omega | decide +kernel) | exact len_ok (Nat.le_of_ble_eq_true rfl) | fail "side")
local macro_rules | `(tactic| walk_at "rd") => `(tactic| first
  | refine ⟨_, _, _, _, rfl, rfl, SqL.of upd_same, atI_nat (j := 0) rfl, ?_⟩ | refine ⟨_, _, _, _, rfl, rfl, SqL.of upd_same, atI_nat (j := 1) rfl, ?_⟩ | refine ⟨_, _, _, _, rfl, rfl, SqL.of upd_same, atI_nat (j := 2) rfl, ?_⟩
  | refine ⟨_, _, _, _, rfl, rfl, upd_same, rfl, ?_⟩
  | refine ⟨_, _, rfl, rfl, ?_⟩ | refine ⟨_, rfl, ?_⟩ | refine ⟨_, _, rfl, ?_⟩ | refine Or.inl ⟨_, rfl, ?_⟩ | refine Or.inr ⟨_, rfl, ?_⟩ | refine ⟨(by walk_at "side"), ?_⟩ | fail "rd")

abbrev s_lright : Stmt := top 38
theorem sc_lright : FnScope ["_law_dice_here", "_law_root", "_law_rows", "_law_numbers", "_law_row_here", "_law_at", "_law_to", "_law_sign_here", "_law_number", "_law_whole", "_law_floor", "_law_odd", "_law_value"] ["_law_dice_here"] (defScope s_lright) := ⟨rfl, rfl, rfl, by decide +kernel, rfl, by decide +kernel, by decide +kernel⟩
/-! ### method calls; == and != of a number with anything; str of one -/
section
variable {X : Cx} {k : Nat} {C : Addr} {x : Str} {ps : List Str} {sp : Sp} {p pos apos : Pos} {e o : Expr} {es : List Expr} {t : TA} {to : TE}
theorem methA {pl : Sem Bool} (F : MethAt X.prog X.w X.K X.mg X.base k C x ps sp) (c : Cls X.K C) (hr : Room k X.A) (he : PE X o to) (ha : PA X (e :: es) t)
    (hst : starEach (e :: es) X.env = (false, eval e X.env) :: starEach es X.env := by rfl) (hpl : (backTo pos (starEach es X.env)).any (·.1) = false := by rfl)
    (ht : eval (.Call (.Attribute o x apos) (e :: es) [] pos) X.env = (do
      let ov ← eval o X.env
      standAt apos.atName
      let (f, first) ← holding [ov] (getMethod ov x pl)
      callWith pos f first (backTo pos (starEach (e :: es) X.env)) (backToKw pos (keywordEach [] X.env))) := by rfl) :
    PE X (.Call (.Attribute o x apos) (e :: es) [] pos) (tMeth C x sp [] E0 to t) := by
  obtain ⟨f, fd, hm, hb, G⟩ := F.ex
  exact pe_meth he c hm G hr hb .nil pass0 ha hst hpl ht
structure NeAt (P : Program) (w : World) (K : PySem.W.Frag) (mg : Str → Option Value) (base : Heap) (k : Nat) (C : Addr) (sp : Sp) : Prop where
  ex : ∃ (f : Addr) (fd : FuncData), NeK K C f ∧ Binds K fd ["self", "other"] [] ∧ FnOk P w K mg base CX0 k f fd ["self", "other"] sp
theorem neA (F : NeAt X.prog X.w X.K X.mg X.base k C sp) (hr : Room (k + 1) X.A) : OpR X (compareOp .NotEq) (rOwnNe C sp E0) := by
  obtain ⟨f, fd, T, hb, G⟩ := F.ex
  exact op_ownNe T G hr hb pass0
theorem neAA (F : NeAt X.prog X.w X.K X.mg X.base k C sp) (hr : Room (k + 1) X.A) : OpR X (compareOp .NotEq) (rOwnNeA X.K C sp E0) := by
  obtain ⟨f, fd, T, hb, G⟩ := F.ex
  exact op_ownNeA T G hr hb pass0
theorem eqAA (F : SpAt X.prog X.w X.K X.mg X.base k C "__eq__" ["self", "other"] sp) (hr : Room k X.A) : OpR X (compareOp .Eq) (rOwnEqA X.K C sp E0) := by
  obtain ⟨f, fd, hs, hf, hb, G⟩ := F.ex
  exact op_ownEqA hs hf G hr hb pass0
theorem strA (F : SpAt X.prog X.w X.K X.mg X.base k C "__str__" ["self"] sp) (hr : Room (k + 2) X.A) : CallR X (.type "str") (rStrOwn C sp E0) := by
  obtain ⟨f, fd, hs, hf, hb, G⟩ := F.ex
  exact call_strOwn hs hf G hr hb pass0
end
def spEqA (K : PySem.W.Frag) (C : Addr) : Sp := fun vs H Q _ => ∃ a y t n, vs = [.ref a, y] ∧ NumAt C H a n ∧ TyX K H y t ∧ PySem.W.kitOne K t (.ref C) = some false ∧ Q (.bl false) H
/-- the kinds that a number is held against -/
structure OddT (K : PySem.W.Frag) (C : Addr) : Prop where
  f0 : PySem.W.notFirst K C (.type "NoneType") = true
  f1 : PySem.W.notFirst K C (.type "int") = true
  f2 : PySem.W.notFirst K C (.type "bool") = true
  f3 : PySem.W.notFirst K C (.type "str") = true
  f4 : PySem.W.notFirst K C (.type "tuple") = true
  f5 : PySem.W.notFirst K C (.type "list") = true
  f6 : PySem.W.notFirst K C (.type "dict") = true
  k0 : PySem.W.kitOne K (.type "NoneType") (.ref C) = some false
  k1 : PySem.W.kitOne K (.type "int") (.ref C) = some false
  k2 : PySem.W.kitOne K (.type "bool") (.ref C) = some false
  k3 : PySem.W.kitOne K (.type "str") (.ref C) = some false
  k4 : PySem.W.kitOne K (.type "tuple") (.ref C) = some false
  k5 : PySem.W.kitOne K (.type "list") (.ref C) = some false
  k6 : PySem.W.kitOne K (.type "dict") (.ref C) = some false
def OddV (K : PySem.W.Frag) (C : Addr) (H : Hp) (x : V) : Prop := ∃ t, TyX K H x t ∧ PySem.W.notFirst K C t = true ∧ PySem.W.kitOne K t (.ref C) = some false
theorem eq_r {C a b : Addr} {H : Hp} {n m : Nm} {Q : VK} (h1 : NumAt C H a n) (h2 : NumAt C H b m) (k : Q (.bl (decide (n = m))) H) : rOwnEq C (spEqN C) E0 (.ref a) (.ref b) H Q := by
  have h1' := h1
  have h2' := h2
  obtain ⟨dx, q1⟩ := h1'
  obtain ⟨dy, q2⟩ := h2'
  exact ⟨a, dx, _, b, dy, _, rfl, q1, rfl, q2, a, b, n, m, rfl, h1, h2, k⟩
theorem ne_r {C a b : Addr} {H : Hp} {n m : Nm} {Q : VK} (h1 : NumAt C H a n) (h2 : NumAt C H b m) (k : Q (.bl (!decide (n = m))) H) : rOwnNe C (spEqN C) E0 (.ref a) (.ref b) H Q := by
  have h1' := h1
  have h2' := h2
  obtain ⟨dx, q1⟩ := h1'
  obtain ⟨dy, q2⟩ := h2'
  exact ⟨a, dx, _, b, dy, _, rfl, q1, rfl, q2, a, b, n, m, rfl, h1, h2, _, rfl, k⟩
theorem bin_use {C a : Addr} {H : Hp} {v : V} {n m : Nm} {g : Nm → Nm → Nm} {Q : VK} (hn : NumAt C H a n) (hv : Opd C H v m) (gn : Good 2000 n) (gm : Good 2000 m) (o : OneRoot n m) (k : ∀ x H', Ext H H' → NumAt C H' x (g n m) → Q (.ref x) H') :
    ∃ a' dx fs, V.ref a = .ref a' ∧ H a' = some (.ins C dx fs) ∧ ((∃ i, v = .int i) ∨ ∃ b dy gs, v = .ref b ∧ H b = some (.ins C dy gs)) ∧ spBin C g [.ref a', v] H Q E0 := by
  have hn' := hn
  obtain ⟨dx, e⟩ := hn'
  refine ⟨a, dx, _, rfl, e, ?_, a, v, n, m, rfl, hn, hv, gn, gm, o, k⟩
  rcases hv with ⟨b, rfl, dy, hb⟩ | ⟨i, rfl, _⟩
  · exact .inr ⟨b, dy, _, rfl, hb⟩
  · exact .inl ⟨i, rfl⟩
def spLRight : Sp := fun vs H Q _ => ∃ a : Addr, vs = [.ref a] ∧ H a = some (DiceO a) ∧ ∀ H', Ext H H' → Q (.bl true) H'
theorem sgn_log {t p r : Int} : (sgn t p r).natAbs.log2 < 1920 := by
  have h : sgn t p r = 0 ∨ sgn t p r = 1 ∨ sgn t p r = -1 := by
    unfold sgn
    split
    · exact sgI_cases _
    · split <;> exact sgI_cases _
  rcases h with h | h | h <;> rw [h] <;> decide
theorem RowK.nu {k : Nat} {r : Int} {n : Nm} (h : RowK k r n) (hr : rootOk r = true) : validN n.t n.p n.r n.b = true ∧ Good k (lst n.t n.p n.r n.b) ∧ Rt r (lst n.t n.p n.r n.b) := by
  have v : validN n.t n.p n.r n.b = true := by
    refine valid_of h.w.b0 ?_
    by_cases z : n.r = 0
    · exact .inl ⟨z, h.r2 z⟩
    · right
      rw [h.r1.resolve_left z]
      exact hr
  exact ⟨v, lst_good v h.w.t h.w.p h.w.b, rt_lst h.w.b0 fun hp => h.r1.resolve_left fun z => hp (h.r2 z)⟩
theorem good_int {k : Nat} {i : Int} (hk : 0 < k) (h : Sz k i) : Good k ⟨i, 0, 0, 1⟩ := ⟨h, by unfold Sz; exact Nat.two_pow_pos _, by unfold Sz; exact Nat.one_lt_two_pow (by omega), Int.le_refl 1, by unfold com; simp, .inl ⟨rfl, rfl⟩⟩
theorem lst_int {i : Int} : lst i 0 0 1 = ⟨i, 0, 0, 1⟩ := by
  have h : Sz (i.natAbs + 1) i := by unfold Sz; exact Nat.lt_of_lt_of_le Nat.lt_two_pow_self (Nat.pow_le_pow_right (by decide) (by omega))
  exact lst_self (good_int (by omega) h)
def PvN (C : Addr) (r : Int) (rows : List V) (H1 : Hp) (acc : List V) (H : Hp) : Prop := ∀ (j : Nat) (v : V), acc[j]? = some v → ∃ (x q : Addr) (n : Nm), v = .ref x ∧ rows[j]? = some (.ref q) ∧ H1 q = some (.tup (nt n)) ∧ RowK 700 r n ∧ NumAt C H x (lst n.t n.p n.r n.b)
theorem pv_snoc {α : Type} {R : Nat → α → Prop} {acc : List α} {y : α} {i : Nat} (hl : acc.length = i) (old : ∀ j v, acc[j]? = some v → R j v) (new : R i y) : ∀ j v, (acc ++ [y])[j]? = some v → R j v := fun j v h => by
  rw [List.getElem?_append] at h
  split at h
  · exact old j v h
  · have : j = i := by
      have hj : j - acc.length < 1 := by
        have := (List.getElem?_eq_some_iff.mp h).1
        simpa using this
      omega
    subst this
    rw [hl, Nat.sub_self] at h
    cases h
    exact new
section
variable {P : Program} {w : World} {K : PySem.W.Frag} {mg : Str → Option Value} {base : Heap} {C : Addr}
theorem ok_neqA (T : Bn mg) (D : SpT K C "__eq__" "Number.__eq__" s_neq) (NC : NumT K mg C) : SpAt P w K mg base 1 C "__eq__" ["self", "other"] (spEqA K C) := by
  refine spAt D sc_neq (fun _ _ _ _ _ _ us hl => match us, hl with | [_, _], _ => rfl) (fun vs H Q E h => ?_) fun f cdv A outer s H vs Q E hr h => ?_
  · obtain ⟨a, y, t, n, rfl, _⟩ := h
    rfl
  obtain ⟨a, y, t, n, rfl, hn, ty, hk, k⟩ := h
  exact ⟨_, (pss_one (ps_ret (pe_and (pe_callB call_isi (by rfl) T.b_isinstance (by decide +kernel) (pa_cons (pv 1) (pa_cons (pe_glob (v := .ref C) rfl NC.g rfl) pa_nil))) (pe_and (pe_cmpR op_eq (pe_fld (pv 0) rfl) (pe_fld (pv 1) rfl) (nomark _)) (pe_and (pe_cmpR op_eq (pe_fld (pv 0) rfl) (pe_fld (pv 1) rfl) (nomark _)) (pe_and (pe_cmpR op_eq (pe_fld (pv 0) rfl) (pe_fld (pv 1) rfl) (nomark _)) (pe_one (pe_cmpR op_eq (pe_fld (pv 0) rfl) (pe_fld (pv 1) rfl) (nomark _))))))))), _, rfl, _, _, _, _, false, rfl, .own C, ty, hk, _, rfl, iteF k⟩
theorem ok_lright (T : Bn mg) (D : DefAt K mg "_law_right" s_lright) (NC : NumT K mg C) (OT : OddT K C) (F_init : InitAt P w K mg base 3 C (spInit C)) (F__law_roll : FnAt P w K mg base 1 "_law_roll" ["_law_dice_here", "_law_total"] spRoll) (F__law_pick : FnAt P w K mg base 2 "_law_pick" ["_law_dice_here", "_law_items"] (spPick K))
    (F__law_row : FnAt P w K mg base 4 "_law_row" ["_law_dice_here", "_law_root"] spLRow) (F__law_made : FnAt P w K mg base 5 "_law_made" ["_law_parts"] (spLMade K C)) (F__law_beside : FnAt P w K mg base 2 "_law_beside" ["_law_one", "_law_other", "_law_root"] (spLBes K))
    (O_sub : OpAt P w K mg base 7 C .Sub (spBin C subN)) (M_compared : MethAt P w K mg base 7 C "compared" ["self", "other"] (spCmp C)) (S_ne : NeAt P w K mg base 1 C (spEqN C)) (S_eq : SpAt P w K mg base 1 C "__eq__" ["self", "other"] (spEqN C))
    (S_neA : NeAt P w K mg base 1 C (spEqA K C)) (S_eqA : SpAt P w K mg base 1 C "__eq__" ["self", "other"] (spEqA K C)) (S_str : SpAt P w K mg base 3 C "__str__" ["self"] (spStrN C))
    (F_sign : PropAt P w K mg base 3 C "sign" (spPropE C 5000 fun n => .int (sgn n.t n.p n.r))) (F_floor : PropAt P w K mg base 3 C "floor" (spPropE C 5000 fun n => .int ((n.t + flr n.p n.r).fdiv n.b))) :
    FnAt P w K mg base 9 "_law_right" ["_law_dice_here"] spLRight := by
  refine fnAt D sc_lright (fun _ _ _ _ _ _ us hl => match us, hl with | [_], _ => rfl) (fun vs H Q E h => ?_) fun f cdv A outer s H vs Q E hr h => ?_
  · obtain ⟨a, rfl, _⟩ := h
    rfl
  obtain ⟨a, rfl, ha, k⟩ := h
  refine ⟨_, (pss_cons (ps_set (i := 1) sc_lright.nd rfl (Or.inl rfl) (callA F__law_pick (hr.mono (by decide)) rfl (pa_cons (pv 0) (pa_cons (pe_lst (pa_cons pe_int (pa_cons pe_int (pa_cons pe_int (pa_cons pe_int (pa_cons pe_int (pa_cons pe_int pa_nil))))))) pa_nil))))
    (pss_cons (ps_set (i := 2) sc_lright.nd rfl (Or.inl rfl) (callA F__law_row (hr.mono (by decide)) rfl (pa_cons (pv 0) (pa_cons (pv 1) pa_nil))))
    (pss_cons (ps_setLc (i := 3) (own := [("_law_row_here", 4)]) (g := gName 4) (tt := tYes) rfl sc_lright.nd rfl rfl (sw_true rfl rfl rfl (by decide +kernel)) (pi_list (pv 2)) (blkOk_by (N := ["_law_dice_here", "_law_root", "_law_rows", "_law_numbers", "_law_row_here", "_law_at", "_law_to", "_law_sign_here", "_law_number", "_law_whole", "_law_floor", "_law_odd", "_law_value"]) (sc := defScope s_lright) (by decide +kernel)) (fun _ _ _ _ _ => pg_name (i := 4) sc_lright.nd rfl (Or.inl rfl)) (fun _ _ _ _ _ => pts_nil) (fun _ _ _ _ _ => (callA F__law_made (hr.mono (by decide)) rfl (pa_cons (pv 4) pa_nil))))
    (pss_cons (ps_for PassesOwn.never rfl (pi_range1 (by rfl) T.b_range (pa_cons (pe_callB call_len_seq (by rfl) T.b_len (by decide +kernel) (pa_cons (pv 2) pa_nil)) pa_nil)) (pg_name (i := 5) sc_lright.nd rfl (Or.inl rfl))
      (pss_one (ps_for PassesOwn.never rfl (pi_range1 (by rfl) T.b_range (pa_cons (pe_callB call_len_seq (by rfl) T.b_len (by decide +kernel) (pa_cons (pv 2) pa_nil)) pa_nil)) (pg_name (i := 6) sc_lright.nd rfl (Or.inl rfl))
      (pss_cons (ps_set (i := 7) sc_lright.nd rfl (Or.inl rfl) (callA F__law_beside (hr.mono (by decide)) rfl (pa_cons (pe_ix ix_list (pv 2) (pv 5) (fun _ _ => rfl)) (pa_cons (pe_ix ix_list (pv 2) (pv 6) (fun _ _ => rfl)) (pa_cons (pv 1) pa_nil)))))
    (pss_cons (ps_if (PW.pt (pw_or (pt_cmpR op_ne (pe_callB SkE.call_repr_int (by rfl) T.b_repr (by decide +kernel) (pa_cons (methA M_compared NC.cl (hr.mono (by decide)) (pe_ix ix_list (pv 3) (pv 5) (fun _ _ => rfl)) (pa_cons (pe_ix ix_list (pv 3) (pv 6) (fun _ _ => rfl)) pa_nil)) pa_nil)) (pe_callB SkE.call_repr_int (by rfl) T.b_repr (by decide +kernel) (pa_cons (pv 7) pa_nil)) (nomark _)) (pw_or1 (pt_cmpR op_ne (pe_cmpR (eqA S_eq (hr.mono (by decide))) (pe_ix ix_list (pv 3) (pv 5) (fun _ _ => rfl)) (pe_ix ix_list (pv 3) (pv 6) (fun _ _ => rfl)) (nomark _)) (pe_cmpR op_eq (pv 7) pe_int (nomark _)) (nomark _))))) (pss_one (ps_ret pe_bl)) pss_nil)
    (pss_one (ps_if (PW.pt (pw_or (pt_cmpR op_eq (pe_cmpR (neA S_ne (hr.mono (by decide))) (pe_ix ix_list (pv 3) (pv 5) (fun _ _ => rfl)) (pe_ix ix_list (pv 3) (pv 6) (fun _ _ => rfl)) (nomark _)) (pe_cmpR op_eq (pv 7) pe_int (nomark _)) (nomark _)) (pw_or1 (pt_cmpR op_ne (propA F_sign NC.cl (hr.mono (by decide)) (pe_op (opA O_sub (hr.mono (by decide))) (pe_ix ix_list (pv 3) (pv 5) (fun _ _ => rfl)) (pe_ix ix_list (pv 3) (pv 6) (fun _ _ => rfl)))) (pv 7) (nomark _))))) (pss_one (ps_ret pe_bl)) pss_nil)))))))
    (pss_cons (ps_asg (pe_tup (pa_cons (pe_ix ix_list (pv 3) pe_int (fun _ _ => rfl)) (pa_cons (pe_op op_sub (callA F__law_roll (hr.mono (by decide)) rfl (pa_cons (pv 0) (pa_cons pe_int pa_nil))) pe_int) pa_nil))) (pg_tup (by rfl) (pgs_cons (pg_name (i := 8) sc_lright.nd rfl (Or.inr rfl)) (pgs_cons (pg_name (i := 9) sc_lright.nd rfl (Or.inl rfl)) pgs_nil))))
    (pss_cons (ps_set (i := 7) sc_lright.nd rfl (Or.inl rfl) (callA F__law_beside (hr.mono (by decide)) rfl (pa_cons (pe_ix ix_list (pv 2) pe_int (fun _ _ => rfl)) (pa_cons (pe_tup (pa_cons (pv 9) (pa_cons pe_int (pa_cons pe_int (pa_cons pe_int pa_nil))))) (pa_cons (pv 1) pa_nil)))))
    (pss_cons (ps_if (PW.pt (pw_or (pt_cmpR op_ne (pe_callB SkE.call_repr_int (by rfl) T.b_repr (by decide +kernel) (pa_cons (methA M_compared NC.cl (hr.mono (by decide)) (pv 8) (pa_cons (pv 9) pa_nil)) pa_nil)) (pe_callB SkE.call_repr_int (by rfl) T.b_repr (by decide +kernel) (pa_cons (pv 7) pa_nil)) (nomark _)) (pw_or1 (pt_cmpR op_ne (methA M_compared NC.cl (hr.mono (by decide)) (pv 8) (pa_cons (mk1A F_init NC.g (hr.mono (by decide)) rfl (pa_cons (pv 9) pa_nil)) pa_nil)) (pv 7) (nomark _))))) (pss_one (ps_ret pe_bl)) pss_nil)
    (pss_cons (ps_set (i := 10) sc_lright.nd rfl (Or.inl rfl) (propA F_floor NC.cl (hr.mono (by decide)) (pv 8)))
    (pss_cons (ps_if (PW.pt (pw_or (pt_cmpR op_lt (methA M_compared NC.cl (hr.mono (by decide)) (pv 8) (pa_cons (pv 10) pa_nil)) pe_int (nomark _)) (pw_or (pt_cmpR op_ge (methA M_compared NC.cl (hr.mono (by decide)) (pv 8) (pa_cons (pe_op op_add (pv 10) pe_int) pa_nil)) pe_int (nomark _)) (pw_or1 (pt_cmpR op_ne (methA M_compared NC.cl (hr.mono (by decide)) (pv 8) (pa_cons pe_int pa_nil)) (propA F_sign NC.cl (hr.mono (by decide)) (pv 8)) (nomark _)))))) (pss_one (ps_ret pe_bl)) pss_nil)
    (pss_cons (ps_set (i := 11) sc_lright.nd rfl (Or.inl rfl) (pe_lst (pa_cons pe_non (pa_cons (pv 9) (pa_cons pe_bl (pa_cons pe_str (pa_cons (pe_tup (pa_cons (pv 8) pa_nil)) (pa_cons (pe_lst pa_nil) (pa_cons pe_dnewK (pa_cons (pe_callTy (strA S_str (hr.mono (by decide))) (by rfl) T.b_str (by decide +kernel) (pa_cons (pv 8) pa_nil)) pa_nil))))))))))
    (pss_one (ps_ret (pe_cmpR (op_eqD (hu64 hr)) (pe_lc (own := [("_law_value", 12)]) (g := gName 12) (tt := _) rfl sc_lright.nd (pi_list (pv 11)) (blkOk_by (N := ["_law_dice_here", "_law_root", "_law_rows", "_law_numbers", "_law_row_here", "_law_at", "_law_to", "_law_sign_here", "_law_number", "_law_whole", "_law_floor", "_law_odd", "_law_value"]) (sc := defScope s_lright) (by decide +kernel)) (fun _ _ _ _ _ => pg_name (i := 12) sc_lright.nd rfl (Or.inl rfl)) (fun _ _ _ _ _ => pts_one (PW.pt (pw_or (pt_cmpR (show OpR _ (compareOp .Eq) (rOwnEqA K C (spEqA K C) E0) from eqAA S_eqA (hr.mono (by decide))) (pv 8) (pv 12) (nomark _)) (pw_or1 (pt_not (pt_cmpR (show OpR _ (compareOp .NotEq) (rOwnNeA K C (spEqA K C) E0) from neAA S_neA (hr.mono (by decide))) (pv 8) (pv 12) (nomark _))))))) (fun _ _ _ _ _ => (pv 12))) (pe_lst pa_nil) (nomark _)))))))))))))), ?_⟩
  refine ⟨_, rfl, len_ok (Nat.le_of_ble_eq_true rfl), fun p0 hp0 => ?_⟩
  have E0' := ext_new (o := .lst [.int 2, .int 3, .int 5, .int 6, .int 13, .int 997]) (ext_refl H) hp0
  refine ⟨a, p0, _, rfl, E0' _ _ ha, SqL.of upd_same, by simp, Nat.le_of_ble_eq_true rfl, fun x hx => ?_⟩
  obtain ⟨r, rfl, hr0⟩ : ∃ r : Int, x = .int r ∧ rootOk r = true := by
    simp only [List.mem_cons, List.not_mem_nil, or_false] at hx
    rcases hx with rfl | rfl | rfl | rfl | rfl | rfl
    all_goals exact ⟨_, rfl, by decide +kernel⟩
  have hg := rootOk_ge hr0
  have r0 : 0 ≤ r := by omega
  have zr : Sz 10 r := by unfold Sz; omega
  refine ⟨_, rfl, _, rfl, a, r, rfl, E0' _ _ ha, hr0, fun R H1 rows e1 hR hlen hrow => ?_⟩
  have E1 := E0'.trans e1
  -- numbers
  refine ⟨_, rfl, R, rfl, ⟨_, SqL.of hR⟩, fun D1 hD1 => made_list (PvN C r rows H1) ?_ (SqL.of hR) hD1 (by omega) (fun _ => rfl) (fun _ j v hv => by simp at hv) (fun i x H' acc hi e hl pv Q' k' => ?_) (fun H2 acc e2 hN hl pv => ?_)⟩
  · rintro acc H H' p ⟨l, hl⟩ kp j v hv
    obtain ⟨x, q, n, rfl, hq, hn, ok, dx, hx⟩ := p j v hv
    exact ⟨x, q, n, rfl, hq, hn, ok, dx, kp _ _ hx (fun z => by rw [z, hl] at hx; cases hx)⟩
  · obtain ⟨q, n, rfl, hq, ok⟩ := hrow x (List.mem_of_getElem? hi)
    refine ⟨_, rfl, q, n, rfl, SqT.of (e _ _ hq), ⟨(ok.nu hr0).1, ok.w.b.mono (by decide)⟩, fun x H'' e' hx => k' (.ref x) H'' e' (pv_snoc hl (fun j v hv => ?_) ⟨x, q, n, rfl, hi, hq, ok, hx⟩)⟩
    obtain ⟨x', q', n', rfl, a1, a2, a3, hx'⟩ := pv j v hv
    exact ⟨x', q', n', rfl, a1, a2, a3, hx'.ext e'⟩
  have EB := E1.trans e2
  have hRB := e2 _ _ hR
  have each : ∀ i : Nat, i < 7 → ∃ x q n, acc[i]? = some (.ref x) ∧ rows[i]? = some (.ref q) ∧ NumAt C H2 x (lst n.t n.p n.r n.b) ∧ H2 q = some (.tup (nt n)) ∧ RowK 700 r n := fun i hi => by
    have hlt : i < acc.length := by omega
    obtain ⟨x, q, n, e, a1, a2, a3, hx⟩ := pv i acc[i] (List.getElem?_eq_getElem hlt)
    exact ⟨x, q, n, by rw [List.getElem?_eq_getElem hlt, e], a1, hx, e2 _ _ a2, a3⟩
  -- two by two
  refine ⟨_, rfl, R, _, rfl, .inl (SqL.of hRB), _, rfl, by omega, by omega, for_range (lo := 0) (fun i σ H' => Ext H2 H' ∧ ∃ z1 z2 z3, σ = [some (.ref a), some (.int r), some (.ref R), some (.ref D1), none, z1, z2, z3, none, none, none, none, none]) ⟨ext_refl H2, _, _, _, rfl⟩ ?_ ?_⟩
  · rintro i σ H3 hi ⟨b3, z1, z2, z3, rfl⟩
    refine ⟨_, rfl, R, _, rfl, .inl (SqL.of (b3 _ _ hRB)), _, rfl, by omega, by omega, for_range (lo := 0) (fun j σ H' => Ext H2 H' ∧ ∃ z2 z3, σ = [some (.ref a), some (.int r), some (.ref R), some (.ref D1), none, some (.int (0 + (i : Int))), z2, z3, none, none, none, none, none]) ⟨b3, _, _, rfl⟩ ?_ ?_⟩
    · rintro j σ H4 hj ⟨b4, z2, z3, rfl⟩
      obtain ⟨x, q, n, hx, hq, hxn, hqn, ok⟩ := each i (by omega)
      obtain ⟨y, p, m, hy, hp, hym, hpm, ok'⟩ := each j (by omega)
      have ei : V.int (0 + (i : Int)) = V.int (i : Int) := by rw [Int.zero_add]
      have ej : V.int (0 + (j : Int)) = V.int (j : Int) := by rw [Int.zero_add]
      obtain ⟨_, gN, tN⟩ := ok.nu hr0
      obtain ⟨_, gM, tM⟩ := ok'.nu hr0
      have eb : besN n m r = cmpN (lst n.t n.p n.r n.b) (lst m.t m.p m.r m.b) := (bes_eq ok.w.b0 ok'.w.b0).trans (cmp_eq r0 tN tM).symm
      refine ⟨_, rfl, _, rfl, R, rows, (i : Int), _, rfl, ei, SqL.of (b4 _ _ hRB), atI_nat hq, _, rfl, _, rfl, R, rows, (j : Int), _, rfl, ej, SqL.of (b4 _ _ hRB), atI_nat hp, _, rfl, q, p, n, m, r, rfl, SqT.of (b4 _ _ hqn), SqT.of (b4 _ _ hpm), ok.w.mono (by decide), ok'.w.mono (by decide), r0, zr, fun H5 e5 => ?_⟩
      have b5 := b4.trans e5
      rw [eb]
      have ed : decide (lst n.t n.p n.r n.b = lst m.t m.p m.r m.b) = decide (V.int (cmpN (lst n.t n.p n.r n.b) (lst m.t m.p m.r m.b)) = V.int 0) := by
        rw [e_int, cmp_eq r0 tN tM]
        exact decide_eq_decide.mpr (eq_dif r0 gN gM tN tM)
      have es : sgn (subN (lst n.t n.p n.r n.b) (lst m.t m.p m.r m.b)).t (subN (lst n.t n.p n.r n.b) (lst m.t m.p m.r m.b)).p (subN (lst n.t n.p n.r n.b) (lst m.t m.p m.r m.b)).r = cmpN (lst n.t n.p n.r n.b) (lst m.t m.p m.r m.b) := (sub_dif r0 gN gM tN tM).trans (cmp_eq r0 tN tM).symm
      have lg : (cmpN (lst n.t n.p n.r n.b) (lst m.t m.p m.r m.b)).natAbs.log2 < 1920 := sgn_log
      have gS : Good 5000 (subN (lst n.t n.p n.r n.b) (lst m.t m.p m.r m.b)) := (subN_good gN gM).mono (by decide)
      have one := rt_one tN tM
      generalize lst n.t n.p n.r n.b = N at *
      generalize lst m.t m.p m.r m.b = M at *
      have gN2 : Good 2000 N := gN.mono (by decide)
      have gM2 : Good 2000 M := gM.mono (by decide)
      obtain ⟨dx, kx⟩ := hxn.ext b5
      refine ⟨_, rfl, _, rfl, D1, acc, (i : Int), _, rfl, ei, SqL.of (b5 _ _ hN), atI_nat hx, x, dx, _, rfl, kx, rfl, _, rfl, _, rfl, D1, acc, (j : Int), _, rfl, ej, SqL.of (b5 _ _ hN), atI_nat hy, x, .ref y, N, M, rfl, ⟨dx, kx⟩, .inl ⟨y, rfl, hym.ext b5⟩, gN2, gM2, one, fun H6 e6 => ⟨_, rfl, lg, _, rfl, _, rfl, lg, rfl, _, rfl, ite2 (fun h => by simp at h) (fun _ => ?_)⟩⟩
      have b6 := b5.trans e6
      refine ⟨_, rfl, _, rfl, D1, acc, (i : Int), _, rfl, ei, SqL.of (b6 _ _ hN), atI_nat hx, _, rfl, _, rfl, D1, acc, (j : Int), _, rfl, ej, SqL.of (b6 _ _ hN), atI_nat hy, ?_⟩
      refine eq_r (hxn.ext b6) (hym.ext b6) ?_
      refine ⟨_, rfl, rfl, rfl, _, rfl, ite2 (fun h => by rw [ed] at h; simp at h) (fun _ => ?_)⟩
      refine ⟨_, rfl, _, rfl, D1, acc, (i : Int), _, rfl, ei, SqL.of (b6 _ _ hN), atI_nat hx, _, rfl, _, rfl, D1, acc, (j : Int), _, rfl, ej, SqL.of (b6 _ _ hN), atI_nat hy, ?_⟩
      refine ne_r (hxn.ext b6) (hym.ext b6) ?_
      refine ⟨_, rfl, rfl, rfl, _, rfl, ite2 (fun h => by rw [ed] at h; revert h; cases decide (V.int (cmpN N M) = V.int 0) <;> simp) (fun _ => ?_)⟩
      refine ⟨_, rfl, _, rfl, D1, acc, (i : Int), _, rfl, ei, SqL.of (b6 _ _ hN), atI_nat hx, _, rfl, _, rfl, D1, acc, (j : Int), _, rfl, ej, SqL.of (b6 _ _ hN), atI_nat hy, bin_use (hxn.ext b6) (.inl ⟨y, rfl, hym.ext b6⟩) gN2 gM2 one fun u H7 e7 hu => prop_use hu ⟨u, _, rfl, hu, gS, fun H8 e8 => ⟨_, rfl, rfl, _, rfl, ite2 (fun h => ?_) (fun _ => ⟨(b6.trans e7).trans e8, _, _, rfl⟩)⟩⟩⟩
      exfalso
      have h' : (!decide (V.int (sgn (subN N M).t (subN N M).p (subN N M).r) = V.int (cmpN N M))) = true := h
      rw [es] at h'
      simp at h'
    · rintro σ H5 ⟨b5, z2, z3, rfl⟩
      exact ⟨b5, _, _, _, rfl⟩
  rintro σ H6 ⟨b6, z1, z2, z3, rfl⟩
  -- the first one beside whole numbers
  obtain ⟨x, q, n, hx, hq, hxn, hqn, ok⟩ := each 0 (by decide)
  obtain ⟨_, gN, tN⟩ := ok.nu hr0
  have b6' := EB.trans b6
  refine ⟨_, rfl, D1, acc, 0, _, rfl, rfl, SqL.of (b6 _ _ hN), atI_nat (j := 0) hx, _, rfl, a, _, rfl, b6' _ _ ha, by decide, Sz.mono (n := 10) (by unfold Sz; decide) (by decide), fun t t0 t1 => ⟨_, _, rfl, rfl, len_ok (Nat.le_of_ble_eq_true rfl), fun q7 hq7 => ⟨q7, _, rfl, SqT.of upd_same, rfl, _, _, rfl, _, _, rfl, rfl, ?_⟩⟩⟩
  have zw : Sz 10 (t - 3) := by unfold Sz; omega
  have b7 := ext_new (o := .tup [.ref x, .int (t - 3)]) b6 hq7
  refine ⟨_, rfl, R, rows, 0, _, rfl, rfl, SqL.of (b7 _ _ hRB), atI_nat (j := 0) hq, _, rfl, len_ok (Nat.le_of_ble_eq_true rfl), fun q8 hq8 => ?_⟩
  have b8 := ext_new (o := .tup (nt ⟨t - 3, 0, 0, 1⟩)) b7 hq8
  have gw : Good 2000 ⟨t - 3, 0, 0, 1⟩ := good_int (by decide) (zw.mono (by decide))
  refine ⟨_, rfl, q, q8, n, ⟨t - 3, 0, 0, 1⟩, r, rfl, SqT.of (b8 _ _ hqn), SqT.of upd_same, ok.w.mono (by decide), ⟨zw.mono (by decide), by unfold Sz; exact Nat.two_pow_pos _, by unfold Sz; exact Nat.one_lt_two_pow (by decide), (by decide : (1 : Int) ≠ 0)⟩, r0, zr, fun H9 e9 => ?_⟩
  have b9 := b8.trans e9
  have eb : besN n ⟨t - 3, 0, 0, 1⟩ r = cmpN (lst n.t n.p n.r n.b) ⟨t - 3, 0, 0, 1⟩ := by
    have e := bes_eq (r := r) (n := n) (m := ⟨t - 3, 0, 0, 1⟩) ok.w.b0 (by decide : (1 : Int) ≠ 0)
    have e2 : lst (t - 3) 0 0 1 = ⟨t - 3, 0, 0, 1⟩ := lst_int
    rw [e]
    show sgn (difX _ (lst (t - 3) 0 0 1)) (difY _ (lst (t - 3) 0 0 1)) r = _
    rw [e2]
    exact (cmp_eq (m := ⟨t - 3, 0, 0, 1⟩) r0 tN (show Rt r ⟨t - 3, 0, 0, 1⟩ from rfl)).symm
  rw [eb]
  have one : ∀ i : Int, OneRoot (lst n.t n.p n.r n.b) ⟨i, 0, 0, 1⟩ := fun _ => .inr (.inl rfl)
  generalize lst n.t n.p n.r n.b = N at *
  have gN2 : Good 2000 N := gN.mono (by decide)
  have lg : (cmpN N ⟨t - 3, 0, 0, 1⟩).natAbs.log2 < 1920 := sgn_log
  obtain ⟨dx, kx⟩ := hxn.ext b9
  refine ⟨_, rfl, x, dx, _, rfl, kx, rfl, _, rfl, x, .int (t - 3), N, ⟨t - 3, 0, 0, 1⟩, rfl, ⟨dx, kx⟩, .inr ⟨_, rfl, rfl⟩, gN2, gw, one _, fun H10 e10 => ⟨_, rfl, lg, _, rfl, _, rfl, lg, rfl, _, rfl, ite2 (fun h => by simp at h) (fun _ => ?_)⟩⟩
  have b10 := b9.trans e10
  obtain ⟨dx', kx'⟩ := hxn.ext b10
  refine ⟨_, rfl, x, dx', _, rfl, kx', rfl, _, rfl, fun xm dm hxm hdm hne => ⟨xm, dm, t - 3, 0, 0, 1, rfl, upd_same, ⟨rfl, by unfold Sz; decide⟩, fun HG keep hm0 => ⟨rfl, ?_⟩⟩⟩
  have eG : Ext H10 HG := fun a o e => keep a o (by rw [upd_ne (ne_of_none e hxm), upd_ne (ne_of_none e hdm)]; exact e) (ne_of_none e hxm)
  have hm : NumAt C HG xm (lst (t - 3) 0 0 1) := ⟨dm, hm0⟩
  rw [lst_int] at hm
  have b11 := b10.trans eG
  refine ⟨x, .ref xm, N, ⟨t - 3, 0, 0, 1⟩, rfl, hxn.ext b11, .inl ⟨xm, rfl, hm⟩, gN2, gw, one _, fun H12 e12 => ⟨_, rfl, rfl, _, rfl, ite2 (fun h => by simp at h) (fun _ => ?_)⟩⟩
  have b12 := b11.trans e12
  -- floor
  refine ⟨_, rfl, prop_use (hxn.ext b12) ⟨x, N, rfl, hxn.ext b12, gN.mono (by decide), fun H13 e13 => ?_⟩⟩
  have b13 := b12.trans e13
  have zF : Sz 1412 ((N.t + flr N.p N.r).fdiv N.b) := by
    have a1 : Sz 1411 (flr N.p N.r) := flr_sz (k := 700) gN.p gN.r0.1 gN.zr
    have a2 : Sz 1411 N.t := Sz.mono (n := 700) gN.t (by decide)
    exact fdiv_sz gN.b1 (Sz.add (n := 1411) a2 a1)
  have zF1 : Sz 1413 ((N.t + flr N.p N.r).fdiv N.b + 1) := Sz.add (n := 1412) zF (by unfold Sz; exact Nat.one_lt_two_pow (by decide))
  have gF : Good 2000 ⟨(N.t + flr N.p N.r).fdiv N.b, 0, 0, 1⟩ := good_int (by decide) (Sz.mono (n := 1412) zF (by decide))
  have gF1 : Good 2000 ⟨(N.t + flr N.p N.r).fdiv N.b + 1, 0, 0, 1⟩ := good_int (by decide) (Sz.mono (n := 1413) zF1 (by decide))
  have g0 : Good 2000 ⟨0, 0, 0, 1⟩ := good_int (by decide) (by unfold Sz; exact Nat.two_pow_pos _)
  obtain ⟨d1, k1⟩ := hxn.ext b13
  refine ⟨_, rfl, x, d1, _, rfl, k1, rfl, _, rfl, x, .int _, N, ⟨_, 0, 0, 1⟩, rfl, ⟨d1, k1⟩, .inr ⟨_, rfl, rfl⟩, gN2, gF, one _, fun H14 e14 => ⟨_, _, rfl, rfl, _, rfl, ite2 (fun h => absurd (of_decide_eq_true h) (by have := cmp_floor gN; omega)) (fun _ => ?_)⟩⟩
  have b14 := b13.trans e14
  obtain ⟨d2, k2⟩ := hxn.ext b14
  refine ⟨_, rfl, x, d2, _, rfl, k2, rfl, _, rfl, _, _, rfl, rfl, x, .int _, N, ⟨_, 0, 0, 1⟩, rfl, ⟨d2, k2⟩, .inr ⟨_, rfl, rfl⟩, gN2, gF1, one _, fun H15 e15 => ⟨_, _, rfl, rfl, _, rfl, ite2 (fun h => absurd (of_decide_eq_true h) (by have := cmp_above gN; omega)) (fun _ => ?_)⟩⟩
  have b15 := b14.trans e15
  obtain ⟨d3, k3⟩ := hxn.ext b15
  refine ⟨_, rfl, x, d3, _, rfl, k3, rfl, x, .int 0, N, ⟨0, 0, 0, 1⟩, rfl, ⟨d3, k3⟩, .inr ⟨_, rfl, rfl⟩, gN2, g0, one _, fun H16 e16 => ⟨_, rfl, prop_use (hxn.ext (b15.trans e16)) ⟨x, N, rfl, hxn.ext (b15.trans e16), gN.mono (by decide), fun H17 e17 => ⟨rfl, _, rfl, ite2 (fun h => ?_) (fun _ => ?_)⟩⟩⟩⟩
  · exfalso
    have h' : (!decide (V.int (cmpN N ⟨0, 0, 0, 1⟩) = V.int (sgn N.t N.p N.r))) = true := h
    rw [cmp_zero gN] at h'
    simp at h'
  have b17 := (b15.trans e16).trans e17
  -- values of other kinds
  refine ⟨_, rfl, _, rfl, len_ok (Nat.le_of_ble_eq_true rfl), fun qa hqa => ⟨len_ok (Nat.le_of_ble_eq_true rfl), fun qb hqb => fun qc hqc => ?_⟩⟩
  have c1 := ext_new (o := .tup [.ref x]) (ext_refl H17) hqa
  have c2 := ext_new (o := .lst []) (ext_refl _) hqb
  have c3 := ext_new (o := .dK []) (ext_refl _) hqc
  have bc := b17.trans (c1.trans (c2.trans c3))
  obtain ⟨d4, k4⟩ := hxn.ext bc
  refine ⟨_, rfl, x, d4, _, rfl, k4, x, N, rfl, ⟨d4, k4⟩, gN.mono (by decide), fun tx htx => ⟨tx, rfl, len_ok (Nat.le_of_ble_eq_true rfl), fun O hO => ?_⟩⟩
  have c4 := ext_new (o := .lst [.non, .int (t - 3), .bl true, .str "1", .ref qa, .ref qb, .ref qc, .str tx]) (ext_refl _) hO
  have va := (c2.trans (c3.trans c4)) qa (.tup [.ref x]) upd_same
  have vb := (c3.trans c4) qb (.lst []) upd_same
  have vc := c4 qc (.dK []) upd_same
  have bO := bc.trans c4
  have hOO : (upd (upd (upd (upd H17 qa (.tup [.ref x])) qb (.lst [])) qc (.dK [])) O (.lst [.non, .int (t - 3), .bl true, .str "1", .ref qa, .ref qb, .ref qc, .str tx])) O = some (.lst [.non, .int (t - 3), .bl true, .str "1", .ref qa, .ref qb, .ref qc, .str tx]) := upd_same
  generalize hHO : upd (upd (upd (upd H17 qa (.tup [.ref x])) qb (.lst [])) qc (.dK [])) O (.lst [.non, .int (t - 3), .bl true, .str "1", .ref qa, .ref qb, .ref qc, .str tx]) = HO at *
  have odd : ∀ (v : V) (H' : Hp), v ∈ ([.non, .int (t - 3), .bl true, .str "1", .ref qa, .ref qb, .ref qc, .str tx] : List V) → Ext HO H' → OddV K C H' v := fun v H' hv e => by
    simp only [List.mem_cons, List.not_mem_nil, or_false] at hv
    rcases hv with rfl | rfl | rfl | rfl | rfl | rfl | rfl | rfl
    · exact ⟨_, .base .non, OT.f0, OT.k0⟩
    · exact ⟨_, .base (.int _), OT.f1, OT.k1⟩
    · exact ⟨_, .base (.bl _), OT.f2, OT.k2⟩
    · exact ⟨_, .base (.str _), OT.f3, OT.k3⟩
    · exact ⟨_, .base (.tup (e _ _ va)), OT.f4, OT.k4⟩
    · exact ⟨_, .base (.lst (e _ _ vb)), OT.f5, OT.k5⟩
    · exact ⟨_, .base (.dK (e _ _ vc)), OT.f6, OT.k6⟩
    · exact ⟨_, .base (.str _), OT.f3, OT.k3⟩
  refine ⟨_, rfl, O, rfl, ⟨_, SqL.of hOO⟩, fun D4 hD4 => lc_list (xs := [.non, .int (t - 3), .bl true, .str "1", .ref qa, .ref qb, .ref qc, .str tx]) (fun _ H' => HO D4 = none ∧ Ext HO H' ∧ H' D4 = some (.lst [])) ⟨hD4, ext_new (ext_refl _) hD4, upd_same⟩ (fun i H' _ p => SqL.of (p.2.1 _ _ hOO)) (fun i v H' hv p => ?_) (fun H18 p => ?_)⟩
  · obtain ⟨p1, p2, p3⟩ := p
    obtain ⟨ty, o1, o2, o3⟩ := odd v H' (List.mem_of_getElem? hv) p2
    obtain ⟨d5, k5⟩ := hxn.ext (bO.trans p2)
    exact ⟨rfl, _, rfl, _, rfl, x, d5, _, ty, rfl, k5, o1, o2, x, v, ty, N, rfl, ⟨d5, k5⟩, o1, o3, _, rfl, iteF ⟨_, rfl, _, rfl, x, d5, _, ty, rfl, k5, o1, o2, x, v, ty, N, rfl, ⟨d5, k5⟩, o1, o3, false, rfl, _, rfl, iteF ⟨p1, p2, p3⟩⟩⟩
  obtain ⟨_, p2, p3⟩ := p
  refine ⟨len_ok (Nat.le_of_ble_eq_true rfl), fun qz hqz => ?_⟩
  have e0 : PyData.eqv (.list []) (.list []) = true := by simp [PyData.eqv, PyData.eqvAll]
  refine ⟨.list [], .list [], .lst (SqL.of (ext_new (o := .lst []) (ext_refl H18) hqz _ _ p3)) .nil, .lst (SqL.of upd_same) .nil, rfl, rfl, ?_⟩
  rw [e0]
  exact k _ (ext_new ((EB.trans bO).trans p2) hqz)
end
end My
namespace My
open PySem PySem.Spec PyProof.Rows L2
local macro_rules | `(tactic| walk_at "side") => `(tactic| first | assumption | decide | exact Or.inl ⟨by decide, by decide⟩ | exact Or.inr ⟨by decide, by decide⟩ | exact ⟨by decide, by decide, by decide⟩ | omega | (unfold CMulW; decide +kernel) | (dsimp only; first | assumption | omega | decide +kernel) | exact len_ok (Nat.le_of_ble_eq_true rfl) | fail "side")
local macro_rules | `(tactic| walk_at "rd") => `(tactic| first
  | refine ⟨_, _, _, _, rfl, rfl, SqL.of upd_same, atI_nat (j := 0) rfl, ?_⟩ | refine ⟨_, _, _, _, rfl, rfl, SqL.of upd_same, atI_nat (j := 1) rfl, ?_⟩ | refine ⟨_, _, _, _, rfl, rfl, SqL.of upd_same, atI_nat (j := 2) rfl, ?_⟩
  | refine ⟨_, _, _, _, rfl, rfl, upd_same, rfl, ?_⟩
  | refine ⟨_, _, rfl, rfl, ?_⟩ | refine ⟨_, rfl, ?_⟩ | refine ⟨_, _, rfl, ?_⟩ | refine Or.inl ⟨_, rfl, ?_⟩ | refine Or.inr ⟨_, rfl, ?_⟩ | refine ⟨(by walk_at "side"), ?_⟩ | fail "rd")

abbrev s_law : Stmt := top 39
theorem sc_law : FnScope ["_law_script", "_law_spot", "_law_side"] ["_law_script"] (defScope s_law) := ⟨rfl, rfl, rfl, by decide +kernel, rfl, by decide +kernel, by decide +kernel⟩
def spLaw (K : PySem.W.Frag) : Sp := fun vs H Q _ => ∃ (a : Addr) (ns : List Int), vs = [.ref a] ∧ SqL K H a (ns.map V.int) ∧ ns.length ≤ 63 ∧ ∀ H', Q (.bl true) H'
def sideN : Nm := ⟨0, 1, 2, 1⟩
theorem sz_dec {k : Nat} {i : Int} (h : i.natAbs < 2 ^ 10) (l : 10 ≤ k) : Sz k i := Sz.mono (n := 10) h l
theorem side_good : Good 2000 sideN := ⟨sz_dec (by decide) (by decide), sz_dec (by decide) (by decide), sz_dec (by decide) (by decide), by decide, by decide, .inr ⟨by decide, by decide +kernel⟩⟩
theorem side_lst : lst 0 1 2 1 = sideN := by decide +kernel
theorem low_good : Good 2000 ⟨99, 0, 0, 70⟩ := ⟨sz_dec (by decide) (by decide), sz_dec (by decide) (by decide), sz_dec (by decide) (by decide), by decide, by decide, .inl ⟨rfl, rfl⟩⟩
theorem low_lst : lst 99 0 0 70 = ⟨99, 0, 0, 70⟩ := by decide +kernel
theorem top_good : Good 2000 ⟨140, 0, 0, 99⟩ := ⟨sz_dec (by decide) (by decide), sz_dec (by decide) (by decide), sz_dec (by decide) (by decide), by decide, by decide, .inl ⟨rfl, rfl⟩⟩
theorem top_lst : lst 140 0 0 99 = ⟨140, 0, 0, 99⟩ := by decide +kernel
theorem low_cmp : cmpN sideN ⟨99, 0, 0, 70⟩ = -1 := by decide +kernel
theorem top_cmp : cmpN sideN ⟨140, 0, 0, 99⟩ = 1 := by decide +kernel
section
variable {P : Program} {w : World} {K : PySem.W.Frag} {mg : Str → Option Value} {base : Heap} {C : Addr}
theorem law_binds {fa : Addr} {fd : FuncData} (F : Fun K "law" "law" s_law fa fd) (s : Shared) (u : Value) : BindsTo s fd ⟨[u], []⟩ [("_law_script", u)] := by
  obtain ⟨oc, od, kV, doc, pm, an, cdv, ct, osl, rfl, lk, hcd⟩ := F.ex
  exact .of_eq rfl
theorem ok_law {fa : Addr} {fd : FuncData} (T : Bn mg) (D : Fun K "law" "law" s_law fa fd) (NC : NumT K mg C) (F_init : InitAt P w K mg base 3 C (spInit C)) (F__law_dice : FnAt P w K mg base 1 "_law_dice" ["_law_script", "_law_spot"] (spDice K)) (F__law_right : FnAt P w K mg base 9 "_law_right" ["_law_dice_here"] spLRight)
    (M_compared : MethAt P w K mg base 7 C "compared" ["self", "other"] (spCmp C)) :
    FnG P w K mg base CX0 10 fa fd ["_law_script"] (spLaw K) := by
  refine okG D sc_law (fun vs H Q E h => ?_) fun cdv A outer s H vs Q E gd hr h => ?_
  · obtain ⟨a, ns, rfl, _⟩ := h
    rfl
  obtain ⟨a, ns, rfl, hS, hl, k⟩ := h
  refine ⟨_, (pss_cons (ps_for PassesOwn.never rfl (pi_range1 (by rfl) T.b_range (pa_cons (pe_callB (call_max2 rfl) (by rfl) T.b_max (by decide +kernel) (pa_cons pe_int (pa_cons (pe_callB (call_min2 rfl) (by rfl) T.b_min (by decide +kernel) (pa_cons pe_int (pa_cons (pe_callB call_len_seq (by rfl) T.b_len (by decide +kernel) (pa_cons (pv 0) pa_nil)) pa_nil))) pa_nil))) pa_nil)) (pg_name (i := 1) sc_law.nd rfl (Or.inl rfl))
      (pss_one (ps_if (pt_not (pt_val (callA F__law_right (hr.mono (by decide)) rfl (pa_cons (callA F__law_dice (hr.mono (by decide)) rfl (pa_cons (pv 0) (pa_cons (pv 1) pa_nil))) pa_nil)))) (pss_one (ps_ret pe_bl)) pss_nil)))
    (pss_cons (ps_set (i := 2) sc_law.nd rfl (Or.inl rfl) (mkRA F_init NC.g (hr.mono (by decide)) rfl (pa_cons pe_int (pa_cons pe_int pa_nil)) (pk_cons pe_int pk_nil)))
    (pss_one (ps_ret (pe_and (pe_cmpR op_eq (methA M_compared NC.cl (hr.mono (by decide)) (pv 2) (pa_cons (mk2A F_init NC.g (hr.mono (by decide)) rfl (pa_cons pe_int pa_nil) (pk_cons pe_int pk_nil)) pa_nil)) (pe_un un_neg pe_int) (nomark _)) (pe_one (pe_cmpR op_eq (methA M_compared NC.cl (hr.mono (by decide)) (pv 2) (pa_cons (mk2A F_init NC.g (hr.mono (by decide)) rfl (pa_cons pe_int pa_nil) (pk_cons pe_int pk_nil)) pa_nil)) pe_int (nomark _)))))))), ?_⟩
  have hb : ∀ L : Int, 0 ≤ L → 1 ≤ (if (if L < 5 then L else 5) > 1 then (if L < 5 then L else 5) else 1) ∧ (if (if L < 5 then L else 5) > 1 then (if L < 5 then L else 5) else 1) ≤ 5 := by
    intro L h
    split <;> split <;> omega
  have hb := hb (((ns.map V.int).length : Nat) : Int) (by omega)
  refine ⟨_, rfl, a, _, rfl, .inl hS, _, _, rfl, _, _, rfl, _, rfl, by omega, by omega, for_range (lo := 0) (fun i σ H' => Ext H H' ∧ ∃ x, σ = [some (.ref a), x, none]) ⟨ext_refl H, _, rfl⟩ ?_ ?_⟩
  · rintro i σ H' hi ⟨e, x, rfl⟩
    exact ⟨_, rfl, _, rfl, a, _, ns, rfl, hS.ext e, by omega, by omega, fun p H'' hp e' hd => ⟨p, rfl, hd, fun H3 e3 => ⟨_, rfl, iteF ⟨e.trans (e'.trans e3), _, rfl⟩⟩⟩⟩
  rintro σ H' ⟨e, x, rfl⟩
  refine ⟨rfl, rfl, fun xg dg hx hdx hne => ⟨xg, dg, 0, 1, 2, 1, rfl, upd_same, ⟨by decide +kernel, sz_dec (by decide) (by decide)⟩, fun HG keep hg0 => ⟨rfl, ?_⟩⟩⟩
  have hg : NumAt C HG xg (lst 0 1 2 1) := ⟨dg, hg0⟩
  rw [side_lst] at hg
  obtain ⟨dx, k0⟩ := id hg
  refine ⟨_, rfl, xg, dx, _, rfl, k0, rfl, rfl, rfl, fun x1 d1 hx1 hd1 hne1 => ⟨x1, d1, 99, 0, 0, 70, rfl, upd_same, ⟨by decide, sz_dec (by decide) (by decide)⟩, fun G1 keep1 h1 => ⟨rfl, ?_⟩⟩⟩
  have c1 : Ext HG G1 := fun a o e => keep1 a o (by rw [upd_ne (ne_of_none e hx1), upd_ne (ne_of_none e hd1)]; exact e) (ne_of_none e hx1)
  have n1 : NumAt C G1 x1 (lst 99 0 0 70) := ⟨d1, h1⟩
  rw [low_lst] at n1
  refine ⟨xg, .ref x1, sideN, ⟨99, 0, 0, 70⟩, rfl, hg.ext c1, .inl ⟨x1, rfl, n1⟩, side_good, low_good, .inr (.inl rfl), fun G2 c2 => ?_⟩
  rw [low_cmp]
  refine ⟨_, rfl, rfl, _, rfl, iteT ?_⟩
  have c2 := c1.trans c2
  obtain ⟨dy, k2⟩ := hg.ext c2
  refine ⟨_, rfl, xg, dy, _, rfl, k2, rfl, rfl, rfl, fun x3 d3 hx3 hd3 hne3 => ⟨x3, d3, 140, 0, 0, 99, rfl, upd_same, ⟨by decide, sz_dec (by decide) (by decide)⟩, fun G3 keep3 h3 => ⟨rfl, ?_⟩⟩⟩
  have c3 : Ext G2 G3 := fun a o e => keep3 a o (by rw [upd_ne (ne_of_none e hx3), upd_ne (ne_of_none e hd3)]; exact e) (ne_of_none e hx3)
  have n3 : NumAt C G3 x3 (lst 140 0 0 99) := ⟨d3, h3⟩
  rw [top_lst] at n3
  refine ⟨xg, .ref x3, sideN, ⟨140, 0, 0, 99⟩, rfl, (hg.ext c2).ext c3, .inl ⟨x3, rfl, n3⟩, side_good, top_good, .inr (.inl rfl), fun G4 c4 => ?_⟩
  rw [top_cmp]
  exact ⟨rfl, k _⟩
end
end My
namespace My
open PySem PySem.Spec PyProof.Rows L2
/-- all that the top has made, as the law needs it -/
structure Facts (K : PySem.W.Frag) (mg : Str → Option Value) (C : Addr) : Prop where
  T : Bn mg
  NC : NumT K mg C
  NI : NumI K C
  NK : NumK K mg
  OT : OddT K C
  NE : ∃ f, NeK K C f ∧ PySem.W.findIn K (.ref C) "__eq__" = some (some (.ref f))
  d7 : DefAt K mg "is_any_integer" (top 7)
  d13 : DefAt K mg "_are_valid" (top 13)
  d14 : DefAt K mg "_as_number" (top 14)
  d15 : DefAt K mg "_operand" (top 15)
  d16 : DefAt K mg "_argument" (top 16)
  d17 : DefAt K mg "_common_root" (top 17)
  d18 : DefAt K mg "_difference_above" (top 18)
  d19 : DefAt K mg "_sign_of_integer" (top 19)
  d20 : DefAt K mg "sign_of_sum" (top 20)
  d21 : DefAt K mg "_floor_of_root" (top 21)
  d22 : DefAt K mg "_sum_text" (top 22)
  d23 : DefAt K mg "_number_text" (top 23)
  d28 : DefAt K mg "_law_dice" (top 28)
  d29 : DefAt K mg "_law_roll" (top 29)
  d30 : DefAt K mg "_law_pick" (top 30)
  d31 : DefAt K mg "_law_mixed" (top 31)
  d32 : DefAt K mg "_law_sign" (top 32)
  d33 : DefAt K mg "_law_parts_drawn" (top 33)
  d34 : DefAt K mg "_law_made" (top 34)
  d35 : DefAt K mg "_law_beside" (top 35)
  d36 : DefAt K mg "_law_near" (top 36)
  d37 : DefAt K mg "_law_row" (top 37)
  d38 : DefAt K mg "_law_right" (top 38)
  d39 : DefAt K mg "law" (top 39)
  p_top : PropT K C "top" "Number.top" s_ntop
  p_part : PropT K C "part" "Number.part" s_npart
  p_root : PropT K C "root" "Number.root" s_nroot
  p_bottom : PropT K C "bottom" "Number.bottom" s_nbottom
  p_sign : PropT K C "sign" "Number.sign" s_nsign
  p_floor : PropT K C "floor" "Number.floor" s_nfloor
  o_Sub : OpT K C .Sub "__sub__" "Number.__sub__" s_nsub
  seq : SpT K C "__eq__" "Number.__eq__" s_neq
  sstr : SpT K C "__str__" "Number.__str__" s_nstr
  mcomp : MethT K C "compared" "Number.compared" s_ncomp
end My
namespace My
open PySem PySem.Spec PyProof.Rows L2
theorem final {K : PySem.W.Frag} {h : Heap} {mg : Str → Option Value} {C fa : Addr} {P : Program} {w : World} (KX : K.In h) (G : h.Ns mainGlobals mg) (hmg : mg "law" = some (.ref fa)) (F : Facts K mg C) :
    ∃ fd : FuncData, (∀ (s : Shared) (u : Value), BindsTo s fd ⟨[u], []⟩ [("_law_script", u)]) ∧ ∀ base : Heap, K.In base → base.Ns mainGlobals mg → FnG P w K mg base CX0 20 fa fd ["_law_script"] (spLaw K) := by
  obtain ⟨f, fd, hm, D⟩ := F.d39.ex
  have ef : f = fa := by
    have := hm.symm.trans hmg
    cases this
    rfl
  subst ef
  refine ⟨fd, law_binds D, fun base _ _ => ?_⟩
  have T := F.T
  have NC := F.NC
  have NI := F.NI
  have a_dice := ok_dice (P := P) (w := w) (base := base) T F.d28
  have a_roll := ok_roll (P := P) (w := w) (base := base) T F.d29
  have a_pick := ok_pick T F.d30 a_roll
  have a_isint := ok_isint (P := P) (w := w) (base := base) T F.d7
  have a_isint2 := ok_isint2 (P := P) (w := w) (base := base) T NC NI F.d7
  have a_valid := ok_valid T F.NK F.d13 a_isint
  have a_init := ok_init T NC a_valid
  have a_top := ok_ntop (P := P) (w := w) (base := base) (mg := mg) F.p_top NC
  have a_part := ok_npart (P := P) (w := w) (base := base) (mg := mg) F.p_part NC
  have a_root := ok_nroot (P := P) (w := w) (base := base) (mg := mg) F.p_root NC
  have a_bottom := ok_nbottom (P := P) (w := w) (base := base) (mg := mg) F.p_bottom NC
  have a_sgi := ok_sgi (P := P) (w := w) (base := base) T F.d19
  have a_sgn := ok_sgn T F.d20 a_sgi
  have a_flr := ok_flr (P := P) (w := w) (base := base) T NC F.d21
  have a_sign := ok_nsign F.p_sign NC a_sgn
  have a_floor := ok_nfloor F.p_floor NC a_flr
  have a_asnum := ok_asnum T F.d14 NC NI a_init a_isint2
  have a_operand := ok_operand T F.d15 a_asnum
  have a_argument := ok_argument T F.d16 a_asnum
  have a_croot := ok_croot T F.d17 NC a_root
  have a_diff := ok_diff F.d18 NC a_top a_part a_bottom
  have a_sub := ok_nsub F.o_Sub NC a_init a_operand a_croot a_diff a_bottom
  have a_comp := ok_ncomp F.mcomp NC a_argument a_croot a_diff a_sgn
  have a_eq := ok_neq (P := P) (w := w) (base := base) T F.seq NC NI
  have a_eqA := ok_neqA (P := P) (w := w) (base := base) T F.seq NC
  have a_ne : NeAt P w K mg base 1 C (spEqN C) := by
    obtain ⟨f1, nk, e1⟩ := F.NE
    obtain ⟨f2, fd2, hs, hf, hb, Gk⟩ := a_eq.ex
    have e := hs.symm.trans e1
    cases e
    exact ⟨f1, fd2, nk, hb, Gk⟩
  have a_neA : NeAt P w K mg base 1 C (spEqA K C) := by
    obtain ⟨f1, nk, e1⟩ := F.NE
    obtain ⟨f2, fd2, hs, hf, hb, Gk⟩ := a_eqA.ex
    have e := hs.symm.trans e1
    cases e
    exact ⟨f1, fd2, nk, hb, Gk⟩
  have a_sumt := ok_sumt (P := P) (w := w) (base := base) T F.d22
  have a_numt := ok_numt T F.d23 a_sumt
  have a_str := ok_nstr T F.sstr NC a_numt
  have b_mixed := ok_lmixed T F.d31 a_roll
  have b_sign := ok_lsign (P := P) (w := w) (base := base) T F.d32
  have b_parts := ok_lparts F.d33 a_roll a_pick
  have b_made := ok_lmade F.d34 NC a_init
  have b_beside := ok_lbeside T F.d35 b_sign
  have b_near := ok_lnear T F.d36 a_roll
  have b_row := ok_lrow T F.d37 a_roll a_pick b_parts b_near b_mixed
  have b_right := ok_lright T F.d38 NC F.OT a_init a_roll a_pick b_row b_made b_beside a_sub a_comp a_ne a_eq a_neA a_eqA a_str a_sign a_floor
  exact (ok_law T D NC a_init a_dice b_right a_comp).mono (by decide)
end My
open PySem PySem.W PyProof.Rows
set_option maxHeartbeats 0 in
theorem PySem.Challenge.cw_pieceround_k03_numbers_compared_holds : PySem.Challenge.rw_pieceround_k03_numbers_compared.Holds := by
  w_on; o_law; k_head; (case hw => w_witness2)
  k_fill
  refine My.walkG (l := PySem.Challenge.rw_pieceround_k03_numbers_compared) (n := 63) (k := 20) (x := "_law_script") (sp := fun K => My.spLaw K) rfl (by decide) rfl ⟨rfl, by decide, by decide⟩ (fun w h Y => PySem.W.kIn_of Y) ?F ?S
  case S => exact fun K H a ns hl hO hS => ⟨a, ns, rfl, hS, hl, fun _ => rfl⟩
  case F =>
    intro w mg fa h KX G hmg
    refine My.final (C := ?nC) KX G hmg ?FF
    case FF =>
      have T : My.Bn mg := by constructor <;> exact PySem.W.mg_none_of KX G (by k_is)
      refine { T := T, NC := ?NC, NI := ?NI, NK := ?NK, OT := ?OT, NE := ?NE, d7 := ?d7, d13 := ?d13, d14 := ?d14, d15 := ?d15, d16 := ?d16, d17 := ?d17, d18 := ?d18, d19 := ?d19, d20 := ?d20, d21 := ?d21, d22 := ?d22, d23 := ?d23, d28 := ?d28, d29 := ?d29, d30 := ?d30, d31 := ?d31, d32 := ?d32, d33 := ?d33, d34 := ?d34, d35 := ?d35, d36 := ?d36, d37 := ?d37, d38 := ?d38, d39 := ?d39, p_top := ?p_top, p_part := ?p_part, p_root := ?p_root, p_bottom := ?p_bottom, p_sign := ?p_sign, p_floor := ?p_floor, o_Sub := ?o_Sub, seq := ?seq, sstr := ?sstr, mcomp := ?mcomp }
      case NC =>
        refine' My.numT_mk KX G ?a1 ?a2 ?a3 ?a4 ?a5 ?a6 ?a7 ?a8 ?a9 ?a10 ?a11 ?a12 ?a13 ?a14 ?a15 ?a16 ?a17 ?a18 ?a19 ?a20 ?a21
        case a1 => k_is
        case a2 => k_is
        case a3 => k_is
        case a4 => k_is
        case a5 => k_is
        case a6 => k_is
        case a7 => k_is
        case a8 => k_is
        case a9 => k_is
        case a10 => k_is
        case a11 => k_is
        case a12 => k_is
        case a13 => k_is
        case a14 => k_is
        case a15 => k_is
        case a16 => k_is
        case a17 => k_is
        case a18 => k_is
        case a19 => k_is
        case a20 => k_is
        case a21 => k_is
      case NK =>
        refine' My.numK_mk KX G ?a1 ?a2 ?a3
        case a1 => k_is
        case a2 => k_is
        case a3 => k_is
      case NI => constructor <;> first | kit_is | k_is
      case NE =>
        refine' My.neK_mk ?a1 ?e ?a2 ?e2 ?a3 ?a4 ?a5 ?ef
        case a1 => k_is
        case e => 
          exact rfl
        case a2 => k_is
        case e2 => 
          exact rfl
        case a3 => k_is
        case a4 => k_is
        case a5 => k_is
        case ef => k_is
      case OT => constructor <;> first | kit_is | k_is
      case d7 => (refine' My.defAt_mk (by assumption) (by assumption) ?a ?l ?c ?k; (case a => k_is); (case l => k_is); (case c => k_is); (case k => k_is))
      case d13 => (refine' My.defAt_mk (by assumption) (by assumption) ?a ?l ?c ?k; (case a => k_is); (case l => k_is); (case c => k_is); (case k => k_is))
      case d14 => (refine' My.defAt_mk (by assumption) (by assumption) ?a ?l ?c ?k; (case a => k_is); (case l => k_is); (case c => k_is); (case k => k_is))
      case d15 => (refine' My.defAt_mk (by assumption) (by assumption) ?a ?l ?c ?k; (case a => k_is); (case l => k_is); (case c => k_is); (case k => k_is))
      case d16 => (refine' My.defAt_mk (by assumption) (by assumption) ?a ?l ?c ?k; (case a => k_is); (case l => k_is); (case c => k_is); (case k => k_is))
      case d17 => (refine' My.defAt_mk (by assumption) (by assumption) ?a ?l ?c ?k; (case a => k_is); (case l => k_is); (case c => k_is); (case k => k_is))
      case d18 => (refine' My.defAt_mk (by assumption) (by assumption) ?a ?l ?c ?k; (case a => k_is); (case l => k_is); (case c => k_is); (case k => k_is))
      case d19 => (refine' My.defAt_mk (by assumption) (by assumption) ?a ?l ?c ?k; (case a => k_is); (case l => k_is); (case c => k_is); (case k => k_is))
      case d20 => (refine' My.defAt_mk (by assumption) (by assumption) ?a ?l ?c ?k; (case a => k_is); (case l => k_is); (case c => k_is); (case k => k_is))
      case d21 => (refine' My.defAt_mk (by assumption) (by assumption) ?a ?l ?c ?k; (case a => k_is); (case l => k_is); (case c => k_is); (case k => k_is))
      case d22 => (refine' My.defAt_mk (by assumption) (by assumption) ?a ?l ?c ?k; (case a => k_is); (case l => k_is); (case c => k_is); (case k => k_is))
      case d23 => (refine' My.defAt_mk (by assumption) (by assumption) ?a ?l ?c ?k; (case a => k_is); (case l => k_is); (case c => k_is); (case k => k_is))
      case d28 => (refine' My.defAt_mk (by assumption) (by assumption) ?a ?l ?c ?k; (case a => k_is); (case l => k_is); (case c => k_is); (case k => k_is))
      case d29 => (refine' My.defAt_mk (by assumption) (by assumption) ?a ?l ?c ?k; (case a => k_is); (case l => k_is); (case c => k_is); (case k => k_is))
      case d30 => (refine' My.defAt_mk (by assumption) (by assumption) ?a ?l ?c ?k; (case a => k_is); (case l => k_is); (case c => k_is); (case k => k_is))
      case d31 => (refine' My.defAt_mk (by assumption) (by assumption) ?a ?l ?c ?k; (case a => k_is); (case l => k_is); (case c => k_is); (case k => k_is))
      case d32 => (refine' My.defAt_mk (by assumption) (by assumption) ?a ?l ?c ?k; (case a => k_is); (case l => k_is); (case c => k_is); (case k => k_is))
      case d33 => (refine' My.defAt_mk (by assumption) (by assumption) ?a ?l ?c ?k; (case a => k_is); (case l => k_is); (case c => k_is); (case k => k_is))
      case d34 => (refine' My.defAt_mk (by assumption) (by assumption) ?a ?l ?c ?k; (case a => k_is); (case l => k_is); (case c => k_is); (case k => k_is))
      case d35 => (refine' My.defAt_mk (by assumption) (by assumption) ?a ?l ?c ?k; (case a => k_is); (case l => k_is); (case c => k_is); (case k => k_is))
      case d36 => (refine' My.defAt_mk (by assumption) (by assumption) ?a ?l ?c ?k; (case a => k_is); (case l => k_is); (case c => k_is); (case k => k_is))
      case d37 => (refine' My.defAt_mk (by assumption) (by assumption) ?a ?l ?c ?k; (case a => k_is); (case l => k_is); (case c => k_is); (case k => k_is))
      case d38 => (refine' My.defAt_mk (by assumption) (by assumption) ?a ?l ?c ?k; (case a => k_is); (case l => k_is); (case c => k_is); (case k => k_is))
      case d39 => (refine' My.defAt_mk (by assumption) (by assumption) ?a ?l ?c ?k; (case a => k_is); (case l => k_is); (case c => k_is); (case k => k_is))
      case p_top => (refine' My.propT_mk ⟨?a, ?g, ?t, ?r⟩ ?l ?c ?k; (case a => k_is); (case g => k_is); (case t => k_is); (case r => exact ⟨_, by k_is⟩); (case l => k_is); (case c => k_is); (case k => k_is))
      case p_part => (refine' My.propT_mk ⟨?a, ?g, ?t, ?r⟩ ?l ?c ?k; (case a => k_is); (case g => k_is); (case t => k_is); (case r => exact ⟨_, by k_is⟩); (case l => k_is); (case c => k_is); (case k => k_is))
      case p_root => (refine' My.propT_mk ⟨?a, ?g, ?t, ?r⟩ ?l ?c ?k; (case a => k_is); (case g => k_is); (case t => k_is); (case r => exact ⟨_, by k_is⟩); (case l => k_is); (case c => k_is); (case k => k_is))
      case p_bottom => (refine' My.propT_mk ⟨?a, ?g, ?t, ?r⟩ ?l ?c ?k; (case a => k_is); (case g => k_is); (case t => k_is); (case r => exact ⟨_, by k_is⟩); (case l => k_is); (case c => k_is); (case k => k_is))
      case p_sign => (refine' My.propT_mk ⟨?a, ?g, ?t, ?r⟩ ?l ?c ?k; (case a => k_is); (case g => k_is); (case t => k_is); (case r => exact ⟨_, by k_is⟩); (case l => k_is); (case c => k_is); (case k => k_is))
      case p_floor => (refine' My.propT_mk ⟨?a, ?g, ?t, ?r⟩ ?l ?c ?k; (case a => k_is); (case g => k_is); (case t => k_is); (case r => exact ⟨_, by k_is⟩); (case l => k_is); (case c => k_is); (case k => k_is))
      case o_Sub => (refine' My.opT_mk ⟨?a, ?b, ?e, ?d, ?i, ?j, ?s⟩ ?l ?c ?k; (case a => k_is); (case b => k_is); (case e => k_is); (case d => k_is); (case i => exact ⟨_, by k_is⟩); (case j => exact ⟨_, by k_is⟩); (case s => k_is); (case l => k_is); (case c => k_is); (case k => k_is))
      case seq => (refine' My.spT_mk ?a ?i ?l ?c ?k; (case a => k_is); (case i => k_is); (case l => k_is); (case c => k_is); (case k => k_is))
      case sstr => (refine' My.spT_mk ?a ?i ?l ?c ?k; (case a => k_is); (case i => k_is); (case l => k_is); (case c => k_is); (case k => k_is))
      case mcomp => (refine' My.methT_mk ?a ?i ?l ?c ?k; (case a => k_is); (case i => k_is); (case l => k_is); (case c => k_is); (case k => k_is))
