import PyProof.Rows.All
import Wide.All
import OpenK.AllK
import Wide.FinOn
import HandS.ForMost
import HandS.Wide
import HandS.Gcd
import HandS.Property
import HandS.MakeKwOnly
import HandS.IsInst
import HandS.OwnEq
import HandS.Evl
import KE.KOpsOwn
import KE.KMathG
import PyProof.InstNe
import PyProof.ReprRoads
import HandS.Lambda
import HandS.WideBits
import HandS.Walk
import HandS.Iter
import HandS.SetKeys
import PyProof.Rows.SetFrom
import PyProof.WalksMore
import PyProof.Rows.PlainNe
import HandS.RaiseMore
import PyProof.Rows.SortStr
import PyProof.Draws
import PyProof.EnumMake
import HandS.DictComp
import HandS.ClsMeth
import HandS.Codes
import HandS.List
import HandS.Style
import HandS.IterNext
import HandS.IterVal
import KE.KOwnIter
import OpenK.KOps
import OpenK.KMeth
import PyProof.EqKinds
import KE.KEqDict
import HandS.Strs
import HandS.TupAny
import HandS.Conv
import HandS.Sort
import KE.KDictList
import HandS.Star
import HandS.Small
import HandS.WordsDict
import HandS.Text
import HandS.Ends
import PySem.Challenge.RW_pieceround_k48_moves_of_places_beside_ro
set_option Elab.async false
set_option exponentiation.threshold 20000
set_option linter.all false
set_option maxHeartbeats 4000000
set_option maxRecDepth 100000
namespace My
open PySem PySem.Spec PyProof.Rows L2

theorem cmpBack_of {P : Value → Shared → Prop} {z : V} {w : Value} {s : Shared} (r : RelV z w) (h : P w s) : PySem.W.CmpBack P w s := by
  cases z with
  | non => cases r; exact h
  | bl _ => cases r; exact h
  | int _ => obtain ⟨t, rfl⟩ := r; exact h
  | str _ => obtain ⟨t, rfl⟩ := r; exact h
  | byt _ => obtain ⟨t, rfl⟩ := r; exact h
  | flt _ => obtain ⟨t, rfl⟩ := r; exact h
  | ref _ => cases r; exact h
  | ty _ => cases r; exact h

/-- the class at C has the def at f as its operator -/
structure OwnOp (K : PySem.W.Frag) (C : Addr) (op : Operator) (f : Addr) : Prop where
  sf : PySem.W.selfFirst K C = true
  at_ : PySem.W.findIn K (.ref C) (PySem.dunder op.info.2) = some (some (.ref f))
  fn : PySem.W.isFn K (.ref f) = true
  rr : PySem.W.findIn K (.ref C) (dunderR op.info.2) = some none
  i1 : ∃ fo, PySem.W.findIn K (.type "int") (PySem.dunder op.info.2) = some fo
  i2 : ∃ ro, PySem.W.findIn K (.type "int") (dunderR op.info.2) = some ro
  sub : PySem.W.subIn K (.type "int") (.ref C) = some false

/-- x op y, x an instance, y an instance or an int -/
def rOwn (C : Addr) (sp : Sp) (E : XK) : R2 := fun x y H Q => ∃ a dx fs, x = .ref a ∧ H a = some (.ins C dx fs) ∧ ((∃ i, y = .int i) ∨ ∃ b dy gs, y = .ref b ∧ H b = some (.ins C dy gs)) ∧ sp [.ref a, y] H Q E

section
variable {X : Cx} {CX : CXT} {k : Nat} {f C : Addr} {fd : FuncData} {ps : List Str} {sp : Sp} {E : XK} {op : Operator}
theorem op_own (W : OwnOp X.K C op f) (F : FnOk X.prog X.w X.K X.mg X.base CX k f fd ps sp) (hr : Room k X.A) (hb : Binds X.K fd ps []) (hx : Passes CX X E) : OpR X (binaryOp op) (rOwn C sp E) := by
  intro pins s σ H x y v u Q I rx ry hq
  obtain ⟨a, dx, fs, rfl, ea, hy, hsp⟩ := hq
  cases rx
  obtain ⟨mA, O, _⟩ := ins_get I.hok ea
  obtain ⟨od, J, _⟩ := O.look
  obtain ⟨m, hF⟩ := I.fr
  have hcall : wpAny (model X.prog X.w) X.A (call (.ref f) [.ref a, u]) (PySem.W.CmpBack (EP X pins σ Q)) X.xe s := by
    refine wpAny_mono (run_fn (us := [.ref a, u]) (vs := [.ref a, y]) (dvs := []) (ds := []) F hr hb .nil hx I (.cons rfl (.cons ry .nil)) hsp) (fun w s' hw => ?_) fun _ _ e => e
    obtain ⟨z, H', I', rz, q⟩ := hw
    exact cmpBack_of rz ⟨z, H', I', rz, q⟩
  rcases hy with ⟨i, rfl⟩ | ⟨b, dy, gs, rfl, eb⟩
  · obtain ⟨t, rfl⟩ := ry
    obtain ⟨fo, h1⟩ := W.i1
    obtain ⟨ro, h2⟩ := W.i2
    exact PySem.W.ksp_binT (T := "int") hF I.ok.mod.kin J (by rfl) W.sf W.at_ W.fn W.rr (.inl rfl) h1 h2 W.sub hcall
  · cases ry
    obtain ⟨mB, O', _⟩ := ins_get I.hok eb
    obtain ⟨od', J', _⟩ := O'.look
    exact PySem.W.binop_K hF I.ok.mod.kin J J'.type W.sf W.at_ W.fn hcall

/-- -x -/
def rOwnU (C : Addr) (sp : Sp) (E : XK) : V → Hp → VK → Prop := fun x H Q => ∃ a dx fs, x = .ref a ∧ H a = some (.ins C dx fs) ∧ sp [.ref a] H Q E
theorem un_ownNeg (hs : PySem.W.findIn X.K (.ref C) "__neg__" = some (some (.ref f))) (hf : PySem.W.isFn X.K (.ref f) = true) (F : FnOk X.prog X.w X.K X.mg X.base CX k f fd ps sp) (hr : Room k X.A) (hb : Binds X.K fd ps []) (hx : Passes CX X E) : UnR X (unaryOp .USub) (rOwnU C sp E) := by
  intro pins s σ H x v Q I rx hq
  obtain ⟨a, dx, fs, rfl, ea, hsp⟩ := hq
  cases rx
  obtain ⟨mA, O, _⟩ := ins_get I.hok ea
  obtain ⟨od, J, _⟩ := O.look
  obtain ⟨m, hF⟩ := I.fr
  exact PySem.W.ksp_neg hF I.ok.mod.kin J hs hf (run_fn (us := [.ref a]) (vs := [.ref a]) (dvs := []) (ds := []) F hr hb .nil hx I (.cons rfl .nil) hsp)

/-- x == y of two instances, by the class's own def, whatever the answer -/
def rOwnEq (C : Addr) (sp : Sp) (E : XK) : R2 := fun x y H Q => ∃ a dx fs b dy gs, x = .ref a ∧ H a = some (.ins C dx fs) ∧ y = .ref b ∧ H b = some (.ins C dy gs) ∧ sp [.ref a, .ref b] H Q E
theorem op_ownEq (hs : PySem.W.findIn X.K (.ref C) "__eq__" = some (some (.ref f))) (hf : PySem.W.isFn X.K (.ref f) = true) (F : FnOk X.prog X.w X.K X.mg X.base CX k f fd ps sp) (hr : Room k X.A) (hb : Binds X.K fd ps []) (hx : Passes CX X E) : OpR X (compareOp .Eq) (rOwnEq C sp E) := by
  intro pins s σ H x y v u Q I rx ry hq
  obtain ⟨a, dx, fs, b, dy, gs, rfl, ea, rfl, eb, hsp⟩ := hq
  cases rx
  cases ry
  obtain ⟨mA, O, _⟩ := ins_get I.hok ea
  obtain ⟨od, J, _⟩ := O.look
  obtain ⟨mB, O', _⟩ := ins_get I.hok eb
  obtain ⟨od', J', _⟩ := O'.look
  obtain ⟨m, hF⟩ := I.fr
  show wpAny (model X.prog X.w) X.A (richCompare .Eq (.ref a) (.ref b)) (EP X pins σ Q) X.xe s
  refine PySem.W.cmp_K (op := .Eq) (tb := .ref C) hr.units0 hF I.ok.mod.kin J J'.type (by simp [PySem.W.notFirst]) hs hf ?_
  refine wpAny_mono (run_fn (us := [.ref a, .ref b]) (vs := [.ref a, .ref b]) (dvs := []) (ds := []) F hr hb .nil hx I (.cons rfl (.cons rfl .nil)) hsp) (fun w s' hw => ?_) fun _ _ e => e
  obtain ⟨z, H', I', rz, q⟩ := hw
  exact cmpBack_of rz ⟨z, H', I', rz, q⟩
end

/-! ### math -/
theorem args_gcd3 (a b c : Value) : argsOk "math.gcd" ⟨[a, b, c], []⟩ := by unfold argsOk; kernel_rfl
theorem run_gcd3 (a : Int) (t : Tok) (b : Int) (u : Tok) (c : Int) (w : Tok) :
    Gives (Builtin.«math.gcd» ⟨[.int a t, .int b u, .int c w], []⟩) (.int ((((((Nat.gcd 0 a.natAbs).gcd b.natAbs).gcd c.natAbs) : Nat) : Int))) :=
  .of_wp fun M A E s Q h => by obtain ⟨hp, g, d, tk, os⟩ := s; wp_walk; exact ⟨_, rfl, h⟩
def rGcd3 : List V → Hp → VK → Prop := fun vs H Q => ∃ a b c : Int, vs = [.int a, .int b, .int c] ∧ Q (.int ((Nat.gcd (Nat.gcd a.natAbs b.natAbs) c.natAbs : Nat) : Int)) H
def rSqrt : List V → Hp → VK → Prop := fun vs H Q => ∃ a : Int, vs = [.int a] ∧ 0 ≤ a ∧ a.toNat < 2 ^ 13000 ∧ Q (.int ((Float64.isqrt a.toNat : Nat) : Int)) H
section
variable {X : Cx}
theorem cr_gcd3 : CallR X (.builtin "math.gcd") rGcd3 := by
  intro pins s σ H vs us Q I r h
  obtain ⟨a, b, c, rfl, q⟩ := h
  cases r with
  | cons r1 r => cases r with
    | cons r2 r => cases r with
      | cons r3 r =>
        cases r
        obtain ⟨t1, rfl⟩ := r1
        obtain ⟨t2, rfl⟩ := r2
        obtain ⟨t3, rfl⟩ := r3
        have g := run_gcd3 a t1 b t2 c t3
        rw [Nat.gcd_zero_left] at g
        exact call_function_meets PySem.W.MGF.kind_gcd PySem.W.MGF.plain_gcd PySem.W.MGF.entry_gcd (args_gcd3 _ _ _) g.meets ⟨.int _, H, I.tok _, ⟨_, rfl⟩, q⟩
theorem cr_isqrt : CallR X (.builtin "math.isqrt") rSqrt := by
  intro pins s σ H vs us Q I r h
  obtain ⟨a, rfl, h0, h1, q⟩ := h
  cases r with
  | cons r1 r =>
    cases r
    obtain ⟨t1, rfl⟩ := r1
    have hl : a.toNat.log2 < 13000 := PySem.Flt.log2_lt_of (by decide) h1
    have g := PySem.W.mg_run_isqrt a t1 (by omega) (by omega) (by omega)
    exact call_function_meets PySem.W.MGF.kind_isqrt PySem.W.MGF.plain_isqrt PySem.W.MGF.entry_isqrt (PySem.W.MGF.args_isqrt _) g.meets ⟨.int _, H, I.tok _, ⟨_, rfl⟩, q⟩
end

/-! ### repr of data -/
section
variable {X : Cx}
def rRepr (K : PySem.W.Frag) : List V → Hp → VK → Prop := fun vs H Q => ∃ v d, vs = [v] ∧ (∃ a, v = .ref a) ∧ Dp K H v d ∧ d.showable = true ∧ d.hasDict = false ∧ d.depth < 20 ∧ d.shown.length ≤ sizeLine ∧ Q (.str d.shown) H
theorem cr_repr {k : Nat} (hr : Room k X.A) (hg : X.A.guards = some []) : CallR X (.builtin "repr") (rRepr X.K) := by
  intro pins s σ H vs us Q I r h
  obtain ⟨v, d, rfl, ⟨a, rfl⟩, hd, hs, hn, hdp, hz, q⟩ := h
  cases r with
  | cons r1 r =>
    cases r
    cases r1
    obtain ⟨as, hrd⟩ := Dp.reads I d (.ref a) (.ref a) hd rfl
    refine repr_of_reads' hrd hs (fun z => by rw [hn] at z; cases z) hg (by have := hr.un; omega) (fun _ _ e => e) (fun h' u tk hk => ?_) hz
    exact ⟨.str d.shown, H, I.kept hk, ⟨_, rfl⟩, q⟩
end
end My
namespace My
open PySem PySem.Spec PyProof.Rows L2

/-! ### a def's promise where no builtin's repr is under way -/
structure FnG (P : Program) (w : World) (K : PySem.W.Frag) (mg : Str → Option Value) (base : Heap) (CX : CXT) (k : Nat) (f : Addr) (fd : FuncData) (ps : List Str) (sp : Sp) : Prop where
  size : ∀ vs H Q E, sp vs H Q E → vs.length = ps.length
  go : ∀ (A : Around) (outer : List Env) (s : Shared) (H : Hp) (args : Args) (us : List Value) (vs : List V) (Q : VK) (E : XK), A.guards = some [] → Room k A → Env0 P w K mg base A outer s H → BindsTo s fd args (ps.zip us) → Vals vs us → sp vs H Q E →
    codeAny (model P w) A (.call (.ref f) args) (CR CX outer P w H s Q E) s
theorem FnG.mono {P : Program} {w : World} {K : PySem.W.Frag} {mg : Str → Option Value} {base : Heap} {CX : CXT} {j k : Nat} {f : Addr} {fd : FuncData} {ps : List Str} {sp : Sp} (F : FnG P w K mg base CX j f fd ps sp) (h : j ≤ k) : FnG P w K mg base CX k f fd ps sp :=
  ⟨F.size, fun A outer s H args us vs Q E g hr => F.go A outer s H args us vs Q E g (hr.mono h)⟩
section
variable {P : Program} {w : World} {K : PySem.W.Frag} {mg : Str → Option Value} {base : Heap}
theorem okG {x qual : Str} {st : Stmt} {f : Addr} {fd : FuncData} {N ps : List Str} {k : Nat} {sp : Sp} (F : Fun K x qual st f fd) (S : FnScope N ps (defScope st)) (len : ∀ vs H Q E, sp vs H Q E → vs.length = ps.length)
    (hbody : ∀ (cdv : Value) (A : Around) (outer : List Env) (s : Shared) (H : Hp) (vs : List V) (Q : VK) (E : XK), (A.deeper (envOfC qual (defScope st) s.heap.objs.size f cdv)).guards = some [] → Room k (A.deeper (envOfC qual (defScope st) s.heap.objs.size f cdv)) → sp vs H Q E →
      ∃ t, PSs (cxOf CX0 P w K mg base N qual (defScope st) f cdv A outer s H E).nox (defBody st) t ∧ t { nx := fun _ H' => Q .non H', rt := Q } (start N vs) H) : FnG P w K mg base CX0 (k + 1) f fd ps sp := by
  obtain ⟨oc, od, kV, doc, pm, an, cdv, ct, osl, e1, lk, hcd⟩ := F.ex
  subst e1
  refine ⟨len, fun A outer s H args us vs Q E g hr e0 hb r hsp => LamX.run_ofS lk hcd S hr e0 hb r (len _ _ _ _ hsp) fun hr' => ?_⟩
  obtain ⟨t, h, q⟩ := hbody cdv A outer s H vs Q E g hr' hsp
  exact ⟨t, h.nox, q⟩
end
section
variable {X : Cx} {CX : CXT} {k : Nat} {f : Addr} {fd : FuncData} {ps : List Str} {sp : Sp} {E : XK} {x : Str} {p pos : Pos} {e : Expr} {es : List Expr} {t : TA}
theorem callG (F : FnG X.prog X.w X.K X.mg X.base CX k f fd ps sp) (g : X.A.guards = some []) (hr : Room k X.A) (hg : Gl X x) (hm : X.mg x = some (.ref f)) (hk : PySem.W.keepIn X.K (.ref f) = true) (hb : Binds X.K fd ps []) (hx : Passes CX X E)
    (ha : PA X (e :: es) t) (hdb : (x == ("__debug__" : Str)) = false := by decide) (he : starEach (e :: es) X.env = (false, eval e X.env) :: starEach es X.env := by rfl) (hpl : (backTo pos (starEach es X.env)).any (·.1) = false := by rfl) :
    PE X (.Call (.Name x p) (e :: es) [] pos) (tCall sp [] E t) := by
  refine ⟨fun pins s σ H Q I h => wpAny_Call_Name_kw (ld_glob I hg hm (PySem.W.callWith_K (h₀ := X.base) I.ok.mod.kin hk (thn (ha.run pos pins s σ H _ I h) fun us s1 hh => ?_) he hpl) hdb)⟩
  obtain ⟨vs, H1, I1, r, q⟩ := hh
  refine ⟨I1.kIn, ?_⟩
  have q0 : sp vs H1 Q E := by
    have z := q
    rw [List.append_nil] at z
    exact z
  have hl : us.length = ps.length := by rw [← r.length]; exact F.size _ _ _ _ q0
  have bd : BindsTo s1 fd ⟨us, []⟩ (ps.zip us) := by
    have z := hb s1 us I1.kIn (by rw [List.append_nil]; exact hl)
    rw [List.append_nil] at z
    exact z
  refine wpAny_call (codeAny_mono (F.go X.A X.stack s1 H1 ⟨us, []⟩ us vs Q E g hr I1.env0 bd r q0) fun r2 s2 hq => ?_)
  match r2, hq with
  | .error er, hq => exact hx pins σ H1 s1 er s2 I1 hq
  | .ok (.ret u), hq => exact I1.after hq
end
/-- the law's own head, from such a promise -/
theorem lawG {P : Program} {w : World} {K : PySem.W.Frag} {mg mb : Str → Option Value} {k : Nat} {fa a : Addr} {fd : FuncData} {x : Str} {sp : Sp} {z : Shared} {vs : List Value} {ns : List Int}
    (KX : K.In z.heap) (hns : z.heap.Ns mainGlobals mg) (hb : z.heap.Ns builtinsNs mb) (hbb : ∀ x : Str, x ≠ "__name__" → mb x = bootBuiltins x) (hlim : z.heap.NoLimit) (hg : z.gens = #[])
    (ha : z.heap.get? a = some { cls := .type "list", data := .seq vs.toArray }) (hi : IntsAre vs ns) (hl : ns.length ≤ sizeLine) (hr : Room k callerA)
    (F : ∀ base : Heap, K.In base → base.Ns mainGlobals mg → FnG P w K mg base CX0 k fa fd [x] sp) (hbind : ∀ (s : Shared) (u : Value), BindsTo s fd ⟨[u], []⟩ [(x, u)])
    (hsp : ∀ H : Hp, Only H → SqL K H a (ns.map V.int) → sp [.ref a] H (fun v _ => v = .bl true) fun _ _ _ => False) :
    codeAny (model P w) callerA (.call (.ref fa) ⟨[.ref a], []⟩) (fun r s' => r = .ok (.ret (.bool true)) ∧ OldK z.heap s'.heap ∧ s'.os = z.os ∧ AllBare s'.gens) z := by
  have run : ∀ H : Hp, Only H → SqL K H a (ns.map V.int) → HOk P w H z.heap → (∀ b, H b ≠ none → b = a ∧ K.lookup a = none) →
      codeAny (model P w) callerA (.call (.ref fa) ⟨[.ref a], []⟩) (fun r s' => r = .ok (.ret (.bool true)) ∧ OldK z.heap s'.heap ∧ s'.os = z.os ∧ AllBare s'.gens) z := by
    intro H hO hS hok hA
    have free : ∀ {b : Addr}, b ≠ a → H b = none := fun {b} hb => Classical.byContradiction fun q => hb (hA b q).1
    have nsOk : ∀ {b : Addr} {m : Str → Option Value}, z.heap.Ns b m → (hidT z.heap H).Ns b m := fun {b m} hn => by
      obtain ⟨o, es, ep, e, d, r⟩ := hn
      refine ⟨o, es, ep, hidT_get e (free fun q => ?_), d, r⟩
      rw [q, ha] at e
      have d2 : Data.seq vs.toArray = Data.dict es ep := by
        rw [← d, ← Option.some.inj e]
      cases d2
    have kin : K.In (hidT z.heap H) := fun b o e => hidT_get (KX b o e) (Classical.byContradiction fun q => by
      obtain ⟨e1, e2⟩ := hA b q
      rw [e1, e2] at e
      cases e)
    have md : Mod K mg (hidT z.heap H) := ⟨kin, nsOk hns, ⟨mb, nsOk hb, hbb⟩, let ⟨mc, h1, h2⟩ := hlim; ⟨mc, nsOk h1, h2⟩⟩
    have en : Env0 P w K mg (hidT z.heap H) callerA [] z H := ⟨rfl, md, fun b o e => of_hidT e, Nat.le_of_eq (hidT_size _ _), trivial, fun b hb => absurd hb List.not_mem_nil, hok, .of_eq hg⟩
    have fin := (F _ kin (nsOk hns)).go callerA [] z H ⟨[.ref a], []⟩ [.ref a] [.ref a] _ _ rfl hr en (hbind z (.ref a)) (.cons rfl .nil) (hsp H hO hS)
    refine codeAny_mono fin fun r s' h => ?_
    match r, h with
    | .error e, h => exact absurd h id
    | .ok (.ret u), h =>
      obtain ⟨v, H', os, bare, un, hok', r', q⟩ := h
      have q' : v = .bl true := q
      rw [q'] at r'
      have ru : u = Value.bool true := r'
      refine ⟨by rw [ru], OldK.of_keep fun b o e => ?_, os, bare⟩
      rcases hO b with y | ⟨ob, xs, y⟩
      · exact un.keep b o e y List.not_mem_nil List.not_mem_nil
      · obtain ⟨e2, _⟩ := hok' b _ (un.frzs b ob _ y)
        obtain ⟨e1, _⟩ := hok b _ y
        rw [e] at e1
        rw [Option.some.inj e1]
        exact e2
  have rv := vals_ints hi
  by_cases hk : K.lookup a = none
  · refine run (fun b => if b = a then some (.frz { cls := .type "list", data := .seq vs.toArray } (.lst (ns.map V.int))) else none) (fun b => ?_) (.inl (.inr ⟨_, if_pos rfl⟩)) (fun b u y => ?_) fun b y => ?_
    · by_cases hb : b = a
      · exact .inr ⟨_, _, if_pos hb⟩
      · exact .inl (if_neg hb)
    · by_cases q : b = a
      · rw [q] at y ⊢
        have y2 := (if_pos rfl).symm.trans y
        rw [← Option.some.inj y2]
        exact ⟨ha, by rw [List.length_map]; exact hl, vs, _, rv, ha⟩
      · cases (if_neg q).symm.trans y
    · by_cases q : b = a
      · exact ⟨q, hk⟩
      · exact absurd (if_neg q) y
  · obtain ⟨o, ho⟩ := Option.ne_none_iff_exists'.mp hk
    have e := KX a o ho
    rw [ha] at e
    cases e
    exact run (fun _ => none) (fun _ => .inl rfl) (.inr ⟨_, vs.toArray, _, ho, rfl, rfl, rfl, by rw [List.size_toArray, hi.length]; exact hl, by simpa using rv⟩) (fun b u y => nomatch y) fun b y => absurd rfl y
theorem walkG {l : PySem.W.OpenLaw} {n k : Nat} {q : Program} {loose : List Str} {XP : (Str → Option Value) → Heap → Prop} {YP : World → Heap → Prop} {d : DefRec} {K : Params → PySem.W.Frag} {sp : PySem.W.Frag → Sp} {x : Str}
    (hn : l.most = some n) (hn2 : n ≤ sizeLine) (hdf : d.params.defaults = []) (hr : Room k callerA)
    (hY : ∀ (w : World) (h : Heap), YP w h → (K w.params).In h)
    (F : ∀ (w : World) (mg : Str → Option Value) (fa : Addr) (h : Heap), (K w.params).In h → h.Ns mainGlobals mg → mg d.name = some (.ref fa) →
      ∃ fd : FuncData, (∀ (s : Shared) (u : Value), BindsTo s fd ⟨[u], []⟩ [(x, u)]) ∧ ∀ base : Heap, (K w.params).In base → base.Ns mainGlobals mg → FnG l.prog w (K w.params) mg base CX0 k fa fd [x] (sp (K w.params)))
    (hsp : ∀ (K : PySem.W.Frag) (H : Hp) (a : Addr) (ns : List Int), ns.length ≤ n → Only H → SqL K H a (ns.map V.int) → sp K [.ref a] H (fun v _ => v = .bl true) fun _ _ _ => False) :
    PySem.W.WalkO q loose XP YP l.row.toRowW d [] (fun f vs => PySem.call f vs) := by
  refine Att.attach_call hn hdf fun w s₀ z mg mb fa o pm cd doc a vs ns G Y ho hd hcd hmg hobj hints hlen hg => ?_
  have KX := hY w _ Y
  have ⟨fd, hb, hF⟩ := F w mg fa _ KX G.T.g hmg
  exact lawG KX G.T.g G.T.b G.T.builtins G.T.nolimit hg hobj hints (Nat.le_trans hlen hn2) hr hF hb fun H hO hS => hsp (K w.params) H a ns hlen hO hS

/-! ### a list of three ints that is told by its kind alone: the dice -/
def DiceO (a : Addr) : HO := .ext fun h => ∃ (l s c : Int) (t1 t2 t3 : Tok) (n : Nat), h.get? a = some { cls := .type "list", data := .seq #[.int l t1, .int s t2, .int c t3] n }
def d3 (l s c : Int) : HO := .lst [.int l, .int s, .int c]
section
variable {X : Cx} {pins : List (Addr × Obj)} {σ : L2.St} {H : Hp} {s : Shared} {a : Addr} {o : HO}
theorem recast (I : Inv X pins σ H s) (hm : Mut (H a)) (ex : ∃ u, s.heap.get? a = some u) (new : ObjOk X.prog X.w (upd H a o) s.heap a o) : Inv X pins σ (upd H a o) s := by
  obtain ⟨hp, g, d, t, os⟩ := s
  exact I.write (h' := hp) (t' := t) (x := a) (e := a) hm (.inl rfl) (fun _ _ _ e => e) ex new
theorem dice_ok {P : Program} {w : World} {H : Hp} {h : Heap} {l s c : Int} {t1 t2 t3 : Tok} {n : Nat} (e : h.get? a = some { cls := .type "list", data := .seq #[.int l t1, .int s t2, .int c t3] n }) : ObjOk P w H h a (DiceO a) :=
  ⟨⟨l, s, c, t1, t2, t3, n, e⟩, ⟨_, e⟩, fun h1 h2 ⟨l, s, c, t1, t2, t3, n, q⟩ k => ⟨l, s, c, t1, t2, t3, n, k _ q⟩⟩
theorem dice_open (I : Inv X pins σ H s) (e : H a = some (DiceO a)) : ∃ l z c, Inv X pins σ (upd H a (d3 l z c)) s := by
  have x : ObjOk X.prog X.w H s.heap a (.ext fun h => ∃ (l s c : Int) (t1 t2 t3 : Tok) (n : Nat), h.get? a = some { cls := .type "list", data := .seq #[.int l t1, .int s t2, .int c t3] n }) := I.hok a _ e
  obtain ⟨l, z, c, t1, t2, t3, n, q⟩ := x.1
  exact ⟨l, z, c, recast I (by rw [e]; exact True.intro) ⟨_, q⟩ ⟨by show 3 ≤ sizeLine; decide, [.int l t1, .int z t2, .int c t3], n, .cons ⟨_, rfl⟩ (.cons ⟨_, rfl⟩ (.cons ⟨_, rfl⟩ .nil)), q⟩⟩
theorem dice_close {l z c : Int} (I : Inv X pins σ H s) (e : H a = some (d3 l z c)) : Inv X pins σ (upd H a (DiceO a)) s := by
  obtain ⟨_, its, n, r, q⟩ := (show ObjOk X.prog X.w H s.heap a (.lst [.int l, .int z, .int c]) from I.hok a _ e)
  refine recast I (by rw [e]; exact True.intro) ⟨_, q⟩ ?_
  cases r with
  | cons r1 r => cases r with
    | cons r2 r => cases r with
      | cons r3 r =>
        cases r
        obtain ⟨t1, rfl⟩ := r1
        obtain ⟨t2, rfl⟩ := r2
        obtain ⟨t3, rfl⟩ := r3
        exact dice_ok q
end
/-- the body may see the dice (the slot i) as a list; it leaves them as dice -/
def tDice (i : Nat) (t : TS) : TS := fun D σ H => ∃ a, σ[i]? = some (some (.ref a)) ∧ H a = some (DiceO a) ∧ ∀ l z c, t
  { nx := fun σ' H' => (∃ l z c, H' a = some (d3 l z c)) ∧ D.nx σ' (upd H' a (DiceO a)), rt := fun v H' => (∃ l z c, H' a = some (d3 l z c)) ∧ D.rt v (upd H' a (DiceO a)),
    bk := fun σ' H' => (∃ l z c, H' a = some (d3 l z c)) ∧ D.bk σ' (upd H' a (DiceO a)), ct := fun σ' H' => (∃ l z c, H' a = some (d3 l z c)) ∧ D.ct σ' (upd H' a (DiceO a)) } σ (upd H a (d3 l z c))
theorem pss_dice {X : Cx} {i : Nat} {body : List Stmt} {t : TS} (h : PSs X body t) : PSs X body (tDice i t) := by
  refine ⟨fun pins s σ H D I hq => ?_⟩
  obtain ⟨a, _, e, q⟩ := hq
  obtain ⟨l, z, c, I1⟩ := dice_open I e
  refine wpAny_mono (h.run pins s σ _ _ I1 (q l z c)) (fun f s' hs => ?_) fun _ _ e => e
  match f, hs with
  | .next, hs => obtain ⟨σ', H', J, ⟨l, z, c, e⟩, w⟩ := hs; exact ⟨σ', _, dice_close J e, w⟩
  | .brk, hs => obtain ⟨σ', H', J, ⟨l, z, c, e⟩, w⟩ := hs; exact ⟨σ', _, dice_close J e, w⟩
  | .cont, hs => obtain ⟨σ', H', J, ⟨l, z, c, e⟩, w⟩ := hs; exact ⟨σ', _, dice_close J e, w⟩
  | .ret u, hs => obtain ⟨v, σ', H', J, r, ⟨l, z, c, e⟩, w⟩ := hs; exact ⟨v, σ', _, dice_close J e, r, w⟩
/-- the body hands back new dice -/
def tDiced (t : TS) : TS := fun D σ H => t { nx := D.nx, rt := fun v H' => ∃ a l z c, v = .ref a ∧ H' a = some (d3 l z c) ∧ D.rt v (upd H' a (DiceO a)), bk := D.bk, ct := D.ct } σ H
theorem pss_diced {X : Cx} {body : List Stmt} {t : TS} (h : PSs X body t) : PSs X body (tDiced t) := by
  refine ⟨fun pins s σ H D I hq => wpAny_mono (h.run pins s σ H _ I hq) (fun f s' hs => ?_) fun _ _ e => e⟩
  match f, hs with
  | .next, hs => exact hs
  | .brk, hs => exact hs
  | .cont, hs => exact hs
  | .ret u, hs => obtain ⟨v, σ', H', J, r, a, l, z, c, ev, e, w⟩ := hs; exact ⟨v, σ', _, dice_close J e, r, w⟩
end My
namespace My
open PySem PySem.Spec PyProof.Rows L2

/-- a def of the module, by its name, with its promise -/
structure FnAt (P : Program) (w : World) (K : PySem.W.Frag) (mg : Str → Option Value) (base : Heap) (k : Nat) (x : Str) (ps : List Str) (sp : Sp) : Prop where
  ex : ∃ (f : Addr) (fd : FuncData), mg x = some (.ref f) ∧ PySem.W.keepIn K (.ref f) = true ∧ Binds K fd ps [] ∧ FnOk P w K mg base CX0 k f fd ps sp
structure FgAt (P : Program) (w : World) (K : PySem.W.Frag) (mg : Str → Option Value) (base : Heap) (k : Nat) (x : Str) (ps : List Str) (sp : Sp) : Prop where
  ex : ∃ (f : Addr) (fd : FuncData), mg x = some (.ref f) ∧ PySem.W.keepIn K (.ref f) = true ∧ Binds K fd ps [] ∧ FnG P w K mg base CX0 k f fd ps sp
/-- a def of the module, by its name, with its text -/
structure DefAt (K : PySem.W.Frag) (mg : Str → Option Value) (x : Str) (st : Stmt) : Prop where
  ex : ∃ (f : Addr) (fd : FuncData), mg x = some (.ref f) ∧ Fun K x x st f fd
section
variable {X : Cx} {k j : Nat} {ps : List Str} {sp : Sp} {x : Str} {p pos : Pos} {e : Expr} {es : List Expr} {t : TA}
theorem callA (F : FnAt X.prog X.w X.K X.mg X.base k x ps sp) (hr : Room k X.A) (hg : Gl X x) (ha : PA X (e :: es) t) (hdb : (x == ("__debug__" : Str)) = false := by decide)
    (he : starEach (e :: es) X.env = (false, eval e X.env) :: starEach es X.env := by rfl) (hpl : (backTo pos (starEach es X.env)).any (·.1) = false := by rfl) : PE X (.Call (.Name x p) (e :: es) [] pos) (tCall sp [] E0 t) := by
  obtain ⟨f, fd, hm, hk, hb, G⟩ := F.ex
  exact pe_call G hr hg hm hk hb .nil pass0 ha hdb he hpl
theorem callB (F : FgAt X.prog X.w X.K X.mg X.base k x ps sp) (gd : X.A.guards = some []) (hr : Room k X.A) (hg : Gl X x) (ha : PA X (e :: es) t) (hdb : (x == ("__debug__" : Str)) = false := by decide)
    (he : starEach (e :: es) X.env = (false, eval e X.env) :: starEach es X.env := by rfl) (hpl : (backTo pos (starEach es X.env)).any (·.1) = false := by rfl) : PE X (.Call (.Name x p) (e :: es) [] pos) (tCall sp [] E0 t) := by
  obtain ⟨f, fd, hm, hk, hb, G⟩ := F.ex
  exact callG G gd hr hg hm hk hb pass0 ha hdb he hpl
end
section
variable {P : Program} {w : World} {K : PySem.W.Frag} {mg : Str → Option Value} {base : Heap}
theorem fnAt {x : Str} {st : Stmt} {N ps : List Str} {k : Nat} {sp : Sp} (D : DefAt K mg x st) (S : FnScope N ps (defScope st))
    (hbind : ∀ (kV doc pm : Value) (an : Option Addr) (cdv ct : Value) (us : List Value), us.length = ps.length → bindArgs (PySem.W.fnOf x x (defArgs st) (defBody st) (defScope st) .none kV doc pm an cdv ct) ⟨us, []⟩ = pure (ps.zip us))
    (len : ∀ vs H Q E, sp vs H Q E → vs.length = ps.length)
    (hbody : ∀ (f : Addr) (cdv : Value) (A : Around) (outer : List Env) (s : Shared) (H : Hp) (vs : List V) (Q : VK) (E : XK), Room k (A.deeper (envOfC x (defScope st) s.heap.objs.size f cdv)) → sp vs H Q E →
      ∃ t, PSs (cxOf CX0 P w K mg base N x (defScope st) f cdv A outer s H E).nox (defBody st) t ∧ t { nx := fun _ H' => Q .non H', rt := Q } (start N vs) H) : FnAt P w K mg base (k + 1) x ps sp := by
  obtain ⟨f, fd, hm, F⟩ := D.ex
  exact ⟨f, fd, hm, F.kp, F.binds hbind, F.ok S len fun cdv A outer s H vs Q E hr h => hbody f cdv A outer s H vs Q E hr h⟩
theorem fgAt {x : Str} {st : Stmt} {N ps : List Str} {k : Nat} {sp : Sp} (D : DefAt K mg x st) (S : FnScope N ps (defScope st))
    (hbind : ∀ (kV doc pm : Value) (an : Option Addr) (cdv ct : Value) (us : List Value), us.length = ps.length → bindArgs (PySem.W.fnOf x x (defArgs st) (defBody st) (defScope st) .none kV doc pm an cdv ct) ⟨us, []⟩ = pure (ps.zip us))
    (len : ∀ vs H Q E, sp vs H Q E → vs.length = ps.length)
    (hbody : ∀ (f : Addr) (cdv : Value) (A : Around) (outer : List Env) (s : Shared) (H : Hp) (vs : List V) (Q : VK) (E : XK), (A.deeper (envOfC x (defScope st) s.heap.objs.size f cdv)).guards = some [] → Room k (A.deeper (envOfC x (defScope st) s.heap.objs.size f cdv)) → sp vs H Q E →
      ∃ t, PSs (cxOf CX0 P w K mg base N x (defScope st) f cdv A outer s H E).nox (defBody st) t ∧ t { nx := fun _ H' => Q .non H', rt := Q } (start N vs) H) : FgAt P w K mg base (k + 1) x ps sp := by
  obtain ⟨f, fd, hm, F⟩ := D.ex
  exact ⟨f, fd, hm, F.kp, F.binds hbind, okG F S len fun cdv A outer s H vs Q E gd hr h => hbody f cdv A outer s H vs Q E gd hr h⟩
end
/-- the built-in names that are free -/
structure Bn (mg : Str → Option Value) : Prop where
  b_len : mg "len" = none
  b_int : mg "int" = none
  b_bool : mg "bool" = none
  b_str : mg "str" = none
  b_list : mg "list" = none
  b_tuple : mg "tuple" = none
  b_max : mg "max" = none
  b_abs : mg "abs" = none
  b_min : mg "min" = none
  b_range : mg "range" = none
  b_repr : mg "repr" = none
  b_isinstance : mg "isinstance" = none
  b_all : mg "all" = none
  b_set : mg "set" = none
  b_sum : mg "sum" = none
  b_any : mg "any" = none
  b_sorted : mg "sorted" = none
  b_zip : mg "zip" = none
  b_enumerate : mg "enumerate" = none
  b_dict : mg "dict" = none
  b_reversed : mg "reversed" = none
  b_divmod : mg "divmod" = none
  b_ord : mg "ord" = none
theorem hu64 {A : Around} {k : Nat} (hr : Room k A) : A.units + 64 < cLine := hr.units

/-! ### whole numbers of any size, divided by any divisor but 0 of at most 9000 bits -/
def CDivX (_ j : Int) : Prop := j ≠ 0 ∧ j.natAbs.log2 < 9000
section
variable {X : Cx}
theorem op_fdivX : OpR X (binaryOp .FloorDiv) (rI CDivX fun i j => .int (i.fdiv j)) := opI fun i j _ _ _ _ _ hc q => floordiv_int hc.1 q (.inl (PyProof.noPylong_of_log2 hc.2))
end
/-- at most n bits -/
def Sz (n : Nat) (i : Int) : Prop := i.natAbs < 2 ^ n
theorem Sz.mono {n m : Nat} {i : Int} (h : Sz n i) (l : n ≤ m) : Sz m i := Nat.lt_of_lt_of_le h (Nat.pow_le_pow_right (by decide) l)
theorem Sz.mul {n m : Nat} {i j : Int} (h : Sz n i) (g : Sz m j) : Sz (n + m) (i * j) := wide_lt h g
theorem Sz.neg {n : Nat} {i : Int} (h : Sz n i) : Sz n (-i) := by unfold Sz; rw [Int.natAbs_neg]; exact h
theorem Sz.add {n : Nat} {i j : Int} (h : Sz n i) (g : Sz n j) : Sz (n + 1) (i + j) := by
  unfold Sz at *
  have e : 2 ^ (n + 1) = 2 ^ n + 2 ^ n := by rw [Nat.pow_succ]; omega
  have := Int.natAbs_add_le i j
  omega
theorem Sz.sub {n : Nat} {i j : Int} (h : Sz n i) (g : Sz n j) : Sz (n + 1) (i - j) := by
  rw [Int.sub_eq_add_neg]
  exact h.add g.neg
theorem Sz.ofLt {n : Nat} {i b : Int} (h : i.natAbs ≤ b.natAbs) (g : Sz n b) : Sz n i := Nat.lt_of_le_of_lt h g
theorem Sz.log {n : Nat} {i : Int} (h : Sz n i) (h0 : 0 < n) : i.natAbs.log2 < n := PySem.Flt.log2_lt_of h0 h
theorem Sz.cmul {n m : Nat} {i j : Int} (h : Sz n i) (g : Sz m j) (hn : 0 < n) (hm : 0 < m) (l : n + m ≤ 1000000) : CMulW i j := wide_mul h g hn hm l
theorem Sz.cdiv {n : Nat} {i j : Int} (h0 : j ≠ 0) (h : Sz n j) (hn : 0 < n) (l : n ≤ 9000) : CDivX i j := ⟨h0, Nat.lt_of_lt_of_le (h.log hn) l⟩
/-- a number of the law's own head -/
theorem ext_refl (H : Hp) : Ext H H := fun _ _ h => h
theorem ext_new {H H1 : Hp} {p : Addr} {o : HO} (e : Ext H H1) (h : H1 p = none) : Ext H (upd H1 p o) := Ext.upd' e h
theorem ext_none {H H1 : Hp} {p : Addr} (e : Ext H H1) (h : H1 p = none) : H p = none := by
  cases q : H p with
  | none => rfl
  | some o => rw [e p o q] at h; cases h
/-- a new object changed: what stood before stands -/
theorem ext_mut {H H1 : Hp} {p : Addr} {o : HO} (e : Ext H H1) (h : H p = none) : Ext H (upd H1 p o) := fun a u q => by
  rw [upd_ne (ne_of_none q h)]
  exact e a u q
end My
namespace My
open PySem PySem.Spec PyProof.Rows L2
theorem len_ok {n : Nat} (h : n ≤ 1000) : n ≤ sizeLine := Nat.le_trans h (by decide)
theorem len_lt {n : Nat} (h : n ≤ 1000) : n < sizeLine := Nat.lt_of_le_of_lt h (by decide)
end My
namespace My
open PySem PySem.Spec PyProof.Rows L2
def top (i : Nat) : Stmt := PySem.Challenge.pw_pieceround_k48_moves_of_places_beside_ro.main.body.getD i (.Pass ⟨0, 0, 0, 0⟩)
abbrev s_dice : Stmt := top 37
abbrev s_roll : Stmt := top 38
abbrev s_pick : Stmt := top 39

local macro_rules | `(tactic| walk_at "side") => `(tactic| first | assumption | decide | exact Or.inl ⟨by decide, by decide⟩ | exact Or.inr ⟨by decide, by decide⟩ | exact ⟨by decide, by decide, by decide⟩ | omega | (unfold CMulW; decide +kernel) | (dsimp only; first | assumption | omega | decide +kernel) | exact len_ok (Nat.le_of_ble_eq_true rfl) | fail "side")
local macro_rules | `(tactic| walk_at "rd") => `(tactic| first
  | refine ⟨_, _, _, _, rfl, rfl, SqL.of upd_same, atI_nat (j := 0) rfl, ?_⟩ | refine ⟨_, _, _, _, rfl, rfl, SqL.of upd_same, atI_nat (j := 1) rfl, ?_⟩ | refine ⟨_, _, _, _, rfl, rfl, SqL.of upd_same, atI_nat (j := 2) rfl, ?_⟩
  | refine ⟨_, _, _, _, rfl, rfl, upd_same, rfl, ?_⟩
  | refine ⟨_, _, rfl, rfl, ?_⟩ | refine ⟨_, rfl, ?_⟩ | refine ⟨_, _, rfl, ?_⟩ | refine Or.inl ⟨_, rfl, ?_⟩ | refine Or.inr ⟨_, rfl, ?_⟩ | refine ⟨(by walk_at "side"), ?_⟩ | fail "rd")
def spDice (K : PySem.W.Frag) : Sp := fun vs H Q _ => ∃ (a : Addr) (i : Int) (ns : List Int), vs = [.ref a, .int i] ∧ SqL K H a (ns.map V.int) ∧ 0 ≤ i ∧ i < 1000 ∧
  ∀ p H', H p = none → Ext H H' → H' p = some (DiceO p) → Q (.ref p) H'
def spRoll : Sp := fun vs H Q _ => ∃ (a : Addr) (n : Int), vs = [.ref a, .int n] ∧ H a = some (DiceO a) ∧ 0 < n ∧ Sz 9000 n ∧ ∀ r : Int, 0 ≤ r → r < n → Q (.int r) H
def spPick (K : PySem.W.Frag) : Sp := fun vs H Q _ => ∃ (a b : Addr) (xs : List V), vs = [.ref a, .ref b] ∧ H a = some (DiceO a) ∧ SqL K H b xs ∧ xs ≠ [] ∧ xs.length ≤ 1000000 ∧ ∀ x, x ∈ xs → Q x H

section
variable {P : Program} {w : World} {K : PySem.W.Frag} {mg : Str → Option Value} {base : Heap}
theorem sc_dice : FnScope ["_law_script", "_law_spot", "_law_cell", "_law_left"] ["_law_script", "_law_spot"] (defScope s_dice) := ⟨rfl, rfl, rfl, by decide +kernel, rfl, by decide +kernel, by decide +kernel⟩
theorem ok_dice (T : Bn mg) (D : DefAt K mg "_law_dice" s_dice) : FnAt P w K mg base 1 "_law_dice" ["_law_script", "_law_spot"] (spDice K) := by
  refine fnAt D sc_dice (fun _ _ _ _ _ _ us hl => match us, hl with | [_, _], _ => rfl) (fun vs H Q E h => ?_) fun f cdv A outer s H vs Q E hr h => ?_
  · obtain ⟨a, i, ns, rfl, _⟩ := h
    rfl
  obtain ⟨a, i, ns, rfl, hS, h0, h1, k⟩ := h
  refine ⟨_, pss_diced (pss_cons (ps_set (i := 2) sc_dice.nd rfl (Or.inl rfl) (pe_ifExp (pt_cmpR op_lt (pv 1) (pe_callB call_len_seq (by rfl) T.b_len (by decide +kernel) (pa_cons (pv 0) pa_nil)) (nomark _)) (pe_callTy call_int1 (by rfl) T.b_int (by decide +kernel) (pa_cons (pe_ix ix_list (pv 0) (pv 1) (fun _ _ => rfl)) pa_nil)) (pe_op op_add (pe_op op_mul pe_int (pv 1)) pe_int)))
    (pss_cons (ps_set (i := 3) sc_dice.nd rfl (Or.inl rfl) (pe_op op_modN (pe_callB (call_max2 rfl) (by rfl) T.b_max (by decide +kernel) (pa_cons pe_int (pa_cons (pe_op op_sub (pe_callB call_abs (by rfl) T.b_abs (by decide +kernel) (pa_cons (pv 2) pa_nil)) (pe_op op_pow pe_int pe_int)) pa_nil))) (pe_op op_mulW (pe_op op_pow pe_int pe_int) (pe_op op_pow pe_int pe_int))))
    (pss_one (ps_ret (pe_lst (pa_cons (pv 3) (pa_cons (pe_op op_add (pe_op op_add (pe_op op_add (pe_op op_mul (pe_op op_modN (pe_callB call_abs (by rfl) T.b_abs (by decide +kernel) (pa_cons (pv 2) pa_nil)) pe_int) pe_int) (pe_op op_mul pe_int (pv 1))) (pe_op op_mul pe_int (pe_callTy call_int1 (by rfl) T.b_int (by decide +kernel) (pa_cons (pe_cmpR op_lt (pv 2) pe_int (nomark _)) pa_nil)))) pe_int) (pa_cons pe_int pa_nil)))))))), ?_⟩
  refine ⟨_, rfl, _, rfl, a, _, rfl, .inl hS, _, _, rfl, rfl, _, rfl, ite2 (fun hlt => ?a) (fun hge => ?b)⟩
  case' a =>
    have hj : i < (ns.length : Int) := by
      have z := of_decide_eq_true hlt
      rw [List.length_map] at z
      exact z
    obtain ⟨j, rfl⟩ : ∃ j : Nat, i = (j : Int) := ⟨i.toNat, by omega⟩
    obtain ⟨c, hc⟩ : ∃ c, ns[j]? = some c := ⟨ns[j], List.getElem?_eq_getElem (by omega)⟩
    refine ⟨_, rfl, _, rfl, a, _, _, V.int c, rfl, rfl, hS, atI_nat (by rw [List.getElem?_map, hc]; rfl), .inl ⟨_, rfl, ?_⟩⟩
  case' b => 
    repeat' (walk_at "rd")
  all_goals
    repeat' (walk_at "rd")
    intro p hp
    exact ⟨p, _, _, _, rfl, upd_same, k p _ hp (ext_mut (ext_new (ext_refl H) hp) hp) upd_same⟩

theorem fmod_in {i n : Int} (h : 0 < n) : 0 ≤ i.fmod n ∧ i.fmod n < n := by
  rw [Int.fmod_eq_emod_of_nonneg _ (by omega)]
  exact ⟨Int.emod_nonneg _ (by omega), Int.emod_lt_of_pos _ h⟩
theorem sc_roll : FnScope ["_law_dice_here", "_law_total", "_law_found", "_law_one", "_law_two"] ["_law_dice_here", "_law_total"] (defScope s_roll) := ⟨rfl, rfl, rfl, by decide +kernel, rfl, by decide +kernel, by decide +kernel⟩
theorem ok_roll (T : Bn mg) (D : DefAt K mg "_law_roll" s_roll) : FnAt P w K mg base 1 "_law_roll" ["_law_dice_here", "_law_total"] spRoll := by
  refine fnAt D sc_roll (fun _ _ _ _ _ _ us hl => match us, hl with | [_, _], _ => rfl) (fun vs H Q E h => ?_) fun f cdv A outer s H vs Q E hr h => ?_
  · obtain ⟨a, i, rfl, _⟩ := h
    rfl
  obtain ⟨a, n, rfl, ha, h0, hz, k⟩ := h
  have n0 : n ≠ 0 := by omega
  have hd : CDivX 0 n := ⟨n0, hz.log (by decide)⟩
  have h64 : ∀ x : Int, -(2 ^ 64) < x.fmod 2305843009213693951 ∧ x.fmod 2305843009213693951 < 2 ^ 64 := fun x => by
    have := fmod_in (i := x) (n := 2305843009213693951) (by decide)
    omega
  have h64' : ∀ x : Int, -(2 ^ 64) < x.fmod 2305843009213693921 ∧ x.fmod 2305843009213693921 < 2 ^ 64 := fun x => by
    have := fmod_in (i := x) (n := 2305843009213693921) (by decide)
    omega
  refine ⟨_, pss_dice (i := 0) (pss_cons (ps_if (pt_cmpR op_gt (pe_ix ix_list (pv 0) pe_int (fun _ _ => rfl)) pe_int (nomark _)) (pss_cons (ps_set (i := 2) sc_roll.nd rfl (Or.inl rfl) (pe_op op_modN (pe_callTy call_int1 (by rfl) T.b_int (by decide +kernel) (pa_cons (pe_ix ix_list (pv 0) pe_int (fun _ _ => rfl)) pa_nil)) (pv 1)))
    (pss_cons (ps_asg (pe_op op_fdivX (pe_ix ix_list (pv 0) pe_int (fun _ _ => rfl)) (pv 1)) (pg_sub (pv 0) pe_int set_list))
    (pss_one (ps_ret (pv 2))))) pss_nil)
    (pss_cons (ps_asg (pe_op op_add (pe_ix ix_list (pv 0) pe_int (fun _ _ => rfl)) pe_int) (pg_sub (pv 0) pe_int set_list))
    (pss_cons (ps_set (i := 3) sc_roll.nd rfl (Or.inl rfl) (pe_op op_modN (pe_callTy call_int1 (by rfl) T.b_int (by decide +kernel) (pa_cons (pe_op op_add (pe_ix ix_list (pv 0) pe_int (fun _ _ => rfl)) (pe_op op_mul pe_int (pe_ix ix_list (pv 0) pe_int (fun _ _ => rfl)))) pa_nil)) pe_int))
    (pss_cons (ps_set (i := 4) sc_roll.nd rfl (Or.inl rfl) (pe_op op_add (pe_op op_mul (pe_op op_modN (pe_callTy call_int1 (by rfl) T.b_int (by decide +kernel) (pa_cons (pe_op op_add (pe_op op_mul (pv 3) (pv 3)) (pe_op op_mul pe_int (pe_ix ix_list (pv 0) pe_int (fun _ _ => rfl)))) pa_nil)) pe_int) pe_int) (pv 3)))
    (pss_one (ps_ret (pe_op op_modN (pe_callTy call_int1 (by rfl) T.b_int (by decide +kernel) (pa_cons (pe_op op_fdivX (pv 4) pe_int) pa_nil)) (pv 1)))))))), ?_⟩
  refine ⟨a, rfl, ha, fun l z c => ?_⟩
  have back : ∀ o, upd (upd (upd H a (d3 l z c)) a o) a (DiceO a) = H := fun o => by
    rw [upd_upd, upd_upd]
    funext b
    by_cases hb : b = a
    · rw [hb, upd_same, ha]
    · rw [upd_ne hb]
  repeat' (walk_at "rd")
  refine ite2 (fun h1 => ?_) (fun h2 => ?_)
  · have hdl : CDivX l n := hd
    repeat' (walk_at "rd")
    exact ⟨⟨_, _, _, upd_same⟩, (by
      show Q _ (upd (upd (upd H a _) a _) a _)
      rw [back]
      exact k _ (fmod_in h0).1 (fmod_in h0).2)⟩
  · repeat' (first | walk_at "rd" | refine ⟨.inl (h64 _), ?_⟩  | refine ⟨.inl (h64' _), ?_⟩ | refine ⟨(show CDivX _ 65536 from ⟨by decide, by decide +kernel⟩), ?_⟩ | fail)
    exact ⟨⟨_, _, _, upd_same⟩, (by
      show Q _ (upd (upd (upd H a _) a _) a _)
      rw [back]
      exact k _ (fmod_in h0).1 (fmod_in h0).2)⟩
theorem sc_pick : FnScope ["_law_dice_here", "_law_items"] ["_law_dice_here", "_law_items"] (defScope s_pick) := ⟨rfl, rfl, rfl, by decide +kernel, rfl, by decide +kernel, by decide +kernel⟩
theorem ok_pick (T : Bn mg) (D : DefAt K mg "_law_pick" s_pick) (F__law_roll : FnAt P w K mg base 1 "_law_roll" ["_law_dice_here", "_law_total"] spRoll) : FnAt P w K mg base 2 "_law_pick" ["_law_dice_here", "_law_items"] (spPick K) := by
  refine fnAt D sc_pick (fun _ _ _ _ _ _ us hl => match us, hl with | [_, _], _ => rfl) (fun vs H Q E h => ?_) fun f cdv A outer s H vs Q E hr h => ?_
  · obtain ⟨a, b, xs, rfl, _⟩ := h
    rfl
  obtain ⟨a, b, xs, rfl, ha, hb, hne, hl, k⟩ := h
  have hp : 0 < xs.length := List.length_pos_iff.mpr hne
  refine ⟨_, pss_one (ps_ret (pe_ix ix_list (pv 1) (callA F__law_roll (hr.mono (by decide)) rfl (pa_cons (pv 0) (pa_cons (pe_callB call_len_seq (by rfl) T.b_len (by decide +kernel) (pa_cons (pv 1) pa_nil)) pa_nil))) (fun _ _ => rfl))), ?_⟩
  refine ⟨_, rfl, _, rfl, _, rfl, b, xs, rfl, .inl hb, a, _, rfl, ha, by omega, ?_, fun r h0 h1 => ?_⟩
  · exact Nat.lt_of_le_of_lt (show ((xs.length : Int)).natAbs ≤ 1000000 by omega) (by decide +kernel)
  obtain ⟨j, rfl⟩ : ∃ j : Nat, r = (j : Int) := ⟨r.toNat, by omega⟩
  have hj : j < xs.length := by omega
  exact ⟨b, xs, _, xs[j], rfl, rfl, hb, atI_nat (List.getElem?_eq_getElem hj), k _ (List.getElem_mem hj)⟩
end
end My
namespace My
open PySem PySem.Spec PyProof.Rows L2
section
variable {K : PySem.W.Frag} {a D : Addr} {xs : List V} {te : TE} {vs : List Nat} {σ : L2.St} {H1 : Hp} {j : Nat}
theorem take_next {α : Type} {l : List α} {i : Nat} {x : α} (h : l[i]? = some x) : l.take (i + 1) = l.take i ++ [x] := by
  rw [List.take_succ, h]
  rfl
/-- what a comprehension without a test has made behind i turns -/
def Made (H1 : Hp) (D : Addr) (f : Nat → V → V) (xs : List V) (i : Nat) (H' : Hp) : Prop := H1 D = none ∧ Ext H1 H' ∧ H' D = some (.lst ((xs.take i).mapIdx f))
theorem made_turn {f : Nat → V → V} {i : Nat} {x : V} {H' : Hp} {σ2 : L2.St} (hz : xs.length ≤ 1000000) (hi : xs[i]? = some x) (p : Made H1 D f xs i H') (he : ∀ Q' : VK, (∀ H'', Ext H' H'' → Q' (f i x) H'') → te σ2 H' Q') :
    tYes σ2 H' fun b H3 => if b = true then te σ2 H3 fun y H4 => ∃ acc, H4 D = some (.lst acc) ∧ acc.length < sizeLine ∧ Made H1 D f xs (i + 1) (upd H4 D (.lst (acc ++ [y]))) else Made H1 D f xs (i + 1) H3 := by
  obtain ⟨p1, p2, p3⟩ := p
  unfold tYes
  dsimp only
  rw [if_pos rfl]
  refine he _ fun H'' e => ⟨_, e _ _ p3, ?_, p1, ext_mut (p2.trans e) p1, ?_⟩
  · rw [List.length_mapIdx, List.length_take]
    exact Nat.lt_of_le_of_lt (Nat.le_trans (Nat.min_le_right _ _) hz) (by decide)
  · have hl : i < xs.length := (List.getElem?_eq_some_iff.mp hi).1
    rw [upd_same, take_next hi, List.mapIdx_append]
    have e1 : (xs.take i).length = i := by rw [List.length_take]; omega
    simp [e1]
abbrev Block (J : It) (g : TG) (tt : TT) (te : TE) (vs : List Nat) (σ : L2.St) (H1 : Hp) (D : Addr) (Qd : Hp → Prop) : Prop := ∃ W : Nat → Nat → Hp → Prop, (∃ m, W 0 m (upd H1 D (.lst []))) ∧ ∀ i m H, W i m H →
  (J.stop i H ∧ Qd H) ∨ (J.go i H ∧ ∃ Nx : Hp → Prop, (∀ H', Nx H' → ∃ m', m' < m ∧ W (i + 1) m' H') ∧ ∀ x H', J.yld i H x H' → g x (wipe σ vs) H' fun σ2 H2 => wipe σ2 vs = wipe σ vs ∧ tt σ2 H2 fun b H3 =>
    if b = true then te σ2 H3 fun y H4 => ∃ acc, H4 D = some (.lst acc) ∧ acc.length < sizeLine ∧ Nx (upd H4 D (.lst (acc ++ [y]))) else Nx H3)
theorem map_list {Qd : Hp → Prop} (f : Nat → V → V) (hx : SqL K H1 a xs) (hD : H1 D = none) (hz : xs.length ≤ 1000000) (hw : ∀ x, wipe ((wipe σ vs).set j (some x)) vs = wipe σ vs)
    (he : ∀ i x H', xs[i]? = some x → Ext H1 H' → ∀ Q' : VK, (∀ H'', Ext H' H'' → Q' (f i x) H'') → te ((wipe σ vs).set j (some x)) H' Q') (hd : ∀ H', Ext H1 H' → H' D = some (.lst (xs.mapIdx f)) → Qd H') :
    Block (Itl K a) (gName j) tYes te vs σ H1 D Qd :=
  lc_list (xs := xs) (Made H1 D f xs) ⟨hD, ext_new (ext_refl H1) hD, upd_same⟩ (fun i H' _ p => hx.ext p.2.1) (fun i x H' hi p => ⟨hw x, made_turn hz hi p (he i x H' hi p.2.1)⟩) fun H' p => hd H' p.2.1 (by have q := p.2.2; rw [List.take_length] at q; exact q)
theorem map_tup {Qd : Hp → Prop} (f : Nat → V → V) (hx : SqT K H1 a xs) (hD : H1 D = none) (hz : xs.length ≤ 1000000) (hw : ∀ x, wipe ((wipe σ vs).set j (some x)) vs = wipe σ vs)
    (he : ∀ i x H', xs[i]? = some x → Ext H1 H' → ∀ Q' : VK, (∀ H'', Ext H' H'' → Q' (f i x) H'') → te ((wipe σ vs).set j (some x)) H' Q') (hd : ∀ H', Ext H1 H' → H' D = some (.lst (xs.mapIdx f)) → Qd H') :
    Block (Itt K a) (gName j) tYes te vs σ H1 D Qd :=
  lc_tup (xs := xs) (Made H1 D f xs) ⟨hD, ext_new (ext_refl H1) hD, upd_same⟩ (fun i H' _ p => hx.ext p.2.1) (fun i x H' hi p => ⟨hw x, made_turn hz hi p (he i x H' hi p.2.1)⟩) fun H' p => hd H' p.2.1 (by have q := p.2.2; rw [List.take_length] at q; exact q)
end
end My
namespace My
open PySem PySem.Spec PyProof.Rows L2
section
variable {K : PySem.W.Frag} {a D : Addr} {xs : List V} {te : TE} {vs : List Nat} {σ : L2.St} {H1 : Hp} {j : Nat}
/-- what is said of the list D survives, when only D changes -/
def Keeps (D : Addr) (Pv : List V → Hp → Prop) : Prop := ∀ acc H H', Pv acc H → (∃ l, H D = some (.lst l)) → (∀ a u, H a = some u → a ≠ D → H' a = some u) → Pv acc H'
def MadeP (H1 : Hp) (D : Addr) (Pv : List V → Hp → Prop) (i : Nat) (H' : Hp) : Prop := H1 D = none ∧ Ext H1 H' ∧ ∃ acc, H' D = some (.lst acc) ∧ acc.length = i ∧ Pv acc H'
theorem madeP_turn {Pv : List V → Hp → Prop} {i : Nat} {H' : Hp} {σ2 : L2.St} (hz : i ≤ 1000000) (kp : Keeps D Pv) (p : MadeP H1 D Pv i H')
    (he : ∀ acc, acc.length = i → Pv acc H' → Ext H1 H' → ∀ Q' : VK, (∀ y H'', Ext H' H'' → Pv (acc ++ [y]) H'' → Q' y H'') → te σ2 H' Q') :
    tYes σ2 H' fun b H3 => if b = true then te σ2 H3 fun y H4 => ∃ acc, H4 D = some (.lst acc) ∧ acc.length < sizeLine ∧ MadeP H1 D Pv (i + 1) (upd H4 D (.lst (acc ++ [y]))) else MadeP H1 D Pv (i + 1) H3 := by
  obtain ⟨p1, p2, acc, p3, p4, p5⟩ := p
  unfold tYes
  dsimp only
  rw [if_pos rfl]
  refine he acc p4 p5 p2 _ fun y H'' e pv => ⟨acc, e _ _ p3, ?_, p1, ext_mut (p2.trans e) p1, acc ++ [y], upd_same, by simp [p4], ?_⟩
  · rw [p4]
    exact Nat.lt_of_le_of_lt hz (by decide)
  · exact kp _ _ _ pv ⟨_, e _ _ p3⟩ fun a u q ne => by rw [upd_ne ne]; exact q
theorem made_range {Qd : Hp → Prop} {n : Nat} (Pv : List V → Hp → Prop) (kp : Keeps D Pv) (hD : H1 D = none) (hz : n ≤ 1000000) (hw : ∀ x, wipe ((wipe σ vs).set j (some x)) vs = wipe σ vs) (h0 : ∀ H, Pv [] H)
    (he : ∀ i H' acc, i < n → Ext H1 H' → acc.length = i → Pv acc H' → ∀ Q' : VK, (∀ y H'', Ext H' H'' → Pv (acc ++ [y]) H'' → Q' y H'') → te ((wipe σ vs).set j (some (.int (0 + i)))) H' Q')
    (hd : ∀ H' acc, Ext H1 H' → H' D = some (.lst acc) → acc.length = n → Pv acc H' → Qd H') :
    Block (Itr 0 n) (gName j) tYes te vs σ H1 D Qd :=
  lc_range (MadeP H1 D Pv) ⟨hD, ext_new (ext_refl H1) hD, [], upd_same, rfl, h0 _⟩ (fun i H' hi p => ⟨hw _, madeP_turn (by omega) kp p fun acc hl pv e Q' k => he i H' acc hi e hl pv Q' k⟩) fun H' ⟨_, e, acc, q, hl, pv⟩ => hd H' acc e q hl pv
theorem made_list {Qd : Hp → Prop} (Pv : List V → Hp → Prop) (kp : Keeps D Pv) (hx : SqL K H1 a xs) (hD : H1 D = none) (hz : xs.length ≤ 1000000) (hw : ∀ x, wipe ((wipe σ vs).set j (some x)) vs = wipe σ vs) (h0 : ∀ H, Pv [] H)
    (he : ∀ i x H' acc, xs[i]? = some x → Ext H1 H' → acc.length = i → Pv acc H' → ∀ Q' : VK, (∀ y H'', Ext H' H'' → Pv (acc ++ [y]) H'' → Q' y H'') → te ((wipe σ vs).set j (some x)) H' Q')
    (hd : ∀ H' acc, Ext H1 H' → H' D = some (.lst acc) → acc.length = xs.length → Pv acc H' → Qd H') :
    Block (Itl K a) (gName j) tYes te vs σ H1 D Qd :=
  lc_list (xs := xs) (MadeP H1 D Pv) ⟨hD, ext_new (ext_refl H1) hD, [], upd_same, rfl, h0 _⟩ (fun i H' _ p => hx.ext p.2.1)
    (fun i x H' hi p => ⟨hw _, madeP_turn (Nat.le_trans (Nat.le_of_lt (List.getElem?_eq_some_iff.mp hi).1) hz) kp p fun acc hl pv e Q' k => he i x H' acc hi e hl pv Q' k⟩) fun H' ⟨_, e, acc, q, hl, pv⟩ => hd H' acc e q hl pv
end
end My
namespace My
open PySem PySem.Spec PyProof.Rows L2
section
variable {K : PySem.W.Frag} {a D : Addr} {xs : List V} {z : Str} {tt : TT} {te : TE} {vs : List Nat} {σ : L2.St} {H1 : Hp} {j : Nat}
/-- the signs of a text -/
def signs (z : Str) : List V := z.cps.toList.map fun c => .str ⟨#[c]⟩
theorem signs_at {z : Str} {i c : Nat} (h : z.cps[i]? = some c) : (signs z)[i]? = some (.str ⟨#[c]⟩) := by
  unfold signs
  rw [List.getElem?_map, Array.getElem?_toList, h]
  rfl
theorem signs_len (z : Str) : (signs z).length = z.cps.size := by simp [signs]
theorem signs_mem {z : Str} {x : V} (h : x ∈ signs z) : ∃ c, c ∈ z.cps.toList ∧ x = .str ⟨#[c]⟩ := by
  obtain ⟨c, hc, e⟩ := List.mem_map.mp h
  exact ⟨c, hc, e.symm⟩
theorem map_str {Qd : Hp → Prop} (f : Nat → V → V) (hD : H1 D = none) (hz : z.cps.size ≤ 1000000) (hw : ∀ x, wipe ((wipe σ vs).set j (some x)) vs = wipe σ vs)
    (he : ∀ i x H', (signs z)[i]? = some x → Ext H1 H' → ∀ Q' : VK, (∀ H'', Ext H' H'' → Q' (f i x) H'') → te ((wipe σ vs).set j (some x)) H' Q') (hd : ∀ H', Ext H1 H' → H' D = some (.lst ((signs z).mapIdx f)) → Qd H') :
    Block (Its z) (gName j) tYes te vs σ H1 D Qd :=
  lc_it walk_str (Made H1 D f (signs z)) ⟨hD, ext_new (ext_refl H1) hD, upd_same⟩ (fun _ _ _ _ => trivial) (fun i x H H' hi p y => by
      obtain ⟨rfl, c, hc, rfl⟩ := y
      have q := signs_at hc
      exact ⟨hw _, made_turn (by rw [signs_len]; exact hz) q p (he i _ _ q p.2.1)⟩)
    fun H' p => hd H' p.2.1 (by
      have q := p.2.2
      rw [← signs_len, List.take_length] at q
      exact q)
/-- what a comprehension with a known test has kept behind i turns -/
def Filt (H1 : Hp) (D : Addr) (p : V → Bool) (xs : List V) (i : Nat) (H' : Hp) : Prop := H1 D = none ∧ Ext H1 H' ∧ H' D = some (.lst ((xs.take i).filter p))
theorem filt_turn {p : V → Bool} {i : Nat} {x : V} {H' : Hp} {σ2 : L2.St} (hz : xs.length ≤ 1000000) (hi : xs[i]? = some x) (q : Filt H1 D p xs i H') (ht : ∀ Q' : Bool → Hp → Prop, (∀ H'', Ext H' H'' → Q' (p x) H'') → tt σ2 H' Q') (he : ∀ (H : Hp) (Q' : VK), Q' x H → te σ2 H Q') :
    tt σ2 H' fun b H3 => if b = true then te σ2 H3 fun y H4 => ∃ acc, H4 D = some (.lst acc) ∧ acc.length < sizeLine ∧ Filt H1 D p xs (i + 1) (upd H4 D (.lst (acc ++ [y]))) else Filt H1 D p xs (i + 1) H3 := by
  obtain ⟨p1, p2, p3⟩ := q
  refine ht _ fun H'' e => ?_
  by_cases hp : p x = true
  · rw [if_pos hp]
    refine he _ _ ⟨_, e _ _ p3, ?_, p1, ext_mut (p2.trans e) p1, ?_⟩
    · have h1 : ((xs.take i).filter p).length ≤ (xs.take i).length := List.length_filter_le _ _
      rw [List.length_take] at h1
      exact Nat.lt_of_le_of_lt (Nat.le_trans h1 (Nat.le_trans (Nat.min_le_right _ _) hz)) (by decide)
    · rw [upd_same, take_next hi, List.filter_append, List.filter_cons, if_pos hp]
      rfl
  · rw [if_neg hp]
    refine ⟨p1, p2.trans e, ?_⟩
    rw [take_next hi, List.filter_append, List.filter_cons, if_neg hp]
    have := e _ _ p3
    simpa using this
theorem filt_list {Qd : Hp → Prop} (p : V → Bool) (hx : SqL K H1 a xs) (hD : H1 D = none) (hz : xs.length ≤ 1000000) (hw : ∀ x, wipe ((wipe σ vs).set j (some x)) vs = wipe σ vs)
    (ht : ∀ (i : Nat) x H', xs[i]? = some x → Ext H1 H' → ∀ Q' : Bool → Hp → Prop, (∀ H'', Ext H' H'' → Q' (p x) H'') → tt ((wipe σ vs).set j (some x)) H' Q') (he : ∀ x (H : Hp) (Q' : VK), Q' x H → te ((wipe σ vs).set j (some x)) H Q')
    (hd : ∀ H', Ext H1 H' → H' D = some (.lst (xs.filter p)) → Qd H') : Block (Itl K a) (gName j) tt te vs σ H1 D Qd :=
  lc_list (xs := xs) (Filt H1 D p xs) ⟨hD, ext_new (ext_refl H1) hD, upd_same⟩ (fun i H' _ q => hx.ext q.2.1) (fun i x H' hi q => ⟨hw x, filt_turn hz hi q (ht i x H' hi q.2.1) (he x)⟩)
    fun H' q => hd H' q.2.1 (by have z := q.2.2; rw [List.take_length] at z; exact z)
theorem filt_tup {Qd : Hp → Prop} (p : V → Bool) (hx : SqT K H1 a xs) (hD : H1 D = none) (hz : xs.length ≤ 1000000) (hw : ∀ x, wipe ((wipe σ vs).set j (some x)) vs = wipe σ vs)
    (ht : ∀ (i : Nat) x H', xs[i]? = some x → Ext H1 H' → ∀ Q' : Bool → Hp → Prop, (∀ H'', Ext H' H'' → Q' (p x) H'') → tt ((wipe σ vs).set j (some x)) H' Q') (he : ∀ x (H : Hp) (Q' : VK), Q' x H → te ((wipe σ vs).set j (some x)) H Q')
    (hd : ∀ H', Ext H1 H' → H' D = some (.lst (xs.filter p)) → Qd H') : Block (Itt K a) (gName j) tt te vs σ H1 D Qd :=
  lc_tup (xs := xs) (Filt H1 D p xs) ⟨hD, ext_new (ext_refl H1) hD, upd_same⟩ (fun i H' _ q => hx.ext q.2.1) (fun i x H' hi q => ⟨hw x, filt_turn hz hi q (ht i x H' hi q.2.1) (he x)⟩)
    fun H' q => hd H' q.2.1 (by have z := q.2.2; rw [List.take_length] at z; exact z)
theorem filt_str {Qd : Hp → Prop} (p : V → Bool) (hD : H1 D = none) (hz : z.cps.size ≤ 1000000) (hw : ∀ x, wipe ((wipe σ vs).set j (some x)) vs = wipe σ vs)
    (ht : ∀ (i : Nat) x H', (signs z)[i]? = some x → Ext H1 H' → ∀ Q' : Bool → Hp → Prop, (∀ H'', Ext H' H'' → Q' (p x) H'') → tt ((wipe σ vs).set j (some x)) H' Q') (he : ∀ x (H : Hp) (Q' : VK), Q' x H → te ((wipe σ vs).set j (some x)) H Q')
    (hd : ∀ H', Ext H1 H' → H' D = some (.lst ((signs z).filter p)) → Qd H') : Block (Its z) (gName j) tt te vs σ H1 D Qd :=
  lc_it walk_str (Filt H1 D p (signs z)) ⟨hD, ext_new (ext_refl H1) hD, upd_same⟩ (fun _ _ _ _ => trivial) (fun i x H H' hi q y => by
      obtain ⟨rfl, c, hc, rfl⟩ := y
      have e := signs_at hc
      exact ⟨hw _, filt_turn (by rw [signs_len]; exact hz) e q (ht i _ _ e q.2.1) (he _)⟩)
    fun H' q => hd H' q.2.1 (by
      have e := q.2.2
      rw [← signs_len, List.take_length] at e
      exact e)
/-- a comprehension whose test is not told: what is kept is of the source -/
def Some' (H1 : Hp) (D : Addr) (xs : List V) (i : Nat) (H' : Hp) : Prop := H1 D = none ∧ Ext H1 H' ∧ ∃ acc, H' D = some (.lst acc) ∧ acc.length ≤ i ∧ ∀ x ∈ acc, x ∈ xs
theorem some_list {Qd : Hp → Prop} (hx : SqL K H1 a xs) (hD : H1 D = none) (hz : xs.length ≤ 1000000) (hw : ∀ x, wipe ((wipe σ vs).set j (some x)) vs = wipe σ vs)
    (ht : ∀ (i : Nat) x H', xs[i]? = some x → Ext H1 H' → ∀ Q' : Bool → Hp → Prop, (∀ b H'', Ext H' H'' → Q' b H'') → tt ((wipe σ vs).set j (some x)) H' Q') (he : ∀ x (H : Hp) (Q' : VK), Q' x H → te ((wipe σ vs).set j (some x)) H Q')
    (hd : ∀ H' acc, Ext H1 H' → H' D = some (.lst acc) → acc.length ≤ xs.length → (∀ x ∈ acc, x ∈ xs) → Qd H') : Block (Itl K a) (gName j) tt te vs σ H1 D Qd :=
  lc_list (xs := xs) (Some' H1 D xs) ⟨hD, ext_new (ext_refl H1) hD, [], upd_same, Nat.le_refl _, fun _ h => by cases h⟩ (fun i H' _ q => hx.ext q.2.1) (fun i x H' hi q => ⟨hw x, by
      obtain ⟨p1, p2, acc, p3, p4, p5⟩ := q
      have hlt := (List.getElem?_eq_some_iff.mp hi).1
      refine ht i x H' hi p2 _ fun b H'' e => ?_
      by_cases hb : b = true
      · rw [if_pos hb]
        refine he _ _ _ ⟨acc, e _ _ p3, Nat.lt_of_le_of_lt (show acc.length ≤ 1000000 by omega) (by decide), p1, ext_mut (p2.trans e) p1, acc ++ [x], upd_same, by rw [List.length_append]; exact Nat.succ_le_succ p4, fun y hy => ?_⟩
        rcases List.mem_append.mp hy with hy | hy
        · exact p5 y hy
        · rw [List.mem_singleton.mp hy]
          exact List.mem_of_getElem? hi
      · rw [if_neg hb]
        exact ⟨p1, p2.trans e, acc, e _ _ p3, Nat.le_succ_of_le p4, p5⟩⟩)
    fun H' ⟨_, e, acc, q, hl, hm⟩ => hd H' acc e q hl hm
theorem map_range {Qd : Hp → Prop} {n : Nat} (g : Nat → V) (hD : H1 D = none) (hz : n ≤ 1000000) (hw : ∀ x, wipe ((wipe σ vs).set j (some x)) vs = wipe σ vs)
    (he : ∀ i H', i < n → Ext H1 H' → ∀ Q' : VK, (∀ H'', Ext H' H'' → Q' (g i) H'') → te ((wipe σ vs).set j (some (.int (0 + i)))) H' Q')
    (hd : ∀ H', Ext H1 H' → H' D = some (.lst ((List.range n).map g)) → Qd H') : Block (Itr 0 n) (gName j) tYes te vs σ H1 D Qd :=
  made_range (fun acc _ => acc = (List.range acc.length).map g) (fun _ _ _ p _ _ => p) hD hz hw (fun _ => rfl) (fun i H' acc hi e hl pv Q' k => he i H' hi e Q' fun H'' e2 => k _ _ e2 (by
      rw [List.length_append, List.length_singleton, List.range_succ, List.map_append, ← pv, hl]
      rfl))
    fun H' acc e q hl pv => hd H' e (by rw [q]; rw [hl] at pv; rw [pv])
end
end My
/-! set(texts): a list's or a tuple's -/
namespace My
open PySem PySem.Spec PyProof.Rows L2
section
variable {κ : Type} [DecidableEq κ]
/-- one key more, once -/
def stp (acc : List κ) (k : κ) : List κ := if k ∈ acc then acc else acc ++ [k]
def met (val : Nat → κ) (i : Nat) : List κ := ((List.range i).map val).foldl stp []
theorem met_succ (val : Nat → κ) (i : Nat) : met val (i + 1) = stp (met val i) (val i) := by
  unfold met
  rw [List.range_succ, List.map_append, List.foldl_append]
  rfl
theorem stp_mem {acc : List κ} {k x : κ} : x ∈ stp acc k ↔ x ∈ acc ∨ x = k := by
  unfold stp
  split
  · exact ⟨.inl, fun h => h.elim id fun e => by rw [e]; assumption⟩
  · simp
theorem stp_len {acc : List κ} {k : κ} : (stp acc k).length = if k ∈ acc then acc.length else acc.length + 1 := by
  unfold stp
  split <;> simp
theorem met_le (val : Nat → κ) : ∀ i, (met val i).length ≤ i
  | 0 => Nat.le_refl _
  | i + 1 => by
    rw [met_succ, stp_len]
    have := met_le val i
    split <;> omega
theorem met_mem (val : Nat → κ) : ∀ i x, x ∈ met val i ↔ ∃ j, j < i ∧ val j = x
  | 0, x => by simp [met]
  | i + 1, x => by
    rw [met_succ, stp_mem, met_mem val i]
    constructor
    · rintro (⟨j, a, b⟩ | e)
      · exact ⟨j, by omega, b⟩
      · exact ⟨i, by omega, e.symm⟩
    · rintro ⟨j, a, b⟩
      by_cases q : j = i
      · exact .inr (by rw [← b, q])
      · exact .inl ⟨j, by omega, b⟩
end
section
variable {prog : Program} {w : World} {A : Around} {R : Result → Shared → Prop} {κ : Type} [DecidableEq κ] {knd : KeyKind prog w κ} {I : Addr} {fp wr : List Addr} {G : Array GenState → Array GenState → Prop} {n : Nat} {P : Nat → Value → Prop} {St : Nat → Shared → Prop}
theorem setOf_same {h : Heap} {a : Addr} {S S' : κ → Bool} {m m' : Nat} (x : h.SetOf knd a S m) (e : ∀ k, S k = S' k) (em : m = m') : h.SetOf knd a S' m' := by
  have z : S = S' := funext e
  subst z
  subst em
  exact x
/-- the update's turns, whatever the keys -/
theorem update_turns (W : WalksS prog w A.in1 I fp wr G n P St) (a : Addr) (out : a ∉ fp) (val : Nat → κ) (keys : ∀ i v, P i v → knd.is (val i) v = true ∧ v.scannable = true) (room : n + 1 < scanBound) :
    ∀ (left i : Nat) (s : Shared), n - i = left → i ≤ n → St i s → s.heap.SetOf knd a (fun k => decide (k ∈ met val i)) (met val i).length →
      (∀ s', Moved (a :: wr) G s s' → s'.heap.SetOf knd a (fun k => decide (k ∈ met val n)) (met val n).length → R (.ok (.ret .none)) s') →
      codeAny (model prog w) A (.builtin "set.update.loop" ⟨[.ref a, .ref I], []⟩) R s := by
  have outW : a ∉ wr := fun h => out (W.sub _ h)
  have more : ∀ b ∈ wr, b ∈ a :: wr := fun b hb => List.mem_cons_of_mem _ hb
  have kept : ∀ {s s' : Shared} {S : κ → Bool} {m : Nat}, s.heap.SetOf knd a S m → Moved wr G s s' → s'.heap.SetOf knd a S m := fun ⟨o, es, ep, t, ho, r⟩ hm => ⟨o, es, ep, t, hm.heap a _ outW ho, r⟩
  intro left
  induction left with
  | zero =>
    intro i s hk hi st hS fin
    obtain rfl : i = n := by omega
    refine codeAny_builtin F.entry_set_update_loop ?_
    rw [Around.under_plainId F.plain_set_update_loop _]
    refine wpAny_bind (W.done s _ _ st fun s' hm => wpAny_pure (fin s' (hm.mono more) (kept hS hm)))
  | succ left ih =>
    intro i s hk hi st hS fin
    have lt : i < n := by omega
    refine codeAny_builtin F.entry_set_update_loop ?_
    rw [Around.under_plainId F.plain_set_update_loop _]
    refine wpAny_bind (W.item i s _ _ lt st fun v s' hP st' hm => ?_)
    obtain ⟨isK, sc⟩ := keys i v hP
    have hS' := kept hS hm
    show wpAny _ A.in1 (holding [v] (setAdd a v) >>= _) _ _ s'
    refine wpAny_bind (wpAny_holding ?_)
    unfold setAdd
    refine wpAny_holding (wpAny_bind (knd.pyHash (k := val i) isK ?_))
    have fits : (met val i).length + 1 < scanBound := by have := met_le val i; omega
    refine wpAny_setAddHashed_of (knd := knd) (s := { s' with toks := s'.toks + 1 }) isK sc hS' fits fun h' sb hS2 => ?_
    have next : h'.SetOf knd a (fun k => decide (k ∈ met val (i + 1))) (met val (i + 1)).length :=
      setOf_same hS2 (fun k => by rw [met_succ, Bool.eq_iff_iff]; simp [stp_mem]) (by rw [met_succ, stp_len]; simp)
    refine wpAny_pure ⟨plainId_quiet F.plain_set_update_loop _, ih (i + 1) _ (by omega) lt (W.frame _ s' _ _ st' (Nat.le_succ _) fun b hb o e => ?_) next fun s'' hm'' hS'' => ?_⟩
    · rw [sb.2 b (fun h : b = a => out (by rw [← h]; exact hb))]
      exact e
    · refine fin s'' (Moved.trans W.gtrans ((hm.mono more).then_heap (Nat.le_succ _) fun b o hb e => ?_) hm'') hS''
      rw [sb.2 b (fun h : b = a => hb (by rw [h]; exact List.mem_cons_self))]
      exact e
end
end My
set_option maxHeartbeats 8000000
namespace My
open PySem PySem.Spec L2
theorem sub_tup_set : isSubtype (.type "tuple") (.type "set") = pure false := by rw [isSubtype_type]; kernel_rfl
theorem sub_tup_frozenset : isSubtype (.type "tuple") (.type "frozenset") = pure false := by rw [isSubtype_type]; kernel_rfl
theorem sub_lst_set : isSubtype (.type "list") (.type "set") = pure false := by rw [isSubtype_type]; kernel_rfl
theorem sub_lst_frozenset : isSubtype (.type "list") (.type "frozenset") = pure false := by rw [isSubtype_type]; kernel_rfl
section
variable {prog : Program} {w : World} {A : Around} {E : Value → Shared → Prop} {s : Shared} {κ : Type} [DecidableEq κ] {knd : KeyKind prog w κ}
/-- set(xs), a list of keys -/
theorem set_of_list {l : Addr} {items : Array Value} (val : Nat → κ) {Q : Value → Shared → Prop} (calm : A.handled = none) (hl : s.heap.IsList l items) (keys : ∀ i v, items[i]? = some v → knd.is (val i) v = true ∧ v.scannable = true) (room : items.size + 1 < scanBound)
    (go : ∀ (h' : Heap) (tk : Nat), h'.SetOf knd s.heap.objs.size (fun k => decide (k ∈ met val items.size)) (met val items.size).length → (∀ b o, b < s.heap.objs.size → s.heap.get? b = some o → h'.get? b = some o) → Q (.ref s.heap.objs.size) { s with heap := h', toks := tk }) :
    wpAny (model prog w) A (call (.type "set") [.ref l]) Q E s := by
  obtain ⟨c, tl, hmro⟩ := F.called_set.mro
  have made := F.called_set.made
  have sub := F.called_set.sub
  refine wpAny_call (codeAny_of_tree (?_))
  show wpAny _ _ (callAny (.type "set") _) _ _ _
  refine wpAny_pure ⟨Code.quiet_builtin _ (by decide +kernel), codeAny_builtin F.entry_type_call (?_)⟩
  rw [Around.under_plain (weight_type_call_type "set" [.ref l] []) rfl]
  have a1 := F.called_set.notType
  have a2 := F.called_set.canCreate
  have a3 := F.typeCall_set_1 (.ref l)
  repeat (any_goals (first | assumption | wp_step))
  refine codeAny_mono (code_set_new_1 (.ref l) (E := E) (Q₁ := fun obj s1 => ∃ led : Bool, obj = .ref s.heap.objs.size ∧ s1 = { s with heap := s.heap.push { cls := .type "set", dict := none, data := .set #[] 0 (.fresh 0 0 led) } }) fun led => ⟨led, rfl, rfl⟩) fun r s1 back => ?_
  cases r with
  | error e => exact back
  | ok fl =>
    cases fl with
    | ret obj =>
      obtain ⟨led, rfl, rfl⟩ := back
      have atS : (s.heap.push { cls := .type "set", dict := none, data := .set #[] 0 (.fresh 0 0 led) }).get? s.heap.objs.size = some { cls := .type "set", dict := none, data := .set #[] 0 (.fresh 0 0 led) } := Heap.get?_push_size _ rfl
      have isS : Shared.TypeIs { s with heap := s.heap.push { cls := .type "set", dict := none, data := .set #[] 0 (.fresh 0 0 led) } } (.ref s.heap.objs.size) "set" := ⟨_, atS, rfl⟩
      have b1 := F.called_set.init.lookup
      have b2 := F.called_set.init.bind (.ref s.heap.objs.size)
      repeat (any_goals (first | assumption | wp_step))
      refine codeAny_mono (codeAny_call_builtin (R := wants (fun r s2 => r = .none ∧ ∃ h' tk, s2 = { s with heap := h', toks := tk } ∧ h'.SetOf knd s.heap.objs.size (fun k => decide (k ∈ met val items.size)) (met val items.size).length ∧
          ∀ b o, b < s.heap.objs.size → s.heap.get? b = some o → h'.get? b = some o) E) F.called_set.init.plain F.entry_set_init (check_set_init_1 isS (?_))) fun r2 s2 back2 => ?_
      · obtain ⟨ol, hol, hcl, nl, hdl⟩ := hl
        obtain ⟨ocls, odict, odata, oslots⟩ := ol
        simp only at hcl hdl
        subst hcl
        subst hdl
        have hol2 : (s.heap.push { cls := .type "set", dict := none, data := .set #[] 0 (.fresh 0 0 led) }).get? l = some { cls := .type "list", dict := odict, data := .seq items nl, slots := oslots } := Heap.get?_push_of_some _ hol
        have n1 := sub_lst_set
        have n2 := sub_lst_frozenset
        have n3 : (Value.type "list" == Value.type "dict") = false := by decide
        have hl1 : (s.heap.push { cls := .type "set", dict := none, data := .set #[] 0 (.fresh 0 0 led) }).IsList l items := ⟨_, hol2, rfl, nl, rfl⟩
        unfold Builtin.«set.__init__» noKeywords Builtin.Frozenset.updateFrom
        generalize hPI : pyIter = PI
        wp_walk
        subst hPI
        refine wpAny_pyIter_list hl1 (wpAny_bind (wpAny_runValue (?_)))
        have lS : l < s.heap.objs.size := Heap.lt_size hol
        have calm3 : A.in1.in1.in1.handled = none := by simp [calm]
        have neI : l ≠ (s.heap.push { cls := .type "set", dict := none, data := .set #[] 0 (.fresh 0 0 led) }).objs.size := by
          rw [Heap.size_push]
          exact Nat.ne_of_lt (Nat.lt_succ_of_lt lS)
        have outS : s.heap.objs.size ∉ [(s.heap.push { cls := .type "set", dict := none, data := .set #[] 0 (.fresh 0 0 led) }).objs.size, l] := by
          rw [Heap.size_push]
          simp only [List.mem_cons, List.not_mem_nil, or_false, not_or]
          exact ⟨Nat.ne_of_lt (Nat.lt_succ_self _), Nat.ne_of_gt lS⟩
        refine update_turns ((Walks.list calm3 _ l neI items).toS) s.heap.objs.size outS val keys room (items.size - 0) 0 _ (by omega) (Nat.zero_le _) ⟨⟨_, Heap.get?_push_size _ rfl, rfl, rfl⟩, (hl1.push _)⟩ ?first ?last
        case first =>
          have got : ((s.heap.push { cls := .type "set", dict := none, data := .set #[] 0 (.fresh 0 0 led) }).push { cls := .type "list_iterator", data := .fields #[.ref l, .int 0 0] }).get? s.heap.objs.size = some { cls := .type "set", dict := none, data := .set #[] 0 (.fresh 0 0 led) } := Heap.get?_push_of_some _ atS
          exact setOf_same ((PyProof.Rows.setObjOf_fresh (knd := knd) led).setOf got (by unfold scanBound; omega)) (fun _ => rfl) rfl
        case last =>
          intro s' hm hS'
          obtain ⟨h', g', d', tk', os'⟩ := s'
          obtain rfl : g' = s.gens := hm.gens
          obtain rfl : d' = s.drawn := hm.drawn
          obtain rfl : os' = s.os := hm.os
          refine wpAny_pure (wpAny_pure ⟨rfl, h', tk', rfl, hS', fun b o hb e => ?_⟩)
          refine hm.heap b o ?_ (Heap.get?_push_of_some _ (Heap.get?_push_of_some _ e))
          simp only [List.mem_cons, List.not_mem_nil, or_false, not_or]
          exact ⟨Nat.ne_of_lt hb, by rw [Heap.size_push]; exact Nat.ne_of_lt (Nat.lt_succ_of_lt hb)⟩
      · cases r2 with
        | error e => exact back2
        | ok fl2 =>
          cases fl2 with
          | ret r =>
            obtain ⟨rfl, h', tk, rfl, hS', k'⟩ := back2
            repeat (any_goals (first | assumption | wp_step))
            exact go _ _ hS' k'
          | _ => exact back2.elim
    | _ => exact back.elim
/-- set(xs), a tuple of keys -/
theorem set_of_tuple {l : Addr} {items : Array Value} (val : Nat → κ) {Q : Value → Shared → Prop} (calm : A.handled = none) (hl : s.heap.IsTuple l items) (keys : ∀ i v, items[i]? = some v → knd.is (val i) v = true ∧ v.scannable = true) (room : items.size + 1 < scanBound)
    (go : ∀ (h' : Heap) (tk : Nat), h'.SetOf knd s.heap.objs.size (fun k => decide (k ∈ met val items.size)) (met val items.size).length → (∀ b o, b < s.heap.objs.size → s.heap.get? b = some o → h'.get? b = some o) → Q (.ref s.heap.objs.size) { s with heap := h', toks := tk }) :
    wpAny (model prog w) A (call (.type "set") [.ref l]) Q E s := by
  obtain ⟨c, tl, hmro⟩ := F.called_set.mro
  have made := F.called_set.made
  have sub := F.called_set.sub
  refine wpAny_call (codeAny_of_tree (?_))
  show wpAny _ _ (callAny (.type "set") _) _ _ _
  refine wpAny_pure ⟨Code.quiet_builtin _ (by decide +kernel), codeAny_builtin F.entry_type_call (?_)⟩
  rw [Around.under_plain (weight_type_call_type "set" [.ref l] []) rfl]
  have a1 := F.called_set.notType
  have a2 := F.called_set.canCreate
  have a3 := F.typeCall_set_1 (.ref l)
  repeat (any_goals (first | assumption | wp_step))
  refine codeAny_mono (code_set_new_1 (.ref l) (E := E) (Q₁ := fun obj s1 => ∃ led : Bool, obj = .ref s.heap.objs.size ∧ s1 = { s with heap := s.heap.push { cls := .type "set", dict := none, data := .set #[] 0 (.fresh 0 0 led) } }) fun led => ⟨led, rfl, rfl⟩) fun r s1 back => ?_
  cases r with
  | error e => exact back
  | ok fl =>
    cases fl with
    | ret obj =>
      obtain ⟨led, rfl, rfl⟩ := back
      have atS : (s.heap.push { cls := .type "set", dict := none, data := .set #[] 0 (.fresh 0 0 led) }).get? s.heap.objs.size = some { cls := .type "set", dict := none, data := .set #[] 0 (.fresh 0 0 led) } := Heap.get?_push_size _ rfl
      have isS : Shared.TypeIs { s with heap := s.heap.push { cls := .type "set", dict := none, data := .set #[] 0 (.fresh 0 0 led) } } (.ref s.heap.objs.size) "set" := ⟨_, atS, rfl⟩
      have b1 := F.called_set.init.lookup
      have b2 := F.called_set.init.bind (.ref s.heap.objs.size)
      repeat (any_goals (first | assumption | wp_step))
      refine codeAny_mono (codeAny_call_builtin (R := wants (fun r s2 => r = .none ∧ ∃ h' tk, s2 = { s with heap := h', toks := tk } ∧ h'.SetOf knd s.heap.objs.size (fun k => decide (k ∈ met val items.size)) (met val items.size).length ∧
          ∀ b o, b < s.heap.objs.size → s.heap.get? b = some o → h'.get? b = some o) E) F.called_set.init.plain F.entry_set_init (check_set_init_1 isS (?_))) fun r2 s2 back2 => ?_
      · obtain ⟨ol, hol, hcl, nl, hdl⟩ := hl
        obtain ⟨ocls, odict, odata, oslots⟩ := ol
        simp only at hcl hdl
        subst hcl
        subst hdl
        have hol2 : (s.heap.push { cls := .type "set", dict := none, data := .set #[] 0 (.fresh 0 0 led) }).get? l = some { cls := .type "tuple", dict := odict, data := .seq items nl, slots := oslots } := Heap.get?_push_of_some _ hol
        have n1 := sub_tup_set
        have n2 := sub_tup_frozenset
        have n3 : (Value.type "tuple" == Value.type "dict") = false := by decide
        have hl1 : (s.heap.push { cls := .type "set", dict := none, data := .set #[] 0 (.fresh 0 0 led) }).IsTuple l items := ⟨_, hol2, rfl, nl, rfl⟩
        unfold Builtin.«set.__init__» noKeywords Builtin.Frozenset.updateFrom
        generalize hPI : pyIter = PI
        wp_walk
        subst hPI
        refine wpAny_pyIter_tuple hl1 (wpAny_bind (wpAny_runValue (?_)))
        have lS : l < s.heap.objs.size := Heap.lt_size hol
        have calm3 : A.in1.in1.in1.handled = none := by simp [calm]
        have neI : l ≠ (s.heap.push { cls := .type "set", dict := none, data := .set #[] 0 (.fresh 0 0 led) }).objs.size := by
          rw [Heap.size_push]
          exact Nat.ne_of_lt (Nat.lt_succ_of_lt lS)
        have outS : s.heap.objs.size ∉ [(s.heap.push { cls := .type "set", dict := none, data := .set #[] 0 (.fresh 0 0 led) }).objs.size, l] := by
          rw [Heap.size_push]
          simp only [List.mem_cons, List.not_mem_nil, or_false, not_or]
          exact ⟨Nat.ne_of_lt (Nat.lt_succ_self _), Nat.ne_of_gt lS⟩
        refine update_turns ((Walks.tuple calm3 _ l neI items).toS) s.heap.objs.size outS val keys room (items.size - 0) 0 _ (by omega) (Nat.zero_le _) ⟨⟨_, Heap.get?_push_size _ rfl, rfl, rfl⟩, (hl1.push _)⟩ ?first ?last
        case first =>
          have got : ((s.heap.push { cls := .type "set", dict := none, data := .set #[] 0 (.fresh 0 0 led) }).push { cls := .type "tuple_iterator", data := .fields #[.ref l, .int 0 0] }).get? s.heap.objs.size = some { cls := .type "set", dict := none, data := .set #[] 0 (.fresh 0 0 led) } := Heap.get?_push_of_some _ atS
          exact setOf_same ((PyProof.Rows.setObjOf_fresh (knd := knd) led).setOf got (by unfold scanBound; omega)) (fun _ => rfl) rfl
        case last =>
          intro s' hm hS'
          obtain ⟨h', g', d', tk', os'⟩ := s'
          obtain rfl : g' = s.gens := hm.gens
          obtain rfl : d' = s.drawn := hm.drawn
          obtain rfl : os' = s.os := hm.os
          refine wpAny_pure (wpAny_pure ⟨rfl, h', tk', rfl, hS', fun b o hb e => ?_⟩)
          refine hm.heap b o ?_ (Heap.get?_push_of_some _ (Heap.get?_push_of_some _ e))
          simp only [List.mem_cons, List.not_mem_nil, or_false, not_or]
          exact ⟨Nat.ne_of_lt hb, by rw [Heap.size_push]; exact Nat.ne_of_lt (Nat.lt_succ_of_lt hb)⟩
      · cases r2 with
        | error e => exact back2
        | ok fl2 =>
          cases fl2 with
          | ret r =>
            obtain ⟨rfl, h', tk, rfl, hS', k'⟩ := back2
            repeat (any_goals (first | assumption | wp_step))
            exact go _ _ hS' k'
          | _ => exact back2.elim
    | _ => exact back.elim
end
end My
namespace My
open PySem PySem.Spec L2
theorem entry_set_eq : entryFor table "set.__eq__" = some Builtin.«frozenset.__eq__» := entryFor_alias (id' := "frozenset.__eq__") (by kernel_rfl) rfl (by decide +kernel) (by kernel_rfl)
section
variable {prog : Program} {w : World} {A : Around} {E : Value → Shared → Prop} {s : Shared} {κ : Type} [DecidableEq κ] {knd : KeyKind prog w κ}
theorem size_of {a : Addr} {S : κ → Bool} {n : Nat} {Q : Nat → Shared → Prop} (h : s.heap.SetOf knd a S n) (q : Q n s) : wpAny (model prog w) A (Builtin.Frozenset.sizeOf a) Q E s := by
  obtain ⟨o, es, ep, t, ho, hx, hd, _, _, _, hf, hn⟩ := h
  unfold Builtin.Frozenset.sizeOf
  exact wpAny_bind (wpAny_setEntries_of ho hd hf (wpAny_pure (by rw [hn]; exact q)))
theorem quiet_all {M : Model} {a : Addr} {Q : Option (List (Int × Value)) × Unit → Shared → Prop} (q : Q (none, ()) s) : ∀ l : List (Int × Value), (∀ e ∈ l, e.2.scannable = true) →
    wpAny M A (forIn l ((none : Option (List (Int × Value))), ()) fun x _ => match x with
      | (_, x) => do
        let d ← Builtin.Frozenset.quietEq x
        if (!d) = true then do
            let d ← Builtin.Frozenset.walk a
            pure (ForInStep.done (some d, ()))
          else pure (ForInStep.yield (none, ()))) Q E s
  | [], _ => wpAny_pure q
  | (h, x) :: l, sc => by
    rw [List.forIn_cons]
    have e : Builtin.Frozenset.quietEq x = pure true := by
      have z := sc (h, x) (List.mem_cons_self ..)
      unfold Builtin.Frozenset.quietEq
      cases x <;> first | rfl | cases z
    refine wpAny_bind ?_
    dsimp only
    rw [e]
    refine wpAny_bind (wpAny_pure ?_)
    rw [if_neg (by simp)]
    exact wpAny_pure (quiet_all q l fun e he => sc e (List.mem_cons_of_mem _ he))
theorem subset_all {a b : Addr} {S' : κ → Bool} {m : Nat} {oa : Obj} {ea : Array (Int × Value)} {pa : Nat} {ta : SetTable} (ho : s.heap.get? a = some oa) (hd : oa.data = .set ea pa ta) (hf : ta.fits ea.size = true) (hb : s.heap.SetOf knd b S' m) {id : String} {Q : Option Bool × Unit → Shared → Prop} :
    ∀ l : List (Int × Value), ElemsOf knd l → (∀ r : Bool, (r = true ↔ ∀ e ∈ l, ∀ k, knd.is k e.2 = true → S' k = true) → Q (if r then none else some false, ()) s) →
    wpAny (model prog w) A (forIn l ((none : Option Bool), ()) fun x _ => match x with
      | (h, x) => do
        let d ← holding [x] (setFind b x h)
        if d.isNone = true then pure (ForInStep.done (some false, ()))
          else do
            Builtin.Frozenset.unchanged id a pa
            pure (ForInStep.yield (none, ()))) Q E s
  | [], _, q => wpAny_pure (q true ⟨fun _ e he => absurd he List.not_mem_nil, fun _ => rfl⟩)
  | (h, x) :: l, el, q => by
    rw [List.forIn_cons]
    obtain ⟨⟨k, hk, eh⟩, sc⟩ := el.head
    dsimp only at hk eh sc
    subst eh
    refine wpAny_bind (wpAny_bind (wpAny_holding (wpAny_setFind_of hk sc hb fun r hr => ?_)))
    have only : ∀ k', knd.is k' x = true → k' = k := fun k' h' => knd.inj _ _ _ h' hk
    cases r with
    | none =>
      have no : S' k = false := hr.symm
      rw [if_pos (show (none : Option Nat).isNone = true from rfl)]
      refine wpAny_pure (wpAny_pure (q false ⟨fun z => (by cases z), fun z => ?_⟩))
      have y := z _ (List.mem_cons_self ..) k hk
      rw [no] at y
      cases y
    | some i =>
      have yes : S' k = true := hr.symm
      rw [if_neg (by simp)]
      unfold Builtin.Frozenset.unchanged
      refine wpAny_bind (wpAny_bind (wpAny_setEpoch_of ho hd hf ?_))
      rw [if_neg (by simp)]
      refine wpAny_pure (wpAny_pure (subset_all ho hd hf hb l el.tail fun r hr2 => q r ⟨fun z e he k' hk' => ?_, fun z => hr2.mpr fun e he => z e (List.mem_cons_of_mem _ he)⟩))
      rcases List.mem_cons.mp he with e1 | he
      · subst e1
        rw [only k' hk']
        exact yes
      · exact hr2.mp z e he k' hk'
theorem eq_of_sets {a b : Addr} {S S' : κ → Bool} {n m : Nat} {Q : Value → Shared → Prop} (ha : s.heap.SetOf knd a S n) (hb : s.heap.SetOf knd b S' m)
    (q : ∀ r : Bool, (r = true ↔ n = m ∧ ∀ k, S k = true → S' k = true) → Q (.bool r) s) : wpAny (model prog w) A (call (.builtin "set.__eq__") [.ref a, .ref b]) Q E s := by
  refine wpAny_call_entry F.slot_set_eq ha.typeIs entry_set_eq ?_ (F.args_set_eq_2 _ _)
  unfold Builtin.«frozenset.__eq__»
  refine wpAny_bind ?_
  unfold Builtin.Frozenset.slot1
  refine wpAny_bind (wpAny_of_eq (a := ((Value.ref a : Value), [Value.ref b])) (by first | rfl | (simp only [slotArgs]; rfl)) ?_)
  refine wpAny_pure (wpAny_bind ?_)
  unfold Builtin.Frozenset.isAnySet
  refine wpAny_bind (wpAny_isInstance hb.typeIs sub_set_self (wpAny_pure ?_))
  refine wpAny_bind (wpAny_pure (wpAny_bind (wpAny_pure (wpAny_bind (size_of ha (wpAny_bind (size_of hb ?_)))))))
  refine wpAny_bind ?_
  by_cases hn : n = m
  · subst hn
    rw [if_neg (by simp)]
    refine wpAny_bind (wpAny_bind (wpAny_isInstance ha.typeIs F.sub_set_frozenset (wpAny_pure ?_)))
    dsimp only
    rw [if_neg (by simp)]
    unfold Builtin.Frozenset.subsetOf
    refine wpAny_bind (size_of ha (wpAny_bind (size_of hb ?_)))
    rw [if_neg (Nat.lt_irrefl _)]
    obtain ⟨oa, ea, pa, ta, ha1, ha2, ha3, ha4, ha5, ha6, ha7, ha8⟩ := ha
    obtain ⟨ob, eb, pb, tb, hb1, hb2, hb3, hb4, hb5, hb6, hb7, hb8⟩ := id hb
    refine wpAny_bind (wpAny_setEpoch_of ha1 ha3 ha7 (wpAny_bind ?_))
    unfold Builtin.Frozenset.walkUnseen
    refine wpAny_bind (wpAny_setEntries_of ha1 ha3 ha7 (wpAny_bind (wpAny_setEntries_of hb1 hb3 hb7 ?_)))
    refine wpAny_bind (quiet_all ?_ _ fun e he => (List.mem_append.mp he).elim (fun h => (ha4 e h).2) fun h => (hb4 e h).2)
    refine wpAny_pure (wpAny_bind (subset_all ha1 ha3 ha7 hb _ ha4 fun r hr => ?_))
    have fin : (r = true ↔ n = n ∧ ∀ k, S k = true → S' k = true) := by
      rw [hr]
      constructor
      · intro z
        refine ⟨rfl, fun k hk => ?_⟩
        obtain ⟨e, he, hke⟩ := (ha5 k).mp hk
        exact z e he k hke
      · rintro ⟨_, z⟩ e he k hke
        exact z k ((ha5 k).mpr ⟨e, he, hke⟩)
    cases r with
    | true => exact wpAny_pure (wpAny_pure ⟨_, rfl, q true fin⟩)
    | false => exact wpAny_pure (wpAny_pure ⟨_, rfl, q false fin⟩)
  · rw [if_pos (by simpa using hn)]
    exact wpAny_pure (wpAny_pure ⟨_, rfl, q false ⟨fun z => (by cases z), fun z => absurd z.1 hn⟩⟩)
end
end My
namespace My
open PySem PySem.Spec PyProof.Rows L2
/-- the class has the def at f as __eq__ and no __ne__ -/
structure NeK (K : PySem.W.Frag) (C f : Addr) : Prop where
  cls : ∃ nm q N bs hdct sn sub ab col dd k0 k1 k2 k3 k5 newId, K.lookup C = some (excClassObj nm q C N bs [.type "object"] hdct sn sub ab col dd k0 k1 k2 k3 k5 newId) ∧ PySem.W.nsOkIn K N = true ∧
    PySem.W.nsIn K N "__eq__" = some (some (.ref f)) ∧ PySem.W.nsIn K N "__ne__" = some none
  fn : ∃ od fd sl, K.lookup f = some ⟨.type "function", od, .func fd, sl⟩
theorem ty_eq : ∃ y, typeLookup (.type "object") ("__eq__" : Str) = pure y := ⟨some (.builtin "object.__eq__"), by kernel_rfl⟩
theorem ns_some {K : PySem.W.Frag} {h : Heap} {N : Addr} {mg : Str → Option Value} {n : Str} {v : Value} (X : K.In h) (G : h.Ns N mg) (e : PySem.W.nsIn K N n = some (some v)) : mg n = some v := by
  obtain ⟨o, es, ep, ho, hd, _, hf⟩ := G
  cases q : K.lookup N with
  | none => unfold PySem.W.nsIn at e; rw [q] at e; cases e
  | some on =>
    have z := X _ _ q
    rw [ho] at z
    cases z
    obtain ⟨cl, od, dt, sl⟩ := o
    dsimp only at hd
    subst hd
    unfold PySem.W.nsIn at e
    rw [q] at e
    dsimp only at e
    cases he : es.toList.find? (·.key.isStr n) with
    | none => rw [he] at e; dsimp only at e; split at e <;> cases e
    | some en =>
      rw [he] at e
      cases e
      rw [← hf]
      unfold nsFind findBy
      rw [← Array.find?_toList, he]
      rfl
section
variable {X : Cx} {CX : CXT} {k : Nat} {f C : Addr} {fd : FuncData} {ps : List Str} {sp : Sp} {E : XK}
def rOwnNe (C : Addr) (sp : Sp) (E : XK) : R2 := fun x y H Q => ∃ a dx fs b dy gs, x = .ref a ∧ H a = some (.ins C dx fs) ∧ y = .ref b ∧ H b = some (.ins C dy gs) ∧ sp [.ref a, .ref b] H (fun v H' => ∃ c, v = .bl c ∧ Q (.bl (!c)) H') E
theorem op_ownNe (T : NeK X.K C f) (F : FnOk X.prog X.w X.K X.mg X.base CX k f fd ps sp) (hr : Room (k + 1) X.A) (hb : Binds X.K fd ps []) (hx : Passes CX X E) : OpR X (compareOp .NotEq) (rOwnNe C sp E) := by
  intro pins s σ H x y v u Q I rx ry hq
  obtain ⟨a, dx, fs, b, dy, gs, rfl, ea, rfl, eb, hsp⟩ := hq
  cases rx
  cases ry
  obtain ⟨mA, O, _⟩ := ins_get I.hok ea
  obtain ⟨od, J, _⟩ := O.look
  obtain ⟨mB, O', _⟩ := ins_get I.hok eb
  obtain ⟨od', J', _⟩ := O'.look
  obtain ⟨nm, q, N, bs, hdct, sn, sub, ab, col, dd, k0, k1, k2, k3, k5, nid, hC, hok, heq, hne⟩ := T.cls
  obtain ⟨ofd, fdd, sl, hf⟩ := T.fn
  obtain ⟨yv, hy⟩ := ty_eq
  have X0 := I.kIn
  have hns : s.heap.Ns N (s.heap.nsMap N) := .of_isNs (PySem.W.isNs_of_in X0 hok)
  have Y : s.heap.OwnEqNoNe a C f "object" [.type "object"] :=
    ⟨_, _, nm, q, N, bs, hdct, sn, sub, ab, col, dd, k0, k1, k2, k3, k5, nid, _, yv, J.at_, J.cls, X0 _ _ hC, hns, ns_some X0 hns heq, X0 _ _ hf, rfl, PySem.F.mro_object, hy, PySem.W.ns_none_of X0 hns hne⟩
  obtain ⟨hp, g, d, t, os⟩ := s
  have fr : FnOk X.prog X.w X.K X.mg X.base CX k f fd ps sp := F
  refine compareOp_ne_ownEq PySem.F.cmp_object Y J'.at_ J'.cls (by have := hr.un; omega) ?_
  refine wpAny_call ?_
  have hl : ([Value.ref a, Value.ref b] : List Value).length = ps.length := by
    have := F.len _ _ _ _ hsp
    exact this
  have bd : BindsTo ⟨hp, g, d, t, os⟩ fd ⟨[.ref a, .ref b], []⟩ (ps.zip [.ref a, .ref b]) := by
    have z := hb ⟨hp, g, d, t, os⟩ [.ref a, .ref b] I.kIn (by rw [List.append_nil]; exact hl)
    rw [List.append_nil] at z
    exact z
  refine codeAny_mono (F.run X.A.in1 X.stack ⟨hp, g, d, t, os⟩ H ⟨[.ref a, .ref b], []⟩ [.ref a, .ref b] [.ref a, .ref b] _ E hr.in1 I.env0.in1 bd (.cons rfl (.cons rfl .nil)) hsp) fun r2 s2 hq => ?_
  match r2, hq with
  | .error er, hq => exact hx pins σ H _ er s2 I hq
  | .ok (.ret u), hq =>
    obtain ⟨z, H', I', rz, c, ez, q⟩ := I.after hq
    subst ez
    cases rz
    exact ⟨c, rfl, .bl (!c), H', I', rfl, q⟩
end
end My
namespace My
open PySem PySem.Spec PyProof.Rows L2
section
variable {prog : Program} {w : World} {A : Around} {E : Value → Shared → Prop} {h : Heap} {g : Array GenState} {d : Drawn} {t : Nat} {os : OsState} {C x f : Addr} {B : String} {bm : List Value} {v tb : Value} {K : PySem.W.Frag}
theorem neA_entry (X : h.OwnEqNoNe x C f B bm) (hu : A.units < cLine) {Q : Fin → Shared → Prop}
    (hcall : wpAny (model prog w) A (call (.ref f) [.ref x, v]) (fun v s' => ∃ b, v = .bool b ∧ Q (.done (.ret (.bool (!b)))) s') E ⟨h, g, d, t, os⟩) :
    wpAny (model prog w) A (Builtin.«object.__ne__» ⟨[.ref x, v], []⟩) Q E ⟨h, g, d, t, os⟩ := by
  unfold Builtin.«object.__ne__»
  repeat (first
    | with_reducible refine wpAny_cRoomFor hu ?_
    | (refine wpAny_bind (m := callSpecialIfBound? (.ref x) (Str.ofString "__eq__") [v])
        (wpAny_callSpecialIfBound?_own X.ownEq (wpAny_mono hcall (fun r s' hr => by
          obtain ⟨b, rfl, hq⟩ := hr
          repeat (first | exact hq | exact wpAny_pure hq | exact wpAny_truthy_bool hq | (refine wpAny_bind (m := truthy (.bool _)) (wpAny_truthy_bool ?_)) | wp_step)) fun _ _ e => e)))
    | wp_step)
theorem neA_try (FB : CmpFacts B bm) (X : h.OwnEqNoNe x C f B bm) (hu : A.units + 1 < cLine) {Q : Option Value → Shared → Prop}
    (hcall : wpAny (model prog w) A.in1 (call (.ref f) [.ref x, v]) (fun v s' => ∃ b, v = .bool b ∧ Q (some (.bool (!b))) s') E ⟨h, g, d, t, os⟩) :
    wpAny (model prog w) A (tryCompare (.ref x) "__ne__" v) Q E ⟨h, g, d, t, os⟩ := by
  obtain ⟨o, of, nm, q, N, bs, hdct, sn, sub, ab, col, dd, k0, k1, k2, k3, k5, newId, mN, yv, hx, hc, hC, hn, _, _, _, _, _, hne⟩ := id X
  simp only [tryCompare]
  refine wpAny_bind (wpAny_callSpecialIfBound?_inst hx hc hC hn hne FB.mro FB.ne (wpAny_call (codeAny_call_builtin FB.ne.plain F.cmpEntry_ne
    (wpAny_check_slot_inst F.cmpKind_ne F.cmpSplit_ne (F.cmpArgs_ne _ _) FB.hasObject hx hc hC
      (neA_entry (A := A.in1) X hu (wpAny_mono hcall (fun v s' hv => ?_) fun _ _ e => e))))))
  obtain ⟨b, rfl, hq⟩ := hv
  first | exact ⟨b, rfl, wpAny_pure hq⟩ | exact ⟨b, rfl, wpAny_pure (wpAny_pure hq)⟩ | exact ⟨b, rfl, hq⟩
theorem neA_cmp (FB : CmpFacts B bm) (X : h.OwnEqNoNe x C f B bm) (KX : K.In h) (hb : PySem.W.Looks (model prog w) h (typeOf v) tb) (hn : PySem.W.notFirst K C tb = true) (hu : A.units + 1 < cLine) {Q : Value → Shared → Prop}
    (hcall : wpAny (model prog w) A.in1 (call (.ref f) [.ref x, v]) (fun v s' => ∃ b, v = .bool b ∧ Q (.bool (!b)) s') E ⟨h, g, d, t, os⟩) :
    wpAny (model prog w) A (compareOp .NotEq (.ref x) v) Q E ⟨h, g, d, t, os⟩ := by
  have X' := X
  obtain ⟨o, of, nm, q, N, bs, hdct, sn, sub, ab, col, dd, k0, k1, k2, k3, k5, newId, mN, yv, hx, hc, _⟩ := X'
  unfold compareOp
  show wpAny (model prog w) A (richCompare .NotEq (.ref x) v) Q E _
  unfold richCompare
  simp only [oneThing_ref]
  refine wpAny_holding ?_
  refine wpAny_bind (wpAny_cRoomFor (Nat.lt_of_succ_lt hu) ?_)
  rw [cmpInfo_NotEq]
  dsimp only
  refine wpAny_bind (wpAny_typeOf_ref hx ?_)
  rw [hc]
  refine wpAny_bind (hb.here ?_)
  have fin : wpAny (model prog w) A (tryCompare (.ref x) "__ne__" v) (fun r s' => ∃ b, r = some (.bool b) ∧ Q (.bool b) s') E ⟨h, g, d, t, os⟩ := neA_try FB X hu (wpAny_mono hcall (fun v s' hv => by
    obtain ⟨b, rfl, hq⟩ := hv
    exact ⟨b, rfl, _, rfl, hq⟩) fun _ _ e => e)
  split
  · rename_i q
    have e : PySem.W.subIn K tb (.ref C) = some false := by
      rcases Bool.or_eq_true_iff.mp hn with e | e
      · rw [beq_iff_eq.mp e] at q; simp at q
      · exact beq_iff_eq.mp e
    refine wpAny_bind ((PySem.W.looks_subIn KX e).here ?_)
    simp only [Bool.false_eq_true, if_false]
    refine wpAny_bind (wpAny_mono fin (fun r s' z => ?_) fun _ _ e => e)
    obtain ⟨b, rfl, hq⟩ := z
    exact wpAny_pure hq
  · refine wpAny_bind (wpAny_pure ?_)
    simp only [Bool.false_eq_true, if_false]
    refine wpAny_bind (wpAny_mono fin (fun r s' z => ?_) fun _ _ e => e)
    obtain ⟨b, rfl, hq⟩ := z
    exact wpAny_pure hq
end
section
variable {X : Cx} {CX : CXT} {k : Nat} {f C : Addr} {fd : FuncData} {ps : List Str} {sp : Sp} {E : XK}
/-- x == y, x an instance, y of any kind that does not go first -/
def rOwnEqA (K : PySem.W.Frag) (C : Addr) (sp : Sp) (E : XK) : R2 := fun x y H Q => ∃ a dx fs t, x = .ref a ∧ H a = some (.ins C dx fs) ∧ TyX K H y t ∧ PySem.W.notFirst K C t = true ∧ sp [.ref a, y] H Q E
theorem op_ownEqA (hs : PySem.W.findIn X.K (.ref C) "__eq__" = some (some (.ref f))) (hf : PySem.W.isFn X.K (.ref f) = true) (F : FnOk X.prog X.w X.K X.mg X.base CX k f fd ps sp) (hr : Room k X.A) (hb : Binds X.K fd ps []) (hx : Passes CX X E) : OpR X (compareOp .Eq) (rOwnEqA X.K C sp E) := by
  intro pins s σ H x y v u Q I rx ry hq
  obtain ⟨a, dx, fs, t, rfl, ea, ty, hn, hsp⟩ := hq
  cases rx
  obtain ⟨mA, O, _⟩ := ins_get I.hok ea
  obtain ⟨od, J, _⟩ := O.look
  obtain ⟨P, Z, p, _⟩ := kit_of I ry ty
  obtain ⟨m, hF⟩ := I.fr
  show wpAny (model X.prog X.w) X.A (richCompare .Eq (.ref a) u) (EP X pins σ Q) X.xe s
  refine PySem.W.cmp_K (op := .Eq) (tb := t) hr.units0 hF I.ok.mod.kin J (Z.ty _ _ I.kIn p) hn hs hf ?_
  refine wpAny_mono (run_fn (us := [.ref a, u]) (vs := [.ref a, y]) (dvs := []) (ds := []) F hr hb .nil hx I (.cons rfl (.cons ry .nil)) hsp) (fun w s' hw => ?_) fun _ _ e => e
  obtain ⟨z, H', I', rz, q⟩ := hw
  exact cmpBack_of rz ⟨z, H', I', rz, q⟩
def rOwnNeA (K : PySem.W.Frag) (C : Addr) (sp : Sp) (E : XK) : R2 := fun x y H Q => ∃ a dx fs t, x = .ref a ∧ H a = some (.ins C dx fs) ∧ TyX K H y t ∧ PySem.W.notFirst K C t = true ∧ sp [.ref a, y] H (fun v H' => ∃ c, v = .bl c ∧ Q (.bl (!c)) H') E
theorem op_ownNeA (T : NeK X.K C f) (F : FnOk X.prog X.w X.K X.mg X.base CX k f fd ps sp) (hr : Room (k + 1) X.A) (hb : Binds X.K fd ps []) (hx : Passes CX X E) : OpR X (compareOp .NotEq) (rOwnNeA X.K C sp E) := by
  intro pins s σ H x y v u Q I rx ry hq
  obtain ⟨a, dx, fs, ty, rfl, ea, tyx, hnf, hsp⟩ := hq
  cases rx
  obtain ⟨mA, O, _⟩ := ins_get I.hok ea
  obtain ⟨od, J, _⟩ := O.look
  obtain ⟨P, Z, p, _⟩ := kit_of I ry tyx
  obtain ⟨nm, q, N, bs, hdct, sn, sub, ab, col, dd, k0, k1, k2, k3, k5, nid, hC, hok, heq, hne⟩ := T.cls
  obtain ⟨ofd, fdd, sl, hf⟩ := T.fn
  obtain ⟨yv, hy⟩ := ty_eq
  have X0 := I.kIn
  have hns : s.heap.Ns N (s.heap.nsMap N) := .of_isNs (PySem.W.isNs_of_in X0 hok)
  have Y : s.heap.OwnEqNoNe a C f "object" [.type "object"] :=
    ⟨_, _, nm, q, N, bs, hdct, sn, sub, ab, col, dd, k0, k1, k2, k3, k5, nid, _, yv, J.at_, J.cls, X0 _ _ hC, hns, ns_some X0 hns heq, X0 _ _ hf, rfl, PySem.F.mro_object, hy, PySem.W.ns_none_of X0 hns hne⟩
  have Lk := Z.ty (model X.prog X.w) s.heap I.kIn p
  obtain ⟨hp, g, d, t, os⟩ := s
  refine neA_cmp PySem.F.cmp_object Y X0 Lk hnf (by have := hr.un; omega) ?_
  refine wpAny_call ?_
  have hl : ([Value.ref a, u] : List Value).length = ps.length := by
    have := F.len _ _ _ _ hsp
    exact this
  have bd : BindsTo ⟨hp, g, d, t, os⟩ fd ⟨[.ref a, u], []⟩ (ps.zip [.ref a, u]) := by
    have z := hb ⟨hp, g, d, t, os⟩ [.ref a, u] I.kIn (by rw [List.append_nil]; exact hl)
    rw [List.append_nil] at z
    exact z
  refine codeAny_mono (F.run X.A.in1 X.stack ⟨hp, g, d, t, os⟩ H ⟨[.ref a, u], []⟩ [.ref a, u] [.ref a, y] _ E hr.in1 I.env0.in1 bd (.cons rfl (.cons ry .nil)) hsp) fun r2 s2 hq => ?_
  match r2, hq with
  | .error er, hq => exact hx pins σ H _ er s2 I hq
  | .ok (.ret u), hq =>
    obtain ⟨z, H', I', rz, c, ez, q⟩ := I.after hq
    subst ez
    cases rz
    exact ⟨c, rfl, .bl (!c), H', I', rfl, q⟩
end
end My
namespace My
open PySem PySem.Spec PyProof.Rows L2
/-! ### sets of texts -/
def hasK {κ : Type} [DecidableEq κ] (l : List κ) (k : κ) : Bool := decide (k ∈ l)
theorem hasK_iff {κ : Type} [DecidableEq κ] {l : List κ} {k : κ} : hasK l k = true ↔ k ∈ l := decide_eq_true_iff
def keyAt (zs : List Str) (i : Nat) : Key := .inr (zs.getD i Str.empty)
/-- how many different texts -/
def dif (zs : List Str) : Nat := (met (keyAt zs) zs.length).length
theorem keyAt_mem {zs : List Str} {k : Key} : k ∈ met (keyAt zs) zs.length ↔ ∃ x ∈ zs, k = .inr x := by
  rw [met_mem]
  constructor
  · rintro ⟨j, a, b⟩
    refine ⟨zs[j], List.getElem_mem a, ?_⟩
    rw [← b]
    unfold keyAt
    rw [List.getD_eq_getElem?_getD, List.getElem?_eq_getElem a]
    rfl
  · rintro ⟨x, hx, rfl⟩
    obtain ⟨j, a, b⟩ := List.getElem_of_mem hx
    refine ⟨j, a, ?_⟩
    unfold keyAt
    rw [List.getD_eq_getElem?_getD, List.getElem?_eq_getElem a, ← b]
    rfl
theorem dif_le (zs : List Str) : dif zs ≤ zs.length := met_le _ _
theorem stp_nodup {κ : Type} [DecidableEq κ] {acc : List κ} {k : κ} (h : acc.Nodup) : (stp acc k).Nodup := by
  unfold stp
  split
  · exact h
  · rename_i n
    exact List.nodup_append.mpr ⟨h, List.nodup_cons.mpr ⟨List.not_mem_nil, List.nodup_nil⟩, fun a ha b hb e => n (by rw [List.mem_singleton.mp hb] at e; rw [← e]; exact ha)⟩
theorem met_nodup {κ : Type} [DecidableEq κ] (val : Nat → κ) : ∀ i, (met val i).Nodup
  | 0 => List.nodup_nil
  | i + 1 => by
    rw [met_succ]
    exact stp_nodup (met_nodup val i)
/-- as many as there are exactly if all are different -/
theorem met_full {κ : Type} [DecidableEq κ] (val : Nat → κ) : ∀ i, (met val i).length = i ↔ ∀ j k, j < k → k < i → val j ≠ val k
  | 0 => by simp [met]
  | i + 1 => by
    have ih := met_full val i
    have le := met_le val i
    rw [met_succ, stp_len]
    constructor
    · intro h
      split at h
      · omega
      · rename_i n
        have e : (met val i).length = i := by omega
        intro j k a b q
        by_cases kk : k = i
        · subst kk
          exact n ((met_mem val k (val k)).mpr ⟨j, a, q⟩)
        · exact ih.mp e j k a (by omega) q
    · intro h
      have e := ih.mpr fun j k a b => h j k a (by omega)
      rw [if_neg, e]
      intro m
      obtain ⟨j, a, b⟩ := (met_mem val i (val i)).mp m
      exact h j i a (by omega) b
theorem dif_eq (zs : List Str) : dif zs = zs.length ↔ zs.Nodup := by
  unfold dif
  rw [met_full, List.nodup_iff_pairwise_ne, List.pairwise_iff_getElem]
  have at_ : ∀ j (h : j < zs.length), keyAt zs j = .inr zs[j] := fun j h => by
    unfold keyAt
    rw [List.getD_eq_getElem?_getD, List.getElem?_eq_getElem h]
    rfl
  constructor
  · intro h j k a b lt e
    exact h j k lt b (by rw [at_ j a, at_ k b, e])
  · intro h j k lt b e
    rw [at_ j (by omega), at_ k b] at e
    exact h j k (by omega) b lt (Sum.inr.inj e)
/-- the set of some texts at a -/
def SetT (P : Program) (w : World) (a : Addr) (zs : List Str) : HO := SetK P w a (hasK (met (keyAt zs) zs.length)) (dif zs)
def rSetT (P : Program) (w : World) (K : PySem.W.Frag) : List V → Hp → VK → Prop := fun xs H Q => ∃ (l : Addr) (zs : List Str), xs = [.ref l] ∧ (SqL K H l (zs.map V.str) ∨ SqT K H l (zs.map V.str)) ∧ zs.length ≤ 1000 ∧ ∀ p, H p = none → Q (.ref p) (upd H p (SetT P w p zs))
def rLenT (P : Program) (w : World) : List V → Hp → VK → Prop := fun xs H Q => ∃ (a : Addr) (zs : List Str), xs = [.ref a] ∧ H a = some (SetT P w a zs) ∧ zs.length ≤ 1000 ∧ Q (.int (dif zs : Nat)) H
/-- the same texts -/
def sameT (zs ys : List Str) : Bool := zs.all (fun z => decide (z ∈ ys)) && ys.all (fun y => decide (y ∈ zs))
def rEqT (P : Program) (w : World) : R2 := fun x y H Q => ∃ (a b : Addr) (zs ys : List Str), x = .ref a ∧ y = .ref b ∧ H a = some (SetT P w a zs) ∧ H b = some (SetT P w b ys) ∧ Q (.bl (sameT zs ys)) H
theorem sub_len {κ : Type} [DecidableEq κ] : ∀ (l m : List κ), l.Nodup → (∀ x ∈ l, x ∈ m) → l.length ≤ m.length
  | [], _, _, _ => Nat.zero_le _
  | a :: l, m, nd, sub => by
    have h := sub_len l (m.erase a) (List.nodup_cons.mp nd).2 fun x hx => (List.mem_erase_of_ne (fun e => (List.nodup_cons.mp nd).1 (by rw [← e]; exact hx))).mpr (sub x (List.mem_cons_of_mem _ hx))
    have am := sub a (List.mem_cons_self ..)
    rw [List.length_erase_of_mem am] at h
    have pos := List.length_pos_of_mem am
    rw [List.length_cons]
    omega
theorem perm_len {κ : Type} [DecidableEq κ] {l m : List κ} (hl : l.Nodup) (sub : ∀ x ∈ l, x ∈ m) (e : l.length = m.length) : ∀ x ∈ m, x ∈ l := fun x hx => Classical.byContradiction fun n => by
  have h := sub_len (x :: l) m (List.nodup_cons.mpr ⟨n, hl⟩) fun y hy => (List.mem_cons.mp hy).elim (fun e => by rw [e]; exact hx) (sub y)
  rw [List.length_cons] at h
  omega
section
variable {X : Cx}
theorem scan_str {P : Program} {w : World} {x : Str} {u : Value} (r : RelV (.str x) u) : (mixKind P w).is (.inr x) u = true ∧ u.scannable = true := ⟨kV_is (k := .inr x) r, key_scan (k := .inr x) r⟩
theorem cr_setT (hc : X.calm = true) : CallR X (.type "set") (rSetT X.prog X.w X.K) := by
  intro pins s σ H xs us Q I r h
  obtain ⟨l, zs, rfl, hs, hz, q⟩ := h
  cases r with
  | cons r1 r =>
    cases r
    cases r1
    have calm := I.ok.hd hc
    have keys : ∀ (its : List Value), Vals (zs.map V.str) its → ∀ i v, its.toArray[i]? = some v → (mixKind X.prog X.w).is (keyAt zs i) v = true ∧ v.scannable = true := fun its rv i v hv => by
      rw [List.getElem?_toArray] at hv
      have hi : i < zs.length := by
        have z := (List.getElem?_eq_some_iff.mp hv).1
        rw [← rv.length, List.length_map] at z
        exact z
      obtain ⟨u, hu, ru⟩ := rv.get (i := i) (x := .str zs[i]) (by rw [List.getElem?_map, List.getElem?_eq_getElem hi]; rfl)
      rw [hv] at hu
      cases hu
      have e : keyAt zs i = .inr zs[i] := by
        unfold keyAt
        rw [List.getD_eq_getElem?_getD, List.getElem?_eq_getElem hi]
        rfl
      rw [e]
      exact scan_str ru
    have done : ∀ (its : List Value), Vals (zs.map V.str) its → ∀ (h' : Heap) (tk : Nat), h'.SetOf (mixKind X.prog X.w) s.heap.objs.size (hasK (met (keyAt zs) its.toArray.size)) (met (keyAt zs) its.toArray.size).length →
        (∀ b o, b < s.heap.objs.size → s.heap.get? b = some o → h'.get? b = some o) → EP X pins σ Q (.ref s.heap.objs.size) { s with heap := h', toks := tk } := fun its rv h' tk S kp => by
      have sz : its.toArray.size = zs.length := by rw [List.size_toArray, ← rv.length, List.length_map]
      rw [sz] at S
      exact ⟨.ref _, upd H s.heap.objs.size (SetT X.prog X.w s.heap.objs.size zs), I.laid (t' := tk) (fun b u e => kp b u (Heap.lt_size e) e) (Nat.le_refl _) (setK_new S), rfl, q _ (I.hok.fresh (Nat.le_refl _))⟩
    have small : ∀ (its : List Value), Vals (zs.map V.str) its → its.toArray.size + 1 < scanBound := fun its rv => by
      have sz : its.toArray.size = zs.length := by rw [List.size_toArray, ← rv.length, List.length_map]
      rw [sz]
      unfold scanBound
      omega
    rcases hs with hs | hs
    · obtain ⟨its, rv, pl, _⟩ := I.list hs
      exact set_of_list (knd := mixKind X.prog X.w) (keyAt zs) calm pl.isList (keys its rv) (small its rv) (done its rv)
    · obtain ⟨its, rv, pl, _⟩ := I.tuple hs
      exact set_of_tuple (knd := mixKind X.prog X.w) (keyAt zs) calm (by obtain ⟨o, ho, hcl, n, hd⟩ := pl; exact ⟨o, ho, hcl, n, hd⟩) (keys its rv) (small its rv) (done its rv)
theorem cr_lenT : CallR X (.builtin "len") (rLenT X.prog X.w) := by
  intro pins s σ H vs us Q I r h
  obtain ⟨a, zs, rfl, ha, hz, q⟩ := h
  cases r with
  | cons r1 r =>
    cases r
    cases r1
    obtain ⟨o, es, ep, t, ho, hex, hd, _, _, _, hf, en⟩ := setK_get I ha
    have le := dif_le zs
    exact call_len_set ho hex hd hf (by rw [en]; omega) ⟨.int (dif zs : Nat), H, I.tok _, ⟨_, by rw [en]⟩, q⟩
theorem sameT_iff (zs ys : List Str) : sameT zs ys = true ↔ ∀ x, x ∈ zs ↔ x ∈ ys := by
  unfold sameT
  rw [Bool.and_eq_true, List.all_eq_true, List.all_eq_true]
  constructor
  · rintro ⟨a, b⟩ x
    exact ⟨fun h => of_decide_eq_true (a x h), fun h => of_decide_eq_true (b x h)⟩
  · intro h
    exact ⟨fun x hx => decide_eq_true ((h x).mp hx), fun x hx => decide_eq_true ((h x).mpr hx)⟩
theorem op_eqT (hu : X.A.units < cLine) : OpR X (compareOp .Eq) (rEqT X.prog X.w) := by
  intro pins s σ H x y v u Q I rx ry h
  obtain ⟨a, b, zs, ys, rfl, rfl, ha, hb, q⟩ := h
  cases rx
  cases ry
  have Sa := setK_get I ha
  have Sb := setK_get I hb
  show wpAny _ _ (richCompare .Eq _ _) _ _ _
  refine wpAny_richCompare_same_room Sa.typeIs Sb.typeIs F.slot_set_eq (eq_of_sets Sa Sb fun r hr => ⟨(fun z => nomatch z), ?_⟩) hu
  have er : r = sameT zs ys := by
    rw [Bool.eq_iff_iff, hr, sameT_iff]
    constructor
    · rintro ⟨e, sub⟩ x
      have sub' : ∀ k ∈ met (keyAt zs) zs.length, k ∈ met (keyAt ys) ys.length := fun k hk => hasK_iff.mp (sub k (hasK_iff.mpr hk))
      have back := perm_len (met_nodup _ _) sub' e
      constructor
      · intro h
        obtain ⟨y, hy, e2⟩ := keyAt_mem.mp (sub' _ (keyAt_mem.mpr ⟨x, h, rfl⟩))
        cases e2
        exact hy
      · intro h
        obtain ⟨y, hy, e2⟩ := keyAt_mem.mp (back _ (keyAt_mem.mpr ⟨x, h, rfl⟩))
        cases e2
        exact hy
    · intro same
      have sub : ∀ k ∈ met (keyAt zs) zs.length, k ∈ met (keyAt ys) ys.length := fun k hk => by
        obtain ⟨x, hx, e⟩ := keyAt_mem.mp hk
        exact keyAt_mem.mpr ⟨x, (same x).mp hx, e⟩
      have sub2 : ∀ k ∈ met (keyAt ys) ys.length, k ∈ met (keyAt zs) zs.length := fun k hk => by
        obtain ⟨x, hx, e⟩ := keyAt_mem.mp hk
        exact keyAt_mem.mpr ⟨x, (same x).mpr hx, e⟩
      have l1 := sub_len _ _ (met_nodup (keyAt zs) zs.length) sub
      have l2 := sub_len _ _ (met_nodup (keyAt ys) ys.length) sub2
      exact ⟨Nat.le_antisymm l1 l2, fun k hk => hasK_iff.mpr (sub k (hasK_iff.mp hk))⟩
  subst er
  exact ⟨.bl _, H, I, rfl, q⟩
end
end My
/-! sorted(a tuple of texts) -/
namespace My
open PySem PySem.Spec PyProof.Rows L2
section
variable {prog : Program} {w : World} {A : Around} {E : Value → Shared → Prop} {s : Shared}
theorem collect_tup {l : Addr} {vs : List Value} {Q : List Value → Shared → Prop} (at_ : s.heap.IsTuple l vs.toArray) (small : vs.length ≤ sizeLine)
    (go : Q vs { s with heap := (s.heap.push (seqObj "list" #[] 0)).update s.heap.objs.size (Obj.mapSeq (· ++ vs.toArray)) }) : wpAny (model prog w) A (collect (.ref l)) Q E s := by
  obtain ⟨o, ho, hc, n, hd⟩ := id at_
  unfold collect
  refine wpAny_bind (wpAny_runValue (codeAny_builtin entry_proto_collect' (?_)))
  show wpAny _ _ (do again (.builtin "list.__iadd__" ⟨[← newList [], .ref l], []⟩)) _ _ _
  refine wpAny_bind (wpAny_newList (wpAny_pure ⟨Code.quiet_builtin _ (by decide +kernel), codeAny_builtin entry_list_iadd' (?_)⟩))
  show wpAny _ _ (Builtin.List.listExtendWith (.ref s.heap.objs.size) (.ref l) (.ref s.heap.objs.size)) _ _ _
  unfold Builtin.List.listExtendWith
  have old : (s.heap.push (seqObj "list" #[] 0)).get? l = some o := Heap.get?_push_of_some _ ho
  refine wpAny_bind (wpAny_typeOf (T := "tuple") ⟨o, old, hc⟩ (?_))
  rw [if_pos (show (Builtin.List.listSameRef (Value.ref s.heap.objs.size) (Value.ref l) || Value.type "tuple" == Value.type "list" || Value.type "tuple" == Value.type "tuple") = true by rw [show (Value.type "tuple" == Value.type "tuple") = true from rfl, Bool.or_true])]
  refine wpAny_bind (listItems_at old hd (wpAny_bind (listItems_at (xs := #[]) (n := 0) (Heap.get?_push_size _ rfl) rfl (?_))))
  rw [if_neg (by simp)]
  refine wpAny_bind (listUpdate_at (xs := #[]) (n := 0) (Heap.get?_push_size _ rfl) rfl (wpAny_pure ?_) (Nat.zero_le _) (by show (#[] ++ vs.toArray).size ≤ sizeLine + 1; rw [show ((#[] : Array Value) ++ vs.toArray).size = vs.length by simp]; omega))
  show wpAny (model prog w) A (do
      let o ← load s.heap.objs.size
      match o.data with
      | .seq xs _ => pure xs.toList
      | _ => unsupported "internal:collect") Q E { s with heap := (s.heap.push (seqObj "list" #[] 0)).update s.heap.objs.size (Obj.mapSeq (· ++ vs.toArray)) }
  refine wpAny_bind (wpAny_load (get?_update_seq (Heap.get?_push_size _ rfl) _) (?_))
  show wpAny _ _ (pure ((#[] : Array Value) ++ vs.toArray).toList) Q E _
  have e : ((#[] : Array Value) ++ vs.toArray).toList = vs := by simp
  rw [e]
  exact wpAny_pure go
theorem sorted_tup {l : Addr} {vs : List Value} {ss : List Str} {Q : Value → Shared → Prop} (at_ : s.heap.IsTuple l vs.toArray) (hS : StrsAre vs ss) (few : vs.length < 64)
    (go : ∀ (out : Array Value) (ss' : List Str), StrsAre out.toList ss' → ss'.Perm ss → sortedS ss' = true → Q (.ref (s.heap.objs.size + 1)) { s with heap := sortedAll s.heap vs out }) :
    wpAny (model prog w) A (call (.builtin "sorted") [.ref l]) Q E s := by
  refine Calls.call_function_entry kind_sorted plain_sorted entry_sorted (args_sorted1 _) (?_)
  unfold Builtin.«sorted»
  refine wpAny_bind (m := checkCount "sorted" 1 1 _) (wpAny_pure (wpAny_bind (collect_tup at_ (by rw [sizeLine_eq]; omega) (wpAny_bind (wpAny_newList (?_))))))
  have sz : ((s.heap.push (seqObj "list" #[] 0)).update s.heap.objs.size (Obj.mapSeq (· ++ vs.toArray))).objs.size = s.heap.objs.size + 1 := by rw [Heap.size_update, size_push']
  have at2 : (((s.heap.push (seqObj "list" #[] 0)).update s.heap.objs.size (Obj.mapSeq (· ++ vs.toArray))).push (seqObj "list" vs.toArray 0)).get? (s.heap.objs.size + 1) = some (seqObj "list" vs.toArray 0) := by
    rw [← sz]
    exact Heap.get?_push_size _ rfl
  show wpAny _ _ _ _ _ { s with heap := ((s.heap.push (seqObj "list" #[] 0)).update s.heap.objs.size (Obj.mapSeq (· ++ vs.toArray))).push (seqObj "list" vs.toArray 0) }
  rw [sz]
  refine wpAny_bind (wpAny_holding (wpAny_call_entry slot_list_sort ⟨_, at2, rfl⟩ entry_list_sort (list_sort_treeK strKind_oneLt at2 hS.keysOf (fun v₁ v₂ rest e => keyKind_strs (by rw [← e]; exact hS)) few fun st' a1 a2 => ⟨_, rfl, ?_⟩) (args_list_sort _)))
  obtain ⟨ss', h1, h2, h3⟩ := sorted_out_str hS a1 a2
  exact wpAny_pure ⟨_, rfl, go _ ss' h1 h2 h3⟩
end
/-- sorted(texts), a list's or a tuple's -/
def rSortedB (K : PySem.W.Frag) : List V → Hp → VK → Prop := fun vs H Q => ∃ (a : Addr) (xs : List Str), vs = [.ref a] ∧ (SqL K H a (xs.map V.str) ∨ SqT K H a (xs.map V.str)) ∧ xs.length < 64 ∧ ∀ (ys : List Str) (p : Addr), ys.Perm xs → sortedS ys = true → H p = none → Q (.ref p) (upd H p (.lst (ys.map V.str)))
theorem cr_sortedB {X : Cx} : CallR X (.builtin "sorted") (rSortedB X.K) := by
  intro pins s σ H vs us Q I r h
  obtain ⟨a, xs, rfl, hs, h64, q⟩ := h
  rcases hs with hs | hs
  · exact cr_sortedS pins s σ H _ us Q I r ⟨a, xs, rfl, hs, h64, q⟩
  · obtain ⟨its, rv, pl, _⟩ := I.tuple hs
    rw [Vals.ref1 r]
    have l0 := rv.length
    rw [List.length_map] at l0
    refine sorted_tup (vs := its) (by obtain ⟨o, ho, hcl, n, hd⟩ := pl; exact ⟨o, ho, hcl, n, hd⟩) rv.strs (by rw [← l0]; exact h64) fun out ys h1 h2 h3 => ?_
    obtain ⟨ep, he'⟩ := PyProof.Rows.sortedAll_at s.heap its out
    have len : (ys.map V.str).length ≤ sizeLine := by rw [List.length_map, h2.length_eq]; exact small64 h64
    exact ⟨.ref _, upd H (s.heap.objs.size + 1) (.lst (ys.map V.str)), I.laid (t' := s.toks) (fun _ _ => PyProof.Rows.sortedAll_old) (Nat.le_succ _) ⟨len, out.toList, ep, vals_of_strs h1, he'⟩, rfl, q ys _ h2 h3 (I.hok.fresh (Nat.le_succ _))⟩
end My
/-! enumerate(a tuple) -/
namespace My
open PySem PySem.Spec PyProof.Rows L2
section
variable {prog : Program} {w : World} {A : Around} {E : Value → Shared → Prop} {s : Shared}
theorem next_tup {it l : Addr} {i : Nat} {items : Array Value} {x : Value} {Q : Value → Shared → Prop} (ti : s.heap.IsTupleIter it l i) (tl : s.heap.IsTuple l items) (hx : items[i]? = some x)
    (go : ∀ h', h'.IsTupleIter it l (i + 1) → Heap.SameBut it s.heap h' → Q x { s with heap := h' }) : wpAny (model prog w) A (Builtin.SmallTypes.nextOf (.ref it)) Q E s := by
  obtain ⟨o, ho, hc, hd⟩ := id ti
  obtain ⟨ol, hol, _, nl, hdl⟩ := tl
  unfold Builtin.SmallTypes.nextOf
  refine wpAny_bind (wpAny_callSpecial?_slot (name := Str.ofString "__next__") ti.typeIs F.slot_tuple_iterator_next (wpAny_call_entry F.slot_tuple_iterator_next ti.typeIs F.entry_tuple_iterator_next ?_ (F.args_tuple_iterator_next_1 _)))
  refine wpAny_bind (m := field (.ref it) 0) (wpAny_field ho hd (x := .ref l) rfl ?_)
  rw [if_neg (show ¬ ((Value.ref l == Value.none) = true) by simp)]
  refine wpAny_bind (m := field (.ref it) 1) (wpAny_field ho hd (x := .int i 0) rfl ?_)
  refine wpAny_bind (m := seqItems? (.ref l)) (wpAny_seqItems hol hdl ?_)
  simp only [Int.toNat_natCast, hx]
  refine wpAny_bind (wpAny_setField ho hd (by simp) (wpAny_pure ⟨x, rfl, wpAny_pure (go _ ?_ (Heap.SameBut.update ..))⟩))
  exact ⟨_, Heap.get?_update_self _ ho (Obj.isFreed_of_fields (Obj.data_mapFields hd _)), (Obj.cls_mapFields ..).trans hc, by rw [Obj.data_mapFields hd] <;> simp [rawInt]⟩
theorem next_tup_end {it l : Addr} {i : Nat} {items : Array Value} {Q : Value → Shared → Prop} (calm : A.handled = none) (ti : s.heap.IsTupleIter it l i) (tl : s.heap.IsTuple l items) (hx : items[i]? = none)
    (go : ∀ h' e, Heap.ExtBut it s.heap h' → (∃ o, h'.get? e = some o ∧ o.cls = .type "StopIteration") → E (.ref e) { s with heap := h' }) : wpAny (model prog w) A (Builtin.SmallTypes.nextOf (.ref it)) Q E s := by
  obtain ⟨o, ho, hc, hd⟩ := id ti
  obtain ⟨ol, hol, _, nl, hdl⟩ := tl
  unfold Builtin.SmallTypes.nextOf
  refine wpAny_bind (wpAny_callSpecial?_slot (name := Str.ofString "__next__") ti.typeIs F.slot_tuple_iterator_next (wpAny_call_entry F.slot_tuple_iterator_next ti.typeIs F.entry_tuple_iterator_next ?_ (F.args_tuple_iterator_next_1 _)))
  refine wpAny_bind (m := field (.ref it) 0) (wpAny_field ho hd (x := .ref l) rfl ?_)
  rw [if_neg (show ¬ ((Value.ref l == Value.none) = true) by simp)]
  refine wpAny_bind (m := field (.ref it) 1) (wpAny_field ho hd (x := .int i 0) rfl ?_)
  refine wpAny_bind (m := seqItems? (.ref l)) (wpAny_seqItems hol hdl ?_)
  simp only [Int.toNat_natCast, hx]
  refine wpAny_bind (wpAny_rule (wpAny_bind (wpAny_setField ho hd (by simp) ?_)))
  refine wpAny_bind (m := newExc (.type "StopIteration") []) ?_
  simp only [newExc, newTuple]
  refine wpAny_bind (wpAny_newObj_type ?_ (by size_fits))
  refine wpAny_bind (m := firstArgMember _ _) (wpAny_of_eq (a := Value.none) (by first | rfl | (simp only [firstArgMember]; rfl)) (wpAny_newObj_type ?_ (by size_fits)))
  simp only [raiseNew]
  refine wpAny_bind (wpAny_handled ?_)
  first | rw [show A.in1.handled = none from calm] | rw [calm]
  refine wpAny_bind (wpAny_pure (wpAny_throw (go _ _ (((Heap.SameBut.update ..).extBut.push _).push _) ⟨_, Heap.get?_push_size _ rfl, rfl⟩)))
theorem enum_tup_end {e it l : Addr} {i : Nat} {items : Array Value} {old : Value} {Q : Option Value → Shared → Prop} (calm : A.handled = none) (he : IsEnum s.heap e it i old) (ti : s.heap.IsTupleIter it l i) (tl : s.heap.IsTuple l items) (hx : items[i]? = none)
    (go : ∀ h', Heap.ExtBut it s.heap h' → Q none { s with heap := h' }) : wpAny (model prog w) A (pyNext (.ref e)) Q E s := by
  have isE : s.TypeIs (.ref e) "enumerate" := ⟨_, he, rfl⟩
  unfold pyNext
  refine wpAny_bind (wpAny_attempt (wpAny_callSpecial?_slot (name := Str.ofString "__next__") isE F.slot_enumerate_next (wpAny_call_entry F.slot_enumerate_next isE F.entry_enumerate_next ?_ (F.args_enumerate_next_1 _))))
  refine wpAny_bind (m := field (.ref e) 2) (wpAny_field he rfl (x := .ref it) rfl (wpAny_bind (next_tup_end (show A.in1.handled = none from calm) ti tl hx fun h' x eb hx' => ?_)))
  obtain ⟨o, ho, hc⟩ := hx'
  exact wpAny_bind (wpAny_isInstance (T := "StopIteration") (b := true) ⟨o, ho, hc⟩ isSubtype_stop (wpAny_pure (go _ eb)))
theorem draws_tup (calm : A.handled = none) (it l : Addr) (ne : l ≠ it) (items : Array Value) : Draws prog w A it [it, l] items.size (fun i v => items[i]? = some v) (fun i h => h.IsTupleIter it l i ∧ h.IsTuple l items) where
  live := fun _ _ st => let ⟨o, ho, _⟩ := st.1; ⟨o, ho⟩
  frame := fun _ _ _ st hk => ⟨st.1.at fun o e => hk it (by simp) o e, st.2.at fun o e => hk l (by simp) o e⟩
  item := fun i s Q E hi st go => next_tup st.1 st.2 (x := items[i]) (by simp [hi]) fun h' ti sb => go _ h' s.toks (by simp [hi]) ⟨ti, st.2.extBut sb.extBut ne⟩ sb
  done := fun s Q E st go => next_tup_end calm st.1 st.2 (by simp) go
theorem new_enum_tup (l : Addr) (items : Array Value) (n : Nat) (dct : Option Addr) (sl : Array (Option Value)) :
    Meets (Builtin.«enumerate.__new__» ⟨[.type "enumerate", .ref l], []⟩) (fun _ R s => s.heap.get? l = some { cls := .type "tuple", dict := dct, data := .seq items n, slots := sl } ∧ R (.ok (.ret (.ref (s.heap.push { cls := .type "tuple_iterator", data := .fields #[.ref l, .int 0 0] }).objs.size)))
        { s with heap := (s.heap.push { cls := .type "tuple_iterator", data := .fields #[.ref l, .int 0 0] }).push { cls := .type "enumerate", data := .fields #[.none, .bool false, .ref s.heap.objs.size, rawInt 0, .none, .none] } }) :=
  .of_wp fun prog w A R s h => by
    obtain ⟨hp, g, d, tk, os⟩ := s
    obtain ⟨hl, h⟩ := h
    have sub := sub_enumerate
    have isT : Heap.IsTuple (Shared.heap ⟨hp, g, d, tk, os⟩) l items := ⟨_, hl, rfl, n, rfl⟩
    wp_walk using AutoSeq1.wpAny_loadPart' hl
    refine wpAny_stack_any fun st => wpAny_pure ?_
    split
    · rename_i c _ _ _ _ _
      cases (c == Value.type "enumerate")
      · wp_walk using AutoSeq1.wpAny_loadPart' hl, wpAny_pyIter_tuple isT
        exact ⟨_, rfl, h⟩
      · wp_walk using AutoSeq1.wpAny_loadPart' hl, wpAny_pyIter_tuple isT
        exact ⟨_, rfl, h⟩
    · wp_walk using AutoSeq1.wpAny_loadPart' hl, wpAny_pyIter_tuple isT
      exact ⟨_, rfl, h⟩
theorem enum_tup {l : Addr} {items : Array Value} {Q : Value → Shared → Prop} (isT : s.heap.IsTuple l items)
    (go : ∀ h', IsEnum h' (s.heap.objs.size + 1) s.heap.objs.size 0 .none → h'.IsTupleIter s.heap.objs.size l 0 → h'.objs.size = s.heap.objs.size + 2 → (∀ b o, s.heap.get? b = some o → h'.get? b = some o) → Q (.ref (s.heap.objs.size + 1)) { s with heap := h' }) :
    wpAny (model prog w) A (call (.type "enumerate") [.ref l]) Q E s := by
  obtain ⟨⟨c, dct, dt, sl⟩, hl, hc, n, hd⟩ := isT
  obtain rfl : c = .type "tuple" := hc
  obtain rfl : dt = .seq items n := hd
  refine callType_new F.called_enumerate (by decide) (F.typeCall_enumerate_1 _) (F.newCall_enumerate_1 _) (fun obj => F.args_object_init_2 obj _) F.entry_enumerate_new (new_enum_tup l items n dct sl) ⟨hl, ?_⟩
  have sz : (s.heap.push { cls := .type "tuple_iterator", data := .fields #[.ref l, .int 0 0] }).objs.size = s.heap.objs.size + 1 := Heap.size_push ..
  show _ ∧ _
  rw [sz]
  have he : IsEnum ((s.heap.push { cls := .type "tuple_iterator", data := .fields #[.ref l, .int 0 0] }).push { cls := .type "enumerate", data := .fields #[.none, .bool false, .ref s.heap.objs.size, rawInt 0, .none, .none] }) (s.heap.objs.size + 1) s.heap.objs.size 0 .none := by
    have z := Heap.get?_push_size (s.heap.push { cls := .type "tuple_iterator", data := .fields #[.ref l, .int 0 0] }) (o := { cls := .type "enumerate", data := .fields #[.none, .bool false, .ref s.heap.objs.size, rawInt 0, .none, .none] }) rfl
    rw [sz] at z
    exact z
  exact ⟨⟨_, he, rfl⟩, go _ he ⟨_, Heap.get?_push_of_some _ (Heap.get?_push_size _ rfl), rfl, rfl⟩ (by rw [Heap.size_push, sz]) fun b o x => Heap.get?_push_of_some _ (Heap.get?_push_of_some _ x)⟩
end
/-- the tuple at a, each item in a new pair -/
def Iet (K : PySem.W.Frag) (a : Addr) : It :=
  ⟨fun i H => ∃ (xs : List V) (x : V), SqT K H a xs ∧ xs[i]? = some x, fun i H v H' => ∃ T x, v = .ref T ∧ H T = none ∧ H' = upd H T (.tup [.int (i : Nat), x]) ∧ ∀ xs, SqT K H a xs → xs[i]? = some x, fun i H => ∃ xs : List V, SqT K H a xs ∧ xs.length ≤ i⟩
theorem turn_enumT {P : Program} {w : World} {K : PySem.W.Frag} {elts : List Expr} {kk : Nat} {tpos : Pos} (a e it : Addr) (na : a ≠ it) (ne : a ≠ e) :
    Turn P w K (.Tuple elts kk tpos) (Iet K a) [e, it] e (fun i h => (∃ old, IsEnum h e it ((i : Nat) : Int) old) ∧ h.IsTupleIter it a i ∧ e ≠ it) where
  mem := by simp
  obj := fun i h st b hb => by
    obtain ⟨⟨old, he⟩, ⟨o, ho, hc, hd⟩, _⟩ := st
    rcases (show b = e ∨ b = it by simpa using hb) with z | z
    · rw [z]; exact ⟨_, he, fun v q => nomatch q⟩
    · rw [z]; exact ⟨o, ho, fun v q => by rw [hd] at q; cases q⟩
  keep := fun i h h' st k => let ⟨⟨old, he⟩, hi, hne⟩ := st; ⟨⟨old, k e (by simp) _ he⟩, hi.at fun o q => k it (by simp) o q, hne⟩
  item := by
    intro X hP hw hK hc i pins s σ H E I hf st hg
    subst hP hw hK
    obtain ⟨⟨old, he⟩, hit, hne⟩ := st
    obtain ⟨xs, x, hq, hx⟩ := hg
    obtain ⟨its, rv, p, hz⟩ := I.tuple hq
    obtain ⟨u, hu, ru⟩ := rv.get hx
    have hel : e < s.heap.objs.size := Heap.lt_size he
    have hil : it < s.heap.objs.size := by obtain ⟨_, q, _⟩ := hit; exact Heap.lt_size q
    have isT : s.heap.IsTuple a its.toArray := by obtain ⟨o, ho, hcl, n, hd⟩ := p; exact ⟨o, ho, hcl, n, hd⟩
    have lt : i < its.toArray.size := by
      rw [List.size_toArray]
      exact (List.getElem?_eq_some_iff.mp hu).1
    refine wpAny_pyNext_enum_itemD (draws_tup (show X.A.in1.handled = none from I.ok.hd hc) it a na its.toArray) he ⟨hit, isT⟩ lt hne (by simp [hne, Ne.symm ne]) fun y h' tk hy ho hst hT hsz hk => ?_
    obtain rfl : y = u := by
      have z : its.toArray[i]? = some y := hy
      rw [List.getElem?_toArray, hu] at z
      exact (Option.some.inj z).symm
    have hit' := hst.1
    refine ⟨_, rfl, wpAny_letOwnedTupleGo_enum (s := { s with heap := h', toks := tk + 1 }) ho fun h'' he' sb => ?_⟩
    have hT2 : h''.get? s.heap.objs.size = some { cls := .type "tuple", data := .seq #[.int i tk, y] } := (sb.2 _ (Nat.ne_of_gt hel)).trans hT
    have new : ObjOk X.prog X.w (upd H s.heap.objs.size (.tup [.int (i : Nat), x])) h'' s.heap.objs.size (.tup [.int (i : Nat), x]) := ⟨by show 2 ≤ sizeLine; decide, [.int i tk, y], .cons ⟨_, rfl⟩ (.cons ru .nil), ⟨_, hT2, rfl, _, rfl⟩⟩
    have I1 : Inv X pins σ (upd H s.heap.objs.size (.tup [.int (i : Nat), x])) { s with heap := h'', toks := tk + 1 } :=
      I.turnedNew (ch := [e, it]) (fun b ob hb q => (sb.2 b (fun z => hb (by simp [z]))).trans (hk b ob (fun z => hb (by simp [z])) (fun z => hb (by simp [z])) q)) hf (Nat.le_refl _) new
    refine ⟨.ref s.heap.objs.size, _, I1, rfl, ⟨_, x, rfl, I.hok.fresh (Nat.le_refl _), rfl, fun ys hy => by rw [I.tuple_inj hy hq]; exact hx⟩, ⟨⟨y, ?_⟩, hit'.at fun o q => (sb.2 it (Ne.symm hne)).trans q, hne⟩, fun b hb => ?_⟩
    · rw [show ((i + 1 : Nat) : Int) = (i : Int) + 1 by omega]
      exact he'
    · have lt2 : b < s.heap.objs.size := by
        rcases (show b = e ∨ b = it by simpa using hb) with z | z
        · rw [z]; exact hel
        · rw [z]; exact hil
      rw [upd_ne (Nat.ne_of_lt lt2)]
      exact (hf b hb).1
  done := by
    intro X hP hw hK hc i pins s σ H E I hf st hg
    subst hP hw hK
    obtain ⟨⟨old, he⟩, hit, hne⟩ := st
    obtain ⟨xs, hq, hx⟩ := hg
    obtain ⟨its, rv, p, hz⟩ := I.tuple hq
    obtain ⟨f0, f1, f2, f3, f4, f5⟩ := hf it (by simp)
    have hl := rv.length
    have isT : s.heap.IsTuple a its.toArray := by obtain ⟨o, ho, hcl, n, hd⟩ := p; exact ⟨o, ho, hcl, n, hd⟩
    exact enum_tup_end (I.ok.hd hc) he hit isT (by simp; omega) fun h' eb => ⟨rfl, I.turned (t' := s.toks) (fun b o hb q => eb b o hb q) f0 f1 f3 f4 f5⟩
  self := fun A i s Q E st h => let ⟨⟨_, he⟩, _⟩ := st; wpAny_pyIter_enum he h
def iEnumT (K : PySem.W.Frag) (ta : TA) : TI := fun σ H R => ta σ H fun vs H1 => ∃ a xs, vs = [.ref a] ∧ SqT K H1 a xs ∧ R (Iet K a) H1
theorem pi_enumT {X : Cx} {e : Expr} {ta : TA} {p pos tpos : Pos} {elts : List Expr} {kk : Nat} (hg : Gl X "enumerate") (hm : X.mg "enumerate" = none) (ha : PA X [e] ta) (hs : starEach [e] X.env = [(false, eval e X.env)] := by rfl) :
    PI X (.Tuple elts kk tpos) (.Call (.Name "enumerate" p) [e] [] pos) (iEnumT X.K ta) := by
  refine ⟨fun pins s σ H R I h => Call_ (ld_blt I hg hm boot_enumerate (PyProof.Rows.callWith_type1 (thn (ha.run pos pins s σ H _ I h) fun us s1 ⟨vs, H1, I1, r1, a, xs, ev, hq, q⟩ => ?_) hs rfl))⟩
  subst ev
  cases r1 with
  | cons r rr =>
    cases rr
    cases r
    obtain ⟨its, rv, pt, hz⟩ := I1.tuple hq
    have isT : s1.heap.IsTuple a its.toArray := by obtain ⟨o, ho, hcl, n, hd⟩ := pt; exact ⟨o, ho, hcl, n, hd⟩
    have old : a < s1.heap.objs.size := by obtain ⟨o, ho, _⟩ := isT; exact Heap.lt_size ho
    refine enum_tup isT fun h' he hit hsz hk => wpAny_pyIter_enum he ?_
    have I2 : Inv X pins σ H1 { s1 with heap := h' } := I1.kept (t' := s1.toks) hk
    refine ⟨s1.heap.objs.size + 1, [s1.heap.objs.size + 1, s1.heap.objs.size], _, _, H1, rfl, I2, turn_enumT a (s1.heap.objs.size + 1) s1.heap.objs.size (Nat.ne_of_lt old) (Nat.ne_of_lt (Nat.lt_succ_of_lt old)), ⟨⟨.none, he⟩, hit, Nat.succ_ne_self _⟩, fun b hb => ?_, q⟩
    have le : s1.heap.objs.size ≤ b := by
      rcases (show b = s1.heap.objs.size + 1 ∨ b = s1.heap.objs.size by simpa using hb) with z | z
      · rw [z]; exact Nat.le_succ _
      · rw [z]; exact Nat.le_refl _
    exact I1.fpOk le (I1.hok.fresh le)
theorem walk_enumT {K : PySem.W.Frag} {a : Addr} {xs : List V} : Walk (Iet K a) xs.length (fun H => SqT K H a xs) (YPair (fun i => some (.int (i : Nat))) (fun i => xs[i]?)) := by
  refine ⟨fun i _ hi q => ⟨xs, xs[i], q, by simp [hi]⟩, fun _ q => ⟨xs, q, Nat.le_refl _⟩, fun i H v H' _ q y => ?_⟩
  obtain ⟨T, x, h1, h2, h3, h4⟩ := y
  exact ⟨T, .int (i : Nat), x, h1, h2, h3, rfl, h4 xs q⟩
end My
/-! {name: index for index, name in enumerate(a tuple of texts)} -/
namespace My
open PySem PySem.Spec PyProof.Rows L2
section
variable {J : It} {n : Nat} {G : Hp → Prop} {Y : Nat → Hp → V → Hp → Prop}
/-- a dict comprehension over a walk: Pv by the turn and the heap (the new dict at D within) -/
theorem dc_it (w : Walk J n G Y) {g : TG} {tt : TT} {tk tv : TE} {vs : List Nat} {σ : L2.St} {H1 : Hp} {D : Addr} {Qd : Hp → Prop} (Pv : Nat → Hp → Prop) (h0 : Pv 0 (upd H1 D (.dK []))) (hG : ∀ i H, i ≤ n → Pv i H → G H)
    (hs : ∀ i x H H', i < n → Pv i H → Y i H x H' → g x (wipe σ vs) H' fun σ2 H2 => wipe σ2 vs = wipe σ vs ∧ tt σ2 H2 fun b H3 =>
      if b = true then tk σ2 H3 fun y H4 => tv σ2 H4 fun z H5 => ∃ kvs k, y = kV k ∧ H5 D = some (.dK kvs) ∧ kvs.length < sizeLine ∧ Pv (i + 1) (upd H5 D (.dK (putK kvs k z))) else Pv (i + 1) H3) (hd : ∀ H, Pv n H → Qd H) :
    ∃ W : Nat → Nat → Hp → Prop, (∃ m, W 0 m (upd H1 D (.dK []))) ∧ ∀ i m H, W i m H →
      (J.stop i H ∧ Qd H) ∨ (J.go i H ∧ ∃ Nx : Hp → Prop, (∀ H', Nx H' → ∃ m', m' < m ∧ W (i + 1) m' H') ∧ ∀ x H', J.yld i H x H' → g x (wipe σ vs) H' fun σ2 H2 => wipe σ2 vs = wipe σ vs ∧ tt σ2 H2 fun b H3 =>
        if b = true then tk σ2 H3 fun y H4 => tv σ2 H4 fun z H5 => ∃ kvs k, y = kV k ∧ H5 D = some (.dK kvs) ∧ kvs.length < sizeLine ∧ Nx (upd H5 D (.dK (putK kvs k z))) else Nx H3) := by
  refine ⟨fun i m H => m = n - i ∧ i ≤ n ∧ Pv i H, ⟨n, by simp, Nat.zero_le _, h0⟩, ?_⟩
  rintro i m H ⟨rfl, hi, p⟩
  have q := hG i H hi p
  by_cases hlt : i < n
  · refine .inr ⟨w.goes i H hlt q, Pv (i + 1), fun H' p' => ⟨n - (i + 1), by omega, rfl, hlt, p'⟩, fun x H' y => hs i x H H' hlt p (w.yields i H x H' hlt q y)⟩
  · have e : i = n := by omega
    subst e
    exact .inl ⟨w.stops H q, hd H p⟩
end
/-- where a text stands in a row -/
def pos (zs : List Str) (y : Str) : Nat := zs.findIdx fun z => decide (z = y)
def nmIdx (k : Nat) (zs : List Str) : List (Key × V) := zs.mapIdx fun i z => (.inr z, .int ((i + k : Nat) : Int))
theorem nmIdx_cons (k : Nat) (z : Str) (zs : List Str) : nmIdx k (z :: zs) = (.inr z, .int (k : Nat)) :: nmIdx (k + 1) zs := by
  unfold nmIdx
  rw [List.mapIdx_cons, Nat.zero_add]
  congr 1
  apply List.ext_getElem?
  intro i
  rw [List.getElem?_mapIdx, List.getElem?_mapIdx, show i + 1 + k = i + (k + 1) by omega]
theorem valV_nmIdx (y : Str) : ∀ (zs : List Str) (k : Nat), valV (nmIdx k zs) (.inr y) = if y ∈ zs then some (.int ((pos zs y + k : Nat) : Int)) else none
  | [], k => rfl
  | z :: zs, k => by
    rw [nmIdx_cons]
    by_cases e : z = y
    · subst e
      rw [valV_pos (p := ((.inr z : Key), V.int (k : Nat))) rfl, if_pos (List.mem_cons_self ..)]
      unfold pos
      rw [List.findIdx_cons, decide_eq_true rfl]
      simp
    · rw [valV_neg (p := ((.inr z : Key), V.int (k : Nat))) (fun q => e (Sum.inr.inj q)), valV_nmIdx y zs (k + 1)]
      have m : (y ∈ z :: zs) ↔ y ∈ zs := by
        rw [List.mem_cons]
        exact ⟨fun h => h.elim (fun q => absurd q.symm e) id, .inr⟩
      have p : pos (z :: zs) y = pos zs y + 1 := by
        unfold pos
        rw [List.findIdx_cons, decide_eq_false e]
        rfl
      by_cases h : y ∈ zs
      · rw [if_pos h, if_pos (m.mpr h), p, show pos zs y + 1 + k = pos zs y + (k + 1) by omega]
      · rw [if_neg h, if_neg (fun q => h (m.mp q))]
theorem nmIdx_snoc {zs : List Str} {i : Nat} {z : Str} (nd : zs.Nodup) (hz : zs[i]? = some z) : putK (nmIdx 0 (zs.take i)) (.inr z) (.int (i : Nat)) = nmIdx 0 (zs.take (i + 1)) := by
  have out : z ∉ zs.take i := fun m => by
    obtain ⟨j, hj, e⟩ := List.getElem_of_mem m
    rw [List.getElem_take] at e
    rw [List.length_take] at hj
    obtain ⟨hi, e2⟩ := List.getElem?_eq_some_iff.mp hz
    have q := (List.nodup_iff_pairwise_ne.mp nd)
    exact (List.pairwise_iff_getElem.mp q) j i (by omega) hi (by omega) (e.trans e2.symm)
  rw [putK_new _ (by rw [valV_nmIdx, if_neg out]), take_next hz]
  unfold nmIdx
  have hi : i < zs.length := (List.getElem?_eq_some_iff.mp hz).1
  have e1 : (zs.take i).length = i := by rw [List.length_take]; omega
  rw [List.mapIdx_append]
  simp [e1]
section
variable {K : PySem.W.Frag} {a D : Addr} {zs : List Str} {vs : List Nat} {σ : L2.St} {H1 : Hp} {Qd : Hp → Prop} {j k : Nat}
theorem nm_dict (nd : zs.Nodup) (hx : SqT K H1 a (zs.map V.str)) (hD : H1 D = none) (hz : zs.length ≤ 1000)
    (hw : ∀ x y, wipe (((wipe σ vs).set j (some x)).set k (some y)) vs = wipe σ vs) (hj : ∀ x y, (((wipe σ vs).set j (some x)).set k (some y))[j]? = some (some x)) (hk : ∀ x y, (((wipe σ vs).set j (some x)).set k (some y))[k]? = some (some y))
    (hd : ∀ H', Ext H1 H' → H' D = some (.dK (nmIdx 0 zs)) → Qd H') :
    ∃ W : Nat → Nat → Hp → Prop, (∃ m, W 0 m (upd H1 D (.dK []))) ∧ ∀ i m H, W i m H →
      ((Iet K a).stop i H ∧ Qd H) ∨ ((Iet K a).go i H ∧ ∃ Nx : Hp → Prop, (∀ H', Nx H' → ∃ m', m' < m ∧ W (i + 1) m' H') ∧ ∀ x H', (Iet K a).yld i H x H' → gTup K 2 (gCons (gName j) (gCons (gName k) gNil)) x (wipe σ vs) H' fun σ2 H2 => wipe σ2 vs = wipe σ vs ∧ tYes σ2 H2 fun b H3 =>
        if b = true then tVar k σ2 H3 fun y H4 => tVar j σ2 H4 fun z H5 => ∃ kvs k, y = kV k ∧ H5 D = some (.dK kvs) ∧ kvs.length < sizeLine ∧ Nx (upd H5 D (.dK (putK kvs k z))) else Nx H3) := by
  have wk : Walk (Iet K a) zs.length (fun H => SqT K H a (zs.map V.str)) (YPair (fun i => some (.int (i : Nat))) (fun i => (zs.map V.str)[i]?)) := by
    have z := walk_enumT (K := K) (a := a) (xs := zs.map V.str)
    rwa [List.length_map] at z
  refine dc_it wk (fun i H' => H1 D = none ∧ Ext H1 H' ∧ H' D = some (.dK (nmIdx 0 (zs.take i)))) ⟨hD, ext_new (ext_refl H1) hD, upd_same⟩ (fun i H' _ p => hx.ext p.2.1) (fun i x H H' hi p y => ?_) fun H' p => hd H' p.2.1 (by have q := p.2.2; rw [List.take_length] at q; exact q)
  obtain ⟨T, u, v, rfl, hT, rfl, hu, hv⟩ := y
  obtain ⟨p1, p2, p3⟩ := p
  cases hu
  replace hv : (zs.map V.str)[i]? = some v := hv
  rw [List.getElem?_map, List.getElem?_eq_getElem hi] at hv
  cases hv
  have eT := ext_new (o := HO.tup [V.int (i : Nat), .str zs[i]]) (ext_refl H) hT
  refine ⟨T, _, rfl, SqT.of upd_same, rfl, _, _, rfl, _, _, rfl, rfl, hw _ _, ?_⟩
  unfold tYes
  dsimp only
  rw [if_pos rfl]
  refine ⟨_, hk _ _, _, hj _ _, _, .inr zs[i], rfl, eT _ _ p3, ?_, p1, ext_mut (p2.trans eT) p1, ?_⟩
  · unfold nmIdx
    rw [List.length_mapIdx, List.length_take]
    exact Nat.lt_of_le_of_lt (Nat.le_trans (Nat.min_le_right _ _) hz) (by decide)
  · rw [upd_same, nmIdx_snoc nd (by simp [hi])]
end
end My
namespace My
open PySem PySem.Spec PyProof.Rows L2
/-! ### the class as the top has made it -/
structure PropT (K : PySem.W.Frag) (C : Addr) (x : Str) (qual : Str) (st : Stmt) : Prop where
  ex : ∃ (p g : Addr) (fd : FuncData), PropOf K C x p g ∧ Fun K x qual st g fd
structure MethT (K : PySem.W.Frag) (C : Addr) (x : Str) (qual : Str) (st : Stmt) : Prop where
  ex : ∃ (f : Addr) (fd : FuncData), Meth K C x f ∧ PySem.W.isFn K (.ref f) = true ∧ Fun K x qual st f fd
structure OpT (K : PySem.W.Frag) (C : Addr) (op : Operator) (x qual : Str) (st : Stmt) : Prop where
  ex : ∃ (f : Addr) (fd : FuncData), OwnOp K C op f ∧ Fun K x qual st f fd
structure SpT (K : PySem.W.Frag) (C : Addr) (x qual : Str) (st : Stmt) : Prop where
  ex : ∃ (f : Addr) (fd : FuncData), PySem.W.findIn K (.ref C) x = some (some (.ref f)) ∧ PySem.W.isFn K (.ref f) = true ∧ Fun K x qual st f fd
/-- the promises of these -/
structure PropAt (P : Program) (w : World) (K : PySem.W.Frag) (mg : Str → Option Value) (base : Heap) (k : Nat) (C : Addr) (x : Str) (sp : Sp) : Prop where
  ex : ∃ (p g : Addr) (fd : FuncData), PropOf K C x p g ∧ Binds K fd ["self"] [] ∧ FnOk P w K mg base CX0 k g fd ["self"] sp
structure MethAt (P : Program) (w : World) (K : PySem.W.Frag) (mg : Str → Option Value) (base : Heap) (k : Nat) (C : Addr) (x : Str) (ps : List Str) (sp : Sp) : Prop where
  ex : ∃ (f : Addr) (fd : FuncData), Meth K C x f ∧ Binds K fd ps [] ∧ FnOk P w K mg base CX0 k f fd ps sp
structure OpAt (P : Program) (w : World) (K : PySem.W.Frag) (mg : Str → Option Value) (base : Heap) (k : Nat) (C : Addr) (op : Operator) (sp : Sp) : Prop where
  ex : ∃ (f : Addr) (fd : FuncData), OwnOp K C op f ∧ Binds K fd ["self", "other"] [] ∧ FnOk P w K mg base CX0 k f fd ["self", "other"] sp
structure SpAt (P : Program) (w : World) (K : PySem.W.Frag) (mg : Str → Option Value) (base : Heap) (k : Nat) (C : Addr) (x : Str) (ps : List Str) (sp : Sp) : Prop where
  ex : ∃ (f : Addr) (fd : FuncData), PySem.W.findIn K (.ref C) x = some (some (.ref f)) ∧ PySem.W.isFn K (.ref f) = true ∧ Binds K fd ps [] ∧ FnOk P w K mg base CX0 k f fd ps sp
section
variable {X : Cx} {k n : Nat} {C : Addr} {x : Str} {ps : List Str} {sp : Sp} {p pos apos : Pos} {e o : Expr} {es : List Expr} {t : TA} {ta to : TE}
theorem propA (F : PropAt X.prog X.w X.K X.mg X.base k C x sp) (c : Cls X.K C) (hr : Room (k + 1) X.A) (he : PE X e ta) (hab : attributeBase e x X.env (eval e X.env) = eval e X.env := by rfl) : PE X (.Attribute e x pos) (tProp C sp [] E0 ta) := by
  obtain ⟨q, g, fd, hp, hb, G⟩ := F.ex
  exact pe_prop he c hp G hr hb .nil pass0 hab
theorem opA {op : Operator} (F : OpAt X.prog X.w X.K X.mg X.base k C op sp) (hr : Room k X.A) : OpR X (binaryOp op) (rOwn C sp E0) := by
  obtain ⟨f, fd, W, hb, G⟩ := F.ex
  exact op_own W G hr hb pass0
theorem negA (F : SpAt X.prog X.w X.K X.mg X.base k C "__neg__" ["self"] sp) (hr : Room k X.A) : UnR X (unaryOp .USub) (rOwnU C sp E0) := by
  obtain ⟨f, fd, hs, hf, hb, G⟩ := F.ex
  exact un_ownNeg hs hf G hr hb pass0
theorem eqA (F : SpAt X.prog X.w X.K X.mg X.base k C "__eq__" ["self", "other"] sp) (hr : Room k X.A) : OpR X (compareOp .Eq) (rOwnEq C sp E0) := by
  obtain ⟨f, fd, hs, hf, hb, G⟩ := F.ex
  exact op_ownEq hs hf G hr hb pass0
end
section
variable {P : Program} {w : World} {K : PySem.W.Frag} {mg : Str → Option Value} {base : Heap} {C : Addr}
theorem propAt {x qual : Str} {st : Stmt} {N : List Str} {k : Nat} {sp : Sp} (D : PropT K C x qual st) (S : FnScope N ["self"] (defScope st))
    (hbind : ∀ (kV doc pm : Value) (an : Option Addr) (cdv ct : Value) (us : List Value), us.length = 1 → bindArgs (PySem.W.fnOf x qual (defArgs st) (defBody st) (defScope st) .none kV doc pm an cdv ct) ⟨us, []⟩ = pure ((["self"] : List Str).zip us))
    (len : ∀ vs H Q E, sp vs H Q E → vs.length = 1)
    (hbody : ∀ (f : Addr) (cdv : Value) (A : Around) (outer : List Env) (s : Shared) (H : Hp) (vs : List V) (Q : VK) (E : XK), Room k (A.deeper (envOfC qual (defScope st) s.heap.objs.size f cdv)) → sp vs H Q E →
      ∃ t, PSs (cxOf CX0 P w K mg base N qual (defScope st) f cdv A outer s H E).nox (defBody st) t ∧ t { nx := fun _ H' => Q .non H', rt := Q } (start N vs) H) : PropAt P w K mg base (k + 1) C x sp := by
  obtain ⟨p, g, fd, hp, F⟩ := D.ex
  exact ⟨p, g, fd, hp, F.binds hbind, F.ok S len fun cdv A outer s H vs Q E hr h => hbody g cdv A outer s H vs Q E hr h⟩
theorem spAt {x qual : Str} {st : Stmt} {N ps : List Str} {k : Nat} {sp : Sp} (D : SpT K C x qual st) (S : FnScope N ps (defScope st))
    (hbind : ∀ (kV doc pm : Value) (an : Option Addr) (cdv ct : Value) (us : List Value), us.length = ps.length → bindArgs (PySem.W.fnOf x qual (defArgs st) (defBody st) (defScope st) .none kV doc pm an cdv ct) ⟨us, []⟩ = pure (ps.zip us))
    (len : ∀ vs H Q E, sp vs H Q E → vs.length = ps.length)
    (hbody : ∀ (f : Addr) (cdv : Value) (A : Around) (outer : List Env) (s : Shared) (H : Hp) (vs : List V) (Q : VK) (E : XK), Room k (A.deeper (envOfC qual (defScope st) s.heap.objs.size f cdv)) → sp vs H Q E →
      ∃ t, PSs (cxOf CX0 P w K mg base N qual (defScope st) f cdv A outer s H E).nox (defBody st) t ∧ t { nx := fun _ H' => Q .non H', rt := Q } (start N vs) H) : SpAt P w K mg base (k + 1) C x ps sp := by
  obtain ⟨f, fd, hs, hf, F⟩ := D.ex
  exact ⟨f, fd, hs, hf, F.binds hbind, F.ok S len fun cdv A outer s H vs Q E hr h => hbody f cdv A outer s H vs Q E hr h⟩
theorem opAt {op : Operator} {x qual : Str} {st : Stmt} {N : List Str} {k : Nat} {sp : Sp} (D : OpT K C op x qual st) (S : FnScope N ["self", "other"] (defScope st))
    (hbind : ∀ (kV doc pm : Value) (an : Option Addr) (cdv ct : Value) (us : List Value), us.length = 2 → bindArgs (PySem.W.fnOf x qual (defArgs st) (defBody st) (defScope st) .none kV doc pm an cdv ct) ⟨us, []⟩ = pure ((["self", "other"] : List Str).zip us))
    (len : ∀ vs H Q E, sp vs H Q E → vs.length = 2)
    (hbody : ∀ (f : Addr) (cdv : Value) (A : Around) (outer : List Env) (s : Shared) (H : Hp) (vs : List V) (Q : VK) (E : XK), Room k (A.deeper (envOfC qual (defScope st) s.heap.objs.size f cdv)) → sp vs H Q E →
      ∃ t, PSs (cxOf CX0 P w K mg base N qual (defScope st) f cdv A outer s H E).nox (defBody st) t ∧ t { nx := fun _ H' => Q .non H', rt := Q } (start N vs) H) : OpAt P w K mg base (k + 1) C op sp := by
  obtain ⟨f, fd, hs, F⟩ := D.ex
  exact ⟨f, fd, hs, F.binds hbind, F.ok S len fun cdv A outer s H vs Q E hr h => hbody f cdv A outer s H vs Q E hr h⟩
theorem methAt {x qual : Str} {st : Stmt} {N ps : List Str} {k : Nat} {sp : Sp} (D : MethT K C x qual st) (S : FnScope N ps (defScope st))
    (hbind : ∀ (kV doc pm : Value) (an : Option Addr) (cdv ct : Value) (us : List Value), us.length = ps.length → bindArgs (PySem.W.fnOf x qual (defArgs st) (defBody st) (defScope st) .none kV doc pm an cdv ct) ⟨us, []⟩ = pure (ps.zip us))
    (len : ∀ vs H Q E, sp vs H Q E → vs.length = ps.length)
    (hbody : ∀ (f : Addr) (cdv : Value) (A : Around) (outer : List Env) (s : Shared) (H : Hp) (vs : List V) (Q : VK) (E : XK), Room k (A.deeper (envOfC qual (defScope st) s.heap.objs.size f cdv)) → sp vs H Q E →
      ∃ t, PSs (cxOf CX0 P w K mg base N qual (defScope st) f cdv A outer s H E).nox (defBody st) t ∧ t { nx := fun _ H' => Q .non H', rt := Q } (start N vs) H) : MethAt P w K mg base (k + 1) C x ps sp := by
  obtain ⟨f, fd, hs, hf, F⟩ := D.ex
  exact ⟨f, fd, hs, F.binds hbind, F.ok S len fun cdv A outer s H vs Q E hr h => hbody f cdv A outer s H vs Q E hr h⟩
end
end My
namespace My
open PySem PySem.Spec PyProof.Rows L2
local macro_rules | `(tactic| walk_at "side") => `(tactic| first | assumption | decide | exact Or.inl ⟨by decide, by decide⟩ | exact Or.inr ⟨by decide, by decide⟩ | exact ⟨by decide, by decide, by decide⟩ | omega | (unfold CMulW; decide +kernel) | (dsimp only; first | assumption | omega | decide +kernel) | exact len_ok (Nat.le_of_ble_eq_true rfl) | fail "side")
local macro_rules | `(tactic| walk_at "rd") => `(tactic| first
  | refine ⟨_, _, _, _, rfl, rfl, SqL.of upd_same, atI_nat (j := 0) rfl, ?_⟩ | refine ⟨_, _, _, _, rfl, rfl, SqL.of upd_same, atI_nat (j := 1) rfl, ?_⟩ | refine ⟨_, _, _, _, rfl, rfl, SqL.of upd_same, atI_nat (j := 2) rfl, ?_⟩
  | refine ⟨_, _, _, _, rfl, rfl, upd_same, rfl, ?_⟩
  | refine ⟨_, _, rfl, rfl, ?_⟩ | refine ⟨_, rfl, ?_⟩ | refine ⟨_, _, rfl, ?_⟩ | refine Or.inl ⟨_, rfl, ?_⟩ | refine Or.inr ⟨_, rfl, ?_⟩ | refine ⟨(by walk_at "side"), ?_⟩ | fail "rd")

abbrev s_isname : Stmt := top 10
theorem sc_isname : FnScope ["value", "letter"] ["value"] (defScope s_isname) := ⟨rfl, rfl, rfl, by decide +kernel, rfl, by decide +kernel, by decide +kernel⟩
abbrev s_arenames : Stmt := top 11
theorem sc_arenames : FnScope ["value", "name"] ["value"] (defScope s_arenames) := ⟨rfl, rfl, rfl, by decide +kernel, rfl, by decide +kernel, by decide +kernel⟩
theorem tyOf_ext {K : PySem.W.Frag} {H H' : Hp} {v : V} {t : Value} (h : TyOf K H v t) (e : Ext H H') : TyOf K H' v t := by
  cases h with
  | non => exact .non
  | bl x => exact .bl x
  | int i => exact .int i
  | str x => exact .str x
  | flt x => exact .flt x
  | lst q => exact .lst (e _ _ q)
  | frz q => exact .frz (e _ _ q)
  | tup q => exact .tup (e _ _ q)
  | dK q => exact .dK (e _ _ q)
  | dT q => exact .dT (e _ _ q)
  | ins q cl ha hn htk hm => exact .ins (e _ _ q) cl ha hn htk hm
theorem tyX_ext {K : PySem.W.Frag} {H H' : Hp} {v : V} {t : Value} (h : TyX K H v t) (e : Ext H H') : TyX K H' v t := by
  cases h with
  | base h => exact .base (tyOf_ext h e)
  | byt b => exact .byt b
  | set q => exact .set (e _ _ q)
  | kList q c => exact .kList q c
  | kTuple q c => exact .kTuple q c
  | kDict q c => exact .kDict q c
  | fTuple q => exact .fTuple (e _ _ q)
  | fDict q => exact .fDict (e _ _ q)
def letS : Str := "abcdefghijklmnopqrstuvwxyz"
def sg : V → Nat
  | .str q => q.cps.toList.headD 0
  | _ => 0
theorem signs_map (z : Str) (g : Nat → V) : (signs z).mapIdx (fun _ x => g (sg x)) = z.cps.toList.map g := by
  unfold signs
  apply List.ext_getElem?
  intro i
  rw [List.getElem?_mapIdx, List.getElem?_map, List.getElem?_map, Option.map_map]
  rfl
structure WordC (mg : Str → Option Value) : Prop where
  LETTERS : ∃ t, mg "LETTERS" = some (.str letS t)
  ML : ∃ t, mg "MAX_LETTERS" = some (.int 8 t)
/-- a value whose class is none of T -/
def NotK (K : PySem.W.Frag) (H : Hp) (v : V) (T : String) : Prop := ∃ t, TyX K H v t ∧ PySem.W.kitOne K t (.type T) = some false
theorem NotK.ext {K : PySem.W.Frag} {H H' : Hp} {v : V} {T : String} (h : NotK K H v T) (e : Ext H H') : NotK K H' v T := let ⟨t, a, b⟩ := h; ⟨t, tyX_ext a e, b⟩
def isNm (s : Str) : Bool := (decide ((1 : Int) ≤ s.length) && decide ((s.length : Int) ≤ 8)) && s.cps.toList.all fun c => decide (c ∈ letS.cps.toList)
def spNm (K : PySem.W.Frag) : Sp := fun vs H Q _ => ∃ v, vs = [v] ∧ ((∃ s, v = .str s ∧ s.length ≤ 100000 ∧ ∀ H', Ext H H' → Q (.bl (isNm s)) H') ∨ (NotK K H v "str" ∧ ∀ H', Ext H H' → Q (.bl false) H'))
/-- the items of a tuple, judged -/
def Judged (K : PySem.W.Frag) (H : Hp) (x : V) (b : Bool) : Prop := (∃ s, x = .str s ∧ s.length ≤ 100000 ∧ b = isNm s) ∨ (NotK K H x "str" ∧ b = false)
def spNms (K : PySem.W.Frag) : Sp := fun vs H Q _ => ∃ v, vs = [v] ∧ ((NotK K H v "tuple" ∧ Q (.bl false) H) ∨
  ∃ (a : Addr) (xs : List V) (f : V → Bool), v = .ref a ∧ SqT K H a xs ∧ TyX K H v (.type "tuple") ∧ xs.length ≤ 1000 ∧ (∀ x ∈ xs, Judged K H x (f x)) ∧ ∀ H', Ext H H' → Q (.bl (xs.all f)) H')
theorem kit_strstr {K : PySem.W.Frag} : PySem.W.kitOne K (.type "str") (.type "str") = some true := kit_ty (by decide +kernel : kitB "str" "str" = some true)
theorem kit_tuptup' {K : PySem.W.Frag} : PySem.W.kitOne K (.type "tuple") (.type "tuple") = some true := kit_ty (by decide +kernel : kitB "tuple" "tuple" = some true)
theorem tyTup {K : PySem.W.Frag} {H : Hp} {a : Addr} {xs : List V} (h : SqT K H a xs) : TyX K H (.ref a) (.type "tuple") := by
  rcases h with (e | ⟨o, e⟩) | ⟨o, its, n, l, c, _⟩
  · exact .base (.tup e)
  · exact .fTuple e
  · exact .kTuple l c
section
variable {P : Program} {w : World} {K : PySem.W.Frag} {mg : Str → Option Value} {base : Heap}
theorem ok_isname (T : Bn mg) (WC : WordC mg) (D : DefAt K mg "is_name" s_isname) : FnAt P w K mg base 1 "is_name" ["value"] (spNm K) := by
  obtain ⟨_, g_LETTERS⟩ := WC.LETTERS
  obtain ⟨_, g_MAX_LETTERS⟩ := WC.ML
  refine fnAt D sc_isname (fun _ _ _ _ _ _ us hl => match us, hl with | [_], _ => rfl) (fun vs H Q E h => ?_) fun f cdv A outer s H vs Q E hr h => ?_
  · obtain ⟨v, rfl, _⟩ := h
    rfl
  obtain ⟨v, rfl, h⟩ := h
  refine ⟨_, (pss_cons (ps_if (PW.pt (pw_or (pt_not (pt_val (pe_callB call_isi (by rfl) T.b_isinstance (by decide +kernel) (pa_cons (pv 0) (pa_cons (pe_bltn (v := .ty "str") (by rfl) T.b_str (by decide +kernel) rfl) pa_nil))))) (pw_or1 (pt_not (pt_chain op_le op_le pe_int (pe_callB call_len_str (by rfl) T.b_len (by decide +kernel) (pa_cons (pv 0) pa_nil)) (pe_glob (v := .int 8) rfl g_MAX_LETTERS ⟨_, rfl⟩)))))) (pss_one (ps_ret pe_bl)) pss_nil)
    (pss_one (ps_ret (pe_callB (cr_all rfl) (by rfl) T.b_all (by decide +kernel) (pa_cons (pe_lc (own := [("letter", 1)]) (g := gName 1) (tt := tYes) rfl sc_isname.nd (pi_str (pv 0)) (blkOk_by (N := ["value", "letter"]) (sc := defScope s_isname) (by decide +kernel)) (fun _ _ _ _ _ => pg_name (i := 1) sc_isname.nd rfl (Or.inl rfl)) (fun _ _ _ _ _ => pts_nil) (fun _ _ _ _ _ => (pe_cmpR op_in_sign (pv 1) (pe_glob (v := .str letS) rfl g_LETTERS ⟨_, rfl⟩) rfl))) pa_nil))))), ?_⟩
  rcases h with ⟨z, rfl, hz, k⟩ | ⟨⟨t, ty, hk⟩, k⟩
  · refine ⟨_, rfl, _, _, _, _, true, rfl, .ty _, .base (.str _), kit_strstr, _, rfl, iteF ?_⟩
    refine ⟨_, rfl, _, rfl, Nat.le_trans hz (by decide), _, _, rfl, rfl, _, rfl, ?_⟩
    by_cases h1 : decide ((1 : Int) ≤ z.length) = true
    · rw [if_pos h1]
      refine ⟨_, _, rfl, rfl, _, rfl, ?_⟩
      by_cases h2 : decide ((z.length : Int) ≤ 8) = true
      · rw [h2]
        refine iteF ?_
        refine ⟨_, rfl, z, rfl, fun D hD => map_str (fun _ x => .bl (decide (sg x ∈ letS.cps.toList))) hD ?_ (fun _ => rfl) (fun i x H' hi e Q' k' => ?_) fun H' e hl => ?_⟩
        · exact Nat.le_trans hz (by decide)
        · obtain ⟨c, hc, rfl⟩ := signs_mem (List.mem_of_getElem? hi)
          exact ⟨_, rfl, c, letS, rfl, rfl, k' H' (ext_refl _)⟩
        · refine ⟨D, z.cps.toList.map fun c => decide (c ∈ letS.cps.toList), rfl, SqL.of ?_, ?_⟩
          · rw [hl, signs_map z fun c => .bl (decide (c ∈ letS.cps.toList)), List.map_map]
            rfl
          · have e1 : isNm z = (z.cps.toList.map fun c => decide (c ∈ letS.cps.toList)).all id := by
              unfold isNm
              rw [h1, h2, List.all_map]
              rfl
            rw [e1] at k
            exact k H' e
      · rw [Bool.eq_false_iff.mpr h2]
        refine iteT ?_
        have e1 : isNm z = false := by unfold isNm; rw [Bool.eq_false_iff.mpr h2, Bool.and_false]; rfl
        exact e1 ▸ k H (ext_refl H)
    · rw [if_neg h1]
      refine ⟨_, rfl, iteT ?_⟩
      have e1 : isNm z = false := by unfold isNm; rw [Bool.eq_false_iff.mpr h1]; rfl
      exact e1 ▸ k H (ext_refl H)
  · exact ⟨_, rfl, _, _, _, _, false, rfl, .ty _, ty, hk, _, rfl, iteT (k H (ext_refl H))⟩
theorem ok_arenames (T : Bn mg) (D : DefAt K mg "are_names" s_arenames) (F_is_name : FnAt P w K mg base 1 "is_name" ["value"] (spNm K)) : FnAt P w K mg base 2 "are_names" ["value"] (spNms K) := by
  refine fnAt D sc_arenames (fun _ _ _ _ _ _ us hl => match us, hl with | [_], _ => rfl) (fun vs H Q E h => ?_) fun f cdv A outer s H vs Q E hr h => ?_
  · obtain ⟨v, rfl, _⟩ := h
    rfl
  obtain ⟨v, rfl, h⟩ := h
  refine ⟨_, (pss_one (ps_ret (pe_and (pe_callB call_isi (by rfl) T.b_isinstance (by decide +kernel) (pa_cons (pv 0) (pa_cons (pe_bltn (v := .ty "tuple") (by rfl) T.b_tuple (by decide +kernel) rfl) pa_nil))) (pe_one (pe_callB (cr_all rfl) (by rfl) T.b_all (by decide +kernel) (pa_cons (pe_lc (own := [("name", 1)]) (g := gName 1) (tt := tYes) rfl sc_arenames.nd (pi_tup (pv 0)) (blkOk_by (N := ["value", "name"]) (sc := defScope s_arenames) (by decide +kernel)) (fun _ _ _ _ _ => pg_name (i := 1) sc_arenames.nd rfl (Or.inl rfl)) (fun _ _ _ _ _ => pts_nil) (fun _ _ _ _ _ => (callA F_is_name (hr.mono (by decide)) rfl (pa_cons (pv 1) pa_nil)))) pa_nil)))))), ?_⟩
  rcases h with ⟨⟨t, ty, hk⟩, k⟩ | ⟨a, xs, g, rfl, ha, ty, hl, hj, k⟩
  · exact ⟨_, rfl, _, _, _, _, false, rfl, .ty _, ty, hk, _, rfl, iteF k⟩
  · refine ⟨_, rfl, _, _, _, _, true, rfl, .ty _, ty, kit_tuptup', _, rfl, iteT ?_⟩
    refine ⟨_, rfl, a, rfl, ⟨_, ha⟩, fun D hD => map_tup (xs := xs) (fun _ x => .bl (g x)) ha hD (by omega) (fun _ => rfl) (fun i x H' hi e Q' k' => ?_) fun H' e hl2 => ?_⟩
    · refine ⟨_, rfl, _, rfl, ?_⟩
      rcases hj x (List.mem_of_getElem? hi) with ⟨z, rfl, hz, eb⟩ | ⟨nk, eb⟩
      · rw [eb] at k'
        exact .inl ⟨z, rfl, hz, k'⟩
      · rw [eb] at k'
        exact .inr ⟨nk.ext e, k'⟩
    · refine ⟨D, xs.map g, rfl, SqL.of ?_, ?_⟩
      · rw [hl2, List.map_map]
        congr 1
        congr 1
        apply List.ext_getElem?
        intro i
        rw [List.getElem?_mapIdx, List.getElem?_map]
        rfl
      · have e1 : xs.all g = (xs.map g).all id := by rw [List.all_map]; rfl
        rw [e1] at k
        exact k H' e
end
end My
namespace My
open PySem PySem.Spec PyProof.Rows L2
local macro_rules | `(tactic| walk_at "side") => `(tactic| first | assumption | decide | exact Or.inl ⟨by decide, by decide⟩ | exact Or.inr ⟨by decide, by decide⟩ | exact ⟨by decide, by decide, by decide⟩ | omega | (unfold CMulW; decide +kernel) | (dsimp only; first | assumption | omega | decide +kernel) | exact len_ok (Nat.le_of_ble_eq_true rfl) | fail "side")
local macro_rules | `(tactic| walk_at "rd") => `(tactic| first
  | refine ⟨_, _, _, _, rfl, rfl, SqL.of upd_same, atI_nat (j := 0) rfl, ?_⟩ | refine ⟨_, _, _, _, rfl, rfl, SqL.of upd_same, atI_nat (j := 1) rfl, ?_⟩ | refine ⟨_, _, _, _, rfl, rfl, SqL.of upd_same, atI_nat (j := 2) rfl, ?_⟩
  | refine ⟨_, _, _, _, rfl, rfl, upd_same, rfl, ?_⟩
  | refine ⟨_, _, rfl, rfl, ?_⟩ | refine ⟨_, rfl, ?_⟩ | refine ⟨_, _, rfl, ?_⟩ | refine Or.inl ⟨_, rfl, ?_⟩ | refine Or.inr ⟨_, rfl, ?_⟩ | refine ⟨(by walk_at "side"), ?_⟩ | fail "rd")

abbrev s_difd : Stmt := top 16
theorem sc_difd : FnScope ["names"] ["names"] (defScope s_difd) := ⟨rfl, rfl, rfl, by decide +kernel, rfl, by decide +kernel, by decide +kernel⟩
/-- a tuple of texts: whether all are names, and different -/
def spDif (K : PySem.W.Frag) : Sp := fun vs H Q _ => ∃ (a : Addr) (zs : List Str), vs = [.ref a] ∧ SqT K H a (zs.map V.str) ∧ zs.length ≤ 1000 ∧ (∀ z ∈ zs, isNm z = true) ∧ ∀ H', Ext H H' → Q (.bl (decide zs.Nodup)) H'
section
variable {P : Program} {w : World} {K : PySem.W.Frag} {mg : Str → Option Value} {base : Heap}
theorem nm_len {z : Str} (h : isNm z = true) : z.length ≤ 8 := by
  unfold isNm at h
  rw [Bool.and_eq_true, Bool.and_eq_true] at h
  have := of_decide_eq_true h.1.2
  omega
theorem judged_nm {H : Hp} {zs : List Str} (h : ∀ z ∈ zs, isNm z = true) : ∀ x ∈ zs.map V.str, Judged K H x ((fun _ => true) x) := fun x hx => by
  obtain ⟨z, hz, rfl⟩ := List.mem_map.mp hx
  exact .inl ⟨z, rfl, Nat.le_trans (nm_len (h z hz)) (by decide), (h z hz).symm⟩
theorem all_tt {zs : List V} : zs.all (fun _ => true) = true := by simp
theorem ok_difd (T : Bn mg) (D : DefAt K mg "_are_different" s_difd) (F_are_names : FnAt P w K mg base 2 "are_names" ["value"] (spNms K)) : FnAt P w K mg base 3 "_are_different" ["names"] (spDif K) := by
  refine fnAt D sc_difd (fun _ _ _ _ _ _ us hl => match us, hl with | [_], _ => rfl) (fun vs H Q E h => ?_) fun f cdv A outer s H vs Q E hr h => ?_
  · obtain ⟨a, zs, rfl, _⟩ := h
    rfl
  obtain ⟨a, zs, rfl, ha, hz, hn, k⟩ := h
  refine ⟨_, (pss_one (ps_ret (pe_and (callA F_are_names (hr.mono (by decide)) rfl (pa_cons (pv 0) pa_nil)) (pe_one (pe_cmpR op_eq (pe_callB cr_lenT (by rfl) T.b_len (by decide +kernel) (pa_cons (pe_callTy (cr_setT rfl) (by rfl) T.b_set (by decide +kernel) (pa_cons (pv 0) pa_nil)) pa_nil)) (pe_callB call_len_seq (by rfl) T.b_len (by decide +kernel) (pa_cons (pv 0) pa_nil)) (nomark _)))))), ?_⟩
  refine ⟨_, rfl, _, rfl, .inr ⟨a, _, fun _ => true, rfl, ha, tyTup ha, by rw [List.length_map]; exact hz, judged_nm hn, fun H1 e1 => ?_⟩⟩
  rw [all_tt]
  refine ⟨_, rfl, iteT ?_⟩
  refine ⟨_, rfl, a, zs, rfl, .inr (ha.ext e1), hz, fun p hp => ?_⟩
  have x := ext_new (o := SetT P w p zs) (ext_refl H1) hp
  refine ⟨p, zs, rfl, upd_same, hz, _, rfl, a, _, rfl, .inr ((ha.ext e1).ext x), ?_⟩
  refine ⟨rfl, ?_⟩
  have e2 : decide (V.int (dif zs : Nat) = .int ((zs.map V.str).length : Nat)) = decide zs.Nodup := by
    rw [List.length_map, dec_int, Bool.eq_iff_iff, beq_iff_eq, decide_eq_true_iff, ← dif_eq zs]
    omega
  rw [e2]
  exact k _ (e1.trans x)
end
end My
/-! a sorted list of texts is just one -/
namespace My
open PySem PySem.Spec PyProof.Rows L2
def leS (a b : Str) : Prop := a.cps.toList ≤ b.cps.toList
theorem leS_of {a b : Str} (h : (!ltCps b.cps.toList a.cps.toList) = true) : leS a b := by
  rw [ltCps_eq] at h
  have n : ¬ b.cps.toList < a.cps.toList := fun q => by rw [decide_eq_true q] at h; cases h
  exact List.not_lt.mp n
theorem leS_trans {a b c : Str} (h : leS a b) (g : leS b c) : leS a c := List.le_trans h g
theorem leS_anti {a b : Str} (h : leS a b) (g : leS b a) : a = b := by
  have e : a.cps.toList = b.cps.toList := List.le_antisymm h g
  cases a
  cases b
  congr 1
  exact Array.toList_inj.mp e
theorem rising_pw : ∀ (l : List Str) (p : Str), risingS p l = true → (p :: l).Pairwise leS
  | [], p, _ => List.pairwise_singleton ..
  | x :: r, p, h => by
    rw [show risingS p (x :: r) = (!ltCps x.cps.toList p.cps.toList && risingS x r) from rfl, Bool.and_eq_true] at h
    have ih := rising_pw r x h.2
    have le := leS_of h.1
    refine List.pairwise_cons.mpr ⟨fun y hy => ?_, ih⟩
    rcases List.mem_cons.mp hy with e | hy
    · rw [e]; exact le
    · exact leS_trans le ((List.pairwise_cons.mp ih).1 y hy)
theorem sorted_pw {l : List Str} (h : sortedS l = true) : l.Pairwise leS := by
  cases l with
  | nil => exact .nil
  | cons x r => exact rising_pw r x h
theorem sorted_one {a b : List Str} (p : a.Perm b) (ha : sortedS a = true) (hb : sortedS b = true) : a = b :=
  List.Perm.eq_of_pairwise (fun _ _ _ _ h g => leS_anti h g) (sorted_pw ha) (sorted_pw hb) p
end My
namespace My
open PySem PySem.Spec PyProof.Rows L2
/-! data of texts -/
theorem lay_strs : ∀ ss : List Str, (∀ s ∈ ss, PyData.strOk s = true) → PyData.canLayAll0 (ss.map PyData.str) = true := by
  intro ss h
  induction ss with
  | nil => rfl
  | cons x r ih =>
    rw [List.map_cons, PyData.canLayAll0, ih fun s hs => h s (List.mem_cons_of_mem _ hs), PyData.canLay0, h x (List.mem_cons_self ..)]
    rfl
theorem dep_strs : ∀ ss : List Str, PyData.depthAll (ss.map PyData.str) = 0 := by
  intro ss
  induction ss with
  | nil => rfl
  | cons x r ih =>
    rw [List.map_cons, PyData.depthAll, ih]
    rfl
theorem shaped_strs {ss : List Str} (h : ∀ s ∈ ss, PyData.strOk s = true) : SeqAt.shaped (.list (ss.map PyData.str)) = true := by
  unfold SeqAt.shaped
  rw [PyData.canLay0, lay_strs _ h, PyData.depth, dep_strs]
  rfl
theorem shaped_strsT {ss : List Str} (h : ∀ s ∈ ss, PyData.strOk s = true) : SeqAt.shaped (.tuple (ss.map PyData.str)) = true := by
  unfold SeqAt.shaped
  rw [PyData.canLay0, lay_strs _ h, PyData.depth, dep_strs]
  rfl
theorem eqv_strs : ∀ ss ts : List Str, PyData.eqvAll (ss.map PyData.str) (ts.map PyData.str) = decide (ss = ts) := by
  intro ss
  induction ss with
  | nil =>
    intro ts
    cases ts with
    | nil => rfl
    | cons _ _ => rfl
  | cons x r ih =>
    intro ts
    cases ts with
    | nil => rfl
    | cons y q =>
      rw [List.map_cons, List.map_cons, PyData.eqvAll, ih, PyData.eqv]
      by_cases h : x = y
      · subst h
        by_cases h2 : r = q
        · subst h2; simp
        · simp [h2]
      · simp [h]
theorem dp_strs {K : PySem.W.Frag} {H : Hp} : ∀ ss : List Str, DpAll K H (ss.map V.str) (ss.map PyData.str) := by
  intro ss
  induction ss with
  | nil => exact .nil
  | cons x r ih => exact .cons (.str x) ih
theorem joinL_ones : ∀ cs : List Nat, TL.joinL [] (cs.map fun c => [c]) = cs := by
  intro cs
  induction cs with
  | nil => rfl
  | cons c r ih =>
    cases r with
    | nil => rfl
    | cons d q =>
      show [c] ++ ([] ++ TL.joinL [] ((d :: q).map fun c => [c])) = _
      rw [ih]
      rfl
/-- a text of few codes -/
def Asc (z : Str) : Prop := ∀ c ∈ z.cps.toList, c < 1000
theorem Asc.ok {z : Str} (h : Asc z) : PyData.strOk z = true := by
  unfold PyData.strOk
  rw [← Array.all_toList]
  exact List.all_eq_true.mpr fun c hc => decide_eq_true (Nat.lt_trans (h c hc) (by decide))
theorem join_ones (cs : List Nat) : Txt.join ("" : Str) (cs.map fun c => (⟨#[c]⟩ : Str)) = ⟨cs.toArray⟩ := by
  have e := SX.join_S [] (cs.map fun c => [c])
  rw [List.map_map, joinL_ones] at e
  exact e
end My
namespace My
open PySem PySem.Spec PyProof.Rows L2
local macro_rules | `(tactic| walk_at "side") => `(tactic| first | assumption | decide | exact Or.inl ⟨by decide, by decide⟩ | exact Or.inr ⟨by decide, by decide⟩ | exact ⟨by decide, by decide, by decide⟩ | omega | (unfold CMulW; decide +kernel) | (dsimp only; first | assumption | omega | decide +kernel) | exact len_ok (Nat.le_of_ble_eq_true rfl) | fail "side")
local macro_rules | `(tactic| walk_at "rd") => `(tactic| first
  | refine ⟨_, _, _, _, rfl, rfl, SqL.of upd_same, atI_nat (j := 0) rfl, ?_⟩ | refine ⟨_, _, _, _, rfl, rfl, SqL.of upd_same, atI_nat (j := 1) rfl, ?_⟩ | refine ⟨_, _, _, _, rfl, rfl, SqL.of upd_same, atI_nat (j := 2) rfl, ?_⟩
  | refine ⟨_, _, _, _, rfl, rfl, upd_same, rfl, ?_⟩
  | refine ⟨_, _, rfl, rfl, ?_⟩ | refine ⟨_, rfl, ?_⟩ | refine ⟨_, _, rfl, ?_⟩ | refine Or.inl ⟨_, rfl, ?_⟩ | refine Or.inr ⟨_, rfl, ?_⟩ | refine ⟨(by walk_at "side"), ?_⟩ | fail "rd")

abbrev s_rows : Stmt := top 17
theorem sc_rows : FnScope ["upper", "lower"] ["upper", "lower"] (defScope s_rows) := ⟨rfl, rfl, rfl, by decide +kernel, rfl, by decide +kernel, by decide +kernel⟩
/-- the rows of an order -/
structure RowsOk (zs ys : List Str) : Prop where
  nm : ∀ z ∈ zs, isNm z = true
  nd : zs.Nodup
  pm : ys.Perm zs
  ne : 1 ≤ zs.length
  le : zs.length ≤ 40
theorem RowsOk.len {zs ys : List Str} (h : RowsOk zs ys) : ys.length = zs.length := h.pm.length_eq
theorem RowsOk.symm {zs ys : List Str} (h : RowsOk zs ys) : RowsOk ys zs :=
  ⟨fun z hz => h.nm z (h.pm.mem_iff.mp hz), h.pm.nodup_iff.mpr h.nd, h.pm.symm, by rw [h.len]; exact h.ne, by rw [h.len]; exact h.le⟩
theorem nm_asc {z : Str} (h : isNm z = true) : Asc z := fun c hc => by
  unfold isNm at h
  rw [Bool.and_eq_true] at h
  have m := of_decide_eq_true (List.all_eq_true.mp h.2 c hc)
  have all : ∀ d ∈ letS.cps.toList, d < 1000 := by decide +kernel
  exact all c m
theorem nm_ok {z : Str} (h : isNm z = true) : PyData.strOk z = true := (nm_asc h).ok
/-- the names, ascending -/
structure SortOf (zs ns : List Str) : Prop where
  pm : ns.Perm zs
  so : sortedS ns = true
structure OrdC (mg : Str → Option Value) : Prop where
  MAX_NAMES : ∃ t, mg "MAX_NAMES" = some (.int 40 t)
def spRows (K : PySem.W.Frag) : Sp := fun vs H Q _ => ∃ (a b : Addr) (zs ys : List Str), vs = [.ref a, .ref b] ∧ SqT K H a (zs.map V.str) ∧ SqT K H b (ys.map V.str) ∧ RowsOk zs ys ∧ ∀ H', Ext H H' → Q (.bl true) H'
section
variable {P : Program} {w : World} {K : PySem.W.Frag} {mg : Str → Option Value} {base : Heap}
theorem ok_rows (T : Bn mg) (OC : OrdC mg) (D : DefAt K mg "_are_rows" s_rows) (F_are_names : FnAt P w K mg base 2 "are_names" ["value"] (spNms K)) (F__are_different : FnAt P w K mg base 3 "_are_different" ["names"] (spDif K)) : FnAt P w K mg base 4 "_are_rows" ["upper", "lower"] (spRows K) := by
  obtain ⟨_, g_MAX_NAMES⟩ := OC.MAX_NAMES
  refine fnAt D sc_rows (fun _ _ _ _ _ _ us hl => match us, hl with | [_, _], _ => rfl) (fun vs H Q E h => ?_) fun f cdv A outer s H vs Q E hr h => ?_
  · obtain ⟨a, b, zs, ys, rfl, _⟩ := h
    rfl
  obtain ⟨a, b, zs, ys, rfl, ha, hb, ro, k⟩ := h
  have l1 := ro.le
  have l2 := ro.len
  have l3 := ro.ne
  refine ⟨_, (pss_cons (ps_if (PW.pt (pw_or (pt_not (pt_val (callA F__are_different (hr.mono (by decide)) rfl (pa_cons (pv 0) pa_nil)))) (pw_or1 (pt_not (pt_val (callA F_are_names (hr.mono (by decide)) rfl (pa_cons (pv 1) pa_nil))))))) (pss_one (ps_ret pe_bl)) pss_nil)
    (pss_one (ps_ret (pe_and (pe_chain op_le op_le pe_int (pe_callB call_len_seq (by rfl) T.b_len (by decide +kernel) (pa_cons (pv 0) pa_nil)) (pe_glob (v := .int 40) rfl g_MAX_NAMES ⟨_, rfl⟩)) (pe_one (pe_cmpR (op_eqD (hu64 hr)) (pe_callB cr_sortedB (by rfl) T.b_sorted (by decide +kernel) (pa_cons (pv 0) pa_nil)) (pe_callB cr_sortedB (by rfl) T.b_sorted (by decide +kernel) (pa_cons (pv 1) pa_nil)) (nomark _))))))), ?_⟩
  refine ⟨_, rfl, a, zs, rfl, ha, by omega, ro.nm, fun H1 e1 => ?_⟩
  rw [decide_eq_true ro.nd]
  refine ⟨_, rfl, iteF ?_⟩
  refine ⟨_, rfl, _, rfl, .inr ⟨b, _, fun _ => true, rfl, hb.ext e1, tyTup (hb.ext e1), by rw [List.length_map]; omega, judged_nm ro.symm.nm, fun H2 e2 => ?_⟩⟩
  rw [all_tt]
  refine ⟨_, rfl, iteF ?_⟩
  unfold tNext
  dsimp only
  unfold tRet tAndV tChain
  dsimp only
  have hA := (ha.ext e1).ext e2
  have hB := (hb.ext e1).ext e2
  refine ⟨_, rfl, a, _, rfl, .inr hA, _, _, rfl, rfl, _, rfl, ?_⟩
  rw [List.length_map, if_pos (decide_eq_true (show (1 : Int) ≤ (zs.length : Nat) by omega))]
  refine ⟨_, _, rfl, rfl, _, rfl, ?_⟩
  rw [if_pos (decide_eq_true (show ((zs.length : Nat) : Int) ≤ 40 by omega))]
  refine ⟨_, rfl, a, zs, rfl, .inr hA, by omega, fun s1 p1 pm1 so1 hp1 => ?_⟩
  have x1 := ext_new (o := HO.lst (s1.map V.str)) (ext_refl H2) hp1
  refine ⟨_, rfl, b, ys, rfl, .inr (hB.ext x1), by omega, fun s2 p2 pm2 so2 hp2 => ?_⟩
  have x2 := ext_new (o := HO.lst (s2.map V.str)) (ext_refl _) hp2
  have es : s1 = s2 := sorted_one (pm1.trans (ro.pm.symm.trans pm2.symm)) so1 so2
  have ok1 : ∀ z ∈ s1, PyData.strOk z = true := fun z hz => nm_ok (ro.nm z (pm1.mem_iff.mp hz))
  refine ⟨_, _, .lst (SqL.of (x2 _ _ upd_same)) (dp_strs s1), .lst (SqL.of upd_same) (dp_strs s2), shaped_strs ok1, shaped_strs (es ▸ ok1), ?_⟩
  have e3 : PyData.eqv (.list (s1.map PyData.str)) (.list (s2.map PyData.str)) = true := by
    rw [PyData.eqv, eqv_strs, es, decide_eq_true rfl]
  rw [e3]
  exact k _ (((e1.trans e2).trans x1).trans x2)
end
end My
namespace My
open PySem PySem.Spec PyProof.Rows L2
local macro_rules | `(tactic| walk_at "side") => `(tactic| first | assumption | decide | exact Or.inl ⟨by decide, by decide⟩ | exact Or.inr ⟨by decide, by decide⟩ | exact ⟨by decide, by decide, by decide⟩ | omega | (unfold CMulW; decide +kernel) | (dsimp only; first | assumption | omega | decide +kernel) | exact len_ok (Nat.le_of_ble_eq_true rfl) | fail "side")
local macro_rules | `(tactic| walk_at "rd") => `(tactic| first
  | refine ⟨_, _, _, _, rfl, rfl, SqL.of upd_same, atI_nat (j := 0) rfl, ?_⟩ | refine ⟨_, _, _, _, rfl, rfl, SqL.of upd_same, atI_nat (j := 1) rfl, ?_⟩ | refine ⟨_, _, _, _, rfl, rfl, SqL.of upd_same, atI_nat (j := 2) rfl, ?_⟩
  | refine ⟨_, _, _, _, rfl, rfl, upd_same, rfl, ?_⟩
  | refine ⟨_, _, rfl, rfl, ?_⟩ | refine ⟨_, rfl, ?_⟩ | refine ⟨_, _, rfl, ?_⟩ | refine Or.inl ⟨_, rfl, ?_⟩ | refine Or.inr ⟨_, rfl, ?_⟩ | refine ⟨(by walk_at "side"), ?_⟩ | fail "rd")

abbrev s_oinit : Stmt := inClass (top 14) 0
theorem sc_oinit : FnScope ["self", "upper", "lower", "place", "index", "name"] ["self", "upper", "lower"] (defScope s_oinit) := ⟨rfl, rfl, rfl, by decide +kernel, rfl, by decide +kernel, by decide +kernel⟩
theorem hu1 {A : Around} {k : Nat} (hr : Room k A) : A.units + 1 < cLine := by
  have := hr.units
  omega
/-- the class Order as the top has made it -/
structure OrdT (K : PySem.W.Frag) (mg : Str → Option Value) (C : Addr) : Prop where
  g : mg "Order" = some (.ref C)
  cl : Cls K C
  nA : NoAttr K C "_above"
  nB : NoAttr K C "_below"
  nP : NoAttr K C "_places"
  ini : ∃ f fd, Mk K C f ∧ Fun K "__init__" "Order.__init__" s_oinit f fd
/-- the places of an order -/
def plc (zs ys : List Str) : List Int := zs.map fun z => ((pos ys z : Nat) : Int)
def ofs (a b c : Addr) : List (Str × V) := [("_above", .ref a), ("_below", .ref b), ("_places", .ref c)]
def sOf : V → Str
  | .str s => s
  | _ => Str.empty
theorem plc_eq (zs ys : List Str) : (zs.map V.str).mapIdx (fun _ v => .int ((pos ys (sOf v) : Nat) : Int)) = (plc zs ys).map V.int := by
  unfold plc
  apply List.ext_getElem?
  intro i
  simp only [List.getElem?_mapIdx, List.getElem?_map, Option.map_map]
  rfl
/-- the order at o, with the rows at a and b -/
def OrdAB (K : PySem.W.Frag) (C : Addr) (H : Hp) (o a b : Addr) (zs ys : List Str) : Prop := ∃ dx c, H o = some (.ins C dx (ofs a b c)) ∧ SqT K H a (zs.map V.str) ∧ SqT K H b (ys.map V.str) ∧ SqT K H c ((plc zs ys).map V.int) ∧ RowsOk zs ys
/-- the order at o -/
def OrdAt (K : PySem.W.Frag) (C : Addr) (H : Hp) (o : Addr) (zs ys : List Str) : Prop := ∃ dx a b c, H o = some (.ins C dx (ofs a b c)) ∧ SqT K H a (zs.map V.str) ∧ SqT K H b (ys.map V.str) ∧ SqT K H c ((plc zs ys).map V.int) ∧ RowsOk zs ys
theorem OrdAB.at {K : PySem.W.Frag} {C : Addr} {H : Hp} {o a b : Addr} {zs ys : List Str} (h : OrdAB K C H o a b zs ys) : OrdAt K C H o zs ys := let ⟨dx, c, q⟩ := h; ⟨dx, a, b, c, q⟩
theorem OrdAB.ext {K : PySem.W.Frag} {C : Addr} {H H' : Hp} {o a b : Addr} {zs ys : List Str} (h : OrdAB K C H o a b zs ys) (e : Ext H H') : OrdAB K C H' o a b zs ys :=
  let ⟨dx, c, h1, h2, h3, h4, h5⟩ := h
  ⟨dx, c, e _ _ h1, h2.ext e, h3.ext e, h4.ext e, h5⟩
theorem OrdAt.ext {K : PySem.W.Frag} {C : Addr} {H H' : Hp} {o : Addr} {zs ys : List Str} (h : OrdAt K C H o zs ys) (e : Ext H H') : OrdAt K C H' o zs ys :=
  let ⟨dx, a, b, c, h1, h2, h3, h4, h5⟩ := h
  ⟨dx, a, b, c, e _ _ h1, h2.ext e, h3.ext e, h4.ext e, h5⟩
theorem OrdAt.rows {K : PySem.W.Frag} {C : Addr} {H : Hp} {o : Addr} {zs ys : List Str} (h : OrdAt K C H o zs ys) : RowsOk zs ys := let ⟨_, _, _, _, _, _, _, _, h5⟩ := h; h5
def spOInit (K : PySem.W.Frag) (C : Addr) : Sp := fun vs H Q _ => ∃ (x dx a b : Addr) (zs ys : List Str), vs = [.ref x, .ref a, .ref b] ∧ H x = some (.ins C dx []) ∧ SqT K H a (zs.map V.str) ∧ SqT K H b (ys.map V.str) ∧ RowsOk zs ys ∧
  ∀ H', (∀ a o, H a = some o → a ≠ x → H' a = some o) → OrdAB K C H' x a b zs ys → Q .non H'
structure OInitAt (P : Program) (w : World) (K : PySem.W.Frag) (mg : Str → Option Value) (base : Heap) (k : Nat) (C : Addr) (sp : Sp) : Prop where
  ex : ∃ (f : Addr) (fd : FuncData), Mk K C f ∧ FnOk P w K mg base CX0 k f fd ["self", "upper", "lower"] sp ∧ Binds K fd ["self", "upper", "lower"] []
/-- a tuple in the heap stays if all but x stays -/
theorem sqt_but {K : PySem.W.Frag} {H H' : Hp} {a x dx C : Addr} {xs : List V} (h : SqT K H a xs) (hx : H x = some (.ins C dx [])) (k : ∀ a o, H a = some o → a ≠ x → H' a = some o) : SqT K H' a xs := by
  rcases h with (e | ⟨o, e⟩) | r
  · exact .inl (.inl (k _ _ e fun z => by rw [z, hx] at e; cases e))
  · exact .inl (.inr ⟨o, k _ _ e fun z => by rw [z, hx] at e; cases e⟩)
  · exact .inr r
section
variable {P : Program} {w : World} {K : PySem.W.Frag} {mg : Str → Option Value} {base : Heap} {C : Addr}
theorem ok_oinit (T : Bn mg) (OT : OrdT K mg C) (F__are_rows : FnAt P w K mg base 4 "_are_rows" ["upper", "lower"] (spRows K)) : OInitAt P w K mg base 5 C (spOInit K C) := by
  obtain ⟨f, fd, M, F⟩ := OT.ini
  refine ⟨f, fd, M, F.ok sc_oinit (fun vs H Q E h => ?_) (fun cdv A outer s H vs Q E hr h => ?_), ?_⟩
  · obtain ⟨x, dx, a, b, zs, ys, rfl, _⟩ := h
    rfl
  · obtain ⟨x, dx, a, b, zs, ys, rfl, hx, ha, hb, ro, k⟩ := h
    have l1 := ro.le
    have l2 := ro.len
    refine ⟨_, PSs.nox (pss_cons (ps_if (pt_not (pt_val (callA F__are_rows (hr.mono (by decide)) rfl (pa_cons (pv 1) (pa_cons (pv 2) pa_nil))))) (pss_one ps_never) pss_nil)
    (pss_cons (ps_fld (pv 0) (pv 1) rfl)
    (pss_cons (ps_fld (pv 0) (pv 2) rfl)
    (pss_cons (ps_set (i := 3) sc_oinit.nd rfl (Or.inr rfl) (pe_dc (own := [("index", 4), ("name", 5)]) (g := gTup K 2 (gCons (gName 4) (gCons (gName 5) gNil))) (tt := tYes) rfl sc_oinit.nd (pi_enumT (by rfl) T.b_enumerate (pa_cons (pv 2) pa_nil)) (blkOk_by (N := ["self", "upper", "lower", "place", "index", "name"]) (sc := defScope s_oinit) (by decide +kernel)) (fun _ _ _ _ _ => pg_tup rfl (pgs_cons (pg_name (i := 4) sc_oinit.nd rfl (Or.inl rfl)) (pgs_cons (pg_name (i := 5) sc_oinit.nd rfl (Or.inl rfl)) pgs_nil))) (fun _ _ _ _ _ => pts_nil) (fun _ _ _ _ _ => (pv 5)) (fun _ _ _ _ _ => (pv 4))))
    (pss_one (ps_fld (pv 0) (pe_callTy call_tuple_of (by rfl) T.b_tuple (by decide +kernel) (pa_cons (pe_lc (own := [("name", 5)]) (g := gName 5) (tt := tYes) rfl sc_oinit.nd (pi_tup (pv 1)) (blkOk_by (N := ["self", "upper", "lower", "place", "index", "name"]) (sc := defScope s_oinit) (by decide +kernel)) (fun _ _ _ _ _ => pg_name (i := 5) sc_oinit.nd rfl (Or.inl rfl)) (fun _ _ _ _ _ => pts_nil) (fun _ _ _ _ _ => (pe_dget (hu1 hr) (pv 3) (pv 5) (fun _ _ => rfl)))) pa_nil)) rfl)))))), ?_⟩
    refine ⟨_, rfl, _, rfl, a, b, zs, ys, rfl, ha, hb, ro, fun H1 e1 => ?_⟩
    refine ⟨_, rfl, iteF ?_⟩
    have hx1 : H1 x = some (.ins C dx []) := e1 _ _ hx
    refine ⟨_, rfl, _, rfl, x, C, dx, _, rfl, hx1, OT.cl, OT.nA, (by show 0 < 1000; decide), ?_⟩
    refine ⟨_, rfl, _, rfl, x, C, dx, _, rfl, upd_same, OT.cl, OT.nB, (by show 1 < 1000; decide), ?_⟩
    generalize hH2 : upd (upd H1 x _) x _ = H2
    have k2 : ∀ c o, H1 c = some o → c ≠ x → H2 c = some o := fun c o e ne => by rw [← hH2, upd_ne ne, upd_ne ne]; exact e
    have hx2 : H2 x = some (.ins C dx [("_above", .ref a), ("_below", .ref b)]) := by rw [← hH2]; exact upd_same
    have ha2 := sqt_but (ha.ext e1) hx1 k2
    have hb2 := sqt_but (hb.ext e1) hx1 k2
    refine ⟨_, rfl, b, _, rfl, hb2, fun D hD => nm_dict (zs := ys) (j := 4) (k := 5) ro.symm.nd hb2 hD (by omega) (fun _ _ => rfl) (fun _ _ => rfl) (fun _ _ => rfl) fun H3 e3 hd => ?_⟩
    have hx3 := e3 _ _ hx2
    have ha3 := ha2.ext e3
    refine ⟨_, rfl, a, rfl, ⟨_, ha3⟩, fun D2 hD2 => map_tup (xs := zs.map V.str) (fun _ v => .int ((pos ys (sOf v) : Nat) : Int)) ha3 hD2 (by rw [List.length_map]; omega) (fun _ => rfl) (fun i v H' hi e Q' k' => ?_) fun H4 e4 hl4 => ?_⟩
    · rw [List.getElem?_map] at hi
      obtain ⟨z, hz, rfl⟩ := Option.map_eq_some_iff.mp hi
      have mem : z ∈ ys := ro.pm.mem_iff.mpr (List.mem_of_getElem? hz)
      exact ⟨_, rfl, _, rfl, D, _, rfl, .inl ⟨_, .inr z, .inl (e _ _ hd), rfl, ((valV_nmIdx z ys 0).trans (if_pos mem)).symm⟩, k' H' (ext_refl _)⟩
    rw [plc_eq] at hl4
    refine ⟨D2, _, rfl, .inl ⟨SqL.of hl4, fun l hl => ?_⟩⟩
    have hx4 := e4 _ _ hx3
    have nl : x ≠ l := ne_of_none hx4 hl
    refine ⟨_, rfl, x, C, dx, _, rfl, (upd_ne nl).trans hx4, OT.cl, OT.nP, (by show 2 < 1000; decide), ?_⟩
    have kp : ∀ (l : Addr) (H5 : Hp), H4 l = none → ∀ o : HO, H5 = upd (upd H4 l o) x (.ins C dx (ofs a b l)) → ∀ c o, H c = some o → c ≠ x → H5 c = some o := fun l H5 hl o e c o' h1 ne => by
      have h4 := e4 _ _ (e3 _ _ (k2 _ _ (e1 _ _ h1) ne))
      rw [e, upd_ne ne, upd_ne (ne_of_none h4 hl)]
      exact h4
    have kk := kp l _ hl (.tup ((plc zs ys).map V.int)) rfl
    refine k _ kk ⟨dx, l, upd_same, sqt_but ha hx kk, sqt_but hb hx kk, SqT.of ?_, ro⟩
    rw [upd_ne nl.symm]
    exact upd_same
  · exact F.binds (fun _ _ _ _ _ _ us hl => match us, hl with | [_, _, _], _ => rfl)
end
end My
namespace My
open PySem PySem.Spec PyProof.Rows L2
local macro_rules | `(tactic| walk_at "side") => `(tactic| first | assumption | decide | exact Or.inl ⟨by decide, by decide⟩ | exact Or.inr ⟨by decide, by decide⟩ | exact ⟨by decide, by decide, by decide⟩ | omega | (unfold CMulW; decide +kernel) | (dsimp only; first | assumption | omega | decide +kernel) | exact len_ok (Nat.le_of_ble_eq_true rfl) | fail "side")
local macro_rules | `(tactic| walk_at "rd") => `(tactic| first
  | refine ⟨_, _, _, _, rfl, rfl, SqL.of upd_same, atI_nat (j := 0) rfl, ?_⟩ | refine ⟨_, _, _, _, rfl, rfl, SqL.of upd_same, atI_nat (j := 1) rfl, ?_⟩ | refine ⟨_, _, _, _, rfl, rfl, SqL.of upd_same, atI_nat (j := 2) rfl, ?_⟩
  | refine ⟨_, _, _, _, rfl, rfl, upd_same, rfl, ?_⟩
  | refine ⟨_, _, rfl, rfl, ?_⟩ | refine ⟨_, rfl, ?_⟩ | refine ⟨_, _, rfl, ?_⟩ | refine Or.inl ⟨_, rfl, ?_⟩ | refine Or.inr ⟨_, rfl, ?_⟩ | refine ⟨(by walk_at "side"), ?_⟩ | fail "rd")

abbrev s_oabove : Stmt := inClass (top 14) 2
theorem sc_oabove : FnScope ["self"] ["self"] (defScope s_oabove) := ⟨rfl, rfl, rfl, by decide +kernel, rfl, by decide +kernel, by decide +kernel⟩
abbrev s_obelow : Stmt := inClass (top 14) 3
theorem sc_obelow : FnScope ["self"] ["self"] (defScope s_obelow) := ⟨rfl, rfl, rfl, by decide +kernel, rfl, by decide +kernel, by decide +kernel⟩
abbrev s_oplaces : Stmt := inClass (top 14) 6
theorem sc_oplaces : FnScope ["self"] ["self"] (defScope s_oplaces) := ⟨rfl, rfl, rfl, by decide +kernel, rfl, by decide +kernel, by decide +kernel⟩
/-! ### orders made -/
section
variable {X : Cx} {k : Nat} {C : Addr} {x : Str} {p pos : Pos} {e : Expr} {es : List Expr} {t : TA}
theorem mkO (F : OInitAt X.prog X.w X.K X.mg X.base k C (spOInit X.K C)) (OT : OrdT X.K X.mg C) (hr : Room (k + 1) X.A) (ha : PA X (e :: es) t) (hg : Gl X "Order" := by rfl)
    (he : starEach (e :: es) X.env = (false, eval e X.env) :: starEach es X.env := by rfl) (hpl : (backTo pos (starEach es X.env)).any (·.1) = false := by rfl) : PE X (.Call (.Name "Order" p) (e :: es) [] pos) (tMake C (spOInit X.K C) [] E0 t) := by
  obtain ⟨f, fd, M, G, hb⟩ := F.ex
  exact pe_make M G hr hg OT.g hb .nil pass0 ha (by decide) he hpl
end
theorem mk_use {K : PySem.W.Frag} {C a b : Addr} {zs ys : List Str} {H : Hp} {Q : VK} {E : XK} (ha : SqT K H a (zs.map V.str)) (hb : SqT K H b (ys.map V.str)) (ro : RowsOk zs ys) (k : ∀ x H', Ext H H' → OrdAB K C H' x a b zs ys → Q (.ref x) H') :
    ∀ x dx, H x = none → H dx = none → dx ≠ x → spOInit K C (.ref x :: ([.ref a, .ref b] ++ [])) (upd (upd H dx (.own x)) x (.ins C dx [])) (fun v H2 => v = .non ∧ Q (.ref x) H2) E := fun x dx hx hd ne => by
  have e1 : Ext H (upd (upd H dx (.own x)) x (.ins C dx [])) := ext_mut (ext_new (ext_refl H) hd) hx
  exact ⟨x, dx, a, b, zs, ys, rfl, upd_same, ha.ext e1, hb.ext e1, ro, fun H' kp oa => ⟨rfl, k x H' (fun c o q => kp c o (e1 c o q) (ne_of_none q hx)) oa⟩⟩
theorem mk_useA {K : PySem.W.Frag} {C a b : Addr} {zs ys : List Str} {H : Hp} {Q : VK} {E : XK} (ha : SqT K H a (zs.map V.str)) (hb : SqT K H b (ys.map V.str)) (ro : RowsOk zs ys) (k : ∀ x H', Ext H H' → OrdAt K C H' x zs ys → Q (.ref x) H') :
    ∀ x dx, H x = none → H dx = none → dx ≠ x → spOInit K C (.ref x :: ([.ref a, .ref b] ++ [])) (upd (upd H dx (.own x)) x (.ins C dx [])) (fun v H2 => v = .non ∧ Q (.ref x) H2) E := mk_use ha hb ro fun x H' e oa => k x H' e oa.at
/-! ### what an order tells -/
theorem ofs_a (a b c : Addr) : (ofs a b c).lookup ("_above" : Str) = some (.ref a) := rfl
theorem ofs_b (a b c : Addr) : (ofs a b c).lookup ("_below" : Str) = some (.ref b) := rfl
theorem ofs_p (a b c : Addr) : (ofs a b c).lookup ("_places" : Str) = some (.ref c) := rfl
def spGetT (K : PySem.W.Frag) (C : Addr) (f : List Str → List Str → List V) : Sp := fun vs H Q _ => ∃ o zs ys, vs = [.ref o] ∧ OrdAt K C H o zs ys ∧ ∀ a, SqT K H a (f zs ys) → Q (.ref a) H
def spGetN (K : PySem.W.Frag) (C : Addr) : Sp := fun vs H Q _ => ∃ o zs ys, vs = [.ref o] ∧ OrdAt K C H o zs ys ∧ Q (.int (zs.length : Nat)) H
def spNames (K : PySem.W.Frag) (C : Addr) : Sp := fun vs H Q _ => ∃ o zs ys, vs = [.ref o] ∧ OrdAt K C H o zs ys ∧ ∀ ns p H', SortOf zs ns → Ext H H' → SqT K H' p (ns.map V.str) → Q (.ref p) H'
/-- an order made of one -/
def spOrd (K : PySem.W.Frag) (C : Addr) (f g : List Str → List Str → List Str) : Sp := fun vs H Q _ => ∃ o zs ys, vs = [.ref o] ∧ OrdAt K C H o zs ys ∧ ∀ x H', Ext H H' → OrdAt K C H' x (f zs ys) (g zs ys) → Q (.ref x) H'
def spOEq (K : PySem.W.Frag) (C : Addr) : Sp := fun vs H Q _ => ∃ o y zs ys, vs = [.ref o, y] ∧ OrdAt K C H o zs ys ∧
  ((∃ b zs' ys', y = .ref b ∧ OrdAt K C H b zs' ys' ∧ Q (.bl (decide (zs = zs') && decide (ys = ys'))) H) ∨ (∃ t, TyX K H y t ∧ PySem.W.kitOne K t (.ref C) = some false ∧ Q (.bl false) H))
section
variable {P : Program} {w : World} {K : PySem.W.Frag} {mg : Str → Option Value} {base : Heap} {C : Addr}
theorem ok_oabove (D : PropT K C "above" "Order.above" s_oabove) (OT : OrdT K mg C) : PropAt P w K mg base 1 C "above" (spGetT K C fun zs _ => zs.map V.str) := by
  refine propAt D sc_oabove (fun _ _ _ _ _ _ us hl => match us, hl with | [_], _ => rfl) (fun vs H Q E h => ?_) fun f cdv A outer s H vs Q E hr h => ?_
  · obtain ⟨o, zs, ys, rfl, _⟩ := h
    rfl
  obtain ⟨o, zs, ys, rfl, ⟨dx, a, b, c, e, ha, hb, hc, ro⟩, k⟩ := h
  exact ⟨_, (pss_one (ps_ret (pe_fld (pv 0) rfl))), _, rfl, o, C, dx, _, _, rfl, e, OT.cl, OT.nA, ofs_a a b c, k a ha⟩
theorem ok_obelow (D : PropT K C "below" "Order.below" s_obelow) (OT : OrdT K mg C) : PropAt P w K mg base 1 C "below" (spGetT K C fun _ ys => ys.map V.str) := by
  refine propAt D sc_obelow (fun _ _ _ _ _ _ us hl => match us, hl with | [_], _ => rfl) (fun vs H Q E h => ?_) fun f cdv A outer s H vs Q E hr h => ?_
  · obtain ⟨o, zs, ys, rfl, _⟩ := h
    rfl
  obtain ⟨o, zs, ys, rfl, ⟨dx, a, b, c, e, ha, hb, hc, ro⟩, k⟩ := h
  exact ⟨_, (pss_one (ps_ret (pe_fld (pv 0) rfl))), _, rfl, o, C, dx, _, _, rfl, e, OT.cl, OT.nB, ofs_b a b c, k b hb⟩
theorem ok_oplaces (D : PropT K C "places" "Order.places" s_oplaces) (OT : OrdT K mg C) : PropAt P w K mg base 1 C "places" (spGetT K C fun zs ys => (plc zs ys).map V.int) := by
  refine propAt D sc_oplaces (fun _ _ _ _ _ _ us hl => match us, hl with | [_], _ => rfl) (fun vs H Q E h => ?_) fun f cdv A outer s H vs Q E hr h => ?_
  · obtain ⟨o, zs, ys, rfl, _⟩ := h
    rfl
  obtain ⟨o, zs, ys, rfl, ⟨dx, a, b, c, e, ha, hb, hc, ro⟩, k⟩ := h
  exact ⟨_, (pss_one (ps_ret (pe_fld (pv 0) rfl))), _, rfl, o, C, dx, _, _, rfl, e, OT.cl, OT.nP, ofs_p a b c, k c hc⟩
end
end My
/-! a tuple [::-1] -/
namespace My
open PySem PySem.Spec PyProof.Rows L2
section
variable {prog : Program} {w : World} {A : Around} {E : Value → Shared → Prop} {s : Shared}
theorem adjust_rev (n : Nat) : Builtin.Slice.sliceAdjust none none (-1) (n : Int) = ((n : Int) - 1, -1) := by
  unfold Builtin.Slice.sliceAdjust
  simp
theorem places_rev (n : Nat) : Builtin.Slice.slicePlaces ((n : Int) - 1) (-1) (-1) = n := by
  unfold Builtin.Slice.slicePlaces
  simp
  omega
theorem sliceApplied_rev {sl : Addr} {vs : Value} {n : Nat} {Q : Int × Int × Nat → Shared → Prop} (hs : s.heap.IsSliceOf sl .none .none vs) (ps : IsPart vs (some (-1)))
    (h : Q ((n : Int) - 1, -1, n) s) : wpAny (model prog w) A (Builtin.Slice.sliceApplied (.ref sl) (pure (n : Int))) Q E s := by
  obtain ⟨os, hos, hcs, hds⟩ := id hs
  unfold Builtin.Slice.sliceApplied Builtin.Slice.sliceFields
  refine wpAny_bind (wpAny_bind (wpAny_field hos hds (x := .none) rfl (wpAny_bind (wpAny_field hos hds (x := .none) rfl (wpAny_bind (wpAny_field hos hds (x := vs) rfl (wpAny_pure ?_)))))))
  refine wpAny_bind (HT.slicePart_ ps ?_)
  show wpAny _ _ (if ((-1 : Int) == 0) = true then _ else _) _ _ s
  rw [if_neg (by decide)]
  refine wpAny_bind (HT.slicePart_ .none (wpAny_bind (HT.slicePart_ .none (wpAny_bind (wpAny_pure ?_)))))
  show wpAny _ _ (match Builtin.Slice.sliceAdjust none none (-1) (n : Int) with | (lo, hi) => pure (lo, (-1 : Int), Builtin.Slice.slicePlaces lo hi (-1))) _ _ s
  rw [adjust_rev n]
  show wpAny _ _ (pure ((n : Int) - 1, (-1 : Int), Builtin.Slice.slicePlaces ((n : Int) - 1) (-1) (-1))) _ _ s
  rw [places_rev]
  exact wpAny_pure h
theorem fm_congr {α β : Type} {f g : α → Option β} : ∀ {l : List α}, (∀ x ∈ l, f x = g x) → l.filterMap f = l.filterMap g
  | [], _ => rfl
  | x :: r, h => by
    rw [List.filterMap_cons, List.filterMap_cons, h x (List.mem_cons_self ..), fm_congr fun y hy => h y (List.mem_cons_of_mem _ hy)]
theorem pick_rev (xs : Array Value) : ((List.range xs.size).filterMap fun (m : Nat) => xs[((xs.size : Int) - 1 + (m : Int) * (-1)).toNat]?).toArray = xs.toList.reverse.toArray := by
  have z := HT.pick_gen xs.toList.reverse.toArray 0 xs.size
  have e1 : ((List.range xs.size).filterMap fun (m : Nat) => xs[((xs.size : Int) - 1 + (m : Int) * (-1)).toNat]?) = (List.range xs.size).filterMap fun (m : Nat) => xs.toList.reverse.toArray[(((0 : Nat) : Int) + (m : Int) * 1).toNat]? := by
    refine fm_congr fun m hm => ?_
    have hl := List.mem_range.mp hm
    have a1 : ((xs.size : Int) - 1 + (m : Int) * (-1)).toNat = xs.size - 1 - m := by omega
    have a2 : (((0 : Nat) : Int) + (m : Int) * 1).toNat = m := by omega
    have e2 : xs.toList.reverse.toArray[m]? = xs.toList.reverse[m]? := List.getElem?_toArray
    rw [a1, a2, e2, List.getElem?_reverse (by rw [Array.length_toList]; exact hl), Array.length_toList, Array.getElem?_toList]
  rw [e1, z]
  simp only [List.drop_zero]
  rw [List.take_of_length_le (by rw [List.length_reverse, Array.length_toList]; exact Nat.le_refl _)]
theorem getItem_tuple_rev {t sl : Addr} {items : Array Value} {vs : Value} {Q : Value → Shared → Prop} (ht : IsTup s.heap t items) (hs : s.heap.IsSliceOf sl .none .none vs) (ps : IsPart vs (some (-1)))
    (h : Q (.ref s.heap.objs.size) { s with heap := s.heap.push { cls := .type "tuple", data := .seq items.toList.reverse.toArray } })
    (hsz : items.size ≤ sizeLine) : wpAny (model prog w) A (getItem (.ref t) (.ref sl)) Q E s := by
  have htake : sizeOk (.seq items.toList.reverse.toArray) := by
    show items.toList.reverse.toArray.size ≤ sizeLine
    rw [List.size_toArray, List.length_reverse, Array.length_toList]
    exact hsz
  obtain ⟨os, hos, hcs, hds⟩ := id hs
  have hTs : s.TypeIs (.ref sl) "slice" := ⟨os, hos, hcs⟩
  unfold getItem
  try with_reducible refine wpAny_holding ?_
  first | refine wpAny_bind (wpAny_pure ?_) | skip
  refine wpAny_bind (wpAny_sequenceKey ht.typeIs (by decide) ?_)
  refine wpAny_bind (wpAny_callSpecial?_slot (name := Str.ofString "__getitem__") ht.typeIs PyProof.Rows.slot_tuple_getitem
    (wpAny_call_entry PyProof.Rows.slot_tuple_getitem ht.typeIs entry_tuple_getitem ?_ (args_tuple_getitem _ _)))
  show wpAny _ _ (Builtin.Tuple.tupleItemsOf (.ref t) >>= _) _ _ s
  refine wpAny_bind (tupleItemsOf_ ht ?_)
  refine wpAny_bind (wpAny_typeOf hTs ?_)
  rw [if_pos (by decide)]
  refine wpAny_bind (sliceApplied_rev hs ps ?_)
  have hno : ¬ ((((items.size : Int) - 1) == 0 && (-1 : Int) == 1 && items.size == items.size) = true) := by
    rw [show ((-1 : Int) == 1) = false from rfl, Bool.and_false, Bool.false_and]
    exact Bool.false_ne_true
  show wpAny _ _ (if (((items.size : Int) - 1) == 0 && (-1 : Int) == 1 && items.size == items.size) = true then _ else _) _ _ s
  rw [if_neg hno, pick_rev]
  first
    | exact wpAny_bind (m := Builtin.Tuple.tupleExact _) (wpAny_newObj_type (wpAny_pure ⟨_, rfl, wpAny_pure h⟩) htake)
    | exact wpAny_bind (m := Builtin.Tuple.tupleExact _) (wpAny_newObj_type (wpAny_bind (wpAny_pure (wpAny_pure ⟨_, rfl, wpAny_pure h⟩))) htake)
    | exact wpAny_bind (wpAny_bind (m := Builtin.Tuple.tupleExact _) (wpAny_newObj_type (wpAny_pure (wpAny_pure ⟨_, rfl, wpAny_pure h⟩)) htake))
    | exact wpAny_bind (wpAny_bind (m := Builtin.Tuple.tupleExact _) (wpAny_newObj_type (wpAny_pure ⟨_, rfl, wpAny_pure h⟩) htake))
end
section
variable {X : Cx}
def tRevT (K : PySem.W.Frag) (te : TE) : TE := fun σ H Q => te σ H fun x H1 => ∃ a xs, x = .ref a ∧ SqT K H1 a xs ∧ ∀ p, H1 p = none → Q (.ref p) (upd H1 p (.tup xs.reverse))
theorem pe_revT {e : Expr} {te : TE} {k : Nat} {p1 p2 p3 pos : Pos} (he : PE X e te) : PE X (.Subscript e (.Slice none none (some (.UnaryOp .USub (.Constant (.int 1) k p1) p2)) p3) pos) (tRevT X.K te) := by
  refine ⟨fun pins s σ H Q I h => ?_⟩
  refine Subscript_ (thn (he.run pins s σ H _ I h) fun v s1 ⟨x, H1, I1, r1, q1⟩ => ?_)
  obtain ⟨a, xs, ex, hx, q⟩ := q1
  subst ex
  cases r1
  have hst : PO X (some (.UnaryOp .USub (.Constant (.int 1) k p1) p2)) (tPart (tUn (rU fun i => .int (-i)) (tC (.int 1)))) := po_some (pe_un un_neg pe_int)
  refine wpAny_Slice (thn (po_none.run pins s1 σ H1 (fun o H2 => o = none ∧ H2 = H1) I1 ⟨rfl, rfl⟩) fun vl s2 ⟨l, H2, I2, pl, el, e2⟩ => ?_)
  subst el e2
  refine thn (po_none.run pins s2 σ H2 (fun o H3 => o = none ∧ H3 = H2) I2 ⟨rfl, rfl⟩) fun vu s3 ⟨u, H3, I3, pu, eu, e3⟩ => ?_
  subst eu e3
  refine thn (hst.run pins s3 σ H3 (fun o H4 => o = some (-1) ∧ H4 = H3) I3 ⟨1, rfl, -1, rfl, rfl, rfl⟩) fun vs s4 ⟨o, H4, I4, ps, eo, e4⟩ => ?_
  subst eo e4
  cases pl
  cases pu
  have I5 : Inv X pins σ H4 { s4 with heap := s4.heap.push { cls := .type "slice", data := .fields #[.none, .none, vs] } } := I4.kept (t' := s4.toks) fun b ob q => Heap.get?_push_of_some _ q
  obtain ⟨its, r, ht, hz⟩ := I5.tuple hx
  have hlen := r.length
  show wpAny (model X.prog X.w) X.A (subscriptTail e (.Slice none none (some (.UnaryOp .USub (.Constant (.int 1) k p1) p2)) p3) (.ref a) (.ref s4.heap.objs.size)) (EP X pins σ Q) X.xe { s4 with heap := s4.heap.push { cls := .type "slice", data := .fields #[.none, .none, vs] } }
  refine tail_any (ops := [.ref a, .ref s4.heap.objs.size]) ht.typeIs (PyProof.Rows.slot_tuple_getitem.lookup) ?_ (by with_unfolding_all rfl)
  refine getItem_tuple_rev ht (Heap.IsSliceOf.new _ .none .none vs) ps ?_ (by rw [List.size_toArray]; omega)
  refine ⟨.ref _, _, I5.laid (t' := s4.toks) (o := .tup xs.reverse) (fun b ob q => Heap.get?_push_of_some _ q) (Nat.le_refl _) ?_, rfl, q _ (I5.hok.fresh (Nat.le_refl _))⟩
  exact ⟨by rw [List.length_reverse]; exact hz, _, r.reverse, IsTup.new _ _⟩
end
end My
namespace My
open PySem PySem.Spec PyProof.Rows L2
local macro_rules | `(tactic| walk_at "side") => `(tactic| first | assumption | decide | exact Or.inl ⟨by decide, by decide⟩ | exact Or.inr ⟨by decide, by decide⟩ | exact ⟨by decide, by decide, by decide⟩ | omega | (unfold CMulW; decide +kernel) | (dsimp only; first | assumption | omega | decide +kernel) | exact len_ok (Nat.le_of_ble_eq_true rfl) | fail "side")
local macro_rules | `(tactic| walk_at "rd") => `(tactic| first
  | refine ⟨_, _, _, _, rfl, rfl, SqL.of upd_same, atI_nat (j := 0) rfl, ?_⟩ | refine ⟨_, _, _, _, rfl, rfl, SqL.of upd_same, atI_nat (j := 1) rfl, ?_⟩ | refine ⟨_, _, _, _, rfl, rfl, SqL.of upd_same, atI_nat (j := 2) rfl, ?_⟩
  | refine ⟨_, _, _, _, rfl, rfl, upd_same, rfl, ?_⟩
  | refine ⟨_, _, rfl, rfl, ?_⟩ | refine ⟨_, rfl, ?_⟩ | refine ⟨_, _, rfl, ?_⟩ | refine Or.inl ⟨_, rfl, ?_⟩ | refine Or.inr ⟨_, rfl, ?_⟩ | refine ⟨(by walk_at "side"), ?_⟩ | fail "rd")

abbrev s_oeq : Stmt := inClass (top 14) 15
theorem sc_oeq : FnScope ["self", "other"] ["self", "other"] (defScope s_oeq) := ⟨rfl, rfl, rfl, by decide +kernel, rfl, by decide +kernel, by decide +kernel⟩
structure OrdI (K : PySem.W.Frag) (C : Addr) : Prop where
  kOrd : PySem.W.kitOne K (.ref C) (.ref C) = some true
  ha : PySem.W.findIn K (.ref C) "__class__" = some (some (.builtin "object.__class__"))
  hn : PySem.W.specialIn K (.builtin "object.__class__") "__get__" = some (some (.builtin "getset_descriptor.__get__"))
  htk : PySem.W.takesIn K (.builtin "object.__class__") = some true
  hm : PySem.W.mroIn K C (.type "object") = some true
theorem OrdAt.ty {K : PySem.W.Frag} {H : Hp} {C o : Addr} {zs ys : List Str} (h : OrdAt K C H o zs ys) (c : Cls K C) (I : OrdI K C) : TyX K H (.ref o) (.ref C) := let ⟨dx, _, _, _, e, _⟩ := h; .base (.ins e c I.ha I.hn I.htk I.hm)
theorem eqT_strs (ss ts : List Str) : PyData.eqv (.tuple (ss.map PyData.str)) (.tuple (ts.map PyData.str)) = decide (ss = ts) := by
  rw [PyData.eqv, eqv_strs]
theorem RowsOk.strOk {zs ys : List Str} (h : RowsOk zs ys) : ∀ z ∈ zs, PyData.strOk z = true := fun z hz => nm_ok (h.nm z hz)
section
variable {P : Program} {w : World} {K : PySem.W.Frag} {mg : Str → Option Value} {base : Heap} {C : Addr}
theorem ok_oeq (T : Bn mg) (D : SpT K C "__eq__" "Order.__eq__" s_oeq) (OT : OrdT K mg C) (OI : OrdI K C) : SpAt P w K mg base 1 C "__eq__" ["self", "other"] (spOEq K C) := by
  refine spAt D sc_oeq (fun _ _ _ _ _ _ us hl => match us, hl with | [_, _], _ => rfl) (fun vs H Q E h => ?_) fun f cdv A outer s H vs Q E hr h => ?_
  · obtain ⟨o, y, zs, ys, rfl, _⟩ := h
    rfl
  obtain ⟨o, y, zs, ys, rfl, ⟨dx, a, b, c, e, ha, hb, hc, ro⟩, h⟩ := h
  refine ⟨_, (pss_one (ps_ret (pe_and (pe_callB call_isi (by rfl) T.b_isinstance (by decide +kernel) (pa_cons (pv 1) (pa_cons (pe_glob (v := .ref C) rfl OT.g rfl) pa_nil))) (pe_and (pe_cmpR (op_eqD (hu64 hr)) (pe_fld (pv 0) rfl) (pe_fld (pv 1) rfl) (nomark _)) (pe_one (pe_cmpR (op_eqD (hu64 hr)) (pe_fld (pv 0) rfl) (pe_fld (pv 1) rfl) (nomark _))))))), ?_⟩
  rcases h with ⟨o2, zs', ys', rfl, h2, k⟩ | ⟨t, ty, hk, k⟩
  · obtain ⟨dx2, a2, b2, c2, e2, ha2, hb2, hc2, ro2⟩ := id h2
    refine ⟨_, rfl, _, _, _, _, true, rfl, .own C, h2.ty OT.cl OI, OI.kOrd, _, rfl, iteT ?_⟩
    refine ⟨_, rfl, o, C, dx, _, _, rfl, e, OT.cl, OT.nA, ofs_a a b c, _, rfl, o2, C, dx2, _, _, rfl, e2, OT.cl, OT.nA, ofs_a a2 b2 c2, ?_⟩
    refine ⟨_, _, .tup ha (dp_strs zs), .tup ha2 (dp_strs zs'), shaped_strsT ro.strOk, shaped_strsT ro2.strOk, ?_⟩
    rw [eqT_strs]
    refine ⟨_, rfl, ?_⟩
    refine ite2 (fun c1 => ?_) (fun c1 => ?_)
    · refine ⟨_, rfl, o, C, dx, _, _, rfl, e, OT.cl, OT.nB, ofs_b a b c, _, rfl, o2, C, dx2, _, _, rfl, e2, OT.cl, OT.nB, ofs_b a2 b2 c2, ?_⟩
      refine ⟨_, _, .tup hb (dp_strs ys), .tup hb2 (dp_strs ys'), shaped_strsT ro.symm.strOk, shaped_strsT ro2.symm.strOk, ?_⟩
      rw [eqT_strs]
      rw [c1, Bool.true_and] at k
      exact k
    · rw [Bool.eq_false_iff.mpr c1, Bool.false_and] at k
      exact k
  · exact ⟨_, rfl, _, _, _, _, false, rfl, .own C, ty, hk, _, rfl, iteF k⟩
end
end My
namespace My
open PySem PySem.Spec PyProof.Rows L2
local macro_rules | `(tactic| walk_at "side") => `(tactic| first | assumption | decide | exact Or.inl ⟨by decide, by decide⟩ | exact Or.inr ⟨by decide, by decide⟩ | exact ⟨by decide, by decide, by decide⟩ | omega | (unfold CMulW; decide +kernel) | (dsimp only; first | assumption | omega | decide +kernel) | exact len_ok (Nat.le_of_ble_eq_true rfl) | fail "side")
local macro_rules | `(tactic| walk_at "rd") => `(tactic| first
  | refine ⟨_, _, _, _, rfl, rfl, SqL.of upd_same, atI_nat (j := 0) rfl, ?_⟩ | refine ⟨_, _, _, _, rfl, rfl, SqL.of upd_same, atI_nat (j := 1) rfl, ?_⟩ | refine ⟨_, _, _, _, rfl, rfl, SqL.of upd_same, atI_nat (j := 2) rfl, ?_⟩
  | refine ⟨_, _, _, _, rfl, rfl, upd_same, rfl, ?_⟩
  | refine ⟨_, _, rfl, rfl, ?_⟩ | refine ⟨_, rfl, ?_⟩ | refine ⟨_, _, rfl, ?_⟩ | refine Or.inl ⟨_, rfl, ?_⟩ | refine Or.inr ⟨_, rfl, ?_⟩ | refine ⟨(by walk_at "side"), ?_⟩ | fail "rd")

abbrev s_reqord : Stmt := top 15
theorem sc_reqord : FnScope ["value"] ["value"] (defScope s_reqord) := ⟨rfl, rfl, rfl, by decide +kernel, rfl, by decide +kernel, by decide +kernel⟩
def spReqO (K : PySem.W.Frag) (C : Addr) : Sp := fun vs H Q _ => ∃ o zs ys, vs = [.ref o] ∧ OrdAt K C H o zs ys ∧ Q .non H
section
variable {P : Program} {w : World} {K : PySem.W.Frag} {mg : Str → Option Value} {base : Heap} {C : Addr}
theorem ok_reqord (T : Bn mg) (OT : OrdT K mg C) (OI : OrdI K C) (D : DefAt K mg "require_order" s_reqord) : FnAt P w K mg base 1 "require_order" ["value"] (spReqO K C) := by
  refine fnAt D sc_reqord (fun _ _ _ _ _ _ us hl => match us, hl with | [_], _ => rfl) (fun vs H Q E h => ?_) fun f cdv A outer s H vs Q E hr h => ?_
  · obtain ⟨o, zs, ys, rfl, _⟩ := h
    rfl
  obtain ⟨o, zs, ys, rfl, oa, k⟩ := h
  exact ⟨_, (pss_one (ps_if (pt_not (pt_val (pe_callB call_isi (by rfl) T.b_isinstance (by decide +kernel) (pa_cons (pv 0) (pa_cons (pe_glob (v := .ref C) rfl OT.g rfl) pa_nil))))) (pss_one ps_never) pss_nil)), _, rfl, _, _, _, _, true, rfl, .own C, oa.ty OT.cl OI, OI.kOrd, _, rfl, iteF k⟩
end
end My
namespace My
open PySem PySem.Spec PyProof.Rows L2
local macro_rules | `(tactic| walk_at "side") => `(tactic| first | assumption | decide | exact Or.inl ⟨by decide, by decide⟩ | exact Or.inr ⟨by decide, by decide⟩ | exact ⟨by decide, by decide, by decide⟩ | omega | (unfold CMulW; decide +kernel) | (dsimp only; first | assumption | omega | decide +kernel) | exact len_ok (Nat.le_of_ble_eq_true rfl) | fail "side")
local macro_rules | `(tactic| walk_at "rd") => `(tactic| first
  | refine ⟨_, _, _, _, rfl, rfl, SqL.of upd_same, atI_nat (j := 0) rfl, ?_⟩ | refine ⟨_, _, _, _, rfl, rfl, SqL.of upd_same, atI_nat (j := 1) rfl, ?_⟩ | refine ⟨_, _, _, _, rfl, rfl, SqL.of upd_same, atI_nat (j := 2) rfl, ?_⟩
  | refine ⟨_, _, _, _, rfl, rfl, upd_same, rfl, ?_⟩
  | refine ⟨_, _, rfl, rfl, ?_⟩ | refine ⟨_, rfl, ?_⟩ | refine ⟨_, _, rfl, ?_⟩ | refine Or.inl ⟨_, rfl, ?_⟩ | refine Or.inr ⟨_, rfl, ?_⟩ | refine ⟨(by walk_at "side"), ?_⟩ | fail "rd")

abbrev s_turn : Stmt := top 25
theorem sc_turn : FnScope ["upper", "lower", "kind", "above", "below"] ["upper", "lower", "kind"] (defScope s_turn) := ⟨rfl, rfl, rfl, by decide +kernel, rfl, by decide +kernel, by decide +kernel⟩
structure KindC (mg : Str → Option Value) : Prop where
  UP : ∃ t, mg "UPPER" = some (.str "upper" t)
  LO : ∃ t, mg "LOWER" = some (.str "lower" t)
  EV : ∃ t, mg "EVEN" = some (.str "even" t)
def lastS (l : List Str) : Str := l.getLastD Str.empty
def putAt (l : List Str) (x y : Str) : List Str := l.take (pos l x + 1) ++ [y] ++ l.drop (pos l x + 1)
/-- the lower row behind an upper round, the upper row behind a lower one -/
def ledU (us ls : List Str) : List Str := putAt ls.dropLast (lastS us) (lastS ls)
def ledL (us ls : List Str) : List Str := putAt us.dropLast (lastS ls) (lastS us)
def spTurn : Sp := fun vs H Q _ => ∃ (a b : Addr) (us ls : List Str) (k : Str), vs = [.ref a, .ref b, .str k] ∧ a ≠ b ∧ H a = some (.lst (us.map V.str)) ∧ H b = some (.lst (ls.map V.str)) ∧ us ≠ [] ∧ ls ≠ [] ∧ us.length ≤ 1000 ∧ ls.length ≤ 1000 ∧
  ((k = "upper" ∧ lastS us ∈ ls.dropLast ∧ ∀ H', (∀ c, c ≠ b → H' c = H c) → H' b = some (.lst ((ledU us ls).map V.str)) → Q .non H') ∨
   (k = "lower" ∧ lastS ls ∈ us.dropLast ∧ ∀ H', (∀ c, c ≠ a → H' c = H c) → H' a = some (.lst ((ledL us ls).map V.str)) → Q .non H'))
theorem atI_last {l : List Str} (h : l ≠ []) : atI (l.map V.str) (-1) = some (.str (lastS l)) := by
  have hl : 0 < l.length := List.length_pos_iff.mpr h
  unfold atI ixN
  rw [List.length_map, if_neg (by decide), if_pos (by omega)]
  have e : (-1 + (l.length : Int)).toNat = l.length - 1 := by omega
  show (l.map V.str)[_]? = _
  rw [e, List.getElem?_map, ← List.getLast?_eq_getElem?]
  unfold lastS
  rw [List.getLastD_eq_getLast?]
  obtain ⟨x, hx⟩ := Option.isSome_iff_exists.mp (List.getLast?_isSome.mpr h)
  rw [hx]
  rfl
theorem pos_lt {l : List Str} {x : Str} (h : x ∈ l) : pos l x < l.length := List.findIdx_lt_length_of_exists ⟨x, h, decide_eq_true rfl⟩
theorem pos_get {l : List Str} {x : Str} (h : x ∈ l) : l[pos l x]? = some x := by
  have hl := pos_lt h
  rw [List.getElem?_eq_getElem hl]
  have z : decide (l[pos l x] = x) = true := List.findIdx_getElem (w := hl) (p := fun z => decide (z = x))
  rw [of_decide_eq_true z]
theorem pos_no {l : List Str} {x z : Str} {m : Nat} (h : m < pos l x) (e : l[m]? = some z) : z ≠ x := fun q => by
  obtain ⟨hl, e2⟩ := List.getElem?_eq_some_iff.mp e
  have n := List.not_of_lt_findIdx (p := fun z => decide (z = x)) h
  rw [e2, q] at n
  simp at n
/-- list.index of a text that is there -/
theorem idx_use {K : PySem.W.Frag} {H : Hp} {b : Addr} {l : List Str} {x : Str} {Q : VK} (hb : SqL K H b (l.map V.str)) (m : x ∈ l) (q : Q (.int (pos l x : Nat)) H) : rIndex K (.ref b) [.str x] H Q := by
  refine ⟨b, _, _, pos l x, .str x, rfl, rfl, hb, rfl, ?_, ?_, ?_, fun n z' hn hz => ?_, q⟩
  · rw [List.all_map]
    exact List.all_eq_true.mpr fun _ _ => rfl
  · rw [List.getElem?_map, pos_get m]
    rfl
  · show (x == x) = true
    exact beq_self_eq_true x
  · rw [List.getElem?_map] at hz
    obtain ⟨z, e, rfl⟩ := Option.map_eq_some_iff.mp hz
    show (z == x) = false
    exact beq_eq_false_iff_ne.mpr (pos_no hn e)
section
variable {P : Program} {w : World} {K : PySem.W.Frag} {mg : Str → Option Value} {base : Heap}
theorem ok_turn (T : Bn mg) (KC : KindC mg) (D : DefAt K mg "turn_rows" s_turn) : FnAt P w K mg base 1 "turn_rows" ["upper", "lower", "kind"] spTurn := by
  obtain ⟨_, g_UPPER⟩ := KC.UP
  obtain ⟨_, g_LOWER⟩ := KC.LO
  obtain ⟨_, g_EVEN⟩ := KC.EV
  refine fnAt D sc_turn (fun _ _ _ _ _ _ us hl => match us, hl with | [_, _, _], _ => rfl) (fun vs H Q E h => ?_) fun f cdv A outer s H vs Q E hr h => ?_
  · obtain ⟨a, b, us, ls, k, rfl, _⟩ := h
    rfl
  obtain ⟨a, b, us, ls, kd, rfl, ab, ha, hb, nu, nl, l1, l2, k⟩ := h
  refine ⟨_, (pss_cons (ps_par (i := 3) (j := 4) rfl sc_turn.nd rfl rfl (by decide) rfl rfl (pa_cons (pe_ix ix_list (pv 0) (pe_un un_neg pe_int) (fun _ _ => rfl)) (pa_cons (pe_ix ix_list (pv 1) (pe_un un_neg pe_int) (fun _ _ => rfl)) pa_nil)) (by rfl))
    (pss_one (ps_if (pt_cmpR op_eq (pv 2) (pe_glob (v := .str "upper") rfl g_UPPER ⟨_, rfl⟩) (nomark _)) (pss_cons (ps_expr (pe_bm0 PySem.F.plainAttrs_list PySem.F.slot_list_pop PySem.F.type_list_pop mt_pop (pv 1)))
    (pss_one (ps_expr (pe_bm PySem.F.plainAttrs_list PySem.F.slot_list_insert PySem.F.type_list_insert mt_insert (pv 1) (pa_cons (pe_op op_add (pe_bm PySem.F.plainAttrs_list PySem.F.slot_list_index PySem.F.type_list_index mt_index (pv 1) (pa_cons (pv 3) pa_nil)) pe_int) (pa_cons (pv 4) pa_nil)))))) (pss_one (ps_if (pt_cmpR op_eq (pv 2) (pe_glob (v := .str "lower") rfl g_LOWER ⟨_, rfl⟩) (nomark _)) (pss_cons (ps_expr (pe_bm0 PySem.F.plainAttrs_list PySem.F.slot_list_pop PySem.F.type_list_pop mt_pop (pv 0)))
    (pss_one (ps_expr (pe_bm PySem.F.plainAttrs_list PySem.F.slot_list_insert PySem.F.type_list_insert mt_insert (pv 0) (pa_cons (pe_op op_add (pe_bm PySem.F.plainAttrs_list PySem.F.slot_list_index PySem.F.type_list_index mt_index (pv 0) (pa_cons (pv 4) pa_nil)) pe_int) (pa_cons (pv 3) pa_nil)))))) (pss_cons (ps_expr (pe_bm0 PySem.F.plainAttrs_list PySem.F.slot_list_pop PySem.F.type_list_pop mt_pop (pv 0)))
    (pss_cons (ps_expr (pe_bm0 PySem.F.plainAttrs_list PySem.F.slot_list_pop PySem.F.type_list_pop mt_pop (pv 1)))
    (pss_one (ps_asg (pv 4) (pg_sub (pv 1) (pe_bm PySem.F.plainAttrs_list PySem.F.slot_list_index PySem.F.type_list_index mt_index (pv 1) (pa_cons (pv 3) pa_nil)) set_list)))))))))), ?_⟩
  have ia := atI_last nu
  have ib := atI_last nl
  refine ⟨_, rfl, _, rfl, _, _, _, _, rfl, rfl, SqL.of ha, ia, ?_⟩
  refine ⟨_, rfl, _, rfl, _, _, _, _, rfl, rfl, SqL.of hb, ib, ?_⟩
  refine ⟨_, _, rfl, ?_⟩
  rcases k with ⟨rfl, mem, k⟩ | ⟨rfl, mem, k⟩
  · refine ⟨_, rfl, rfl, _, rfl, iteT ?_⟩
    have hp : (ls.map V.str)[(ls.map V.str).length - 1]? = some (.str (lastS ls)) := by
      rw [List.length_map, List.getElem?_map, ← List.getLast?_eq_getElem?]
      unfold lastS
      rw [List.getLastD_eq_getLast?]
      obtain ⟨x, hx⟩ := Option.isSome_iff_exists.mp (List.getLast?_isSome.mpr nl)
      rw [hx]
      rfl
    refine ⟨_, rfl, .inl ⟨rfl, _, SqL.of hb⟩, b, _, _, rfl, rfl, hb, hp, ?_⟩
    have ed : (ls.map V.str).dropLast = (ls.dropLast).map V.str := by rw [List.map_dropLast]
    rw [ed]
    have ll : (ls.dropLast).length ≤ 1000 := by rw [List.length_dropLast]; omega
    have pl := pos_lt mem
    refine ⟨_, rfl, .inl ⟨rfl, _, SqL.of upd_same⟩, _, rfl, .inl ⟨rfl, _, SqL.of upd_same⟩, _, rfl, ?_⟩
    dsimp only [tNil]
    refine idx_use (SqL.of upd_same) mem ?_
    refine ⟨_, _, rfl, rfl, _, rfl, b, _, _, _, rfl, rfl, upd_same, ?_, ?_, ?_, ?_⟩
    · rw [List.length_map]
      exact len_lt ll
    · omega
    · omega
    · refine k _ (fun c hc => by rw [upd_ne hc, upd_ne hc]) ?_
      have en : ((pos ls.dropLast (lastS us) : Nat) + 1 : Int).toNat = pos ls.dropLast (lastS us) + 1 := by omega
      rw [upd_same, en]
      unfold ledU putAt
      rw [List.map_append, List.map_append, List.map_take, List.map_drop]
      rfl
  · refine ⟨_, rfl, rfl, _, rfl, iteF ?_⟩
    refine ⟨_, rfl, rfl, _, rfl, iteT ?_⟩
    have hp : (us.map V.str)[(us.map V.str).length - 1]? = some (.str (lastS us)) := by
      rw [List.length_map, List.getElem?_map, ← List.getLast?_eq_getElem?]
      unfold lastS
      rw [List.getLastD_eq_getLast?]
      obtain ⟨x, hx⟩ := Option.isSome_iff_exists.mp (List.getLast?_isSome.mpr nu)
      rw [hx]
      rfl
    refine ⟨_, rfl, .inl ⟨rfl, _, SqL.of ha⟩, a, _, _, rfl, rfl, ha, hp, ?_⟩
    have ed : (us.map V.str).dropLast = (us.dropLast).map V.str := by rw [List.map_dropLast]
    rw [ed]
    have ll : (us.dropLast).length ≤ 1000 := by rw [List.length_dropLast]; omega
    have pl := pos_lt mem
    refine ⟨_, rfl, .inl ⟨rfl, _, SqL.of upd_same⟩, _, rfl, .inl ⟨rfl, _, SqL.of upd_same⟩, _, rfl, ?_⟩
    dsimp only [tNil]
    refine idx_use (SqL.of upd_same) mem ?_
    refine ⟨_, _, rfl, rfl, _, rfl, a, _, _, _, rfl, rfl, upd_same, ?_, ?_, ?_, ?_⟩
    · rw [List.length_map]
      exact len_lt ll
    · omega
    · omega
    · refine k _ (fun c hc => by rw [upd_ne hc, upd_ne hc]) ?_
      have en : ((pos us.dropLast (lastS ls) : Nat) + 1 : Int).toNat = pos us.dropLast (lastS ls) + 1 := by omega
      rw [upd_same, en]
      unfold ledL putAt
      rw [List.map_append, List.map_append, List.map_take, List.map_drop]
      rfl
end
end My
/-! rounds keep whole rows whole -/
namespace My
open PySem PySem.Spec L2
theorem last_app {l : List Str} (h : l ≠ []) : l.dropLast ++ [lastS l] = l := by
  have e := List.dropLast_concat_getLast h
  have g : lastS l = l.getLast h := by
    unfold lastS
    rw [List.getLastD_eq_getLast?, List.getLast?_eq_some_getLast h]
    rfl
  rw [g]
  exact e
theorem last_mem {l : List Str} (h : l ≠ []) : lastS l ∈ l := by
  have e := last_app h
  rw [← e]
  exact List.mem_append_right _ (List.mem_singleton.mpr (by rw [e]))
theorem mem_drop {l : List Str} (h : l ≠ []) (nd : l.Nodup) (x : Str) : x ∈ l.dropLast ↔ x ∈ l ∧ x ≠ lastS l := by
  have e := last_app h
  have nd' : (l.dropLast ++ [lastS l]).Nodup := by rw [e]; exact nd
  have dj := (List.nodup_append.mp nd').2.2
  constructor
  · intro m
    refine ⟨by rw [← e]; exact List.mem_append_left _ m, fun q => ?_⟩
    exact dj x m (lastS l) (List.mem_singleton.mpr rfl) q
  · rintro ⟨m, n⟩
    rw [← e] at m
    rcases List.mem_append.mp m with m | m
    · exact m
    · exact absurd (List.mem_singleton.mp m) n
/-- no cut within -/
def Unc (us ls : List Str) : Prop := ∀ k, 0 < k → k < us.length → ¬ ∀ x, x ∈ us.take k ↔ x ∈ ls.take k
structure Whl (us ls : List Str) : Prop where
  ro : RowsOk us ls
  two : 2 ≤ us.length
  unc : Unc us ls
theorem Whl.symm {us ls : List Str} (h : Whl us ls) : Whl ls us :=
  ⟨h.ro.symm, by rw [h.ro.len]; exact h.two, fun k k0 kn q => h.unc k k0 (by rw [h.ro.len] at kn; exact kn) fun x => (q x).symm⟩
theorem Whl.nu {us ls : List Str} (h : Whl us ls) : us ≠ [] := fun z => by have := h.two; rw [z] at this; cases this
theorem Whl.nl {us ls : List Str} (h : Whl us ls) : ls ≠ [] := h.symm.nu
theorem take_drop1 (l : List Str) : l.take (l.length - 1) = l.dropLast := (List.dropLast_eq_take).symm
theorem Whl.ne {us ls : List Str} (h : Whl us ls) : lastS us ≠ lastS ls := fun q => by
  have t := h.two
  refine h.unc (us.length - 1) (by omega) (by omega) fun x => ?_
  have e2 : us.length - 1 = ls.length - 1 := by rw [h.ro.len]
  rw [take_drop1, mem_drop h.nu h.ro.nd, e2, take_drop1, mem_drop h.nl h.ro.symm.nd, q, h.ro.pm.mem_iff]
theorem Whl.memU {us ls : List Str} (h : Whl us ls) : lastS us ∈ ls.dropLast := (mem_drop h.nl h.ro.symm.nd _).mpr ⟨h.ro.pm.mem_iff.mpr (last_mem h.nu), h.ne⟩
theorem Whl.memL {us ls : List Str} (h : Whl us ls) : lastS ls ∈ us.dropLast := h.symm.memU
theorem putAt_perm (l : List Str) (x y : Str) : (putAt l x y).Perm (y :: l) := by
  unfold putAt
  rw [List.append_assoc]
  have h : (l.take (pos l x + 1) ++ ([y] ++ l.drop (pos l x + 1))).Perm (y :: (l.take (pos l x + 1) ++ l.drop (pos l x + 1))) := List.perm_middle
  rw [List.take_append_drop] at h
  exact h
theorem putAt_len (l : List Str) (x y : Str) : (putAt l x y).length = l.length + 1 := by
  have := (putAt_perm l x y).length_eq
  simpa using this
theorem ledU_perm {us ls : List Str} (h : ls ≠ []) : (ledU us ls).Perm ls := by
  refine (putAt_perm _ _ _).trans ?_
  have p : (lastS ls :: ls.dropLast).Perm (ls.dropLast ++ [lastS ls]) := (List.perm_append_singleton _ _).symm
  rw [last_app h] at p
  exact p
theorem Whl.rowU {us ls : List Str} (h : Whl us ls) : RowsOk us (ledU us ls) := ⟨h.ro.nm, h.ro.nd, (ledU_perm h.nl).trans h.ro.pm, h.ro.ne, h.ro.le⟩
theorem Whl.ledU {us ls : List Str} (h : Whl us ls) : Whl us (ledU us ls) := by
  refine ⟨h.rowU, h.two, fun k k0 kn q => ?_⟩
  have m := h.memU
  have pl := pos_lt m
  have dl : ls.dropLast.length = us.length - 1 := by rw [List.length_dropLast, h.ro.len]
  -- the last name above is not among the first k
  have out : lastS us ∉ us.take k := fun z => by
    have sub : us.take k = us.dropLast.take k := by
      rw [List.dropLast_eq_take, List.take_take, Nat.min_eq_left (by omega)]
    rw [sub] at z
    exact ((mem_drop h.nu h.ro.nd _).mp (List.mem_of_mem_take z)).2 rfl
  have le : k ≤ pos ls.dropLast (lastS us) := Nat.le_of_not_lt fun lt => out ((q _).mpr (by
    refine List.mem_of_getElem? (i := pos ls.dropLast (lastS us)) ?_
    rw [List.getElem?_take_of_lt lt]
    unfold My.ledU putAt
    rw [List.append_assoc, List.getElem?_append_left (by rw [List.length_take]; omega), List.getElem?_take_of_lt (Nat.lt_succ_self _)]
    exact pos_get m))
  have et : (My.ledU us ls).take k = ls.take k := by
    unfold My.ledU putAt
    rw [List.append_assoc, List.take_append_of_le_length (by rw [List.length_take]; omega), List.take_take, Nat.min_eq_left (by omega), List.dropLast_eq_take, List.take_take, Nat.min_eq_left (by have := h.ro.len; omega)]
  rw [et] at q
  exact h.unc k k0 kn q
theorem ledL_eq (us ls : List Str) : ledL us ls = My.ledU ls us := rfl
theorem Whl.ledL {us ls : List Str} (h : Whl us ls) : Whl (ledL us ls) ls := h.symm.ledU.symm
/-- one round, many rounds; true is an upper one -/
def led1 (k : Bool) (r : List Str × List Str) : List Str × List Str := if k then (r.1, My.ledU r.1 r.2) else (My.ledL r.1 r.2, r.2)
def leds (ks : List Bool) (r : List Str × List Str) : List Str × List Str := ks.foldl (fun r k => led1 k r) r
theorem Whl.led1 {k : Bool} {r : List Str × List Str} (h : Whl r.1 r.2) : Whl (led1 k r).1 (led1 k r).2 := by
  cases k with
  | true => exact h.ledU
  | false => exact h.ledL
theorem Whl.leds : ∀ {ks : List Bool} {r : List Str × List Str}, Whl r.1 r.2 → Whl (leds ks r).1 (leds ks r).2
  | [], _, h => h
  | k :: ks, r, h => Whl.leds (ks := ks) (r := My.led1 k r) h.led1
end My
namespace My
open PySem PySem.Spec PyProof.Rows L2
local macro_rules | `(tactic| walk_at "side") => `(tactic| first | assumption | decide | exact Or.inl ⟨by decide, by decide⟩ | exact Or.inr ⟨by decide, by decide⟩ | exact ⟨by decide, by decide, by decide⟩ | omega | (unfold CMulW; decide +kernel) | (dsimp only; first | assumption | omega | decide +kernel) | exact len_ok (Nat.le_of_ble_eq_true rfl) | fail "side")
local macro_rules | `(tactic| walk_at "rd") => `(tactic| first
  | refine ⟨_, _, _, _, rfl, rfl, SqL.of upd_same, atI_nat (j := 0) rfl, ?_⟩ | refine ⟨_, _, _, _, rfl, rfl, SqL.of upd_same, atI_nat (j := 1) rfl, ?_⟩ | refine ⟨_, _, _, _, rfl, rfl, SqL.of upd_same, atI_nat (j := 2) rfl, ?_⟩
  | refine ⟨_, _, _, _, rfl, rfl, upd_same, rfl, ?_⟩
  | refine ⟨_, _, rfl, rfl, ?_⟩ | refine ⟨_, rfl, ?_⟩ | refine ⟨_, _, rfl, ?_⟩ | refine Or.inl ⟨_, rfl, ?_⟩ | refine Or.inr ⟨_, rfl, ?_⟩ | refine ⟨(by walk_at "side"), ?_⟩ | fail "rd")

abbrev s_bends : Stmt := top 19
theorem sc_bends : FnScope ["places", "ends", "furthest", "index", "place"] ["places"] (defScope s_bends) := ⟨rfl, rfl, rfl, by decide +kernel, rfl, by decide +kernel, by decide +kernel⟩
/-- the ends of the blocks, from the index i on, f the furthest place so far -/
def mx (i j : Int) : Int := if j > i then j else i
def bend : Int → Int → List Int → List Int
  | _, _, [] => []
  | i, f, p :: r => if mx f p = i then (i + 1) :: bend (i + 1) (mx f p) r else bend (i + 1) (mx f p) r
def spBend (K : PySem.W.Frag) : Sp := fun vs H Q _ => ∃ (a : Addr) (ps : List Int), vs = [.ref a] ∧ SqT K H a (ps.map V.int) ∧ ps.length ≤ 1000 ∧ ∀ D H', Ext H H' → H' D = some (.lst ((bend 0 0 ps).map V.int)) → Q (.ref D) H'
section
variable {P : Program} {w : World} {K : PySem.W.Frag} {mg : Str → Option Value} {base : Heap} {C : Addr}
theorem ok_bends (T : Bn mg) (D : DefAt K mg "block_ends" s_bends) : FnAt P w K mg base 1 "block_ends" ["places"] (spBend K) := by
  refine fnAt D sc_bends (fun _ _ _ _ _ _ us hl => match us, hl with | [_], _ => rfl) (fun vs H Q E h => ?_) fun f cdv A outer s H vs Q E hr h => ?_
  · obtain ⟨a, ps, rfl, _⟩ := h
    rfl
  obtain ⟨a, ps, rfl, ha, hz, k⟩ := h
  refine ⟨_, (pss_cons (ps_set (i := 1) sc_bends.nd rfl (Or.inl rfl) (pe_lst pa_nil))
    (pss_cons (ps_set (i := 2) sc_bends.nd rfl (Or.inl rfl) pe_int)
    (pss_cons (ps_for PassesOwn.never rfl (pi_enumT (by rfl) T.b_enumerate (pa_cons (pv 0) pa_nil)) (pg_tup rfl (pgs_cons (pg_name (i := 3) sc_bends.nd rfl (Or.inl rfl)) (pgs_cons (pg_name (i := 4) sc_bends.nd rfl (Or.inl rfl)) pgs_nil)))
      (pss_cons (ps_set (i := 2) sc_bends.nd rfl (Or.inl rfl) (pe_callB (call_max2 rfl) (by rfl) T.b_max (by decide +kernel) (pa_cons (pv 2) (pa_cons (pv 4) pa_nil))))
    (pss_one (ps_if (pt_cmpR op_eq (pv 2) (pv 3) (nomark _)) (pss_one (ps_expr (pe_bm PySem.F.plainAttrs_list PySem.F.slot_list_append PySem.F.type_list_append mt_append (pv 1) (pa_cons (pe_op op_add (pv 3) pe_int) pa_nil)))) pss_nil))))
    (pss_one (ps_ret (pv 1)))))), ?_⟩
  refine ⟨len_ok (Nat.le_of_ble_eq_true rfl), fun D hD => ?_⟩
  have wk : Walk (Iet K a) ps.length (fun H => SqT K H a (ps.map V.int)) (YPair (fun i => some (.int (i : Nat))) (fun i => (ps.map V.int)[i]?)) := by
    have z := walk_enumT (K := K) (a := a) (xs := ps.map V.int)
    rwa [List.length_map] at z
  have x1 := ext_new (o := HO.lst []) (ext_refl H) hD
  refine ⟨_, rfl, a, _, rfl, ha.ext x1, for_it wk (fun i σ' H' => ∃ (acc : List Int) (f : Int) (u v : Option V), σ' = [some (.ref a), some (.ref D), some (.int f), u, v] ∧ Ext H H' ∧ H' D = some (.lst (acc.map V.int)) ∧ acc.length ≤ i ∧ acc ++ bend i f (ps.drop i) = bend 0 0 ps)
    ⟨[], 0, none, none, rfl, x1, upd_same, Nat.le_refl _, rfl⟩ (fun i σ' H' _ p => ?_) (fun i x σ' H1 H' hi p y => ?_) fun σ' H' p => ?_⟩
  · obtain ⟨acc, f, u, v, _, e, _⟩ := p
    exact ha.ext e
  · obtain ⟨T, u1, v1, rfl, hT, rfl, hu, hv⟩ := y
    obtain ⟨acc, f, u, v, rfl, p2, p3, p4, p5⟩ := p
    cases hu
    replace hv : (ps.map V.int)[i]? = some v1 := hv
    rw [List.getElem?_map, List.getElem?_eq_getElem hi] at hv
    cases hv
    have eT := ext_new (o := HO.tup [V.int (i : Nat), .int ps[i]]) (ext_refl H1) hT
    rw [List.drop_eq_getElem_cons hi, bend] at p5
    refine ⟨T, _, rfl, SqT.of upd_same, rfl, _, _, rfl, _, _, rfl, rfl, ?_⟩
    refine ⟨_, rfl, _, rfl, _, _, rfl, _, rfl, _, rfl, rfl, _, rfl, ?_⟩
    have e1 : decide (V.int (if ps[i] > f then ps[i] else f) = .int (i : Nat)) = decide (mx f ps[i] = (i : Int)) := by
      rw [dec_int]
      rfl
    rw [e1]
    have p3' := eT _ _ p3
    have nD : D ≠ T := ne_of_none p3 hT
    refine ite2 (fun c => ?_) (fun c => ?_)
    · have c' := of_decide_eq_true c
      rw [if_pos c'] at p5
      refine ⟨_, rfl, .inl ⟨rfl, _, SqL.of p3'⟩, _, rfl, _, _, rfl, rfl, D, _, _, rfl, rfl, p3', ?_, ?_⟩
      · rw [List.length_map]
        exact len_lt (by omega)
      · refine ⟨acc ++ [(i : Int) + 1], mx f ps[i], _, _, rfl, ext_mut (p2.trans eT) hD, ?_, ?_, ?_⟩
        · rw [upd_same, List.map_append]
          rfl
        · rw [List.length_append]
          exact Nat.succ_le_succ p4
        · rw [List.append_assoc, ← p5]
          rfl
    · have c' : ¬ mx f ps[i] = (i : Int) := fun z => c (decide_eq_true z)
      rw [if_neg c'] at p5
      exact ⟨acc, mx f ps[i], _, _, rfl, p2.trans eT, p3', by omega, p5⟩
  · obtain ⟨acc, f, u, v, rfl, p2, p3, p4, p5⟩ := p
    rw [List.drop_length, bend, List.append_nil] at p5
    rw [p5] at p3
    exact ⟨_, rfl, k D H' p2 p3⟩
end
end My
namespace My
open PySem PySem.Spec PyProof.Rows L2
local macro_rules | `(tactic| walk_at "side") => `(tactic| first | assumption | decide | exact Or.inl ⟨by decide, by decide⟩ | exact Or.inr ⟨by decide, by decide⟩ | exact ⟨by decide, by decide, by decide⟩ | omega | (unfold CMulW; decide +kernel) | (dsimp only; first | assumption | omega | decide +kernel) | exact len_ok (Nat.le_of_ble_eq_true rfl) | fail "side")
local macro_rules | `(tactic| walk_at "rd") => `(tactic| first
  | refine ⟨_, _, _, _, rfl, rfl, SqL.of upd_same, atI_nat (j := 0) rfl, ?_⟩ | refine ⟨_, _, _, _, rfl, rfl, SqL.of upd_same, atI_nat (j := 1) rfl, ?_⟩ | refine ⟨_, _, _, _, rfl, rfl, SqL.of upd_same, atI_nat (j := 2) rfl, ?_⟩
  | refine ⟨_, _, _, _, rfl, rfl, upd_same, rfl, ?_⟩
  | refine ⟨_, _, rfl, rfl, ?_⟩ | refine ⟨_, rfl, ?_⟩ | refine ⟨_, _, rfl, ?_⟩ | refine Or.inl ⟨_, rfl, ?_⟩ | refine Or.inr ⟨_, rfl, ?_⟩ | refine ⟨(by walk_at "side"), ?_⟩ | fail "rd")

abbrev s_owhole : Stmt := inClass (top 14) 7
theorem sc_owhole : FnScope ["self"] ["self"] (defScope s_owhole) := ⟨rfl, rfl, rfl, by decide +kernel, rfl, by decide +kernel, by decide +kernel⟩
def wholeB (zs ys : List Str) : Bool := decide (2 ≤ zs.length) && decide ((bend 0 0 (plc zs ys)).length = 1)
def spWhole (K : PySem.W.Frag) (C : Addr) : Sp := fun vs H Q _ => ∃ o zs ys, vs = [.ref o] ∧ OrdAt K C H o zs ys ∧ ∀ H', Ext H H' → Q (.bl (wholeB zs ys)) H'
section
variable {P : Program} {w : World} {K : PySem.W.Frag} {mg : Str → Option Value} {base : Heap} {C : Addr}
theorem ok_owhole (T : Bn mg) (D : PropT K C "is_whole" "Order.is_whole" s_owhole) (OT : OrdT K mg C) (F_block_ends : FnAt P w K mg base 1 "block_ends" ["places"] (spBend K)) : PropAt P w K mg base 2 C "is_whole" (spWhole K C) := by
  refine propAt D sc_owhole (fun _ _ _ _ _ _ us hl => match us, hl with | [_], _ => rfl) (fun vs H Q E h => ?_) fun f cdv A outer s H vs Q E hr h => ?_
  · obtain ⟨o, zs, ys, rfl, _⟩ := h
    rfl
  obtain ⟨o, zs, ys, rfl, ⟨dx, a, b, c, e, ha, hb, hc, ro⟩, k⟩ := h
  have l1 := ro.le
  refine ⟨_, (pss_one (ps_ret (pe_and (pe_cmpR op_ge (pe_callB call_len_seq (by rfl) T.b_len (by decide +kernel) (pa_cons (pe_fld (pv 0) rfl) pa_nil)) pe_int (nomark _)) (pe_one (pe_cmpR op_eq (pe_callB call_len_seq (by rfl) T.b_len (by decide +kernel) (pa_cons (callA F_block_ends (hr.mono (by decide)) rfl (pa_cons (pe_fld (pv 0) rfl) pa_nil)) pa_nil)) pe_int (nomark _)))))), _, rfl, o, C, dx, _, _, rfl, e, OT.cl, OT.nA, ofs_a a b c, a, _, rfl, .inr ha, _, _, rfl, rfl, _, rfl, ?_⟩
  rw [List.length_map]
  by_cases h2 : 2 ≤ zs.length
  · rw [if_pos (decide_eq_true (show ((zs.length : Nat) : Int) ≥ 2 by omega))]
    refine ⟨_, rfl, o, C, dx, _, _, rfl, e, OT.cl, OT.nP, ofs_p a b c, c, plc zs ys, rfl, hc, ?_, fun D H' e' hD => ?_⟩
    · unfold plc
      rw [List.length_map]
      omega
    · refine ⟨D, _, rfl, .inl (SqL.of hD), rfl, ?_⟩
      have e2 : decide (V.int (((bend 0 0 (plc zs ys)).map V.int).length : Nat) = .int 1) = wholeB zs ys := by
        unfold wholeB
        rw [decide_eq_true h2, Bool.true_and, List.length_map, dec_int, Bool.eq_iff_iff, beq_iff_eq, decide_eq_true_iff]
        omega
      rw [e2]
      exact k H' e'
  · rw [if_neg (by rw [decide_eq_true_iff]; omega)]
    have e2 : wholeB zs ys = false := by
      unfold wholeB
      rw [decide_eq_false h2, Bool.false_and]
    rw [← e2]
    exact k H (ext_refl H)
end
end My
/-! whole rows have just one block -/
namespace My
open PySem PySem.Spec L2
def fm (ps : List Int) (i : Nat) : Int := (ps.take i).foldl mx 0
theorem mx_le {f p b : Int} (h : f ≤ b) (g : p ≤ b) : mx f p ≤ b := by
  unfold mx
  split <;> assumption
theorem le_mx {f p : Int} : f ≤ mx f p ∧ p ≤ mx f p := by
  unfold mx
  split <;> omega
theorem fm_succ {ps : List Int} {i : Nat} (h : i < ps.length) : fm ps (i + 1) = mx (fm ps i) ps[i] := by
  unfold fm
  rw [List.take_succ, List.getElem?_eq_getElem h, List.foldl_append]
  rfl
theorem fm_le {ps : List Int} {b : Int} (h0 : 0 ≤ b) : ∀ i, i ≤ ps.length → (∀ j (hj : j < ps.length), j < i → ps[j] ≤ b) → fm ps i ≤ b
  | 0, _, _ => h0
  | i + 1, hi, h => by
    rw [fm_succ (by omega)]
    exact mx_le (fm_le h0 i (by omega) fun j hj hji => h j hj (by omega)) (h i (by omega) (by omega))
theorem fm_ge {ps : List Int} : ∀ i, i ≤ ps.length → ∀ j (hj : j < ps.length), j < i → ps[j] ≤ fm ps i
  | 0, _, j, _, h => by omega
  | i + 1, hi, j, hj, h => by
    rw [fm_succ (by omega)]
    by_cases e : j = i
    · subst e
      exact le_mx.2
    · exact Int.le_trans (fm_ge i (by omega) j hj (by omega)) le_mx.1
theorem pos_at {l : List Str} (nd : l.Nodup) {m : Nat} (h : m < l.length) : pos l l[m] = m := by
  have mem : l[m] ∈ l := List.getElem_mem h
  have pl := pos_lt mem
  have g := pos_get mem
  rw [List.getElem?_eq_getElem pl] at g
  have e : l[pos l l[m]] = l[m] := Option.some.inj g
  have pw := List.pairwise_iff_getElem.mp (List.nodup_iff_pairwise_ne.mp nd)
  rcases Nat.lt_trichotomy (pos l l[m]) m with a | a | a
  · exact absurd e (pw _ _ pl h a)
  · exact a
  · exact absurd e.symm (pw _ _ h pl a)
theorem plc_len (zs ys : List Str) : (plc zs ys).length = zs.length := by unfold plc; rw [List.length_map]
theorem plc_at {zs ys : List Str} {j : Nat} (h : j < (plc zs ys).length) : (plc zs ys)[j] = ((pos ys (zs[j]'(by rw [plc_len] at h; exact h)) : Nat) : Int) := List.getElem_map ..
theorem Whl.cut {us ls : List Str} (h : Whl us ls) {i : Nat} (hi : i < us.length) (e : fm (plc us ls) (i + 1) = i) : i + 1 = us.length := by
  refine Classical.byContradiction fun n => ?_
  have hn : i + 1 < us.length := by omega
  have len := plc_len us ls
  have sub : ∀ x ∈ us.take (i + 1), x ∈ ls.take (i + 1) := fun x hx => by
    obtain ⟨j, hj, ej⟩ := List.getElem_of_mem hx
    rw [List.length_take] at hj
    rw [List.getElem_take] at ej
    have ge := fm_ge (ps := plc us ls) (i + 1) (by omega) j (by omega) (by omega)
    rw [e, plc_at (by omega), ej] at ge
    have mem : x ∈ ls := h.ro.pm.mem_iff.mpr (List.mem_of_mem_take hx)
    refine List.mem_of_getElem? (i := pos ls x) ?_
    rw [List.getElem?_take_of_lt (by omega)]
    exact pos_get mem
  have nd : (us.take (i + 1)).Nodup := List.nodup_iff_pairwise_ne.mpr ((List.nodup_iff_pairwise_ne.mp h.ro.nd).sublist (List.take_sublist _ _))
  have back := perm_len nd sub (by rw [List.length_take, List.length_take, h.ro.len])
  exact h.unc (i + 1) (by omega) hn fun x => ⟨sub x, back x⟩
theorem RowsOk.top {us ls : List Str} (h : RowsOk us ls) : fm (plc us ls) us.length = (us.length : Int) - 1 := by
  have len := plc_len us ls
  have n1 := h.ne
  have hl := h.len
  refine Int.le_antisymm (fm_le (by omega) _ (by omega) fun j hj _ => ?_) ?_
  · rw [plc_at hj]
    have mem : us[j]'(by omega) ∈ ls := h.pm.mem_iff.mpr (List.getElem_mem _)
    have := pos_lt mem
    omega
  · have mem : ls[us.length - 1]'(by omega) ∈ us := h.pm.mem_iff.mp (List.getElem_mem _)
    obtain ⟨j, hj, e⟩ := List.getElem_of_mem mem
    have ge := fm_ge (ps := plc us ls) us.length (by omega) j (by omega) hj
    rw [plc_at (by omega), e, pos_at h.symm.nd (by omega)] at ge
    omega
theorem Whl.bends {us ls : List Str} (h : Whl us ls) : ∀ (d i : Nat), d = us.length - i → i < us.length → bend (i : Nat) (fm (plc us ls) i) ((plc us ls).drop i) = [((us.length : Nat) : Int)]
  | 0, i, hd, hi => by omega
  | d + 1, i, hd, hi => by
    have len := plc_len us ls
    have hp : i < (plc us ls).length := by omega
    rw [List.drop_eq_getElem_cons hp, bend, ← fm_succ hp]
    by_cases e : fm (plc us ls) (i + 1) = (i : Int)
    · have c := h.cut hi e
      rw [if_pos e, List.drop_eq_nil_of_le (by omega), bend]
      rw [← c]
      rfl
    · rw [if_neg e]
      by_cases c : i + 1 = us.length
      · refine absurd ?_ e
        rw [c, h.ro.top]
        omega
      · exact h.bends d (i + 1) (by omega) (by omega)
theorem Whl.whole {us ls : List Str} (h : Whl us ls) : wholeB us ls = true := by
  unfold wholeB
  have b := h.bends us.length 0 (by omega) (by have := h.two; omega)
  have e0 : fm (plc us ls) 0 = 0 := rfl
  rw [e0, List.drop_zero] at b
  have b' : bend 0 0 (plc us ls) = [((us.length : Nat) : Int)] := b
  rw [b', decide_eq_true h.two]
  rfl
end My
/-! iter(a tuple); for x in o, o of an own class whose __iter__ gives iter(a tuple) -/
namespace My
open PySem PySem.Spec PyProof.Rows L2
def itT (l : Addr) : Obj := { cls := .type "tuple_iterator", data := .fields #[.ref l, .int 0 0] }
/-- a tuple's iterator that stands at its begin -/
def ItTO (l it : Addr) : HO := .ext fun h => h.get? it = some (itT l)
theorem itTO_ok {P : Program} {w : World} {H : Hp} {h : Heap} {l it : Addr} (e : h.get? it = some (itT l)) : ObjOk P w H h it (ItTO l it) := ⟨e, ⟨_, e⟩, fun h1 h2 q k => k _ q⟩
def rIterT (K : PySem.W.Frag) : List V → Hp → VK → Prop := fun xs H Q => ∃ (l : Addr) (zs : List V), xs = [.ref l] ∧ SqT K H l zs ∧ ∀ it, H it = none → Q (.ref it) (upd H it (ItTO l it))
section
variable {X : Cx}
theorem call_iterT : CallR X (.builtin "iter") (rIterT X.K) := by
  intro pins s σ H xs us Q I r h
  obtain ⟨l, zs, rfl, hq, q⟩ := h
  obtain ⟨u, rfl, ru⟩ := vals1 r
  cases ru
  obtain ⟨its, rv, pl, hz⟩ := I.tuple hq
  have isT : s.heap.IsTuple l its.toArray := by obtain ⟨o, ho, hcl, n, hd⟩ := pl; exact ⟨o, ho, hcl, n, hd⟩
  refine Calls.call_function_entry (by decide +kernel) (by decide +kernel) PySem.W.kdk_entry_iter (PySem.W.kdk_args_iter _) ?_
  unfold Builtin.«iter»
  refine wpAny_bind (m := someArgs "iter" 1 2 _) (wpAny_of_eq (a := [Value.ref l]) (by first | rfl | kernel_rfl!) ?_)
  show wpAny _ _ (pyIter (.ref l) >>= _) _ _ _
  refine wpAny_bind (wpAny_pyIter_tuple isT ?_)
  exact wpAny_pure ⟨_, rfl, ⟨.ref s.heap.objs.size, _, I.laid (t' := s.toks) (fun b u e => Heap.get?_push_of_some _ e) (Nat.le_refl _) (itTO_ok (Heap.get?_push_size _ rfl)), rfl, q _ (I.hok.fresh (Nat.le_refl _))⟩⟩
end
def rIterTN (K : PySem.W.Frag) (n : Nat) : List V → Hp → VK → Prop := fun xs H Q => ∃ (l : Addr) (zs : List V), xs = [.ref l] ∧ SqT K H l zs ∧ ∀ it, H it = none → n ≤ it → Q (.ref it) (upd H it (ItTO l it))
theorem call_iterTN {X : Cx} : CallR X (.builtin "iter") (rIterTN X.K X.s_0.heap.objs.size) := by
  intro pins s σ H xs us Q I r h
  obtain ⟨l, zs, rfl, hq, q⟩ := h
  obtain ⟨u, rfl, ru⟩ := vals1 r
  cases ru
  obtain ⟨its, rv, pl, hz⟩ := I.tuple hq
  have isT : s.heap.IsTuple l its.toArray := by obtain ⟨o, ho, hcl, n, hd⟩ := pl; exact ⟨o, ho, hcl, n, hd⟩
  refine Calls.call_function_entry (by decide +kernel) (by decide +kernel) PySem.W.kdk_entry_iter (PySem.W.kdk_args_iter _) ?_
  unfold Builtin.«iter»
  refine wpAny_bind (m := someArgs "iter" 1 2 _) (wpAny_of_eq (a := [Value.ref l]) (by first | rfl | kernel_rfl!) ?_)
  show wpAny _ _ (pyIter (.ref l) >>= _) _ _ _
  refine wpAny_bind (wpAny_pyIter_tuple isT ?_)
  exact wpAny_pure ⟨_, rfl, ⟨.ref s.heap.objs.size, _, I.laid (t' := s.toks) (fun b u e => Heap.get?_push_of_some _ e) (Nat.le_refl _) (itTO_ok (Heap.get?_push_size _ rfl)), rfl, q _ (I.hok.fresh (Nat.le_refl _)) I.sz⟩⟩
/-- a promise that knows how great the heap is at the call -/
structure FnSz (P : Program) (w : World) (K : PySem.W.Frag) (mg : Str → Option Value) (base : Heap) (CX : CXT) (k : Nat) (f : Addr) (fd : FuncData) (ps : List Str) (sp : Nat → Sp) : Prop where
  run : ∀ (A : Around) (outer : List Env) (s : Shared) (H : Hp) (args : Args) (us : List Value) (vs : List V) (Q : VK) (E : XK), Room k A → Env0 P w K mg base A outer s H → BindsTo s fd args (ps.zip us) → Vals vs us → sp s.heap.objs.size vs H Q E →
    codeAny (model P w) A (.call (.ref f) args) (CR CX outer P w H s Q E) s
theorem fnSz_of {CX : CXT} {P : Program} {w : World} {K : PySem.W.Frag} {mg : Str → Option Value} {base : Heap} {k : Nat} {f : Addr} {name qual : Str} {params : Arguments} {body : List Stmt} {scope : Scope} {dV kV doc pm cdv ct oc : Value} {an od : Option Addr}
    {osl : Array (Option Value)} {N ps : List Str} {sp : Nat → Sp} (lk : K.lookup f = some ⟨oc, od, .func (PySem.W.fnOf name qual params body scope dV kV doc pm an cdv ct), osl⟩) (hcd : PySem.W.codeIn K cdv qual = true) (S : FnScope N ps scope)
    (len : ∀ n vs H Q E, sp n vs H Q E → vs.length = ps.length)
    (hbody : ∀ (A : Around) (outer : List Env) (s : Shared) (H : Hp) (vs : List V) (Q : VK) (E : XK), Room k (A.deeper (envOfC qual scope s.heap.objs.size f cdv)) → sp s.heap.objs.size vs H Q E →
      ∃ t, PSs (cxOf CX P w K mg base N qual scope f cdv A outer s H E) body t ∧ t { nx := fun _ H' => Q .non H', rt := Q } (start N vs) H) :
    FnSz P w K mg base CX (k + 1) f (PySem.W.fnOf name qual params body scope dV kV doc pm an cdv ct) ps sp := by
  refine ⟨fun A outer s H args us vs Q E hr e0 hb r hsp => ?_⟩
  have hl := len _ _ _ _ _ hsp
  have KX : K.In s.heap := e0.mod.kin.keeps fun b o e => (e0.bs b o e).1
  have lim : s.heap.NoLimit := e0.mod.nolimit.keeps fun b o e => (e0.bs b o e).1
  have hkind : ∀ y ∈ ps.zip us, scope.names.lookup y.1 = some .local ∨ (scope.names.lookup y.1 = some .cell ∧ ((cellsFrom (s.heap.objs.size + 1) scope.names []).lookup y.1).isSome = true) := fun ⟨n, v⟩ hy => by
    rcases S.par n (List.of_mem_zip hy).1 with q | q
    · exact .inl q
    · exact .inr ⟨q, PySem.W.cellsFrom_some _ _ _ (.inl q)⟩
  refine codeAny_call_function hr.depth (KX _ _ lk) rfl S.co S.gen rfl (PySem.W.codeRec_of KX hcd) (hb _ _ _ _ ?_)
  refine wpAny_newFunctionEnv_cells S.kind hkind fun env he s1 x => ?_
  subst he
  refine ⟨lim.keeps x.toInCall.keep, codeAny_func ?_⟩
  obtain ⟨t, ht, hq⟩ := hbody A outer s H vs Q E (hr.deeper _) hsp
  have I : Inv (cxOf CX P w K mg base N qual scope f cdv A outer s H E) [] (start N vs) H s1 := inv_start S hr.hd e0 hl r x
  refine wpAny_mono (ht.run [] s1 (start N vs) H _ I hq) (fun fl s' hs => ?_) fun e s' hs => hs
  have fin : ∀ {σ' : L2.St} {H' : Hp} {v : V} {u : Value}, Inv (cxOf CX P w K mg base N qual scope f cdv A outer s H E) [] σ' H' s' → RelV v u → Q v H' → CE outer P w H s Q u s' :=
    fun {σ' H' v u} J rv q => ⟨v, H', J.os, J.bare, J.base, J.hok, rv, q⟩
  cases fl with
  | ret u =>
    obtain ⟨v, σ', H', J, rv, q⟩ := hs
    exact fin J rv q
  | next =>
    obtain ⟨σ', H', J, q⟩ := hs
    exact fin (v := V.non) (u := Value.none) J rfl q
  | brk =>
    obtain ⟨_, _, _, q⟩ := hs
    exact False.elim q
  | cont =>
    obtain ⟨_, _, _, q⟩ := hs
    exact False.elim q
/-- a class with an own __iter__, whose def keeps sp -/
structure ItrAt (P : Program) (w : World) (K : PySem.W.Frag) (mg : Str → Option Value) (base : Heap) (k : Nat) (C : Addr) (sp : Nat → Sp) : Prop where
  ex : ∃ (f : Addr) (fd : FuncData), PySem.W.findIn K (.ref C) "__iter__" = some (some (.ref f)) ∧ PySem.W.isFn K (.ref f) = true ∧ Binds K fd ["self"] [] ∧ FnSz P w K mg base CX0 k f fd ["self"] sp
/-- for x in e, e an instance of such a class: the tuple at l is walked -/
def iOwnT (K : PySem.W.Frag) (C : Addr) (sp : Nat → Sp) (te : TE) : TI := fun σ H R => te σ H fun x H1 => ∃ a dx fs, x = .ref a ∧ H1 a = some (.ins C dx fs) ∧
  ∀ n, sp n [.ref a] H1 (fun v H2 => ∃ it l, v = .ref it ∧ n ≤ it ∧ H2 it = some (ItTO l it) ∧ R (Itt K l) (ItX.dropH H2 it)) E0
section
variable {X : Cx} {k : Nat} {C : Addr} {sp : Nat → Sp} {e tg : Expr} {te : TE}
theorem pi_ownT (F : ItrAt X.prog X.w X.K X.mg X.base k C sp) (hr : Room k X.A) (he : PE X e te) : PI X tg e (iOwnT X.K C sp te) := by
  obtain ⟨f, fd, hs, hf, hb, G⟩ := F.ex
  refine ⟨fun pins s σ H R I h => ?_⟩
  refine thn (he.run pins s σ H _ I h) fun u s1 ⟨x, H1, I1, rx, a, dx, fs, ex, ea, hsp⟩ => ?_
  subst ex
  cases rx
  obtain ⟨mA, O, _⟩ := ins_get I1.hok ea
  obtain ⟨od, J, _⟩ := O.look
  obtain ⟨m, hF⟩ := I1.fr
  refine PySem.W.owit_iter hF I1.ok.mod.kin J hs hf ?_
  have hl : ([Value.ref a] : List Value).length = (["self"] : List Str).length := rfl
  have bd : BindsTo s1 fd ⟨[.ref a], []⟩ ((["self"] : List Str).zip [.ref a]) := by
    have z := hb s1 [.ref a] I1.kIn (by rw [List.append_nil]; exact hl)
    rw [List.append_nil] at z
    exact z
  refine wpAny_call (codeAny_mono (G.run X.A X.stack s1 H1 ⟨[.ref a], []⟩ [.ref a] [.ref a] _ E0 hr I1.env0 bd (.cons rfl .nil) (hsp s1.heap.objs.size)) fun r2 s2 hq => ?_)
  match r2, hq with
  | .error er, hq => exact pass0 pins σ H1 _ er s2 I1 hq
  | .ok (.ret u2), hq =>
    obtain ⟨v2, H2, I2, r3, it, l, ev, new, hi, q⟩ := I1.after hq
    subst ev
    cases r3
    have eo : s2.heap.get? it = some (itT l) := (I2.hok it _ hi).1
    have st : s2.heap.IsTupleIter it l 0 := ⟨_, eo, rfl, rfl⟩
    unfold PySem.W.OwitIt
    refine wpAny_specialOf (name := Str.ofString "__next__") st.typeIs PySem.F.slot_tuple_iterator_next.lookup ?_
    have hi' := hi
    unfold ItTO at hi'
    refine ⟨it, [it], _, _, ItX.dropH H2 it, rfl, ItX.inv_drop I2 hi', turn_tuple l it, st, fun b hb => ?_, q⟩
    have e : b = it := by simpa using hb
    rw [e]
    exact ItX.inv_fp I2 hi (Nat.le_trans I1.sz new)
end
theorem sqT_drop {K : PySem.W.Frag} {H : Hp} {a l it : Addr} {xs : List V} (h : SqT K H a xs) (n : H it = some (ItTO l it)) : SqT K (ItX.dropH H it) a xs := by
  rcases h with (e | ⟨o, e⟩) | r
  · exact .inl (.inl (by rw [ItX.dropH_ne (fun z => by rw [z, n] at e; cases e)]; exact e))
  · exact .inl (.inr ⟨o, by rw [ItX.dropH_ne (fun z => by rw [z, n] at e; cases e)]; exact e⟩)
  · exact .inr r
end My
namespace My
open PySem PySem.Spec PyProof.Rows L2
local macro_rules | `(tactic| walk_at "side") => `(tactic| first | assumption | decide | exact Or.inl ⟨by decide, by decide⟩ | exact Or.inr ⟨by decide, by decide⟩ | exact ⟨by decide, by decide, by decide⟩ | omega | (unfold CMulW; decide +kernel) | (dsimp only; first | assumption | omega | decide +kernel) | exact len_ok (Nat.le_of_ble_eq_true rfl) | fail "side")
local macro_rules | `(tactic| walk_at "rd") => `(tactic| first
  | refine ⟨_, _, _, _, rfl, rfl, SqL.of upd_same, atI_nat (j := 0) rfl, ?_⟩ | refine ⟨_, _, _, _, rfl, rfl, SqL.of upd_same, atI_nat (j := 1) rfl, ?_⟩ | refine ⟨_, _, _, _, rfl, rfl, SqL.of upd_same, atI_nat (j := 2) rfl, ?_⟩
  | refine ⟨_, _, _, _, rfl, rfl, upd_same, rfl, ?_⟩
  | refine ⟨_, _, rfl, rfl, ?_⟩ | refine ⟨_, rfl, ?_⟩ | refine ⟨_, _, rfl, ?_⟩ | refine Or.inl ⟨_, rfl, ?_⟩ | refine Or.inr ⟨_, rfl, ?_⟩ | refine ⟨(by walk_at "side"), ?_⟩ | fail "rd")

abbrev s_oiter : Stmt := inClass (top 14) 18
theorem sc_oiter : FnScope ["self"] ["self"] (defScope s_oiter) := ⟨rfl, rfl, rfl, by decide +kernel, rfl, by decide +kernel, by decide +kernel⟩
def spItr (K : PySem.W.Frag) (C : Addr) : Nat → Sp := fun n vs H Q _ => ∃ o zs ys, vs = [.ref o] ∧ OrdAt K C H o zs ys ∧ ∀ it l, H it = none → n ≤ it → SqT K H l (zs.map V.str) → Q (.ref it) (upd H it (ItTO l it))
section
variable {P : Program} {w : World} {K : PySem.W.Frag} {mg : Str → Option Value} {base : Heap} {C : Addr}
theorem ok_oiter (b_iter : mg "iter" = none) (D : SpT K C "__iter__" "Order.__iter__" s_oiter) (OT : OrdT K mg C) : ItrAt P w K mg base 1 C (spItr K C) := by
  obtain ⟨f, fd, hs, hf, F⟩ := D.ex
  refine ⟨f, fd, hs, hf, F.binds (fun _ _ _ _ _ _ us hl => match us, hl with | [_], _ => rfl), ?_⟩
  obtain ⟨oc, od, kV, doc, pm, an, cdv, ct, osl, rfl, lk, hcd⟩ := F.ex
  refine fnSz_of lk hcd sc_oiter (fun n vs H Q E h => ?_) fun A outer s H vs Q E hr h => ?_
  · obtain ⟨o, zs, ys, rfl, _⟩ := h
    rfl
  obtain ⟨o, zs, ys, rfl, ⟨dx, a, b, c, e, ha, hb, hc, ro⟩, k⟩ := h
  refine ⟨_, PSs.nox (pss_one (ps_ret (pe_callB call_iterTN (by rfl) b_iter (by decide +kernel) (pa_cons (pe_fld (pv 0) rfl) pa_nil)))), ?_⟩
  exact ⟨_, rfl, o, C, dx, _, _, rfl, e, OT.cl, OT.nA, ofs_a a b c, a, _, rfl, ha, fun it h1 h2 => k it a h1 h2 ha⟩
end
/-- an order walked -/
theorem own_use {K : PySem.W.Frag} {C o : Addr} {zs ys : List Str} {H : Hp} {R : It → Hp → Prop} (h : OrdAt K C H o zs ys) (q : ∀ l, SqT K H l (zs.map V.str) → R (Itt K l) H) :
    ∃ a dx fs, V.ref o = .ref a ∧ H a = some (.ins C dx fs) ∧ ∀ n, spItr K C n [.ref a] H (fun v H2 => ∃ it l, v = .ref it ∧ n ≤ it ∧ H2 it = some (ItTO l it) ∧ R (Itt K l) (ItX.dropH H2 it)) E0 := by
  obtain ⟨dx, a, b, c, e, _⟩ := id h
  refine ⟨o, dx, _, rfl, e, fun n => ⟨o, zs, ys, rfl, h, fun it l h1 h2 h3 => ⟨it, l, rfl, h2, upd_same, ?_⟩⟩⟩
  rw [ItX.dropH_upd h1]
  exact q l h3
end My
/-! len(x), v in x, v not in x: x of an own class with __len__, __contains__ -/
namespace My
open PySem PySem.Spec PyProof.Rows L2
section
variable {X : Cx} {CX : CXT} {k : Nat} {f C : Addr} {fd : FuncData} {ps : List Str} {sp : Sp} {E : XK}
def rLenOwn (C : Addr) (sp : Sp) (E : XK) : List V → Hp → VK → Prop := fun xs H Q => ∃ a dx fs, xs = [.ref a] ∧ H a = some (.ins C dx fs) ∧ sp [.ref a] H (fun v H' => ∃ n : Nat, v = .int (n : Nat) ∧ n ≤ 1000000 ∧ Q (.int (n : Nat)) H') E
theorem call_lenOwn (hs : PySem.W.findIn X.K (.ref C) "__len__" = some (some (.ref f))) (hf : PySem.W.isFn X.K (.ref f) = true) (F : FnOk X.prog X.w X.K X.mg X.base CX k f fd ps sp) (hr : Room (k + 1) X.A) (hb : Binds X.K fd ps []) (hx : Passes CX X E) : CallR X (.builtin "len") (rLenOwn C sp E) := by
  intro pins s σ H xs us Q I r h
  obtain ⟨a, dx, fs, rfl, ea, hsp⟩ := h
  rw [Vals.ref1 r]
  obtain ⟨mA, O, _⟩ := ins_get I.hok ea
  obtain ⟨od, J, _⟩ := O.look
  obtain ⟨m, hF⟩ := I.fr
  refine PySem.W.len_K hF I.ok.mod.kin J hs hf ?_
  refine wpAny_call ?_
  have hl : ([Value.ref a] : List Value).length = ps.length := F.len _ _ _ _ hsp
  have bd : BindsTo s fd ⟨[.ref a], []⟩ (ps.zip [.ref a]) := by
    have z := hb s [.ref a] I.kIn (by rw [List.append_nil]; exact hl)
    rw [List.append_nil] at z
    exact z
  refine codeAny_mono (F.run X.A.in1 X.stack s H ⟨[.ref a], []⟩ [.ref a] [.ref a] _ E hr.in1 I.env0.in1 bd (.cons rfl .nil) hsp) fun r2 s2 hq => ?_
  match r2, hq with
  | .error er, hq => exact hx pins σ H _ er s2 I hq
  | .ok (.ret u), hq =>
    obtain ⟨z, H', I', rz, n, ez, hn, q⟩ := I.after hq
    subst ez
    obtain ⟨t, rfl⟩ := rz
    exact ⟨⟨by omega, by omega⟩, .int (n : Nat), H', I'.tok _, ⟨_, rfl⟩, q⟩
/-- v in x -/
def rInOwn (C : Addr) (sp : Sp) (E : XK) (g : Bool → Bool) : R2 := fun y x H Q => ∃ a dx fs, x = .ref a ∧ H a = some (.ins C dx fs) ∧ sp [.ref a, y] H (fun v H' => ∃ b, v = .bl b ∧ Q (.bl (g b)) H') E
theorem op_inOwn (hs : PySem.W.findIn X.K (.ref C) "__contains__" = some (some (.ref f))) (hf : PySem.W.isFn X.K (.ref f) = true) (F : FnOk X.prog X.w X.K X.mg X.base CX k f fd ps sp) (hr : Room k X.A) (hb : Binds X.K fd ps []) (hx : Passes CX X E) : OpR X (compareOp .In) (rInOwn C sp E id) := by
  intro pins s σ H y x u v Q I ry rx h
  obtain ⟨a, dx, fs, rfl, ea, hsp⟩ := h
  cases rx
  obtain ⟨mA, O, _⟩ := ins_get I.hok ea
  obtain ⟨od, J, _⟩ := O.look
  obtain ⟨m, hF⟩ := I.fr
  refine PySem.W.in_K hF I.ok.mod.kin J hs hf ?_
  refine thn (run_fn (us := [.ref a, u]) (vs := [.ref a, y]) (dvs := []) (ds := []) F hr hb .nil hx I (.cons rfl (.cons ry .nil)) hsp) fun w s' hw => ?_
  obtain ⟨z, H', I', rz, b, ez, q⟩ := hw
  subst ez
  cases rz
  exact wpAny_truthy_bool ⟨.bl b, H', I', rfl, q⟩
theorem op_notInOwn (hs : PySem.W.findIn X.K (.ref C) "__contains__" = some (some (.ref f))) (hf : PySem.W.isFn X.K (.ref f) = true) (F : FnOk X.prog X.w X.K X.mg X.base CX k f fd ps sp) (hr : Room k X.A) (hb : Binds X.K fd ps []) (hx : Passes CX X E) : OpR X (compareOp .NotIn) (rInOwn C sp E not) := by
  intro pins s σ H y x u v Q I ry rx h
  obtain ⟨a, dx, fs, rfl, ea, hsp⟩ := h
  cases rx
  obtain ⟨mA, O, _⟩ := ins_get I.hok ea
  obtain ⟨od, J, _⟩ := O.look
  obtain ⟨m, hF⟩ := I.fr
  refine PySem.W.notIn_K hF I.ok.mod.kin J hs hf ?_
  refine thn (run_fn (us := [.ref a, u]) (vs := [.ref a, y]) (dvs := []) (ds := []) F hr hb .nil hx I (.cons rfl (.cons ry .nil)) hsp) fun w s' hw => ?_
  obtain ⟨z, H', I', rz, b, ez, q⟩ := hw
  subst ez
  cases rz
  exact wpAny_truthy_bool ⟨.bl (!b), H', I', rfl, q⟩
end
end My
/-! v in a tuple of texts, v of any kind -/
namespace My
open PySem PySem.Spec PyProof.Rows L2
open SeqAt MeetsSeq
open AutoSeq1 (wpAny_loadPart')
section
variable {prog : Program} {w : World} {A : Around} {s : Shared} {E : Value → Shared → Prop}
theorem str_declines_dict (b : Str) (u : Tok) (l : Addr) (es : Array DictEntry) (ep : Nat) (dd : Option Addr) (sl : Array (Option Value)) :
    Meets (Builtin.«str.__eq__» ⟨[.str b u, .ref l], []⟩) (fun _ R s => s.heap.get? l = some { cls := .type "dict", dict := dd, data := .dict es ep, slots := sl } ∧ R (.ok (.ret .notImplemented)) s) :=
  .of_wp fun prog w A R s h => by obtain ⟨hp, g, d, tk, os⟩ := s; obtain ⟨hl, h⟩ := h; wp_walk using wpAny_loadPart' hl, wpAny_load hl; exact ⟨_, rfl, h⟩
theorem rc_str_dict {l : Addr} {b : Str} {u : Tok} {es : Array DictEntry} {ep : Nat} {dd : Option Addr} {sl : Array (Option Value)} {Q : Value → Shared → Prop} (ho : s.heap.get? l = some { cls := .type "dict", dict := dd, data := .dict es ep, slots := sl }) (hu : A.units < cLine) (h : Q (.bool false) s) :
    wpAny (model prog w) A (richCompare .Eq (.str b u) (.ref l)) Q E s := by
  have hT : s.TypeIs (.ref l) "dict" := ⟨_, ho, rfl⟩
  refine SeqAt.rc_eq_decline_or (k := false) (typeIs_str s b u) hT (by decide) PySem.F.sub_dict_str PySem.F.slot_str_eq PySem.F.slot_dict_eq_refl
    (fun _ hq => call_meets PySem.F.slot_str_eq (typeIs_str s b u) PySem.F.entry_str_eq (PySem.F.args_str_eq_2 _ _) (str_declines_dict b u l es ep dd sl) ⟨ho, hq⟩)
    (fun Q' hq => ?_) (fun _ hq => wpAny_of_eq (rfl : isSame (.str b u) (.ref l) = pure false) hq) (.inr hu) h
  refine wpAny_call_entry PySem.F.slot_dict_eq_refl hT PySem.F.entry_dict_eq ?_ (PySem.F.args_dict_eq_2 _ _)
  show wpAny _ _ (Builtin.Dict.dictSlotArgs "__eq__" ⟨[.ref l, .str b u], []⟩ >>= _) _ _ s
  refine wpAny_bind ?_
  unfold Builtin.Dict.dictSlotArgs
  refine wpAny_bind (wpAny_notOrdered_dict hT ?_)
  refine wpAny_pure (wpAny_bind (wpAny_isInstance (T := "str") (typeIs_str s b u) PySem.F.sub_str_dict ?_))
  simp only [Bool.not_false, if_true]
  exact wpAny_bind (wpAny_rule (wpAny_pure ⟨_, rfl, hq⟩))
theorem eq_str_dict {l : Addr} (b : Str) (u : Tok) {es : Array DictEntry} {ep : Nat} {dd : Option Addr} {sl : Array (Option Value)} (ho : s.heap.get? l = some { cls := .type "dict", dict := dd, data := .dict es ep, slots := sl }) (hu : A.units < cLine) : EqAt A s (.str b u) (.ref l) false := fun prog w E Q h => by
  unfold eqBool
  refine wpAny_holding ?_
  refine wpAny_ite_split (fun hab => absurd (eq_of_beq hab) nofun) (fun _ => ?_)
  exact wpAny_bind (rc_str_dict ho hu (wpAny_truthy_bool h))
end
/-- kinds that are no text -/
inductive NoTx (K : PySem.W.Frag) (H : Hp) : V → Prop
  | non : NoTx K H .non
  | bl (b : Bool) : NoTx K H (.bl b)
  | int (i : Int) : NoTx K H (.int i)
  | lst {a : Addr} {xs : List V} (h : SqL K H a xs) : NoTx K H (.ref a)
  | tup {a : Addr} {xs : List V} (h : SqT K H a xs) : NoTx K H (.ref a)
  | dct {a : Addr} {kvs : List (Key × V)} (h : H a = some (.dK kvs)) : NoTx K H (.ref a)
theorem inV_strs (z : Str) : ∀ zs : List Str, inV (.str z) (zs.map V.str) = decide (z ∈ zs)
  | [] => rfl
  | y :: r => by
    unfold inV
    rw [List.map_cons, List.any_cons]
    have ih := inV_strs z r
    unfold inV at ih
    rw [ih, Bool.eq_iff_iff, Bool.or_eq_true, decide_eq_true_iff, decide_eq_true_iff, List.mem_cons]
    have e : eqV (.str y) (.str z) = true ↔ z = y := by
      show (y == z) = true ↔ z = y
      rw [beq_iff_eq]
      exact ⟨fun h => h.symm, fun h => h.symm⟩
    rw [e]
/-- v in a tuple of texts -/
def rInTx (K : PySem.W.Frag) : R2 := fun x y H Q => ∃ (p : Addr) (zs : List Str), y = .ref p ∧ SqT K H p (zs.map V.str) ∧ ((∃ z, x = .str z ∧ Q (.bl (decide (z ∈ zs))) H) ∨ (NoTx K H x ∧ Q (.bl false) H))
section
variable {X : Cx}
theorem op_inTx (hu : X.A.units + 1 < cLine) : OpR X (compareOp .In) (rInTx X.K) := by
  intro pins s σ H x y v u Q I rx ry h
  obtain ⟨p, zs, rfl, hq, h⟩ := h
  cases ry
  obtain ⟨its, r, pl, hz⟩ := I.tuple hq
  have isT : s.heap.IsTuple p its.toArray := by obtain ⟨o, ho, hcl, n, hd⟩ := pl; exact ⟨o, ho, hcl, n, hd⟩
  have tx : ∀ w ∈ its, ∃ z t, w = Value.str z t := fun w hw => by
    obtain ⟨j, hj, e⟩ := List.getElem_of_mem hw
    have hl : j < (zs.map V.str).length := by rw [r.length]; exact hj
    obtain ⟨u', hu', ru⟩ := r.get (i := j) (x := (zs.map V.str)[j]) (List.getElem?_eq_getElem hl)
    rw [List.getElem?_eq_getElem hj] at hu'
    cases hu'
    rw [List.getElem_map] at ru
    obtain ⟨t, et⟩ := ru
    exact ⟨_, t, by rw [← e, et]⟩
  have hu' : X.A.in1.units < cLine := by
    have : X.A.in1.units = X.A.units + 1 ∨ X.A.in1.units = X.A.units := by first | exact .inl rfl | exact .inr rfl
    omega
  rcases h with ⟨z, rfl, q⟩ | ⟨nt, q⟩
  · exact op_in_seq pins s σ H (.str z) (.ref p) _ (.ref p) Q I rx rfl ⟨p, _, rfl, .inr hq, rfl, by rw [List.all_map]; exact List.all_eq_true.mpr fun _ _ => rfl, by rw [inV_strs]; exact q⟩
  · refine SeqAt.in_tupleAt (fun _ => false) isT (fun w hw => ?_) ⟨.bl false, H, I, by rw [show its.toArray.any (fun _ => false) = false by simp]; rfl, q⟩
    obtain ⟨z, t, rfl⟩ := tx w (by simpa using hw)
    cases nt with
    | non => cases rx; exact EqAt.str_none z t
    | bl b => cases rx; exact EqAt.str_bool z t b
    | int i => obtain ⟨t2, rfl⟩ := rx; exact EqAt.str_int z t i t2
    | lst hl => cases rx; obtain ⟨its2, _, pl2, _⟩ := I.list hl; exact EqAt.str_list z t pl2.isList hu'
    | tup hl => cases rx; obtain ⟨its2, _, pl2, _⟩ := I.tuple hl; exact EqAt.str_tuple z t pl2 hu'
    | dct hd =>
      cases rx
      obtain ⟨_, _, vs, _, o, es, ep, ho, hex, hd2, _⟩ := (show ObjOk X.prog X.w H s.heap _ (.dK _) from I.hok _ _ hd)
      obtain ⟨cls, dd, data, sl⟩ := o
      have hc : cls = .type "dict" := hex.1
      have hd' : data = .dict es ep := hd2
      subst hc hd'
      exact eq_str_dict z t ho hu'
end
end My
namespace My
open PySem PySem.Spec PyProof.Rows L2
local macro_rules | `(tactic| walk_at "side") => `(tactic| first | assumption | decide | exact Or.inl ⟨by decide, by decide⟩ | exact Or.inr ⟨by decide, by decide⟩ | exact ⟨by decide, by decide, by decide⟩ | omega | (unfold CMulW; decide +kernel) | (dsimp only; first | assumption | omega | decide +kernel) | exact len_ok (Nat.le_of_ble_eq_true rfl) | fail "side")
local macro_rules | `(tactic| walk_at "rd") => `(tactic| first
  | refine ⟨_, _, _, _, rfl, rfl, SqL.of upd_same, atI_nat (j := 0) rfl, ?_⟩ | refine ⟨_, _, _, _, rfl, rfl, SqL.of upd_same, atI_nat (j := 1) rfl, ?_⟩ | refine ⟨_, _, _, _, rfl, rfl, SqL.of upd_same, atI_nat (j := 2) rfl, ?_⟩
  | refine ⟨_, _, _, _, rfl, rfl, upd_same, rfl, ?_⟩
  | refine ⟨_, _, rfl, rfl, ?_⟩ | refine ⟨_, rfl, ?_⟩ | refine ⟨_, _, rfl, ?_⟩ | refine Or.inl ⟨_, rfl, ?_⟩ | refine Or.inr ⟨_, rfl, ?_⟩ | refine ⟨(by walk_at "side"), ?_⟩ | fail "rd")

abbrev s_iscourse : Stmt := top 30
theorem sc_iscourse : FnScope ["value", "kind"] ["value"] (defScope s_iscourse) := ⟨rfl, rfl, rfl, by decide +kernel, rfl, by decide +kernel, by decide +kernel⟩
abbrev s_arewhole : Stmt := top 24
theorem sc_arewhole : FnScope ["upper", "lower"] ["upper", "lower"] (defScope s_arewhole) := ⟨rfl, rfl, rfl, by decide +kernel, rfl, by decide +kernel, by decide +kernel⟩
abbrev s_follow : Stmt := top 31
theorem sc_follow : FnScope ["order", "course", "upper", "lower", "rows", "is_whole", "kind"] ["order", "course"] (defScope s_follow) := ⟨rfl, rfl, rfl, by decide +kernel, rfl, by decide +kernel, by decide +kernel⟩
def kS (k : Bool) : Str := if k then "upper" else "lower"
structure CourC (K : PySem.W.Frag) (mg : Str → Option Value) : Prop where
  KD : ∃ q : Addr, mg "KINDS" = some (.ref q) ∧ ∀ H : Hp, SqT K H q ([("upper" : Str), "lower", "even"].map V.str)
  MC : ∃ t, mg "MAX_COURSE" = some (.int 4000 t)
def kVs (ks : List Bool) : List V := ks.map fun k => .str (kS k)
def spIsC (K : PySem.W.Frag) : Sp := fun vs H Q _ => ∃ (c : Addr) (ks : List Bool), vs = [.ref c] ∧ SqT K H c (kVs ks) ∧ ks.length ≤ 1000 ∧ ∀ H', Ext H H' → Q (.bl true) H'
def spNo : Sp := fun _ _ _ _ => False
def rws : List Bool → List Str × List Str → List (Str × Str × Str)
  | [], _ => []
  | k :: ks, r => (kS k, lastS r.1, lastS r.2) :: rws ks (led1 k r)
theorem leds_snoc (ks : List Bool) (k : Bool) (r : List Str × List Str) : leds (ks ++ [k]) r = led1 k (leds ks r) := by
  unfold leds
  rw [List.foldl_append]
  rfl
theorem rws_snoc : ∀ (ks : List Bool) (k : Bool) (r : List Str × List Str), rws (ks ++ [k]) r = rws ks r ++ [(kS k, lastS (leds ks r).1, lastS (leds ks r).2)]
  | [], _, _ => rfl
  | j :: ks, k, r => by
    rw [List.cons_append, rws, rws, rws_snoc ks k]
    rfl
theorem rws_len : ∀ (ks : List Bool) (r : List Str × List Str), (rws ks r).length = ks.length
  | [], _ => rfl
  | k :: ks, r => by rw [rws, List.length_cons, rws_len ks, List.length_cons]
/-- a row of new triples of texts -/
def RowL (H : Hp) (acc : List V) (l : List (Str × Str × Str)) : Prop := acc.length = l.length ∧ ∀ (i : Nat) (v : V), acc[i]? = some v → ∃ (q : Addr) (u : Str × Str × Str), v = V.ref q ∧ l[i]? = some u ∧ H q = some (.tup [.str u.1, .str u.2.1, .str u.2.2])
theorem RowL.nil {H : Hp} : RowL H [] [] := ⟨rfl, fun i v h => by simp at h⟩
theorem RowL.ext {H H' : Hp} {acc : List V} {l : List (Str × Str × Str)} (h : RowL H acc l) (e : ∀ q xs, H q = some (.tup xs) → H' q = some (.tup xs)) : RowL H' acc l := ⟨h.1, fun i v hi => let ⟨q, u, a, b, c⟩ := h.2 i v hi; ⟨q, u, a, b, e _ _ c⟩⟩
theorem RowL.snoc {H : Hp} {acc : List V} {l : List (Str × Str × Str)} {q : Addr} {u : Str × Str × Str} (h : RowL H acc l) (hq : H q = some (.tup [.str u.1, .str u.2.1, .str u.2.2])) : RowL H (acc ++ [.ref q]) (l ++ [u]) :=
  ⟨by rw [List.length_append, List.length_append, h.1]; rfl, fun i v hi => by
    by_cases hl : i < acc.length
    · rw [List.getElem?_append_left hl] at hi
      obtain ⟨q', u', a, b, c⟩ := h.2 i v hi
      exact ⟨q', u', a, by rw [List.getElem?_append_left (by rw [← h.1]; exact hl)]; exact b, c⟩
    · rw [List.getElem?_append_right (by omega)] at hi
      have e : i - acc.length = 0 := by
        have := (List.getElem?_eq_some_iff.mp hi).1
        simp at this
        omega
      rw [e] at hi
      cases hi
      exact ⟨q, u, rfl, by rw [List.getElem?_append_right (by rw [← h.1]; omega), ← h.1, e]; rfl, hq⟩⟩
section
variable {P : Program} {w : World} {K : PySem.W.Frag} {mg : Str → Option Value} {base : Heap} {C : Addr}
theorem ok_iscourse (T : Bn mg) (CC : CourC K mg) (D : DefAt K mg "is_course" s_iscourse) : FnAt P w K mg base 1 "is_course" ["value"] (spIsC K) := by
  obtain ⟨qK, g_KINDS, hK⟩ := CC.KD
  obtain ⟨_, g_MAX_COURSE⟩ := CC.MC
  refine fnAt D sc_iscourse (fun _ _ _ _ _ _ us hl => match us, hl with | [_], _ => rfl) (fun vs H Q E h => ?_) fun f cdv A outer s H vs Q E hr h => ?_
  · obtain ⟨c, ks, rfl, _⟩ := h
    rfl
  obtain ⟨c, ks, rfl, hc, hz, k⟩ := h
  have lk : (kVs ks).length = ks.length := by unfold kVs; rw [List.length_map]
  refine ⟨_, (pss_one (ps_ret (pe_and (pe_callB call_isi (by rfl) T.b_isinstance (by decide +kernel) (pa_cons (pv 0) (pa_cons (pe_bltn (v := .ty "tuple") (by rfl) T.b_tuple (by decide +kernel) rfl) pa_nil))) (pe_and (pe_cmpR op_le (pe_callB call_len_seq (by rfl) T.b_len (by decide +kernel) (pa_cons (pv 0) pa_nil)) (pe_glob (v := .int 4000) rfl g_MAX_COURSE ⟨_, rfl⟩) (nomark _)) (pe_one (pe_callB (cr_all rfl) (by rfl) T.b_all (by decide +kernel) (pa_cons (pe_lc (own := [("kind", 1)]) (g := gName 1) (tt := tYes) rfl sc_iscourse.nd (pi_tup (pv 0)) (blkOk_by (N := ["value", "kind"]) (sc := defScope s_iscourse) (by decide +kernel)) (fun _ _ _ _ _ => pg_name (i := 1) sc_iscourse.nd rfl (Or.inl rfl)) (fun _ _ _ _ _ => pts_nil) (fun _ _ _ _ _ => (pe_cmpR (show OpR _ _ (rIn K false) from op_in_seq) (pv 1) (pe_glob (v := .ref qK) rfl g_KINDS rfl) rfl))) pa_nil))))))), ?_⟩
  refine ⟨_, rfl, _, _, _, _, true, rfl, .ty _, tyTup hc, kit_tuptup', _, rfl, iteT ?_⟩
  refine ⟨_, rfl, c, _, rfl, .inr hc, _, _, rfl, rfl, _, rfl, ?_⟩
  rw [if_pos (decide_eq_true (show (((kVs ks).length : Nat) : Int) ≤ 4000 by omega))]
  refine ⟨_, rfl, c, rfl, ⟨_, hc⟩, fun D hD => map_tup (xs := kVs ks) (fun _ _ => .bl true) hc hD (by omega) (fun _ => rfl) (fun i v H' hi e Q' k' => ?_) fun H' e hl => ?_⟩
  · unfold kVs at hi
    rw [List.getElem?_map] at hi
    obtain ⟨b, hb, rfl⟩ := Option.map_eq_some_iff.mp hi
    refine ⟨_, rfl, qK, _, rfl, .inr (hK H'), rfl, rfl, ?_⟩
    have e1 : inV (.str (kS b)) ([("upper" : Str), "lower", "even"].map V.str) = true := by
      rw [inV_strs]
      cases b <;> decide +kernel
    rw [e1]
    exact k' H' (ext_refl _)
  · refine ⟨D, (ks.map fun _ => true), rfl, SqL.of ?_, ?_⟩
    · rw [hl]
      congr 2
      unfold kVs
      apply List.ext_getElem?
      intro i
      simp only [List.getElem?_mapIdx, List.getElem?_map, Option.map_map]
      rfl
    · have e1 : (ks.map fun _ => true).all id = true := by rw [List.all_map]; exact List.all_eq_true.mpr fun _ _ => rfl
      rw [e1]
      exact k H' e
theorem ok_arewhole (D : DefAt K mg "are_whole" s_arewhole) : FnAt P w K mg base 1 "are_whole" ["upper", "lower"] spNo := by
  refine fnAt D sc_arewhole (fun _ _ _ _ _ _ us hl => match us, hl with | [_, _], _ => rfl) (fun vs H Q E h => h.elim) fun f cdv A outer s H vs Q E hr h => h.elim
def spFol (K : PySem.W.Frag) (C : Addr) : Sp := fun vs H Q _ => ∃ (o c : Addr) (zs ys : List Str) (ks : List Bool), vs = [.ref o, .ref c] ∧ OrdAt K C H o zs ys ∧ SqT K H c (kVs ks) ∧ (Whl zs ys ∨ ks = []) ∧ ks.length ≤ 1000 ∧
  ∀ t A B R acc H', Ext H H' → H' t = some (.tup [.ref A, .ref B, .ref R]) → H' A = some (.lst ((leds ks (zs, ys)).1.map V.str)) → H' B = some (.lst ((leds ks (zs, ys)).2.map V.str)) → H' R = some (.lst acc) → RowL H' acc (rws ks (zs, ys)) → Q (.ref t) H'
theorem ok_follow (T : Bn mg) (OT : OrdT K mg C) (KN : KindC mg) (D : DefAt K mg "follow_course" s_follow) (F_is_course : FnAt P w K mg base 1 "is_course" ["value"] (spIsC K)) (F_are_whole : FnAt P w K mg base 1 "are_whole" ["upper", "lower"] spNo)
    (F_turn_rows : FnAt P w K mg base 1 "turn_rows" ["upper", "lower", "kind"] spTurn) (P_above : PropAt P w K mg base 1 C "above" (spGetT K C fun zs _ => zs.map V.str)) (P_below : PropAt P w K mg base 1 C "below" (spGetT K C fun _ ys => ys.map V.str))
    (P_is_whole : PropAt P w K mg base 2 C "is_whole" (spWhole K C)) : FnAt P w K mg base 4 "follow_course" ["order", "course"] (spFol K C) := by
  obtain ⟨_, g_EVEN⟩ := KN.EV
  refine fnAt D sc_follow (fun _ _ _ _ _ _ us hl => match us, hl with | [_, _], _ => rfl) (fun vs H Q E h => ?_) fun f cdv A outer s H vs Q E hr h => ?_
  · obtain ⟨o, c, zs, ys, ks, rfl, _⟩ := h
    rfl
  obtain ⟨o, c, zs, ys, ks, rfl, oa, hc, wh, hz, k⟩ := h
  obtain ⟨dx, a, b, cc, e, ha, hb, hcc, ro⟩ := id oa
  refine ⟨_, (pss_cons (ps_if (pt_not (pt_val (callA F_is_course (hr.mono (by decide)) rfl (pa_cons (pv 1) pa_nil)))) (pss_one ps_never) pss_nil)
    (pss_cons (ps_par3 (i := 2) (j := 3) (l := 4) rfl sc_follow.nd rfl rfl rfl (by decide) (by decide) (by decide) rfl rfl rfl (pa_cons (pe_callTy call_list_of (by rfl) T.b_list (by decide +kernel) (pa_cons (propA P_above OT.cl (hr.mono (by decide)) (pv 0)) pa_nil)) (pa_cons (pe_callTy call_list_of (by rfl) T.b_list (by decide +kernel) (pa_cons (propA P_below OT.cl (hr.mono (by decide)) (pv 0)) pa_nil)) (pa_cons (pe_lst pa_nil) pa_nil))) (by rfl))
    (pss_cons (ps_set (i := 5) sc_follow.nd rfl (Or.inl rfl) (propA P_is_whole OT.cl (hr.mono (by decide)) (pv 0)))
    (pss_cons (ps_for PassesOwn.never rfl (pi_tup (pv 1)) (pg_name (i := 6) sc_follow.nd rfl (Or.inl rfl))
      (pss_cons (ps_if (pt_not (pt_val (pv 5))) (pss_one ps_never) pss_nil)
    (pss_cons (ps_expr (pe_bm PySem.F.plainAttrs_list PySem.F.slot_list_append PySem.F.type_list_append mt_append (pv 4) (pa_cons (pe_tup (pa_cons (pv 6) (pa_cons (pe_ix ix_list (pv 2) (pe_un un_neg pe_int) (fun _ _ => rfl)) (pa_cons (pe_ix ix_list (pv 3) (pe_un un_neg pe_int) (fun _ _ => rfl)) pa_nil)))) pa_nil)))
    (pss_cons (ps_expr (callA F_turn_rows (hr.mono (by decide)) rfl (pa_cons (pv 2) (pa_cons (pv 3) (pa_cons (pv 6) pa_nil)))))
    (pss_one (ps_set (i := 5) sc_follow.nd rfl (Or.inl rfl) (pe_or (pe_cmpR op_ne (pv 6) (pe_glob (v := .str "even") rfl g_EVEN ⟨_, rfl⟩) (nomark _)) (pe_one (callA F_are_whole (hr.mono (by decide)) rfl (pa_cons (pv 2) (pa_cons (pv 3) pa_nil)))))))))))
    (pss_one (ps_ret (pe_tup (pa_cons (pv 2) (pa_cons (pv 3) (pa_cons (pv 4) pa_nil)))))))))), ?_⟩
  refine ⟨_, rfl, c, ks, rfl, hc, hz, fun H1 e1 => ⟨_, rfl, iteF ?_⟩⟩
  refine ⟨_, rfl, o, dx, _, rfl, e1 _ _ e, o, zs, ys, rfl, oa.ext e1, fun a1 ha1 => ⟨a1, _, rfl, .inr ha1, fun A hA => ?_⟩⟩
  have xA := ext_new (o := HO.lst (zs.map V.str)) (ext_refl H1) hA
  refine ⟨_, rfl, o, dx, _, rfl, xA _ _ (e1 _ _ e), o, zs, ys, rfl, (oa.ext e1).ext xA, fun b1 hb1 => ⟨b1, _, rfl, .inr hb1, fun B hB => ?_⟩⟩
  have xB := ext_new (o := HO.lst (ys.map V.str)) (ext_refl _) hB
  refine ⟨len_ok (Nat.le_of_ble_eq_true rfl), fun R hR => ⟨_, _, _, rfl, ?_⟩⟩
  have xR := ext_new (o := HO.lst []) (ext_refl _) hR
  have hA2 := xR _ _ (xB _ _ upd_same)
  have hB2 := xR _ _ upd_same
  have x2 : Ext H _ := ((e1.trans xA).trans xB).trans xR
  have nA : H A = none := ext_none e1 hA
  have nB : H B = none := ext_none (e1.trans xA) hB
  have nR : H R = none := ext_none ((e1.trans xA).trans xB) hR
  have AB : A ≠ B := ne_of_none upd_same hB
  have AR : A ≠ R := ne_of_none (xB _ _ upd_same) hR
  have BR : B ≠ R := ne_of_none upd_same hR
  refine ⟨_, rfl, o, dx, _, rfl, x2 _ _ e, o, zs, ys, rfl, oa.ext x2, fun H4 e4 => ?_⟩
  have x4 := x2.trans e4
  have lk : (kVs ks).length = ks.length := by unfold kVs; rw [List.length_map]
  have wk : Walk (Itt K c) ks.length (fun H => SqT K H c (kVs ks)) (YAt (kVs ks)) := by
    have z := walk_tup (K := K) (a := c) (xs := kVs ks)
    rwa [lk] at z
  refine ⟨_, rfl, c, rfl, ⟨_, hc.ext x4⟩, for_it wk (fun i σ' H' => ∃ (acc : List V) (wb : Bool) (u : Option V), σ' = [some (.ref o), some (.ref c), some (.ref A), some (.ref B), some (.ref R), some (.bl wb), u] ∧ (i < ks.length → wb = true) ∧ Ext H H' ∧
      H' A = some (.lst ((leds (ks.take i) (zs, ys)).1.map V.str)) ∧ H' B = some (.lst ((leds (ks.take i) (zs, ys)).2.map V.str)) ∧ H' R = some (.lst acc) ∧ RowL H' acc (rws (ks.take i) (zs, ys)))
    ⟨[], wholeB zs ys, none, rfl, fun h0 => ?_, x4, e4 _ _ hA2, e4 _ _ hB2, e4 _ _ upd_same, .nil⟩ (fun i σ' H' _ p => ?_) (fun i x σ' H5 H6 hi p y => ?_) fun σ' H' p => ?_⟩
  · rcases wh with wh | wh
    · exact wh.whole
    · rw [wh] at h0
      cases h0
  · obtain ⟨acc, wb, u, _, _, ex, _⟩ := p
    exact hc.ext ex
  · obtain ⟨rfl, hx⟩ := y
    obtain ⟨acc, wb, u, rfl, pw, p1, p2, p3, p4, p5⟩ := p
    obtain rfl := pw hi
    unfold kVs at hx
    rw [List.getElem?_map] at hx
    obtain ⟨kd, hk, rfl⟩ := Option.map_eq_some_iff.mp hx
    have wl : Whl (leds (ks.take i) (zs, ys)).1 (leds (ks.take i) (zs, ys)).2 := by
      rcases wh with wh | wh
      · exact Whl.leds (r := (zs, ys)) wh
      · rw [wh] at hi
        cases hi
    generalize hrr : leds (ks.take i) (zs, ys) = rr at p2 p3 wl
    obtain ⟨us, ls⟩ := rr
    dsimp only at p2 p3 wl
    refine ⟨_, rfl, _, rfl, iteF ?_⟩
    refine ⟨_, rfl, .inl ⟨rfl, _, SqL.of p4⟩, _, rfl, _, rfl, _, rfl, _, _, _, _, rfl, rfl, SqL.of p2, atI_last wl.nu, ?_⟩
    refine ⟨_, rfl, _, rfl, _, _, _, _, rfl, rfl, SqL.of p3, atI_last wl.nl, ?_⟩
    refine ⟨len_ok (Nat.le_of_ble_eq_true rfl), fun q hq => ?_⟩
    have x7 := ext_new (o := HO.tup [V.str (kS kd), V.str (lastS us), V.str (lastS ls)]) (ext_refl H6) hq
    have la : acc.length ≤ 1000 := by
      rw [p5.1, rws_len, List.length_take]
      omega
    refine ⟨R, acc, _, rfl, rfl, x7 _ _ p4, len_lt la, ?_⟩
    have lu : us.length ≤ 1000 := by have := wl.ro.le; omega
    have ll : ls.length ≤ 1000 := by have := wl.ro.le; have := wl.ro.len; omega
    have hA7 : upd (upd H6 q (HO.tup [V.str (kS kd), V.str (lastS us), V.str (lastS ls)])) R (.lst (acc ++ [.ref q])) A = some (.lst (us.map V.str)) := by
      rw [upd_ne AR]
      exact x7 _ _ p2
    have hB7 : upd (upd H6 q (HO.tup [V.str (kS kd), V.str (lastS us), V.str (lastS ls)])) R (.lst (acc ++ [.ref q])) B = some (.lst (ls.map V.str)) := by
      rw [upd_ne BR]
      exact x7 _ _ p3
    have e7 : Ext H (upd (upd H6 q (HO.tup [V.str (kS kd), V.str (lastS us), V.str (lastS ls)])) R (.lst (acc ++ [.ref q]))) := ext_mut (p1.trans x7) nR
    have r7 : RowL (upd (upd H6 q (HO.tup [V.str (kS kd), V.str (lastS us), V.str (lastS ls)])) R (.lst (acc ++ [.ref q]))) (acc ++ [.ref q]) (rws (ks.take (i + 1)) (zs, ys)) := by
      rw [take_next hk, rws_snoc, hrr]
      refine ((p5.ext (fun q' xs h => x7 _ _ h)).snoc (u := (kS kd, lastS us, lastS ls)) upd_same).ext fun q' xs h => ?_
      rw [upd_ne fun z => by rw [z, x7 _ _ p4] at h; cases h]
      exact h
    have hR7 : upd (upd H6 q (HO.tup [V.str (kS kd), V.str (lastS us), V.str (lastS ls)])) R (.lst (acc ++ [.ref q])) R = some (.lst (acc ++ [.ref q])) := upd_same
    generalize upd (upd H6 q (HO.tup [V.str (kS kd), V.str (lastS us), V.str (lastS ls)])) R (.lst (acc ++ [.ref q])) = H7 at hA7 hB7 e7 r7 hR7 ⊢
    have nx : leds (ks.take (i + 1)) (zs, ys) = led1 kd (us, ls) := by rw [take_next hk, leds_snoc, hrr]
    have nev : (!decide (V.str (kS kd) = .str "even")) = true := by cases kd <;> decide +kernel
    have fin : ∀ (Z : Addr) (H8 : Hp), H Z = none → (Z ≠ R) → (∀ x, H7 Z = some x → ∃ l, x = .lst l) → (∃ x, H7 Z = some x) → (∀ c, c ≠ Z → H8 c = H7 c) → Ext H H8 ∧ H8 R = some (.lst (acc ++ [.ref q])) ∧ RowL H8 (acc ++ [.ref q]) (rws (ks.take (i + 1)) (zs, ys)) := fun Z H8 nZ ZR tl ex same => by
      refine ⟨fun c o' h => ?_, ?_, r7.ext fun q' xs h => ?_⟩
      · rw [same c (ne_of_none h nZ)]
        exact e7 _ _ h
      · rw [same R (Ne.symm ZR)]
        exact hR7
      · rw [same q' fun z => ?_]
        · exact h
        · rw [z] at h
          obtain ⟨l, el⟩ := tl _ h
          cases el
    have lstA : ∀ x, H7 A = some x → ∃ l, x = HO.lst l := fun x h => by rw [hA7] at h; exact ⟨_, (Option.some.inj h).symm⟩
    have lstB : ∀ x, H7 B = some x → ∃ l, x = HO.lst l := fun x h => by rw [hB7] at h; exact ⟨_, (Option.some.inj h).symm⟩
    refine ⟨_, rfl, _, rfl, _, rfl, A, B, us, ls, kS kd, rfl, AB, hA7, hB7, wl.nu, wl.nl, lu, ll, ?_⟩
    cases kd with
    | true =>
      refine .inl ⟨rfl, wl.memU, fun H8 same h8 => ?_⟩
      obtain ⟨f1, f2, f3⟩ := fin B H8 nB BR lstB ⟨_, hB7⟩ same
      refine ⟨_, rfl, rfl, _, rfl, ?_⟩
      rw [nev]
      refine iteT ⟨_, true, _, rfl, fun _ => rfl, f1, ?_, ?_, f2, f3⟩
      · rw [nx, same A AB, hA7]
        rfl
      · rw [nx, h8]
        rfl
    | false =>
      refine .inr ⟨rfl, wl.memL, fun H8 same h8 => ?_⟩
      obtain ⟨f1, f2, f3⟩ := fin A H8 nA AR lstA ⟨_, hA7⟩ same
      refine ⟨_, rfl, rfl, _, rfl, ?_⟩
      rw [nev]
      refine iteT ⟨_, true, _, rfl, fun _ => rfl, f1, ?_, ?_, f2, f3⟩
      · rw [nx, h8]
        rfl
      · rw [nx, same B (Ne.symm AB), hB7]
        rfl
  · obtain ⟨acc, wb, u, rfl, _, p1, p2, p3, p4, p5⟩ := p
    rw [List.take_length] at p2 p3 p5
    refine ⟨_, rfl, _, rfl, _, rfl, len_ok (Nat.le_of_ble_eq_true rfl), fun t ht => ?_⟩
    have x9 := ext_new (o := HO.tup [V.ref A, V.ref B, V.ref R]) (ext_refl H') ht
    exact k t A B R acc _ (p1.trans x9) upd_same (x9 _ _ p2) (x9 _ _ p3) (x9 _ _ p4) (p5.ext fun q xs h => x9 _ _ h)
end
end My
/-! rounds seen by places -/
namespace My
open PySem PySem.Spec L2
theorem pos_of {l : List Str} (nd : l.Nodup) {i : Nat} {z : Str} (h : l[i]? = some z) : pos l z = i := by
  obtain ⟨hi, e⟩ := List.getElem?_eq_some_iff.mp h
  rw [← e]
  exact pos_at nd hi
theorem putAt_get {l : List Str} {x y : Str} (h : x ∈ l) (m : Nat) : (putAt l x y)[m]? = if m ≤ pos l x then l[m]? else if m = pos l x + 1 then some y else l[m - 1]? := by
  have pl := pos_lt h
  unfold putAt
  rw [List.append_assoc, List.getElem?_append, List.length_take, Nat.min_eq_left (by omega)]
  by_cases a : m ≤ pos l x
  · rw [if_pos (by omega), if_pos a, List.getElem?_take_of_lt (by omega)]
  · rw [if_neg (by omega), if_neg a, List.singleton_append]
    by_cases b : m = pos l x + 1
    · rw [if_pos b, b, Nat.sub_self]
      rfl
    · rw [if_neg b]
      obtain ⟨k, rfl⟩ : ∃ k, m = pos l x + 1 + (k + 1) := ⟨m - (pos l x + 2), by omega⟩
      have e1 : pos l x + 1 + (k + 1) - (pos l x + 1) = k + 1 := by omega
      rw [e1, List.getElem?_cons_succ, List.getElem?_drop]
      congr 1
theorem drop_get {l : List Str} {m : Nat} (h : m + 1 < l.length) : l.dropLast[m]? = l[m]? := by
  rw [List.dropLast_eq_take, List.getElem?_take_of_lt (by omega)]
theorem pos_drop {l : List Str} (nd : l.Nodup) (h : l ≠ []) {x : Str} (m : x ∈ l.dropLast) : pos l.dropLast x = pos l x := by
  have pl := pos_lt m
  have g := pos_get m
  rw [List.length_dropLast] at pl
  rw [drop_get (by omega)] at g
  exact (pos_of nd g).symm
theorem last_get {l : List Str} (h : l ≠ []) : l[l.length - 1]? = some (lastS l) := by
  rw [← List.getLast?_eq_getElem?]
  unfold lastS
  rw [List.getLastD_eq_getLast?, List.getLast?_eq_some_getLast h]
  rfl
theorem pos_last {l : List Str} (nd : l.Nodup) (h : l ≠ []) : pos l (lastS l) = l.length - 1 := pos_of nd (last_get h)
/-- the place of a name behind an upper round -/
theorem pos_ledU {us ls : List Str} (h : Whl us ls) {z : Str} (hz : z ∈ us) : pos (ledU us ls) z = if z = lastS ls then pos ls (lastS us) + 1 else if pos ls z ≤ pos ls (lastS us) then pos ls z else pos ls z + 1 := by
  have nd : (ledU us ls).Nodup := h.ledU.ro.symm.nd
  have mU := h.memU
  have mz : z ∈ ls := h.ro.pm.mem_iff.mpr hz
  have ndl := h.ro.symm.nd
  have e0 := pos_drop ndl h.nl mU
  have plU := pos_lt mU
  rw [List.length_dropLast, e0] at plU
  have pz := pos_lt mz
  have gz := pos_get mz
  unfold ledU at nd ⊢
  by_cases b : z = lastS ls
  · rw [if_pos b]
    refine pos_of nd ?_
    rw [putAt_get mU, e0, if_neg (by omega), if_pos rfl, b]
  · rw [if_neg b]
    have lt : pos ls z + 1 < ls.length := by
      refine Classical.byContradiction fun n => b ?_
      have e : pos ls z = ls.length - 1 := by omega
      rw [e, last_get h.nl] at gz
      exact (Option.some.inj gz).symm
    by_cases c : pos ls z ≤ pos ls (lastS us)
    · rw [if_pos c]
      refine pos_of nd ?_
      rw [putAt_get mU, e0, if_pos c, drop_get lt, gz]
    · rw [if_neg c]
      refine pos_of nd ?_
      rw [putAt_get mU, e0, if_neg (by omega), if_neg (by omega), Nat.add_sub_cancel, drop_get lt, gz]
/-! ### the places' own rounds -/
def ptsU (P : List Int) (q : Int) (j : Nat) : List Int := (P.map fun p => if p ≤ q then p else p + 1).set j (q + 1)
def ptsL (P : List Int) (q : Int) (j : Nat) : List Int := P.take (j + 1) ++ [q] ++ P.dropLast.drop (j + 1)
def pts (k : Bool) (P : List Int) (q : Int) (j : Nat) : List Int := if k then ptsU P q j else ptsL P q j
theorem plc_get (us ls : List Str) (i : Nat) : (plc us ls)[i]? = us[i]?.map fun z => ((pos ls z : Nat) : Int) := by unfold plc; rw [List.getElem?_map]
theorem plcU {us ls : List Str} (h : Whl us ls) : plc us (ledU us ls) = ptsU (plc us ls) ((pos ls (lastS us) : Nat) : Int) (pos us (lastS ls)) := by
  have mB : lastS ls ∈ us := h.ro.pm.mem_iff.mp (last_mem h.nl)
  have pB := pos_lt mB
  have gB := pos_get mB
  apply List.ext_getElem?
  intro i
  unfold ptsU
  rw [List.getElem?_set, List.length_map, plc_len, List.getElem?_map, plc_get, plc_get]
  by_cases c : pos us (lastS ls) = i
  · rw [if_pos c, if_pos (by omega), ← c, gB, Option.map_some, pos_ledU h mB, if_pos rfl]
    rfl
  · rw [if_neg c]
    cases hz : us[i]? with
    | none => rfl
    | some z =>
      have mz : z ∈ us := List.mem_of_getElem? hz
      have nb : z ≠ lastS ls := fun e => c (by rw [← e]; exact pos_of h.ro.nd hz)
      simp only [Option.map_some]
      rw [pos_ledU h mz, if_neg nb]
      congr 1
      split <;> split <;> omega
theorem plcL {us ls : List Str} (h : Whl us ls) : plc (ledL us ls) ls = ptsL (plc us ls) ((pos ls (lastS us) : Nat) : Int) (pos us (lastS ls)) := by
  have mL := h.memL
  have e0 := pos_drop h.ro.nd h.nu mL
  have pl := pos_lt mL
  rw [List.length_dropLast, e0] at pl
  unfold ptsL ledL putAt plc
  rw [e0, List.map_append, List.map_append, List.map_take, List.map_drop, List.map_dropLast, List.dropLast_eq_take, List.length_map, List.take_take, Nat.min_eq_left (by omega)]
  rfl
theorem plc_led {us ls : List Str} (h : Whl us ls) (k : Bool) : plc (led1 k (us, ls)).1 (led1 k (us, ls)).2 = pts k (plc us ls) ((pos ls (lastS us) : Nat) : Int) (pos us (lastS ls)) := by
  cases k with
  | true => exact plcU h
  | false => exact plcL h
theorem plc_last {us ls : List Str} (h : Whl us ls) : (plc us ls)[us.length - 1]? = some ((pos ls (lastS us) : Nat) : Int) := by
  rw [plc_get, last_get h.nu]
  rfl
/-- where the greatest place stands -/
theorem plc_top {us ls : List Str} (h : Whl us ls) : (plc us ls)[pos us (lastS ls)]? = some ((us.length : Int) - 1) ∧ ∀ m v, m < pos us (lastS ls) → (plc us ls)[m]? = some v → v ≠ (us.length : Int) - 1 := by
  have mB : lastS ls ∈ us := h.ro.pm.mem_iff.mp (last_mem h.nl)
  have hl := h.ro.len
  have n1 := h.two
  refine ⟨?_, fun m v hm hv e => ?_⟩
  · rw [plc_get, pos_get mB, Option.map_some, pos_last h.ro.symm.nd h.nl]
    congr 1
    omega
  · rw [plc_get] at hv
    obtain ⟨z, hz, rfl⟩ := Option.map_eq_some_iff.mp hv
    have mz : z ∈ ls := h.ro.pm.mem_iff.mpr (List.mem_of_getElem? hz)
    have g := pos_get mz
    have e2 : pos ls z = ls.length - 1 := by omega
    rw [e2, last_get h.nl] at g
    exact pos_no hm hz (Option.some.inj g).symm
end My
/-! the same round again and again: the first return -/
namespace My
open PySem PySem.Spec L2
def rotT (l : List Str) (x : Str) (t : Nat) : List Str :=
  l.take (pos l x + 1) ++ ((l.drop (pos l x + 1)).drop (l.length - 1 - pos l x - t) ++ (l.drop (pos l x + 1)).take (l.length - 1 - pos l x - t))
theorem rot0 {l : List Str} {x : Str} : rotT l x 0 = l := by
  unfold rotT
  have e : (l.drop (pos l x + 1)).length = l.length - 1 - pos l x := by rw [List.length_drop]; omega
  rw [Nat.sub_zero, ← e, List.drop_of_length_le (Nat.le_refl _), List.take_of_length_le (Nat.le_refl _), List.nil_append, List.take_append_drop]
theorem put_end {X Z : List Str} {x b : Str} (nd : (X ++ (Z ++ [b])).Nodup) (hx : X[X.length - 1]? = some x) : putAt (X ++ (Z ++ [b])).dropLast x (lastS (X ++ (Z ++ [b]))) = X ++ (b :: Z) := by
  have e1 : X ++ (Z ++ [b]) = (X ++ Z) ++ [b] := by rw [List.append_assoc]
  have hl : 0 < X.length := by
    have := (List.getElem?_eq_some_iff.mp hx).1
    omega
  have nd2 : (X ++ Z).Nodup := by
    rw [e1] at nd
    exact (List.nodup_append.mp nd).1
  have ep : pos (X ++ Z) x = X.length - 1 := pos_of nd2 (by rw [List.getElem?_append_left (by omega)]; exact hx)
  have el : lastS (X ++ (Z ++ [b])) = b := by
    unfold lastS
    rw [e1, List.getLastD_eq_getLast?, List.getLast?_concat]
    rfl
  rw [el, e1, List.dropLast_concat]
  unfold putAt
  have e2 : X.length - 1 + 1 = X.length := by omega
  rw [ep, e2, List.take_left, List.drop_left, List.append_assoc]
  rfl
theorem rot_perm {l : List Str} {x : Str} {t : Nat} : (rotT l x t).Perm l := by
  unfold rotT
  have p : ((l.drop (pos l x + 1)).drop (l.length - 1 - pos l x - t) ++ (l.drop (pos l x + 1)).take (l.length - 1 - pos l x - t)).Perm (l.drop (pos l x + 1)) := by
    refine List.perm_append_comm.trans ?_
    rw [List.take_append_drop]
  refine (List.Perm.append_left _ p).trans ?_
  rw [List.take_append_drop]
theorem rot_step {l : List Str} {x : Str} (nd : l.Nodup) (m : x ∈ l) {t : Nat} (ht : t < l.length - 1 - pos l x) : putAt (rotT l x t).dropLast x (lastS (rotT l x t)) = rotT l x (t + 1) := by
  have pl := pos_lt m
  have ln : (l.drop (pos l x + 1)).length = l.length - 1 - pos l x := by rw [List.length_drop]; omega
  have ndr : (rotT l x t).Nodup := rot_perm.nodup_iff.mpr nd
  obtain ⟨c, hc⟩ : ∃ c, l.length - 1 - pos l x - t = c + 1 := ⟨l.length - 1 - pos l x - t - 1, by omega⟩
  have hc2 : l.length - 1 - pos l x - (t + 1) = c := by omega
  have hcl : c < (l.drop (pos l x + 1)).length := by omega
  unfold rotT at ndr ⊢
  rw [hc] at ndr ⊢
  rw [hc2]
  have et : (l.drop (pos l x + 1)).take (c + 1) = (l.drop (pos l x + 1)).take c ++ [(l.drop (pos l x + 1))[c]] := by
    rw [List.take_succ, List.getElem?_eq_getElem hcl]
    rfl
  rw [et, ← List.append_assoc ((l.drop (pos l x + 1)).drop (c + 1))] at ndr ⊢
  rw [put_end ndr (by rw [List.length_take, Nat.min_eq_left (by omega), Nat.add_sub_cancel, List.getElem?_take_of_lt (by omega)]; exact pos_get m)]
  congr 1
  rw [← List.cons_append, ← List.drop_eq_getElem_cons hcl]
theorem rot_end {l : List Str} {x : Str} : rotT l x (l.length - 1 - pos l x) = l := by
  unfold rotT
  rw [Nat.sub_self, List.drop_zero, List.take_zero, List.append_nil, List.take_append_drop]
theorem rot_ne {l : List Str} {x : Str} (nd : l.Nodup) {t : Nat} (t1 : 1 ≤ t) (ht : t < l.length - 1 - pos l x) : rotT l x t ≠ l := fun e => by
  have ln : (l.drop (pos l x + 1)).length = l.length - 1 - pos l x := by rw [List.length_drop]; omega
  have e1 : l = l.take (pos l x + 1) ++ l.drop (pos l x + 1) := (List.take_append_drop _ _).symm
  unfold rotT at e
  have e2 := List.append_cancel_left (e.trans e1)
  have hc : 0 < (l.drop (pos l x + 1)).length := by omega
  have g : (_ : List Str)[0]? = (_ : List Str)[0]? := congrArg (fun z => z[0]?) e2
  rw [List.getElem?_append_left (by rw [List.length_drop]; omega), List.getElem?_drop] at g
  have ez : l.length - 1 - pos l x - t + 0 = l.length - 1 - pos l x - t := Nat.add_zero _
  rw [ez] at g
  have ndd : (l.drop (pos l x + 1)).Nodup := List.nodup_iff_pairwise_ne.mpr ((List.nodup_iff_pairwise_ne.mp nd).sublist (List.drop_sublist _ _))
  have hi : l.length - 1 - pos l x - t < (l.drop (pos l x + 1)).length := by omega
  rw [List.getElem?_eq_getElem hi, List.getElem?_eq_getElem hc] at g
  have pw := List.pairwise_iff_getElem.mp (List.nodup_iff_pairwise_ne.mp ndd)
  exact pw 0 _ hc hi (by omega) (Option.some.inj g).symm
theorem leds_more (ks : List Bool) (k : Bool) (r : List Str × List Str) : leds (ks ++ [k]) r = led1 k (leds ks r) := by
  unfold leds
  rw [List.foldl_append]
  rfl
theorem leds_up {us ls : List Str} (h : Whl us ls) : ∀ t, t ≤ ls.length - 1 - pos ls (lastS us) → leds (List.replicate t true) (us, ls) = (us, rotT ls (lastS us) t)
  | 0, _ => by rw [rot0]; rfl
  | t + 1, ht => by
    rw [List.replicate_succ', leds_more, leds_up h t (by omega)]
    unfold led1
    rw [if_pos rfl]
    have m : lastS us ∈ ls := h.ro.pm.mem_iff.mpr (last_mem h.nu)
    show (us, ledU us (rotT ls (lastS us) t)) = _
    unfold ledU
    rw [rot_step h.ro.symm.nd m (by omega)]
theorem leds_dn {us ls : List Str} (h : Whl us ls) : ∀ t, t ≤ us.length - 1 - pos us (lastS ls) → leds (List.replicate t false) (us, ls) = (rotT us (lastS ls) t, ls)
  | 0, _ => by rw [rot0]; rfl
  | t + 1, ht => by
    rw [List.replicate_succ', leds_more, leds_dn h t (by omega)]
    unfold led1
    rw [if_neg (by decide)]
    have m : lastS ls ∈ us := h.ro.pm.mem_iff.mp (last_mem h.nl)
    show (ledL (rotT us (lastS ls) t) ls, ls) = _
    unfold ledL
    rw [rot_step h.ro.nd m (by omega)]
theorem plc_injL {us ls ks : List Str} (h : RowsOk us ls) (g : RowsOk us ks) (e : plc us ks = plc us ls) : ks = ls := by
  apply List.ext_getElem?
  intro i
  have hl := h.len
  have gl := g.len
  by_cases hi : i < us.length
  · have hz : ls[i]? = some ls[i] := List.getElem?_eq_getElem (by omega)
    rw [hz]
    have mz : ls[i] ∈ us := h.pm.mem_iff.mp (List.mem_of_getElem? hz)
    have pz := pos_of h.symm.nd hz
    have gp := pos_get mz
    have q := congrArg (fun z => z[pos us ls[i]]?) e
    simp only [plc_get, gp, Option.map_some, Option.some.injEq] at q
    have mk : ls[i] ∈ ks := g.pm.mem_iff.mpr mz
    have gk := pos_get mk
    have e3 : pos ks ls[i] = i := by omega
    rw [e3] at gk
    exact gk
  · rw [List.getElem?_eq_none (by omega), List.getElem?_eq_none (by omega)]
theorem plc_injU {us vs ls : List Str} (h : RowsOk us ls) (g : RowsOk vs ls) (e : plc vs ls = plc us ls) : vs = us := by
  apply List.ext_getElem?
  intro i
  have q := congrArg (fun z => z[i]?) e
  simp only [plc_get] at q
  cases hu : us[i]? with
  | none =>
    rw [hu] at q
    cases hv : vs[i]? with
    | none => rfl
    | some z => rw [hv] at q; cases q
  | some x =>
    rw [hu] at q
    cases hv : vs[i]? with
    | none => rw [hv] at q; cases q
    | some z =>
      rw [hv] at q
      simp only [Option.map_some, Option.some.injEq] at q
      have mx : x ∈ ls := h.pm.mem_iff.mpr (List.mem_of_getElem? hu)
      have mz : z ∈ ls := g.pm.mem_iff.mpr (List.mem_of_getElem? hv)
      have e2 : pos ls z = pos ls x := by omega
      have g1 := pos_get mz
      rw [e2, pos_get mx] at g1
      exact g1.symm
/-- how often the round is done until the places come back -/
def bk (k : Bool) (us ls : List Str) : Nat := us.length - 1 - (if k then pos ls (lastS us) else pos us (lastS ls))
theorem bk_pos {us ls : List Str} (h : Whl us ls) (k : Bool) : 1 ≤ bk k us ls := by
  have n2 := h.two
  have hl := h.ro.len
  unfold bk
  cases k with
  | true =>
    have p := pos_lt h.memU
    rw [pos_drop h.ro.symm.nd h.nl h.memU, List.length_dropLast] at p
    simp only [if_true]
    omega
  | false =>
    have p := pos_lt h.memL
    rw [pos_drop h.ro.nd h.nu h.memL, List.length_dropLast] at p
    simp only [Bool.false_eq_true, if_false]
    omega
def plcs (r : List Str × List Str) : List Int := plc r.1 r.2
theorem back_iff {us ls : List Str} (h : Whl us ls) (k : Bool) {t : Nat} (t1 : 1 ≤ t) (ht : t ≤ bk k us ls) : plcs (leds (List.replicate t k) (us, ls)) = plc us ls ↔ t = bk k us ls := by
  have hl := h.ro.len
  have w := Whl.leds (ks := List.replicate t k) (r := (us, ls)) h
  unfold bk at ht ⊢
  cases k with
  | true =>
    simp only [if_true] at ht ⊢
    have e := leds_up h t (by omega)
    rw [e] at w ⊢
    constructor
    · intro q
      have z := plc_injL h.ro w.ro q
      refine Classical.byContradiction fun n => rot_ne h.ro.symm.nd t1 (by omega) z
    · intro q
      show plc us (rotT ls (lastS us) t) = plc us ls
      have e2 : t = ls.length - 1 - pos ls (lastS us) := by omega
      rw [e2, rot_end]
  | false =>
    simp only [Bool.false_eq_true, if_false] at ht ⊢
    have e := leds_dn h t (by omega)
    rw [e] at w ⊢
    constructor
    · intro q
      have z := plc_injU h.ro w.ro q
      refine Classical.byContradiction fun n => rot_ne h.ro.nd t1 (by omega) z
    · intro q
      show plc (rotT us (lastS ls) t) ls = plc us ls
      have e2 : t = us.length - 1 - pos us (lastS ls) := by omega
      rw [e2, rot_end]
end My
/-! tuples whose object is told to have no dict: t.index(x) -/
namespace My
open PySem PySem.Spec PyProof.Rows L2
/-- the tuple at a has no dict -/
def NoD (K : PySem.W.Frag) (H : Hp) (a : Addr) : Prop := (∃ o u, H a = some (.frz o u) ∧ o.dict = none) ∨ ∃ o, K.lookup a = some o ∧ o.dict = none
theorem NoD.ext {K : PySem.W.Frag} {H H' : Hp} {a : Addr} (h : NoD K H a) (e : Ext H H') : NoD K H' a := h.elim (fun ⟨o, u, q, d⟩ => .inl ⟨o, u, e _ _ q, d⟩) .inr
/-- a tuple that is made: its object -/
def NewT (p : Addr) (xs : List V) (H : Hp) (Q : VK) : Prop := ∀ ob : Obj, H p = none → ob.dict = none → Q (.ref p) (upd H p (.frz ob (.tup xs)))
theorem newT_use {K : PySem.W.Frag} {H : Hp} {xs : List V} {Q : VK} (k : ∀ p H', Ext H H' → SqT K H' p xs → NoD K H' p → Q (.ref p) H') : ∀ p, NewT p xs H Q := fun p ob hp hd =>
  k p _ (ext_new (ext_refl H) hp) (.inl (.inr ⟨ob, upd_same⟩)) (.inl ⟨ob, _, upd_same, hd⟩)
section
variable {X : Cx} {pins : List (Addr × Obj)} {σ : L2.St} {H : Hp} {s : Shared}
theorem tup_is {p : Addr} {xs : List V} (I : Inv X pins σ H s) (hx : SqT X.K H p xs) (nd : NoD X.K H p) : s.TypeIs (.ref p) "tuple" ∧ ∀ a, Value.ref p = .ref a → ∃ ob, s.heap.get? a = some ob ∧ ob.dict = none := by
  obtain ⟨its, r, pl, hz⟩ := I.tuple hx
  refine ⟨pl.typeIs, fun a e => ?_⟩
  cases e
  rcases nd with ⟨o, u, e, d⟩ | ⟨o, e, d⟩
  · exact ⟨o, (show X.prog = X.prog ∧ s.heap.get? p = some o from ⟨rfl, (I.hok p _ e).1⟩).2, d⟩
  · exact ⟨o, I.kIn p o e, d⟩
theorem laidT {its : List Value} {xs : List V} {h' : Heap} (I : Inv X pins σ H { s with heap := h' }) (r : Vals xs its) (hz : xs.length ≤ sizeLine) :
    Inv X pins σ (upd H h'.objs.size (.frz { cls := .type "tuple", data := .seq its.toArray } (.tup xs))) { s with heap := h'.push { cls := .type "tuple", data := .seq its.toArray } } :=
  I.laid (t' := s.toks) (fun b o e => Heap.get?_push_of_some _ e) (Nat.le_refl _) ⟨Heap.get?_push_size _ rfl, hz, its, r, IsTup.new _ _⟩
end
section
variable {X : Cx} {es : List Expr} {t : TA} {pos : Pos}
def tTupF (t : TA) : TE := fun σ H Q => t σ H fun xs H1 => xs.length ≤ sizeLine ∧ ∀ p, NewT p xs H1 Q
theorem pe_tupF {x1} (h : PA X es t) : PE X (.Tuple es x1 pos) (tTupF t) := by
  refine ⟨fun pins s σ H Q I hq => ?_⟩
  refine wpAny_Tuple_spliced (thn (h.run pos pins s σ H _ I hq) fun us s1 ⟨xs, H1, I1, r, z, q⟩ => ⟨by rw [← r.length]; exact z, ?_⟩)
  exact ⟨.ref s1.heap.objs.size, _, laidT I1 r z, rfl, q _ _ (I1.hok.fresh (Nat.le_refl _)) rfl⟩
/-- tuple(x) -/
theorem call_tupleF : CallR X (.type "tuple") (fun xs H Q => ∃ p ys, xs = [.ref p] ∧ ((SqL X.K H p ys ∧ ∀ l, NewT l ys H Q) ∨ (SqT X.K H p ys ∧ Q (.ref p) H))) := by
  intro pins s σ H xs us Q I r h
  obtain ⟨p, ys, rfl, h⟩ := h
  obtain ⟨u, rfl, rx⟩ := vals1 r
  cases rx
  rcases h with ⟨hq, q⟩ | ⟨hq, q⟩
  · obtain ⟨its, r', pl, hz⟩ := I.list hq
    have hlen := r'.length
    refine call_tuple_list pl.isList (fun h' kp => ?_) (by simp only [List.size_toArray] <;> omega)
    have I1 : Inv X pins σ H { s with heap := h' } := I.kept (t' := s.toks) kp
    exact ⟨.ref h'.objs.size, _, laidT I1 r' hz, rfl, q _ _ (I1.hok.fresh (Nat.le_refl _)) rfl⟩
  · obtain ⟨its, r', pl, hz⟩ := I.tuple hq
    exact call_tuple_same pl ⟨.ref p, H, I, rfl, q⟩
/-- t[lo:hi] -/
def rSlF (K : PySem.W.Frag) : V → Option Int → Option Int → Hp → VK → Prop := fun x lo hi H Q => ∃ a xs, x = .ref a ∧ SqT K H a xs ∧
  ((HT.sIx xs.length 0 lo = 0 ∧ HT.sIx xs.length xs.length hi = xs.length) → Q (.ref a) H) ∧ (¬ (HT.sIx xs.length 0 lo = 0 ∧ HT.sIx xs.length xs.length hi = xs.length) → ∀ p, NewT p (cutV xs lo hi) H Q)
end
section
variable {X : Cx} {o e : Expr} {es : List Expr} {to : TE} {t : TA} {name : Str} {apos cpos : Pos} {id : String} {r : V → List V → Hp → VK → Prop}
/-- t.m(..) of such a tuple -/
def tBMT (K : PySem.W.Frag) (r : V → List V → Hp → VK → Prop) (to : TE) (t : TA) : TE := fun σ H Q => to σ H fun x H1 => (∃ p xs, x = .ref p ∧ SqT K H1 p xs ∧ NoD K H1 p) ∧ t σ H1 fun xs H2 => r x xs H2 Q
theorem pe_bmT (pa : PlainAttrs "tuple") (slot : Slot "tuple" name id) (hty : typeOf (.builtin id) = pure (.type "method_descriptor")) (hm : MtR X id r) (ho : PE X o to) (ha : PA X (e :: es) t)
    (hbase : attributeBase o name X.env (eval o X.env) = eval o X.env := by rfl)
    (hfew : ((backTo cpos (starEach (e :: es) X.env)).all (fun x => !x.1) && (backToKw cpos (keywordEach [] X.env)).all (fun x => x.1.isSome)
      && decide ((e :: es).length + ([] : List Keyword).length + (if ([] : List Keyword).isEmpty then 0 else 1) < 30)) = true := by rfl)
    (hline : (apos.endLine == cpos.line) = true := by rfl) (hs : starEach (e :: es) X.env = (false, eval e X.env) :: starEach es X.env := by rfl) (hplain : (backTo cpos (starEach es X.env)).any (·.1) = false := by rfl) :
    PE X (.Call (.Attribute o name apos) (e :: es) [] cpos) (tBMT X.K r to t) := by
  refine ⟨fun pins s σ H Q I h => ?_⟩
  refine wpAny_Call_method_late hbase hfew hline rfl (thn (ho.run pins s σ H _ I h) fun v s1 ⟨x, H1, I1, r1, ⟨p, xs, ex, hx, nd⟩, q1⟩ => ?_)
  subst ex
  cases r1
  obtain ⟨h1, h2⟩ := tup_is I1 hx nd
  refine ⟨"tuple", id, pa, slot, hty, h1, h2, ?_⟩
  have hA := ha.run cpos pins s1 σ H1 _ I1 q1
  rw [hs] at hA ⊢
  refine Calls.callWith_builtin (by show (false || (backTo cpos (starEach es X.env)).any (·.1)) = false; rw [hplain] <;> rfl) (Calls.evalArgs_plain ?_)
  exact thn hA fun us s2 ⟨vs, H2, I2, r2, q2⟩ => hm pins s2 σ H2 (.ref p) vs _ us Q I2 rfl r2 q2
/-- t.index(x): flat things, the first place -/
def rIdxT (K : PySem.W.Frag) : V → List V → Hp → VK → Prop := fun x vs H Q => ∃ p xs z j y, x = .ref p ∧ vs = [z] ∧ SqT K H p xs ∧ xs.all flatV = true ∧ flatV z = true ∧ xs[j]? = some y ∧ eqV y z = true ∧ (∀ m v, m < j → xs[m]? = some v → eqV v z = false) ∧ Q (.int (j : Nat)) H
theorem mt_tup_indexF : MtR X "tuple.index" (rIdxT X.K) := by
  intro pins s σ H x xs v us Q I rx rs h
  obtain ⟨p, ys, z, j, y, rfl, rfl, hq, fl, fz, hy, eq, hno, q⟩ := h
  cases rx
  obtain ⟨u, rfl, ru⟩ := vals1 rs
  obtain ⟨its, r, pl, hz⟩ := I.tuple hq
  obtain ⟨⟨cls, dd, dt, sl⟩, ho, hc, n, hd⟩ := pl
  simp only at hc hd
  subst hc
  subst hd
  have hl : its.toArray.size = ys.length := by rw [List.size_toArray, ← r.length]
  have hj : j < its.toArray.size := by rw [hl]; exact (List.getElem?_eq_some_iff.mp hy).1
  have at' : ∀ (m : Nat) (hm : m < its.toArray.size) (v : V), ys[m]? = some v → eqU z its.toArray[m] = eqV v z := fun m hm v hv => by
    obtain ⟨w, hw, rw'⟩ := r.get (i := m) (x := v) hv
    have e := (List.getElem?_eq_some_iff.mp hw).2
    have e2 : its.toArray[m] = w := by rw [← e]; simp
    rw [e2]
    exact eqU_of rw' (List.all_eq_true.mp fl v (List.mem_of_getElem? hv))
  refine call_meets PySem.F.slot_tuple_index ⟨_, ho, rfl⟩ PySem.F.entry_tuple_index (PySem.F.args_tuple_index_2 _ _) (TI.tuple_indexAt p its.toArray n dd sl u (eqU z) j hj ?_ ?_)
    ⟨ho, fun w hw => mem_eqAt ru fz r fl w (by simpa using hw), ⟨.int (j : Nat), H, I.tok _, ⟨_, rfl⟩, q⟩⟩
  · rw [at' j hj y hy, eq]
  · intro m hm hmj
    have hm' : m < ys.length := by rw [← hl]; exact hm
    rw [at' m hm _ (List.getElem?_eq_getElem hm')]
    exact hno m _ hmj (List.getElem?_eq_getElem hm')
end
end My
/-! tuple(d.values()) -/
namespace My
open PySem PySem.Spec PyProof.Rows L2
section
variable {prog : Program} {w : World} {A : Around} {E : Value → Shared → Prop} {s : Shared} {T : String} {r d : Addr} {n : Nat} {P : Nat → Value → Prop} {OK : Heap → Prop}
theorem collect_K {Q : List Value → Shared → Prop} (K : PySem.W.KdlSrc prog w T r d n P OK) (hh : A.handled = none) (hok : OK s.heap) (hn : n ≤ sizeLine)
    (hQ : ∀ (h' : Heap) (tk : Nat) (acc : Array Value), (∀ b o, s.heap.get? b = some o → h'.get? b = some o) → ItemsOf P acc n → Q acc.toList { s with heap := h', toks := tk }) :
    wpAny (model prog w) A (collect (.ref r)) Q E s := by
  unfold collect
  refine wpAny_bind (wpAny_runValue (codeAny_builtin F.entry_proto_collect ?_))
  rw [Around.under_plainId F.plain_proto_collect _]
  show wpAny _ A.in1 (newList [] >>= fun l => again (.builtin "list.__iadd__" ⟨[l, .ref r], []⟩)) _ _ s
  refine wpAny_bind (wpAny_newObj_type ?_)
  refine wpAny_pure ⟨plainId_quiet F.plain_list_iadd _, codeAny_builtin F.entry_list_iadd ?_⟩
  rw [Around.under_plainId F.plain_list_iadd _]
  show wpAny _ A.in1 (Builtin.List.listExtendWith (.ref s.heap.objs.size) (.ref r) (.ref s.heap.objs.size)) _ _ _
  have hS : (s.heap.push { cls := .type "list", data := .seq ([] : List Value).toArray }).get? s.heap.objs.size = some { cls := .type "list", data := .seq #[] 0 } := Heap.get?_push_size _ rfl
  have hlt := K.there _ hok
  refine wpAny_mono (PySem.W.kdl_extend (A := A) (R := fun rr s' => rr = .ok (.ret (.ref s.heap.objs.size)) ∧ ∃ (h' : Heap) (tk : Nat) (acc : Array Value) (c' : Nat), s' = { s with heap := h', toks := tk } ∧
      (∀ b o, s.heap.get? b = some o → h'.get? b = some o) ∧ h'.get? s.heap.objs.size = some { cls := .type "list", dict := none, data := .seq acc c', slots := #[] } ∧ ItemsOf P acc n)
    (s := { s with heap := s.heap.push { cls := .type "list", data := .seq ([] : List Value).toArray } }) K hh (K.keep _ _ hok fun b _ o e => Heap.get?_push_of_some _ e) _ (Nat.ne_of_gt hlt.1) (Nat.ne_of_gt hlt.2) _ 0 hS
    (fun h' tk acc c' hk e hi => ⟨rfl, h', tk, acc, c', rfl, fun b o q => hk b o (Nat.ne_of_lt (Heap.lt_size q)) (Heap.get?_push_of_some _ q), e, hi⟩) hn) (fun fin s' h => ?_) (fun e s' h => ?_)
  · cases fin with
    | done f =>
      obtain ⟨e, h', tk, acc, c', rfl, hk, hS', hi⟩ := h
      cases e
      show wpAny _ A (load s.heap.objs.size >>= _) _ _ _
      exact wpAny_bind (wpAny_load hS' (wpAny_pure (hQ h' tk acc hk hi)))
    | again c' =>
      refine ⟨h.1, codeAny_mono h.2 fun rr s'' hr' => ?_⟩
      obtain ⟨rfl, h', tk, acc, c', rfl, hk, hS', hi⟩ := hr'
      show wpAny _ A (load s.heap.objs.size >>= _) _ _ _
      exact wpAny_bind (wpAny_load hS' (wpAny_pure (hQ h' tk acc hk hi)))
  · exact absurd h.1 (by simp)
theorem code_tuple_new_K {Q₁ : Value → Shared → Prop} (K : PySem.W.KdlSrc prog w "dict_values" r d n P OK) (hh : A.handled = none) (hok : OK s.heap) (hn : n ≤ sizeLine)
    (h : ∀ (h' : Heap) (tk : Nat) (acc : Array Value), (∀ b o, s.heap.get? b = some o → h'.get? b = some o) → ItemsOf P acc n →
      Q₁ (.ref h'.objs.size) { s with heap := h'.push { cls := .type "tuple", data := .seq acc }, toks := tk }) :
    codeAny (model prog w) A (.call (.builtin "tuple.__new__") ⟨[.type "tuple", .ref r], []⟩) (wants Q₁ E) s := by
  refine codeAny_of_tree ?_
  show wpAny _ A.in1 (do checkBuiltinCall "tuple.__new__" ⟨[.type "tuple", .ref r], []⟩; again (.builtin "tuple.__new__" ⟨[.type "tuple", .ref r], []⟩)) _ _ s
  refine wpAny_bind (wpAny_of_eq (F.newCall_tuple_1 _) (wpAny_pure ⟨plainId_quiet F.plain_tuple_new _, codeAny_builtin F.entry_tuple_new ?_⟩))
  rw [Around.under_plainId F.plain_tuple_new _]
  have hsub := sub_tuple_self
  have hinit := init_tuple_lookup
  have hmh := madeHere_tuple
  have hTI : s.TypeIs (.ref r) "dict_values" := K.type s hok
  have hh1 : A.in1.handled = none := hh
  wp_walk using wpAny_typeOf hTI, collect_K (A := A.in1) K hh1 hok hn
  intro h' tk acc hk hacc
  show wpAny _ _ (Builtin.Tuple.tupleExact acc.toList.toArray >>= fun v => ret v) _ _ _
  unfold Builtin.Tuple.tupleExact
  refine wpAny_bind (wpAny_newObj_type ?_ (by show acc.toList.toArray.size ≤ sizeLine; simp only [Array.toArray_toList]; rw [hacc.1]; exact hn))
  refine wpAny_pure ?_
  have e : acc.toList.toArray = acc := by simp
  rw [e]
  exact h h' tk acc hk hacc
theorem call_tuple_K {Q : Value → Shared → Prop} (K : PySem.W.KdlSrc prog w "dict_values" r d n P OK) (hh : A.handled = none) (hok : OK s.heap) (hn : n ≤ sizeLine)
    (hQ : ∀ (h' : Heap) (tk : Nat) (acc : Array Value), (∀ b o, s.heap.get? b = some o → h'.get? b = some o) → ItemsOf P acc n →
      Q (.ref h'.objs.size) { s with heap := h'.push { cls := .type "tuple", data := .seq acc }, toks := tk }) :
    wpAny (model prog w) A (call (.type "tuple") [.ref r]) Q E s := by
  refine callType_codes (Q₁ := fun obj s₁ => s₁.TypeIs obj "tuple" ∧ Q obj s₁) F.called_tuple (F.typeCall_tuple_1 _) F.entry_object_init
    (code_tuple_new_K (A := A.in1) K hh hok hn fun h' tk acc hk hacc => ⟨⟨_, Heap.get?_push_size _ rfl, rfl⟩, hQ h' tk acc hk hacc⟩) fun obj s₁ h₁ => ?_
  exact ⟨h₁.1, F.args_object_init_2 obj _, object_init_meets F.called_tuple.init.lookup F.called_tuple.made (by decide) prog w A.in1 _ s₁ ⟨h₁.1, rfl, h₁.2⟩⟩
end
section
variable {X : Cx} {o : Expr} {p pos apos mpos : Pos} {td : TE}
/-- tuple(o.values()), o a dict -/
def tTupVals (td : TE) : TE := fun σ H Q => td σ H fun x H1 => ∃ a kvs, x = V.ref a ∧ H1 a = some (.dK kvs) ∧ ∀ l, NewT l (kvs.map (·.2)) H1 Q
theorem pe_tupVals (hc : X.calm = true) (hg : Gl X "tuple") (hm : X.mg "tuple" = none) (hd : PE X o td) (hbase : attributeBase o "values" X.env (eval o X.env) = eval o X.env := by rfl) (hline : (apos.endLine == mpos.line) = true := by rfl)
    (hse : starEach [Expr.Call (.Attribute o "values" apos) [] [] mpos] X.env = [(false, eval (Expr.Call (.Attribute o "values" apos) [] [] mpos) X.env)] := by rfl) :
    PE X (.Call (.Name "tuple" p) [.Call (.Attribute o "values" apos) [] [] mpos] [] pos) (tTupVals td) := by
  refine ⟨fun pins s σ H Q I h => ?_⟩
  refine Call_ (ld_blt I hg hm boot_tuple (PyProof.Rows.callWith_type1 (args_cons ?_ hse) hse))
  refine wpAny_Call_method0_late hbase hline (thn (hd.run pins s σ H _ I h) fun v s1 ⟨x, H1, I1, r1, a, kvs, ex, ha, q⟩ => ?_)
  subst ex
  obtain rfl : v = Value.ref a := r1
  obtain ⟨hz, hsys, vs, rel, dof⟩ := dk_of I1.hok ha
  obtain ⟨ep, dat⟩ := dof.dictAt
  have dat' := dat
  obtain ⟨ob, es, ho, ex, hdat, hko, hpr, hnd⟩ := dat'
  refine ⟨"dict", "dict.values", F.plainAttrs_dict, F.slot_dict_values, F.type_dict_values, ⟨ob, ho, ex.1⟩, fun b e => ?_, Calls.callWith_builtin rfl (PySem.evalArgs_none ?_)⟩
  · cases e
    exact ⟨ob, ho, ex.2.1⟩
  refine call_meetsIn F.slot_dict_values ⟨ob, ho, ex.1⟩ F.entry_dict_values (F.args_dict_values_1 _) (meets_dict_values (mixKind X.prog X.w) a hsys) ⟨⟨vs, dof⟩, ?_⟩
  have k1 : ∀ b u, s1.heap.get? b = some u → (s1.heap.push { cls := .type "dict_values", data := .fields #[.ref a] }).get? b = some u := fun b u e => Heap.get?_push_of_some _ e
  have dat1 : (s1.heap.push { cls := .type "dict_values", data := .fields #[.ref a] }).DictAt (mixKind X.prog X.w) a vs ep := dat.keep k1
  have hl : kvs.length = vs.length := Paired.length rel
  refine args_nil ?_
  refine call_tuple_K (s := { s1 with heap := s1.heap.push { cls := .type "dict_values", data := .fields #[.ref a] } }) (PySem.W.kdl_values (knd := mixKind X.prog X.w) (d := a) (r := s1.heap.objs.size) (kvs := vs) (ep := ep)) (I.ok.hd hc) ⟨⟨_, Heap.get?_push_size _ rfl, rfl, rfl⟩, dat1⟩ (by rw [← hl]; exact hz) fun h' tk acc hk hacc => ?_
  have I2 : Inv X pins σ H1 { s1 with heap := h', toks := tk } := I1.kept fun b u e => hk b u (k1 b u e)
  have rv : Vals (kvs.map (·.2)) acc.toList := by
    have el : acc.toList.length = vs.length := by rw [Array.length_toList]; exact hacc.1
    refine vals_of_at (by rw [List.length_map, el]; exact hl) fun j x u hx hu => ?_
    rw [Array.getElem?_toList] at hu
    obtain ⟨k, hk2⟩ := hacc.2 j u hu
    obtain ⟨y, h1, h2⟩ := KV.at' rel hk2
    rw [List.getElem?_map, h1] at hx
    cases hx
    exact h2
  have J := laidT (s := { s1 with toks := tk }) (h' := h') (its := acc.toList) I2 rv (by rw [List.length_map]; exact hz)
  rw [Array.toArray_toList] at J
  exact ⟨.ref h'.objs.size, _, J, rfl, q _ _ (I2.hok.fresh (Nat.le_refl _)) rfl⟩
end
end My
/-! sorted(a tuple of ints); slices -/
namespace My
open PySem PySem.Spec PyProof.Rows L2
section
variable {prog : Program} {w : World} {A : Around} {E : Value → Shared → Prop} {s : Shared}
theorem sorted_tupI {l : Addr} {vs : List Value} {ns : List Int} {Q : Value → Shared → Prop} (at_ : s.heap.IsTuple l vs.toArray) (hI : IntsAre vs ns) (few : vs.length < 64)
    (go : ∀ (out : Array Value) (ns' : List Int), IntsAre out.toList ns' → ns'.Perm ns → ns'.Pairwise (· ≤ ·) → Q (.ref (s.heap.objs.size + 1)) { s with heap := sortedAll s.heap vs out }) :
    wpAny (model prog w) A (call (.builtin "sorted") [.ref l]) Q E s := by
  refine Calls.call_function_entry kind_sorted plain_sorted entry_sorted (args_sorted1 _) (?_)
  unfold Builtin.«sorted»
  refine wpAny_bind (m := checkCount "sorted" 1 1 _) (wpAny_pure (wpAny_bind (collect_tup at_ (by rw [sizeLine_eq]; omega) (wpAny_bind (wpAny_newList (?_))))))
  have sz : ((s.heap.push (seqObj "list" #[] 0)).update s.heap.objs.size (Obj.mapSeq (· ++ vs.toArray))).objs.size = s.heap.objs.size + 1 := by rw [Heap.size_update, size_push']
  have at2 : (((s.heap.push (seqObj "list" #[] 0)).update s.heap.objs.size (Obj.mapSeq (· ++ vs.toArray))).push (seqObj "list" vs.toArray 0)).get? (s.heap.objs.size + 1) = some (seqObj "list" vs.toArray 0) := by
    rw [← sz]
    exact Heap.get?_push_size _ rfl
  show wpAny _ _ _ _ _ { s with heap := ((s.heap.push (seqObj "list" #[] 0)).update s.heap.objs.size (Obj.mapSeq (· ++ vs.toArray))).push (seqObj "list" vs.toArray 0) }
  rw [sz]
  refine wpAny_bind (wpAny_holding (wpAny_call_entry slot_list_sort ⟨_, at2, rfl⟩ entry_list_sort (list_sort_tree at2 hI few fun out ns' a1 a2 a3 => ⟨_, rfl, ?_⟩) (args_list_sort _)))
  exact wpAny_pure ⟨_, rfl, go out ns' a1 a2 a3⟩
end
/-- sorted(ints), a list's or a tuple's -/
def rSortedBI (K : PySem.W.Frag) : List V → Hp → VK → Prop := fun vs H Q => ∃ (a : Addr) (xs : List Int), vs = [.ref a] ∧ (SqL K H a (xs.map V.int) ∨ SqT K H a (xs.map V.int)) ∧ xs.length < 64 ∧ ∀ (ys : List Int) (p : Addr), ys.Perm xs → ys.Pairwise (· ≤ ·) → H p = none → Q (.ref p) (upd H p (.lst (ys.map V.int)))
theorem cr_sortedBI {X : Cx} : CallR X (.builtin "sorted") (rSortedBI X.K) := by
  intro pins s σ H vs us Q I r h
  obtain ⟨a, xs, rfl, hs, h64, q⟩ := h
  rcases hs with hs | hs
  · exact cr_sorted pins s σ H _ us Q I r ⟨a, xs, rfl, hs, h64, q⟩
  · obtain ⟨its, rv, pl, _⟩ := I.tuple hs
    rw [Vals.ref1 r]
    have l0 := rv.length
    rw [List.length_map] at l0
    refine sorted_tupI (vs := its) (by obtain ⟨o, ho, hcl, n, hd⟩ := pl; exact ⟨o, ho, hcl, n, hd⟩) rv.ints (by rw [← l0]; exact h64) fun out ys h1 h2 h3 => ?_
    obtain ⟨ep, he'⟩ := PyProof.Rows.sortedAll_at s.heap its out
    have len : (ys.map V.int).length ≤ sizeLine := by rw [List.length_map, h2.length_eq]; exact small64 h64
    exact ⟨.ref _, upd H (s.heap.objs.size + 1) (.lst (ys.map V.int)), I.laid (t' := s.toks) (fun _ _ => PyProof.Rows.sortedAll_old) (Nat.le_succ _) ⟨len, out.toList, ep, vals_of_ints h1, he'⟩, rfl, q ys _ h2 h3 (I.hok.fresh (Nat.le_succ _))⟩
theorem cutV_whole {xs : List V} {lo hi : Option Int} (h : HT.sIx xs.length 0 lo = 0 ∧ HT.sIx xs.length xs.length hi = xs.length) : cutV xs lo hi = xs := by
  unfold cutV
  rw [h.1, h.2, Nat.sub_zero, List.drop_zero, List.take_of_length_le (Nat.le_refl _)]
/-- a slice of a tuple, whole or not -/
theorem slA_use {K : PySem.W.Frag} {H : Hp} {c : Addr} {xs : List V} {lo hi : Option Int} {Q : VK} (hc : SqT K H c xs) (k : ∀ p H', Ext H H' → SqT K H' p (cutV xs lo hi) → Q (.ref p) H') : rSlA K (.ref c) lo hi H Q := by
  refine ⟨c, _, rfl, hc, fun w => k c H (ext_refl H) (by rw [cutV_whole w]; exact hc), fun _ p hp => ?_⟩
  exact k p _ (ext_new (ext_refl H) hp) (SqT.of upd_same)
/-- t + u, empty ones, too -/
theorem catA_use {K : PySem.W.Frag} {H : Hp} {a b : Addr} {xs ys : List V} {Q : VK} (ha : SqT K H a xs) (hb : SqT K H b ys) (l : xs.length + ys.length ≤ 1000) (k : ∀ p H', Ext H H' → SqT K H' p (xs ++ ys) → Q (.ref p) H') : rCatA K (.ref a) (.ref b) H Q := by
  refine ⟨a, b, _, _, rfl, rfl, ha, hb, len_ok l, fun e => ?_, fun _ e => ?_, fun _ _ p hp => ?_⟩
  · subst e
    exact k b H (ext_refl H) hb
  · subst e
    exact k a H (ext_refl H) (by rw [List.append_nil]; exact ha)
  · exact k p _ (ext_new (ext_refl H) hp) (SqT.of upd_same)
theorem cut_mid {xs : List V} {i : Nat} (h : i + 1 ≤ xs.length) : cutV xs (some (i : Int)) (some (-1)) = xs.dropLast.drop i := by
  unfold cutV
  have e1 : HT.sIx xs.length xs.length (some (-1)) = xs.length - 1 := by
    unfold HT.sIx
    simp
    omega
  rw [HT.sIx_nat, e1, Nat.min_eq_left (by omega), List.dropLast_eq_take, List.drop_take]
theorem cut_init {xs : List V} (h : 1 ≤ xs.length) : cutV xs none (some (-1)) = xs.dropLast := by
  unfold cutV
  have e1 : HT.sIx xs.length xs.length (some (-1)) = xs.length - 1 := by
    unfold HT.sIx
    simp
    omega
  rw [HT.sIx_none, e1, List.dropLast_eq_take, Nat.sub_zero, List.drop_zero]
end My
namespace My
open PySem PySem.Spec PyProof.Rows L2
local macro_rules | `(tactic| walk_at "side") => `(tactic| first | assumption | decide | exact Or.inl ⟨by decide, by decide⟩ | exact Or.inr ⟨by decide, by decide⟩ | exact ⟨by decide, by decide, by decide⟩ | omega | (unfold CMulW; decide +kernel) | (dsimp only; first | assumption | omega | decide +kernel) | exact len_ok (Nat.le_of_ble_eq_true rfl) | fail "side")
local macro_rules | `(tactic| walk_at "rd") => `(tactic| first
  | refine ⟨_, _, _, _, rfl, rfl, SqL.of upd_same, atI_nat (j := 0) rfl, ?_⟩ | refine ⟨_, _, _, _, rfl, rfl, SqL.of upd_same, atI_nat (j := 1) rfl, ?_⟩ | refine ⟨_, _, _, _, rfl, rfl, SqL.of upd_same, atI_nat (j := 2) rfl, ?_⟩
  | refine ⟨_, _, _, _, rfl, rfl, upd_same, rfl, ?_⟩
  | refine ⟨_, _, rfl, rfl, ?_⟩ | refine ⟨_, rfl, ?_⟩ | refine ⟨_, _, rfl, ?_⟩ | refine Or.inl ⟨_, rfl, ?_⟩ | refine Or.inr ⟨_, rfl, ?_⟩ | refine ⟨(by walk_at "side"), ?_⟩ | fail "rd")

abbrev s_lmixed : Stmt := top 40
theorem sc_lmixed : FnScope ["_law_dice_here", "_law_items", "_law_left", "_law_found", "_law_turn"] ["_law_dice_here", "_law_items"] (defScope s_lmixed) := ⟨rfl, rfl, rfl, by decide +kernel, rfl, by decide +kernel, by decide +kernel⟩
abbrev s_lnames : Stmt := top 41
theorem sc_lnames : FnScope ["_law_dice_here", "_law_times"] ["_law_dice_here", "_law_times"] (defScope s_lnames) := ⟨rfl, rfl, rfl, by decide +kernel, rfl, by decide +kernel, by decide +kernel⟩
def spLMix (K : PySem.W.Frag) : Sp := fun vs H Q _ => ∃ (a l : Addr) (xs : List V), vs = [.ref a, .ref l] ∧ H a = some (DiceO a) ∧ SqL K H l xs ∧ xs.length ≤ 100 ∧ ∀ p H' ys, Ext H H' → H' p = some (.lst ys) → ys.Perm xs → Q (.ref p) H'
theorem two_new {H H' : Hp} {L : Addr} {o : HO} (hL : H L = none) (e : ∀ a u, H a = some u → H' a = some u) : ∀ a u, H a = some u → upd H' L o a = some u := fun a u q => by
  rw [upd_ne (ne_of_none q hL)]
  exact e a u q
theorem erase_perm {α : Type} : ∀ {l : List α} {j : Nat} (h : j < l.length), (l[j] :: l.eraseIdx j).Perm l
  | x :: r, 0, _ => List.Perm.refl _
  | x :: r, j + 1, h => by
    have ih := erase_perm (l := r) (j := j) (by simpa using h)
    exact (List.Perm.swap x _ _).trans (ih.cons x)
theorem cut_to {xs : List V} {n : Nat} (h : n ≤ xs.length) : cutV xs none (some (n : Int)) = xs.take n := by
  unfold cutV
  rw [HT.sIx_none, HT.sIx_nat, Nat.min_eq_left h]
  rfl
theorem cut_from {xs : List V} {n : Nat} (h : n ≤ xs.length) : cutV xs (some (n : Int)) none = xs.drop n := by
  unfold cutV
  rw [HT.sIx_none, HT.sIx_nat, Nat.min_eq_left h]
  rw [List.take_of_length_le (by rw [List.length_drop]; exact Nat.le_refl _)]
def tenN : List Str := ["a", "b", "c", "d", "e", "x", "aa", "ab", "zz", "zzzzzzzz"]
theorem ten_nm : ∀ z ∈ tenN, isNm z = true := by decide +kernel
theorem ten_nd : tenN.Nodup := by decide +kernel
theorem perm_strs {ys : List V} {zs : List Str} (h : ys.Perm (zs.map V.str)) : ∃ ws : List Str, ys = ws.map V.str ∧ ws.Perm zs := by
  refine ⟨ys.map sOf, ?_, ?_⟩
  · rw [List.map_map]
    have : ∀ y ∈ ys, (V.str ∘ sOf) y = y := fun y hy => by
      obtain ⟨z, _, rfl⟩ := List.mem_map.mp (h.mem_iff.mp hy)
      rfl
    rw [List.map_congr_left this, List.map_id']
  · have p := h.map sOf
    rw [List.map_map] at p
    have e : zs.map (sOf ∘ V.str) = zs := by
      have : ∀ z ∈ zs, (sOf ∘ V.str) z = z := fun _ _ => rfl
      rw [List.map_congr_left this, List.map_id']
    rw [e] at p
    exact p
def spLNames : Sp := fun vs H Q _ => ∃ (a : Addr) (n : Nat), vs = [.ref a, .int (n : Nat)] ∧ H a = some (DiceO a) ∧ 1 ≤ n ∧ n ≤ 10 ∧ ∀ p H' (ws : List Str), Ext H H' → H' p = some (.lst (ws.map V.str)) → ws.length = n → ws.Nodup → (∀ z ∈ ws, isNm z = true) → Q (.ref p) H'
section
variable {P : Program} {w : World} {K : PySem.W.Frag} {mg : Str → Option Value} {base : Heap}
theorem ok_lmixed (T : Bn mg) (D : DefAt K mg "_law_mixed" s_lmixed) (F__law_roll : FnAt P w K mg base 1 "_law_roll" ["_law_dice_here", "_law_total"] spRoll) : FnAt P w K mg base 2 "_law_mixed" ["_law_dice_here", "_law_items"] (spLMix K) := by
  refine fnAt D sc_lmixed (fun _ _ _ _ _ _ us hl => match us, hl with | [_, _], _ => rfl) (fun vs H Q E h => ?_) fun f cdv A outer s H vs Q E hr h => ?_
  · obtain ⟨a, l, xs, rfl, _⟩ := h
    rfl
  obtain ⟨a, l, xs, rfl, ha, hl, hz, k⟩ := h
  refine ⟨_, (pss_cons (ps_par (i := 2) (j := 3) rfl sc_lmixed.nd rfl rfl (by decide) rfl rfl (pa_cons (pe_callTy call_list_of (by rfl) T.b_list (by decide +kernel) (pa_cons (pv 1) pa_nil)) (pa_cons (pe_lst pa_nil) pa_nil)) (by rfl))
    (pss_cons (ps_for PassesOwn.never rfl (pi_range1 (by rfl) T.b_range (pa_cons (pe_callB call_len_seq (by rfl) T.b_len (by decide +kernel) (pa_cons (pv 1) pa_nil)) pa_nil)) (pg_name (i := 4) sc_lmixed.nd rfl (Or.inl rfl))
      (pss_one (ps_expr (pe_bm PySem.F.plainAttrs_list PySem.F.slot_list_append PySem.F.type_list_append mt_append (pv 3) (pa_cons (pe_bm PySem.F.plainAttrs_list PySem.F.slot_list_pop PySem.F.type_list_pop mt_popAt (pv 2) (pa_cons (callA F__law_roll (hr.mono (by decide)) rfl (pa_cons (pv 0) (pa_cons (pe_callB call_len_seq (by rfl) T.b_len (by decide +kernel) (pa_cons (pv 2) pa_nil)) pa_nil))) pa_nil)) pa_nil)))))
    (pss_one (ps_ret (pv 3))))), ?_⟩
  refine ⟨_, rfl, l, xs, rfl, .inl hl, fun L hL => ⟨len_ok (Nat.le_of_ble_eq_true rfl), fun F hF => ⟨_, _, rfl, ?_⟩⟩⟩
  have E1 := ext_new (o := .lst xs) (ext_refl H) hL
  have E2 := ext_new (o := .lst []) E1 hF
  have FL : F ≠ L := fun z => by rw [z, upd_same] at hF; cases hF
  have hF0 : H F = none := ext_none E1 hF
  refine ⟨_, rfl, l, xs, rfl, .inl (hl.ext E2), _, rfl, by omega, by omega, ?_⟩
  refine for_range (lo := 0) (fun i σ H' => ∃ ls fs z, σ = [some (.ref a), some (.ref l), some (.ref L), some (.ref F), z] ∧ (∀ a u, H a = some u → H' a = some u) ∧ H' L = some (.lst ls) ∧ H' F = some (.lst fs) ∧ ls.length + i = xs.length ∧ fs.length = i ∧ (fs ++ ls).Perm xs) ?_ ?_ ?_
  · exact ⟨xs, [], _, rfl, E2, by rw [upd_ne FL.symm, upd_same], upd_same, rfl, rfl, List.Perm.refl _⟩
  · rintro i σ H' hi ⟨ls, fs, z, rfl, e, hL', hF', c1, c2, c3⟩
    have hp : 0 < ls.length := by omega
    refine ⟨_, rfl, .inl ⟨rfl, fs, SqL.of hF'⟩, _, rfl, .inl ⟨rfl, ls, SqL.of hL'⟩, _, rfl, _, rfl, L, ls, rfl, .inl (SqL.of hL'), a, _, rfl, e _ _ ha, by omega, Sz.mono (n := 10) (by unfold Sz; omega) (by decide), fun r r0 r1 => ?_⟩
    obtain ⟨j, rfl⟩ : ∃ j : Nat, r = (j : Int) := ⟨r.toNat, by omega⟩
    have hj : j < ls.length := by omega
    have sj : seqIndex? (j : Int) ls.length = some j := PySem.StrLaws.seqIndex_nonneg (by omega) (by omega)
    refine ⟨L, ls, j, j, ls[j], rfl, rfl, hL', by omega, by omega, sj, List.getElem?_eq_getElem hj, F, fs, _, rfl, rfl, by rw [upd_ne FL]; exact hF', Nat.lt_of_le_of_lt (show fs.length ≤ 1000 by omega) (by decide), ?_⟩
    refine ⟨ls.eraseIdx j, fs ++ [ls[j]], _, rfl, two_new hF0 (two_new hL e), by rw [upd_ne FL.symm, upd_same], upd_same, ?_, by simp [c2], ?_⟩
    · rw [List.length_eraseIdx, if_pos hj]
      omega
    · rw [List.append_assoc]
      exact (List.Perm.append_left fs (erase_perm hj)).trans c3
  · rintro σ H' ⟨ls, fs, z, rfl, e, hL', hF', c1, c2, c3⟩
    have ez : ls = [] := List.eq_nil_of_length_eq_zero (by omega)
    rw [ez, List.append_nil] at c3
    exact ⟨_, rfl, k F H' fs e hF' c3⟩
theorem ok_lnames (T : Bn mg) (D : DefAt K mg "_law_names_drawn" s_lnames) (F__law_mixed : FnAt P w K mg base 2 "_law_mixed" ["_law_dice_here", "_law_items"] (spLMix K)) : FnAt P w K mg base 3 "_law_names_drawn" ["_law_dice_here", "_law_times"] spLNames := by
  refine fnAt D sc_lnames (fun _ _ _ _ _ _ us hl => match us, hl with | [_, _], _ => rfl) (fun vs H Q E h => ?_) fun f cdv A outer s H vs Q E hr h => ?_
  · obtain ⟨a, n, rfl, _⟩ := h
    rfl
  obtain ⟨a, n, rfl, ha, n1, n2, k⟩ := h
  refine ⟨_, (pss_one (ps_ret (pe_slice sl_list (callA F__law_mixed (hr.mono (by decide)) rfl (pa_cons (pv 0) (pa_cons (pe_lst (pa_cons pe_str (pa_cons pe_str (pa_cons pe_str (pa_cons pe_str (pa_cons pe_str (pa_cons pe_str (pa_cons pe_str (pa_cons pe_str (pa_cons pe_str (pa_cons pe_str pa_nil))))))))))) pa_nil))) po_none (po_some (pv 1))))), ?_⟩
  refine ⟨_, rfl, len_ok (Nat.le_of_ble_eq_true rfl), fun L hL => ?_⟩
  have x1 := ext_new (o := HO.lst (tenN.map V.str)) (ext_refl H) hL
  refine ⟨a, L, tenN.map V.str, rfl, x1 _ _ ha, SqL.of upd_same, by decide, fun p H' ys e hp pm => ?_⟩
  obtain ⟨ws, rfl, pw⟩ := perm_strs pm
  have hw : ws.length = 10 := pw.length_eq
  have cut : cutV (ws.map V.str) none (some (n : Int)) = (ws.take n).map V.str := by
    rw [cut_to (by rw [List.length_map]; omega), List.map_take]
  refine ⟨_, rfl, _, rfl, p, _, rfl, SqL.of hp, fun q hq => ?_⟩
  have x2 := ext_new (o := HO.lst ((ws.take n).map V.str)) (ext_refl H') hq
  rw [cut]
  refine k q _ (ws.take n) ((x1.trans e).trans x2) upd_same (by rw [List.length_take]; omega) ?_ fun z hz => ten_nm z (pw.mem_iff.mp (List.mem_of_mem_take hz))
  exact List.nodup_iff_pairwise_ne.mpr ((List.nodup_iff_pairwise_ne.mp (pw.nodup_iff.mpr ten_nd)).sublist (List.take_sublist _ _))
end
end My
/-! plain data (nothing, ints, texts, lists, tuples), compared -/
namespace My
open PySem PySem.Spec PyProof.Rows L2
def pl : Nat → PyData → Bool
  | _, .none => true
  | _, .int _ => true
  | _, .str x => PyData.strOk x
  | n + 1, .list xs => xs.all (pl n)
  | n + 1, .tuple xs => xs.all (pl n)
  | _, _ => false
theorem pl_all {n : Nat} (f : ∀ d, pl n d = true → d.canLay0 = true ∧ d.depth ≤ n) : ∀ xs : List PyData, xs.all (pl n) = true → PyData.canLayAll0 xs = true ∧ PyData.depthAll xs ≤ n
  | [], _ => ⟨rfl, Nat.zero_le _⟩
  | x :: xs, h => by
    rw [List.all_cons, Bool.and_eq_true] at h
    obtain ⟨a, b⟩ := pl_all f xs h.2
    obtain ⟨c, d⟩ := f x h.1
    rw [PyData.canLayAll0, PyData.depthAll, a, c]
    exact ⟨rfl, Nat.max_le.mpr ⟨d, b⟩⟩
theorem pl_ok : ∀ n d, pl n d = true → d.canLay0 = true ∧ d.depth ≤ n
  | n, .none, _ => by rw [PyData.canLay0, PyData.depth]; exact ⟨rfl, Nat.zero_le _⟩
  | n, .int _, _ => by rw [PyData.canLay0, PyData.depth]; exact ⟨rfl, Nat.zero_le _⟩
  | n, .str x, h => by
    have h' : PyData.strOk x = true := by cases n <;> exact h
    rw [PyData.canLay0, PyData.depth]
    exact ⟨h', Nat.zero_le _⟩
  | 0, .list xs, h => by cases h
  | 0, .tuple xs, h => by cases h
  | n + 1, .list xs, h => by
    obtain ⟨a, b⟩ := pl_all (pl_ok n) xs h
    rw [PyData.canLay0, PyData.depth]
    exact ⟨a, Nat.succ_le_succ b⟩
  | n + 1, .tuple xs, h => by
    obtain ⟨a, b⟩ := pl_all (pl_ok n) xs h
    rw [PyData.canLay0, PyData.depth]
    exact ⟨a, Nat.succ_le_succ b⟩
  | 0, .bool _, h => by cases h
  | n + 1, .bool _, h => by cases h
  | 0, .dict _, h => by cases h
  | n + 1, .dict _, h => by cases h
theorem pl_shaped {n : Nat} {d : PyData} (hn : n ≤ 64) (h : pl n d = true) : SeqAt.shaped d = true := by
  obtain ⟨a, b⟩ := pl_ok n d h
  unfold SeqAt.shaped
  rw [a, decide_eq_true (Nat.le_trans b hn)]
  rfl
theorem eqv_all {n : Nat} (f : ∀ d e, pl n d = true → pl n e = true → (PyData.eqv d e = true ↔ d = e)) : ∀ xs ys : List PyData, xs.all (pl n) = true → ys.all (pl n) = true → (PyData.eqvAll xs ys = true ↔ xs = ys)
  | [], [], _, _ => by rw [PyData.eqvAll]; simp
  | [], _ :: _, _, _ => by rw [PyData.eqvAll]; simp
  | _ :: _, [], _, _ => by rw [PyData.eqvAll]; simp
  | x :: xs, y :: ys, h, g => by
    rw [List.all_cons, Bool.and_eq_true] at h g
    rw [PyData.eqvAll, Bool.and_eq_true, f x y h.1 g.1, eqv_all f xs ys h.2 g.2, List.cons.injEq]
theorem eqv_pl : ∀ n d e, pl n d = true → pl n e = true → (PyData.eqv d e = true ↔ d = e) := by
  intro n
  induction n with
  | zero =>
    intro d e h g
    cases d <;> cases e <;> first | (cases h; done) | (cases g; done) | (rw [PyData.eqv]; simp)
  | succ n ih =>
    intro d e h g
    cases d with
    | list xs =>
      cases e with
      | list ys => rw [PyData.eqv, eqv_all ih xs ys h g, PyData.list.injEq]
      | _ => rw [PyData.eqv]; simp
    | tuple xs =>
      cases e with
      | tuple ys => rw [PyData.eqv, eqv_all ih xs ys h g, PyData.tuple.injEq]
      | _ => rw [PyData.eqv]; simp
    | bool b => cases h
    | dict k => cases h
    | none => cases e <;> first | (cases g; done) | (rw [PyData.eqv]; simp)
    | int i => cases e <;> first | (cases g; done) | (rw [PyData.eqv]; simp)
    | str x => cases e <;> first | (cases g; done) | (rw [PyData.eqv]; simp)
/-- d == e, d != e -/
theorem eqD_use {K : PySem.W.Frag} {H : Hp} {x y : V} {d e : PyData} {Q : VK} (n : Nat) (hn : n ≤ 64) (hx : Dp K H x d) (hy : Dp K H y e) (px : pl n d = true) (py : pl n e = true) (q : ∀ b : Bool, (b = true ↔ d = e) → Q (.bl b) H) : rEqD K x y H Q :=
  ⟨d, e, hx, hy, pl_shaped hn px, pl_shaped hn py, q _ (eqv_pl n d e px py)⟩
theorem neD_use {K : PySem.W.Frag} {H : Hp} {x y : V} {d e : PyData} {Q : VK} (n : Nat) (hn : n ≤ 64) (hx : Dp K H x d) (hy : Dp K H y e) (px : pl n d = true) (py : pl n e = true) (q : ∀ b : Bool, (b = true ↔ d = e) → Q (.bl (!b)) H) : rNeD K x y H Q :=
  ⟨d, e, hx, hy, pl_shaped hn px, pl_shaped hn py, q _ (eqv_pl n d e px py)⟩
theorem pl_ints (n : Nat) (ns : List Int) : (ns.map PyData.int).all (pl n) = true := by
  rw [List.all_map]
  exact List.all_eq_true.mpr fun _ _ => by cases n <;> rfl
theorem pl_strs {n : Nat} {ss : List Str} (h : ∀ s ∈ ss, PyData.strOk s = true) : (ss.map PyData.str).all (pl n) = true := by
  rw [List.all_map]
  exact List.all_eq_true.mpr fun s hs => by cases n <;> exact h s hs
theorem dp_ints {K : PySem.W.Frag} {H : Hp} : ∀ ns : List Int, DpAll K H (ns.map V.int) (ns.map PyData.int) := by
  intro ns
  induction ns with
  | nil => exact .nil
  | cons x r ih => exact .cons (.int x) ih
theorem int_inj {a b : List Int} : a.map PyData.int = b.map PyData.int ↔ a = b := by
  constructor
  · intro h
    exact (List.map_inj_right (fun _ _ h => PyData.int.inj h)).mp h
  · exact fun h => by rw [h]
theorem str_inj {a b : List Str} : a.map PyData.str = b.map PyData.str ↔ a = b := by
  constructor
  · intro h
    exact (List.map_inj_right (fun _ _ h => PyData.str.inj h)).mp h
  · exact fun h => by rw [h]
end My
namespace My
open PySem PySem.Spec PyProof.Rows L2
local macro_rules | `(tactic| walk_at "side") => `(tactic| first | assumption | decide | exact Or.inl ⟨by decide, by decide⟩ | exact Or.inr ⟨by decide, by decide⟩ | exact ⟨by decide, by decide, by decide⟩ | omega | (unfold CMulW; decide +kernel) | (dsimp only; first | assumption | omega | decide +kernel) | exact len_ok (Nat.le_of_ble_eq_true rfl) | fail "side")
local macro_rules | `(tactic| walk_at "rd") => `(tactic| first
  | refine ⟨_, _, _, _, rfl, rfl, SqL.of upd_same, atI_nat (j := 0) rfl, ?_⟩ | refine ⟨_, _, _, _, rfl, rfl, SqL.of upd_same, atI_nat (j := 1) rfl, ?_⟩ | refine ⟨_, _, _, _, rfl, rfl, SqL.of upd_same, atI_nat (j := 2) rfl, ?_⟩
  | refine ⟨_, _, _, _, rfl, rfl, upd_same, rfl, ?_⟩
  | refine ⟨_, _, rfl, rfl, ?_⟩ | refine ⟨_, rfl, ?_⟩ | refine ⟨_, _, rfl, ?_⟩ | refine Or.inl ⟨_, rfl, ?_⟩ | refine Or.inr ⟨_, rfl, ?_⟩ | refine ⟨(by walk_at "side"), ?_⟩ | fail "rd")

abbrev s_lwhole : Stmt := top 42
theorem sc_lwhole : FnScope ["_law_upper", "_law_lower", "_law_cuts", "_law_k"] ["_law_upper", "_law_lower"] (defScope s_lwhole) := ⟨rfl, rfl, rfl, by decide +kernel, rfl, by decide +kernel, by decide +kernel⟩
theorem hu0 {A : Around} {k : Nat} (hr : Room k A) : A.units < cLine := by
  have := hr.units
  omega
theorem lay_ints : ∀ ns : List Int, PyData.canLayAll0 (ns.map PyData.int) = true := by
  intro ns
  induction ns with
  | nil => rfl
  | cons x r ih =>
    rw [List.map_cons, PyData.canLayAll0, ih]
    rfl
theorem dep_ints : ∀ ns : List Int, PyData.depthAll (ns.map PyData.int) = 0 := by
  intro ns
  induction ns with
  | nil => rfl
  | cons x r ih =>
    rw [List.map_cons, PyData.depthAll, ih]
    rfl
theorem shaped_ints (ns : List Int) : SeqAt.shaped (.list (ns.map PyData.int)) = true := by
  unfold SeqAt.shaped
  rw [PyData.canLay0, lay_ints, PyData.depth, dep_ints]
  rfl
theorem eqv_nil (ns : List Int) : PyData.eqv (.list (ns.map PyData.int)) (.list []) = decide (ns = []) := by
  cases ns with
  | nil => rfl
  | cons x r => rfl
def spLWh (K : PySem.W.Frag) : Sp := fun vs H Q _ => ∃ (a b : Addr) (us ls : List Str), vs = [.ref a, .ref b] ∧ SqL K H a (us.map V.str) ∧ SqL K H b (ls.map V.str) ∧ RowsOk us ls ∧ ∀ r H', Ext H H' → (r = true → Whl us ls) → Q (.bl r) H'
section
variable {P : Program} {w : World} {K : PySem.W.Frag} {mg : Str → Option Value} {base : Heap}
theorem ok_lwhole (T : Bn mg) (D : DefAt K mg "_law_is_whole" s_lwhole) : FnAt P w K mg base 1 "_law_is_whole" ["_law_upper", "_law_lower"] (spLWh K) := by
  refine fnAt D sc_lwhole (fun _ _ _ _ _ _ us hl => match us, hl with | [_, _], _ => rfl) (fun vs H Q E h => ?_) fun f cdv A outer s H vs Q E hr h => ?_
  · obtain ⟨a, b, us, ls, rfl, _⟩ := h
    rfl
  obtain ⟨a, b, us, ls, rfl, ha, hb, ro, k⟩ := h
  have l1 := ro.le
  have l2 := ro.len
  have l3 := ro.ne
  refine ⟨_, (pss_cons (ps_setLc (i := 2) (own := [("_law_k", 3)]) (g := gName 3) (tt := _) rfl sc_lwhole.nd rfl rfl (sw_true rfl rfl rfl (by decide +kernel)) (pi_range2 (by rfl) T.b_range (pa_cons pe_int (pa_cons (pe_callB call_len_seq (by rfl) T.b_len (by decide +kernel) (pa_cons (pv 0) pa_nil)) pa_nil))) (blkOk_by (N := ["_law_upper", "_law_lower", "_law_cuts", "_law_k"]) (sc := defScope s_lwhole) (by decide +kernel)) (fun _ _ _ _ _ => pg_name (i := 3) sc_lwhole.nd rfl (Or.inl rfl)) (fun _ _ _ _ _ => pts_one (pt_cmpR (show OpR _ _ (rEqT P w) from op_eqT (hu0 hr)) (pe_callTy (show CallR _ _ (rSetT P w K) from cr_setT rfl) (by rfl) T.b_set (by decide +kernel) (pa_cons (pe_slice (show SlR _ (rSlL K) from sl_list) (pv 0) po_none (po_some (pv 3))) pa_nil)) (pe_callTy (show CallR _ _ (rSetT P w K) from cr_setT rfl) (by rfl) T.b_set (by decide +kernel) (pa_cons (pe_slice (show SlR _ (rSlL K) from sl_list) (pv 1) po_none (po_some (pv 3))) pa_nil)) (nomark _))) (fun _ _ _ _ _ => (pv 3)))
    (pss_one (ps_ret (pe_and (pe_cmpR op_gt (pe_callB call_len_seq (by rfl) T.b_len (by decide +kernel) (pa_cons (pv 0) pa_nil)) pe_int (nomark _)) (pe_one (pe_cmpR (op_eqD (hu64 hr)) (pv 2) (pe_lst pa_nil) (nomark _))))))), ?_⟩
  refine ⟨_, rfl, a, _, rfl, .inl ha, 1, _, rfl, ⟨by decide, by decide, by omega, by rw [List.length_map]; omega⟩, fun D hD => ?_⟩
  have hn : (((us.map V.str).length : Nat) : Int) - 1 = ((us.length - 1 : Nat) : Int) := by
    rw [List.length_map]
    omega
  rw [hn, Int.toNat_natCast]
  refine lc_it (walk_range (lo := 1) (n := us.length - 1)) (fun i H' => Ext H H' ∧ ∃ acc : List Int, H' D = some (.lst (acc.map V.int)) ∧ acc.length ≤ i ∧ (acc = [] → ∀ k, 0 < k → k < i + 1 → ¬ ∀ x, x ∈ us.take k ↔ x ∈ ls.take k))
    ⟨ext_new (ext_refl H) hD, [], upd_same, Nat.le_refl _, fun _ k h0 h1 => by omega⟩ (fun _ _ _ _ => trivial) (fun i x H1 H' hi p y => ?_) fun H' p => ?_
  · obtain ⟨rfl, rfl⟩ := y
    obtain ⟨p1, acc, p2, p3, p4⟩ := p
    dsimp only
    have ei : (1 : Int) + (i : Nat) = ((i + 1 : Nat) : Int) := by omega
    rw [ei]
    refine ⟨rfl, ?_⟩
    have cutU : cutV (us.map V.str) none (some ((i + 1 : Nat) : Int)) = (us.take (i + 1)).map V.str := by
      rw [cut_to (by rw [List.length_map]; omega), List.map_take]
    have cutL : cutV (ls.map V.str) none (some ((i + 1 : Nat) : Int)) = (ls.take (i + 1)).map V.str := by
      rw [cut_to (by rw [List.length_map]; omega), List.map_take]
    refine ⟨_, rfl, _, rfl, _, rfl, a, _, rfl, ha.ext p1, fun q1 hq1 => ?_⟩
    have x1 := ext_new (o := HO.lst (cutV (us.map V.str) none (some ((i + 1 : Nat) : Int)))) (ext_refl H') hq1
    dsimp only [tNil]
    refine ⟨q1, us.take (i + 1), rfl, .inl (SqL.of (by rw [← cutU]; exact upd_same)), by rw [List.length_take]; omega, fun s1 hs1 => ?_⟩
    have x2 := ext_new (o := SetT P w s1 (us.take (i + 1))) (ext_refl _) hs1
    have p6 := (p1.trans x1).trans x2
    refine ⟨_, rfl, _, rfl, _, rfl, b, _, rfl, hb.ext p6, fun q2 hq2 => ?_⟩
    have x3 := ext_new (o := HO.lst (cutV (ls.map V.str) none (some ((i + 1 : Nat) : Int)))) (ext_refl _) hq2
    dsimp only [tNil]
    refine ⟨q2, ls.take (i + 1), rfl, .inl (SqL.of (by rw [← cutL]; exact upd_same)), by rw [List.length_take]; omega, fun s2 hs2 => ?_⟩
    have x4 := ext_new (o := SetT P w s2 (ls.take (i + 1))) (ext_refl _) hs2
    have p7 := (p6.trans x3).trans x4
    have hD7 := x4 _ _ (x3 _ _ (x2 _ _ (x1 _ _ p2)))
    refine ⟨s1, s2, _, _, rfl, rfl, x4 _ _ (x3 _ _ upd_same), upd_same, _, rfl, ite2 (fun c => ?_) (fun c => ?_)⟩
    · refine ⟨_, rfl, _, hD7, ?_, ext_mut p7 hD, acc ++ [((i + 1 : Nat) : Int)], ?_, ?_, fun z => ?_⟩
      · rw [List.length_map]
        exact len_lt (by omega)
      · rw [upd_same, List.map_append]
        rfl
      · rw [List.length_append]
        exact Nat.succ_le_succ p3
      · exact absurd z (by simp)
    · refine ⟨p7, acc, hD7, by omega, fun z j h0 h1 => ?_⟩
      by_cases e : j = i + 1
      · rw [e]
        exact fun q => c ((sameT_iff _ _).mpr q)
      · exact p4 z j h0 (by omega)
  · obtain ⟨p1, acc, p2, p3, p4⟩ := p
    refine ⟨_, rfl, a, _, rfl, .inl (ha.ext p1), _, _, rfl, rfl, _, rfl, ?_⟩
    rw [List.length_map]
    refine ite2 (fun c => ?_) (fun c => ?_)
    · have two : 1 < us.length := by
        have := of_decide_eq_true c
        omega
      refine ⟨_, rfl, len_ok (Nat.le_of_ble_eq_true rfl), fun L hL => ?_⟩
      have x1 := ext_new (o := HO.lst []) (ext_refl H') hL
      refine ⟨_, _, .lst (SqL.of (x1 _ _ p2)) (dp_ints acc), .lst (SqL.of upd_same) .nil, shaped_ints acc, rfl, ?_⟩
      rw [eqv_nil]
      refine k _ _ (p1.trans x1) fun z => ⟨ro, two, fun j h0 h1 => p4 (of_decide_eq_true z) j h0 (by omega)⟩
    · exact k _ _ p1 fun z => by cases z
end
end My
namespace My
open PySem PySem.Spec PyProof.Rows L2
local macro_rules | `(tactic| walk_at "side") => `(tactic| first | assumption | decide | exact Or.inl ⟨by decide, by decide⟩ | exact Or.inr ⟨by decide, by decide⟩ | exact ⟨by decide, by decide, by decide⟩ | omega | (unfold CMulW; decide +kernel) | (dsimp only; first | assumption | omega | decide +kernel) | exact len_ok (Nat.le_of_ble_eq_true rfl) | fail "side")
local macro_rules | `(tactic| walk_at "rd") => `(tactic| first
  | refine ⟨_, _, _, _, rfl, rfl, SqL.of upd_same, atI_nat (j := 0) rfl, ?_⟩ | refine ⟨_, _, _, _, rfl, rfl, SqL.of upd_same, atI_nat (j := 1) rfl, ?_⟩ | refine ⟨_, _, _, _, rfl, rfl, SqL.of upd_same, atI_nat (j := 2) rfl, ?_⟩
  | refine ⟨_, _, _, _, rfl, rfl, upd_same, rfl, ?_⟩
  | refine ⟨_, _, rfl, rfl, ?_⟩ | refine ⟨_, rfl, ?_⟩ | refine ⟨_, _, rfl, ?_⟩ | refine Or.inl ⟨_, rfl, ?_⟩ | refine Or.inr ⟨_, rfl, ?_⟩ | refine ⟨(by walk_at "side"), ?_⟩ | fail "rd")

abbrev s_lrows : Stmt := top 43
theorem sc_lrows : FnScope ["_law_dice_here", "_law_times", "_law_upper", "_law_lower", "_law_turn", "_law_other"] ["_law_dice_here", "_law_times"] (defScope s_lrows) := ⟨rfl, rfl, rfl, by decide +kernel, rfl, by decide +kernel, by decide +kernel⟩
theorem rev_whl {us : List Str} (nd : us.Nodup) (nm : ∀ z ∈ us, isNm z = true) (two : 2 ≤ us.length) (le : us.length ≤ 40) : Whl us us.reverse := by
  refine ⟨⟨nm, nd, List.reverse_perm us, by omega, le⟩, two, fun k k0 kn q => ?_⟩
  have m : us[0]'(by omega) ∈ us.take k := List.mem_of_getElem? (i := 0) (by rw [List.getElem?_take_of_lt k0, List.getElem?_eq_getElem])
  obtain ⟨j, hj, e⟩ := List.getElem_of_mem ((q _).mp m)
  rw [List.length_take, List.length_reverse] at hj
  rw [List.getElem_take, List.getElem_reverse] at e
  have pw := List.pairwise_iff_getElem.mp (List.nodup_iff_pairwise_ne.mp nd)
  exact pw 0 (us.length - 1 - j) (by omega) (by omega) (by omega) e.symm
def spLRows : Sp := fun vs H Q _ => ∃ (a : Addr) (n : Nat), vs = [.ref a, .int (n : Nat)] ∧ H a = some (DiceO a) ∧ 2 ≤ n ∧ n ≤ 10 ∧ ∀ t U L (us ls : List Str) H', Ext H H' → H' t = some (.tup [.ref U, .ref L]) → H' U = some (.lst (us.map V.str)) → H' L = some (.lst (ls.map V.str)) → Whl us ls → us.length ≤ 10 → Q (.ref t) H'
section
variable {P : Program} {w : World} {K : PySem.W.Frag} {mg : Str → Option Value} {base : Heap}
theorem ok_lrows (T : Bn mg) (D : DefAt K mg "_law_rows_drawn" s_lrows) (F__law_roll : FnAt P w K mg base 1 "_law_roll" ["_law_dice_here", "_law_total"] spRoll) (F__law_mixed : FnAt P w K mg base 2 "_law_mixed" ["_law_dice_here", "_law_items"] (spLMix K))
    (F__law_names_drawn : FnAt P w K mg base 3 "_law_names_drawn" ["_law_dice_here", "_law_times"] spLNames) (F__law_is_whole : FnAt P w K mg base 1 "_law_is_whole" ["_law_upper", "_law_lower"] (spLWh K)) : FnAt P w K mg base 4 "_law_rows_drawn" ["_law_dice_here", "_law_times"] spLRows := by
  refine fnAt D sc_lrows (fun _ _ _ _ _ _ us hl => match us, hl with | [_, _], _ => rfl) (fun vs H Q E h => ?_) fun f cdv A outer s H vs Q E hr h => ?_
  · obtain ⟨a, n, rfl, _⟩ := h
    rfl
  obtain ⟨a, n, rfl, ha, n1, n2, k⟩ := h
  refine ⟨_, (pss_cons (ps_set (i := 2) sc_lrows.nd rfl (Or.inl rfl) (callA F__law_names_drawn (hr.mono (by decide)) rfl (pa_cons (pv 0) (pa_cons (pv 1) pa_nil))))
    (pss_cons (ps_set (i := 3) sc_lrows.nd rfl (Or.inl rfl) (pe_revL (pv 2)))
    (Evl.pss_cut (ps_if (pt_cmpR op_gt (callA F__law_roll (hr.mono (by decide)) rfl (pa_cons (pv 0) (pa_cons pe_int pa_nil))) pe_int (nomark _)) (pss_one (ps_for PassesOwn.never rfl (pi_range1 (by rfl) T.b_range (pa_cons pe_int pa_nil)) (pg_name (i := 4) sc_lrows.nd rfl (Or.inl rfl))
      (pss_cons (ps_set (i := 5) sc_lrows.nd rfl (Or.inl rfl) (callA F__law_mixed (hr.mono (by decide)) rfl (pa_cons (pv 0) (pa_cons (pv 2) pa_nil))))
    (pss_one (ps_if (pt_val (callA F__law_is_whole (hr.mono (by decide)) rfl (pa_cons (pv 2) (pa_cons (pv 5) pa_nil)))) (pss_one (ps_set (i := 3) sc_lrows.nd rfl (Or.inl rfl) (pv 5))) pss_nil))))) pss_nil)
    (pss_one (ps_ret (pe_tup (pa_cons (pv 2) (pa_cons (pv 3) pa_nil)))))))), ?_⟩
  refine ⟨_, rfl, _, rfl, a, n, rfl, ha, by omega, n2, fun U H1 us e1 hU lu nd nm => ?_⟩
  have w0 := rev_whl nd nm (by omega) (by omega)
  refine ⟨_, rfl, U, _, rfl, SqL.of hU, fun L hL => ?_⟩
  have x1 := ext_new (o := HO.lst (us.map V.str).reverse) (ext_refl H1) hL
  have e2 := e1.trans x1
  have hU2 := x1 _ _ hU
  have hL2 : upd H1 L (.lst (us.map V.str).reverse) L = some (.lst (us.reverse.map V.str)) := by rw [upd_same, List.map_reverse]
  generalize upd H1 L (.lst (us.map V.str).reverse) = H2 at e2 hU2 hL2 ⊢
  have fin : ∀ (L' : Addr) (ls : List Str) (H3 : Hp) (u v : Option V), Ext H H3 → H3 U = some (.lst (us.map V.str)) → H3 L' = some (.lst (ls.map V.str)) → Whl us ls → ∀ t, H3 t = none → Q (.ref t) (upd H3 t (.tup [.ref U, .ref L'])) := fun L' ls H3 u v e3 h1 h2 wl t ht => by
    have x := ext_new (o := HO.tup [V.ref U, V.ref L']) (ext_refl H3) ht
    exact k t U L' us ls _ (e3.trans x) upd_same (x _ _ h1) (x _ _ h2) wl (by omega)
  refine ⟨fun σ' H' => ∃ (L' : Addr) (ls : List Str) (u v : Option V), σ' = [some (.ref a), some (.int (n : Nat)), some (.ref U), some (.ref L'), u, v] ∧ Ext H H' ∧ H' U = some (.lst (us.map V.str)) ∧ H' L' = some (.lst (ls.map V.str)) ∧ Whl us ls, ?_, ?_⟩
  · refine ⟨_, rfl, a, 4, rfl, e2 _ _ ha, by decide, by unfold Sz; decide, fun r r0 r1 => ⟨_, _, rfl, rfl, _, rfl, ite2 (fun c => ?_) (fun c => ?_)⟩⟩
    · refine ⟨4, rfl, by decide, by decide, for_it (walk_range (lo := 0) (n := 4)) (fun i σ' H' => ∃ (L' : Addr) (ls : List Str) (u v : Option V), σ' = [some (.ref a), some (.int (n : Nat)), some (.ref U), some (.ref L'), u, v] ∧ Ext H H' ∧ H' U = some (.lst (us.map V.str)) ∧ H' L' = some (.lst (ls.map V.str)) ∧ Whl us ls)
        ⟨L, us.reverse, _, _, rfl, e2, hU2, hL2, w0⟩ (fun _ _ _ _ _ => trivial) (fun i x σ' H3 H4 hi p y => ?_) fun σ' H' p => p⟩
      obtain ⟨rfl, rfl⟩ := y
      obtain ⟨L', ls, u, v, rfl, e3, h1, h2, wl⟩ := p
      refine ⟨_, rfl, _, rfl, a, U, us.map V.str, rfl, e3 _ _ ha, SqL.of h1, by rw [List.length_map]; omega, fun p H5 ws e4 hp pm => ?_⟩
      obtain ⟨os, rfl, po⟩ := perm_strs pm
      have ro : RowsOk us os := ⟨nm, nd, po, by omega, by omega⟩
      have e5 := e3.trans e4
      refine ⟨_, rfl, _, rfl, U, p, us, os, rfl, SqL.of (e4 _ _ h1), SqL.of hp, ro, fun r' H6 e6 hr' => ⟨_, rfl, ite2 (fun c => ?_) (fun c => ?_)⟩⟩
      · exact ⟨_, rfl, p, os, _, _, rfl, e5.trans e6, e6 _ _ (e4 _ _ h1), e6 _ _ hp, hr' c⟩
      · exact ⟨L', ls, _, _, rfl, e5.trans e6, e6 _ _ (e4 _ _ h1), e6 _ _ (e4 _ _ h2), wl⟩
    · exact ⟨L, us.reverse, _, _, rfl, e2, hU2, hL2, w0⟩
  · rintro σ' H' ⟨L', ls, u, v, rfl, e3, h1, h2, wl⟩
    refine ⟨_, rfl, _, rfl, len_ok (Nat.le_of_ble_eq_true rfl), fun t ht => fin L' ls H' u v e3 h1 h2 wl t ht⟩
end
end My
namespace My
open PySem PySem.Spec PyProof.Rows L2
local macro_rules | `(tactic| walk_at "side") => `(tactic| first | assumption | decide | exact Or.inl ⟨by decide, by decide⟩ | exact Or.inr ⟨by decide, by decide⟩ | exact ⟨by decide, by decide, by decide⟩ | omega | (unfold CMulW; decide +kernel) | (dsimp only; first | assumption | omega | decide +kernel) | exact len_ok (Nat.le_of_ble_eq_true rfl) | fail "side")
local macro_rules | `(tactic| walk_at "rd") => `(tactic| first
  | refine ⟨_, _, _, _, rfl, rfl, SqL.of upd_same, atI_nat (j := 0) rfl, ?_⟩ | refine ⟨_, _, _, _, rfl, rfl, SqL.of upd_same, atI_nat (j := 1) rfl, ?_⟩ | refine ⟨_, _, _, _, rfl, rfl, SqL.of upd_same, atI_nat (j := 2) rfl, ?_⟩
  | refine ⟨_, _, _, _, rfl, rfl, upd_same, rfl, ?_⟩
  | refine ⟨_, _, rfl, rfl, ?_⟩ | refine ⟨_, rfl, ?_⟩ | refine ⟨_, _, rfl, ?_⟩ | refine Or.inl ⟨_, rfl, ?_⟩ | refine Or.inr ⟨_, rfl, ?_⟩ | refine ⟨(by walk_at "side"), ?_⟩ | fail "rd")

abbrev s_lkinds : Stmt := top 46
theorem sc_lkinds : FnScope ["_law_dice_here", "_law_times", "_law_turn"] ["_law_dice_here", "_law_times"] (defScope s_lkinds) := ⟨rfl, rfl, rfl, by decide +kernel, rfl, by decide +kernel, by decide +kernel⟩
def twoK : List V := [.str "upper", .str "lower"]
theorem two_kS {x : V} (h : x ∈ twoK) : ∃ k, x = .str (kS k) := by
  rcases List.mem_cons.mp h with e | h
  · exact ⟨true, e⟩
  · exact ⟨false, List.mem_singleton.mp h⟩
theorem kVs_snoc (ks : List Bool) (k : Bool) : kVs ks ++ [.str (kS k)] = kVs (ks ++ [k]) := by
  unfold kVs
  rw [List.map_append]
  rfl
def spLKinds (K : PySem.W.Frag) : Sp := fun vs H Q _ => ∃ (a : Addr) (n : Nat), vs = [.ref a, .int (n : Nat)] ∧ H a = some (DiceO a) ∧ n ≤ 100 ∧ ∀ p H' ks, Ext H H' → SqT K H' p (kVs ks) → ks.length = n → Q (.ref p) H'
section
variable {P : Program} {w : World} {K : PySem.W.Frag} {mg : Str → Option Value} {base : Heap}
theorem ok_lkinds (T : Bn mg) (D : DefAt K mg "_law_walk_drawn" s_lkinds) (F__law_pick : FnAt P w K mg base 2 "_law_pick" ["_law_dice_here", "_law_items"] (spPick K)) : FnAt P w K mg base 3 "_law_walk_drawn" ["_law_dice_here", "_law_times"] (spLKinds K) := by
  refine fnAt D sc_lkinds (fun _ _ _ _ _ _ us hl => match us, hl with | [_, _], _ => rfl) (fun vs H Q E h => ?_) fun f cdv A outer s H vs Q E hr h => ?_
  · obtain ⟨a, n, rfl, _⟩ := h
    rfl
  obtain ⟨a, n, rfl, ha, n1, k⟩ := h
  refine ⟨_, (pss_one (ps_ret (pe_callTy call_tuple_of (by rfl) T.b_tuple (by decide +kernel) (pa_cons (pe_lc (own := [("_law_turn", 2)]) (g := gName 2) (tt := tYes) rfl sc_lkinds.nd (pi_range1 (by rfl) T.b_range (pa_cons (pv 1) pa_nil)) (blkOk_by (N := ["_law_dice_here", "_law_times", "_law_turn"]) (sc := defScope s_lkinds) (by decide +kernel)) (fun _ _ _ _ _ => pg_name (i := 2) sc_lkinds.nd rfl (Or.inl rfl)) (fun _ _ _ _ _ => pts_nil) (fun _ _ _ _ _ => (callA F__law_pick (hr.mono (by decide)) rfl (pa_cons (pv 0) (pa_cons (pe_lst (pa_cons pe_str (pa_cons pe_str pa_nil))) pa_nil))))) pa_nil)))), ?_⟩
  refine ⟨_, rfl, _, rfl, by omega, by omega, fun D hD => ?_⟩
  rw [Int.toNat_natCast]
  refine made_range (fun acc _ => ∃ ks, acc = kVs ks) (fun _ _ _ h _ _ => h) hD (by omega) (fun _ => rfl) (fun _ => ⟨[], rfl⟩) (fun i H' acc hi e hl pv Q' k' => ?_) fun H' acc e hD' hl pv => ?_
  · obtain ⟨ks, rfl⟩ := pv
    refine ⟨_, rfl, len_ok (Nat.le_of_ble_eq_true rfl), fun L hL => ?_⟩
    have x := ext_new (o := HO.lst twoK) (ext_refl H') hL
    refine ⟨a, L, twoK, rfl, x _ _ (e _ _ ha), SqL.of upd_same, by decide, by decide, fun v hv => ?_⟩
    obtain ⟨kd, rfl⟩ := two_kS hv
    exact k' _ _ x ⟨ks ++ [kd], kVs_snoc ks kd⟩
  · obtain ⟨ks, rfl⟩ := pv
    refine ⟨D, _, rfl, .inl ⟨SqL.of hD', fun l hl2 => ?_⟩⟩
    have x := ext_new (o := HO.tup (kVs ks)) (ext_refl H') hl2
    refine k l _ ks (e.trans x) (SqT.of upd_same) ?_
    unfold kVs at hl
    rw [List.length_map] at hl
    exact hl
end
end My
namespace My
open PySem PySem.Spec PyProof.Rows L2
local macro_rules | `(tactic| walk_at "side") => `(tactic| first | assumption | decide | exact Or.inl ⟨by decide, by decide⟩ | exact Or.inr ⟨by decide, by decide⟩ | exact ⟨by decide, by decide, by decide⟩ | omega | (unfold CMulW; decide +kernel) | (dsimp only; first | assumption | omega | decide +kernel) | exact len_ok (Nat.le_of_ble_eq_true rfl) | fail "side")
local macro_rules | `(tactic| walk_at "rd") => `(tactic| first
  | refine ⟨_, _, _, _, rfl, rfl, SqL.of upd_same, atI_nat (j := 0) rfl, ?_⟩ | refine ⟨_, _, _, _, rfl, rfl, SqL.of upd_same, atI_nat (j := 1) rfl, ?_⟩ | refine ⟨_, _, _, _, rfl, rfl, SqL.of upd_same, atI_nat (j := 2) rfl, ?_⟩
  | refine ⟨_, _, _, _, rfl, rfl, upd_same, rfl, ?_⟩
  | refine ⟨_, _, rfl, rfl, ?_⟩ | refine ⟨_, rfl, ?_⟩ | refine ⟨_, _, rfl, ?_⟩ | refine Or.inl ⟨_, rfl, ?_⟩ | refine Or.inr ⟨_, rfl, ?_⟩ | refine ⟨(by walk_at "side"), ?_⟩ | fail "rd")

abbrev s_anyint : Stmt := top 9
theorem sc_anyint : FnScope ["value"] ["value"] (defScope s_anyint) := ⟨rfl, rfl, rfl, by decide +kernel, rfl, by decide +kernel, by decide +kernel⟩
abbrev s_wpl : Stmt := top 34
theorem sc_wpl : FnScope ["value", "place"] ["value"] (defScope s_wpl) := ⟨rfl, rfl, rfl, by decide +kernel, rfl, by decide +kernel, by decide +kernel⟩
abbrev s_led : Stmt := top 35
theorem sc_led : FnScope ["places", "kind", "last", "greatest", "row", "place", "behind"] ["places", "kind"] (defScope s_led) := ⟨rfl, rfl, rfl, by decide +kernel, rfl, by decide +kernel, by decide +kernel⟩
abbrev s_moved : Stmt := top 33
theorem sc_moved : FnScope ["places", "kind"] ["places", "kind"] (defScope s_moved) := ⟨rfl, rfl, rfl, by decide +kernel, rfl, by decide +kernel, by decide +kernel⟩
/-- places of whole rows, in a tuple without a dict -/
def PtAt (K : PySem.W.Frag) (H : Hp) (p : Addr) (us ls : List Str) : Prop := SqT K H p ((plc us ls).map V.int) ∧ NoD K H p
theorem PtAt.ext {K : PySem.W.Frag} {H H' : Hp} {p : Addr} {us ls : List Str} (h : PtAt K H p us ls) (e : Ext H H') : PtAt K H' p us ls := ⟨h.1.ext e, h.2.ext e⟩
def spAnyInt : Sp := fun vs H Q _ => ∃ i : Int, vs = [.int i] ∧ Q (.bl true) H
def spWPl (K : PySem.W.Frag) : Sp := fun vs H Q _ => ∃ (p : Addr) (us ls : List Str), vs = [.ref p] ∧ SqT K H p ((plc us ls).map V.int) ∧ Whl us ls ∧ ∀ H', Ext H H' → Q (.bl true) H'
def spLedP (K : PySem.W.Frag) : Sp := fun vs H Q _ => ∃ (p : Addr) (us ls : List Str) (k : Bool), vs = [.ref p, .str (kS k)] ∧ PtAt K H p us ls ∧ Whl us ls ∧ ∀ q H', Ext H H' → PtAt K H' q (led1 k (us, ls)).1 (led1 k (us, ls)).2 → Q (.ref q) H'
theorem kit_ii {K : PySem.W.Frag} : PySem.W.kitOne K (.type "int") (.type "int") = some true := kit_ty (by decide +kernel : kitB "int" "int" = some true)
theorem kit_ib {K : PySem.W.Frag} : PySem.W.kitOne K (.type "int") (.type "bool") = some false := kit_ty (by decide +kernel : kitB "int" "bool" = some false)
theorem plc_self {ls : List Str} (nd : ls.Nodup) : plc ls ls = (List.range ls.length).map fun i => ((i : Nat) : Int) := by
  apply List.ext_getElem?
  intro i
  rw [plc_get, List.getElem?_map]
  by_cases h : i < ls.length
  · rw [List.getElem?_eq_getElem h, List.getElem?_range h, Option.map_some, Option.map_some, pos_at nd h]
  · rw [List.getElem?_eq_none (by omega), List.getElem?_eq_none (by rw [List.length_range]; omega)]
    rfl
theorem plc_perm {us ls : List Str} (ro : RowsOk us ls) : (plc us ls).Perm ((List.range us.length).map fun i => ((i : Nat) : Int)) := by
  have p : (plc ls ls).Perm (plc us ls) := ro.pm.map _
  rw [plc_self ro.symm.nd, ro.len] at p
  exact p.symm
theorem range_pw (n : Nat) : ((List.range n).map fun i => ((i : Nat) : Int)).Pairwise (· ≤ ·) := by
  rw [List.pairwise_map]
  exact List.pairwise_lt_range.imp fun h => by omega
theorem sorted_plc {us ls : List Str} (ro : RowsOk us ls) {ys : List Int} (pm : ys.Perm (plc us ls)) (so : ys.Pairwise (· ≤ ·)) : ys = (List.range us.length).map fun i => ((i : Nat) : Int) :=
  (pm.trans (plc_perm ro)).eq_of_pairwise (fun a b _ _ h g => Int.le_antisymm h g) so (range_pw _)
theorem rgV_nat (n : Nat) : rgV 0 (n : Int) = ((List.range n).map fun i => ((i : Nat) : Int)).map V.int := by
  unfold rgV
  rw [List.map_map, Int.sub_zero, Int.toNat_natCast]
  refine List.map_congr_left fun i _ => ?_
  show V.int (0 + (i : Int)) = V.int (i : Int)
  rw [Int.zero_add]
theorem one_block {us ls : List Str} (h : Whl us ls) : bend 0 0 (plc us ls) = [((us.length : Nat) : Int)] := by
  have b := h.bends us.length 0 (by omega) (by have := h.two; omega)
  have e0 : fm (plc us ls) 0 = 0 := rfl
  rw [e0, List.drop_zero] at b
  exact b
theorem flat_ints (l : List Int) : (l.map V.int).all flatV = true := by
  rw [List.all_map]
  exact List.all_eq_true.mpr fun _ _ => rfl
/-- places.index(greatest) -/
theorem top_use {K : PySem.W.Frag} {H : Hp} {p : Addr} {us ls : List Str} {Q : VK} (hp : SqT K H p ((plc us ls).map V.int)) (w : Whl us ls) {g : Int} (eg : g = (us.length : Int) - 1) (q : Q (.int (pos us (lastS ls) : Nat)) H) : rIdxT K (.ref p) [.int g] H Q := by
  obtain ⟨t1, t2⟩ := plc_top w
  refine ⟨p, _, .int g, pos us (lastS ls), .int g, rfl, rfl, hp, flat_ints _, rfl, ?_, ?_, fun m v hm hv => ?_, q⟩
  · rw [List.getElem?_map, t1, eg]
    rfl
  · show (g == g) = true
    exact beq_self_eq_true g
  · rw [List.getElem?_map] at hv
    obtain ⟨z, hz, rfl⟩ := Option.map_eq_some_iff.mp hv
    show (z == g) = false
    rw [eg]
    exact beq_eq_false_iff_ne.mpr (t2 m z hm hz)
def upF (q z : Int) : Int := if z ≤ q then z else z + 1
def iOf : V → Int
  | .int i => i
  | _ => 0
theorem atI_end {α : Type} {xs : List α} (h : 1 ≤ xs.length) : atI xs (-1) = xs[xs.length - 1]? := by
  unfold atI ixN
  rw [if_neg (by decide), if_pos (by omega)]
  have e : (-1 + (xs.length : Int)).toNat = xs.length - 1 := by omega
  show xs[_]? = _
  rw [e]
theorem ixN_nat {n j : Nat} (h : j < n) : ixN n (j : Int) = some j := by
  unfold ixN
  rw [if_pos (by omega), if_pos (by omega), Int.toNat_natCast]
theorem map_ints (l : List Int) (g : Int → Int) : (l.map V.int).mapIdx (fun _ v => .int (g (iOf v))) = (l.map g).map V.int := by
  apply List.ext_getElem?
  intro i
  simp only [List.getElem?_mapIdx, List.getElem?_map, Option.map_map]
  rfl
section
variable {P : Program} {w : World} {K : PySem.W.Frag} {mg : Str → Option Value} {base : Heap} {C : Addr}
theorem ok_anyint (T : Bn mg) (D : DefAt K mg "is_any_integer" s_anyint) : FnAt P w K mg base 1 "is_any_integer" ["value"] spAnyInt := by
  refine fnAt D sc_anyint (fun _ _ _ _ _ _ us hl => match us, hl with | [_], _ => rfl) (fun vs H Q E h => ?_) fun f cdv A outer s H vs Q E hr h => ?_
  · obtain ⟨i, rfl, _⟩ := h
    rfl
  obtain ⟨i, rfl, k⟩ := h
  refine ⟨_, (pss_one (ps_ret (pe_and (pe_callB call_isi (by rfl) T.b_isinstance (by decide +kernel) (pa_cons (pv 0) (pa_cons (pe_bltn (v := .ty "int") (by rfl) T.b_int (by decide +kernel) rfl) pa_nil))) (pe_one (pe_not (pe_callB call_isi (by rfl) T.b_isinstance (by decide +kernel) (pa_cons (pv 0) (pa_cons (pe_bltn (v := .ty "bool") (by rfl) T.b_bool (by decide +kernel) rfl) pa_nil)))))))), ?_⟩
  refine ⟨_, rfl, _, _, _, _, true, rfl, .ty _, .base (.int _), kit_ii, _, rfl, iteT ?_⟩
  exact ⟨_, rfl, _, _, _, _, false, rfl, .ty _, .base (.int _), kit_ib, _, rfl, k⟩
theorem ok_wpl (T : Bn mg) (OC : OrdC mg) (D : DefAt K mg "_are_whole_places" s_wpl) (F_is_any_integer : FnAt P w K mg base 1 "is_any_integer" ["value"] spAnyInt) (F_block_ends : FnAt P w K mg base 1 "block_ends" ["places"] (spBend K)) : FnAt P w K mg base 2 "_are_whole_places" ["value"] (spWPl K) := by
  obtain ⟨_, g_MAX_NAMES⟩ := OC.MAX_NAMES
  refine fnAt D sc_wpl (fun _ _ _ _ _ _ us hl => match us, hl with | [_], _ => rfl) (fun vs H Q E h => ?_) fun f cdv A outer s H vs Q E hr h => ?_
  · obtain ⟨p, us, ls, rfl, _⟩ := h
    rfl
  obtain ⟨p, us, ls, rfl, hp, wl, k⟩ := h
  refine ⟨_, (pss_cons (ps_if (PW.pt (pw_or (pt_not (pt_val (pe_callB call_isi (by rfl) T.b_isinstance (by decide +kernel) (pa_cons (pv 0) (pa_cons (pe_bltn (v := .ty "tuple") (by rfl) T.b_tuple (by decide +kernel) rfl) pa_nil))))) (pw_or1 (pt_not (pt_chain op_le op_le pe_int (pe_callB call_len_seq (by rfl) T.b_len (by decide +kernel) (pa_cons (pv 0) pa_nil)) (pe_glob (v := .int 40) rfl g_MAX_NAMES ⟨_, rfl⟩)))))) (pss_one (ps_ret pe_bl)) pss_nil)
    (pss_cons (ps_if (PW.pt (pw_or (pt_not (pt_val (pe_callB (cr_all rfl) (by rfl) T.b_all (by decide +kernel) (pa_cons (pe_lc (own := [("place", 1)]) (g := gName 1) (tt := tYes) rfl sc_wpl.nd (pi_tup (pv 0)) (blkOk_by (N := ["value", "place"]) (sc := defScope s_wpl) (by decide +kernel)) (fun _ _ _ _ _ => pg_name (i := 1) sc_wpl.nd rfl (Or.inl rfl)) (fun _ _ _ _ _ => pts_nil) (fun _ _ _ _ _ => (callA F_is_any_integer (hr.mono (by decide)) rfl (pa_cons (pv 1) pa_nil)))) pa_nil)))) (pw_or1 (pt_cmpR (op_neD (hu64 hr)) (pe_callB cr_sortedBI (by rfl) T.b_sorted (by decide +kernel) (pa_cons (pv 0) pa_nil)) (pe_listRg rfl (by rfl) T.b_list (prg_1 (by rfl) T.b_range (pe_callB call_len_seq (by rfl) T.b_len (by decide +kernel) (pa_cons (pv 0) pa_nil)))) (nomark _))))) (pss_one (ps_ret pe_bl)) pss_nil)
    (pss_one (ps_ret (pe_cmpR op_eq (pe_callB call_len_seq (by rfl) T.b_len (by decide +kernel) (pa_cons (callA F_block_ends (hr.mono (by decide)) rfl (pa_cons (pv 0) pa_nil)) pa_nil)) pe_int (nomark _)))))), ?_⟩
  have n2 := wl.two
  have n40 := wl.ro.le
  have lp : ((plc us ls).map V.int).length = us.length := by rw [List.length_map, plc_len]
  refine ⟨_, rfl, _, _, _, _, true, rfl, .ty _, tyTup hp, kit_tuptup', _, rfl, iteF ?_⟩
  refine ⟨_, rfl, p, _, rfl, .inr hp, _, _, rfl, rfl, _, rfl, ?_⟩
  rw [lp, if_pos (decide_eq_true (show (2 : Int) ≤ (us.length : Nat) by omega))]
  refine ⟨_, _, rfl, rfl, _, rfl, ?_⟩
  rw [decide_eq_true (show ((us.length : Nat) : Int) ≤ 40 by omega)]
  refine iteF ?_
  refine ⟨_, rfl, p, rfl, ⟨_, hp⟩, fun D hD => map_tup (xs := (plc us ls).map V.int) (fun _ _ => .bl true) hp hD (by omega) (fun _ => rfl) (fun i v H' hi e Q' k' => ?_) fun H1 e1 hl => ?_⟩
  · rw [List.getElem?_map] at hi
    obtain ⟨z, hz, rfl⟩ := Option.map_eq_some_iff.mp hi
    exact ⟨_, rfl, z, rfl, k' H' (ext_refl _)⟩
  refine ⟨D, (plc us ls).map fun _ => true, rfl, SqL.of ?_, ?_⟩
  · rw [hl]
    congr 2
    apply List.ext_getElem?
    intro i
    simp only [List.getElem?_mapIdx, List.getElem?_map, Option.map_map]
    rfl
  have ea : ((plc us ls).map fun _ => true).all id = true := by rw [List.all_map]; exact List.all_eq_true.mpr fun _ _ => rfl
  rw [ea]
  have hp1 := hp.ext e1
  refine ⟨_, rfl, iteF ?_⟩
  refine ⟨_, rfl, p, plc us ls, rfl, .inr hp1, by rw [plc_len]; omega, fun ys q pm so hq => ?_⟩
  have x2 := ext_new (o := HO.lst (ys.map V.int)) (ext_refl H1) hq
  refine ⟨_, rfl, p, _, rfl, .inr (hp1.ext x2), _, rfl, RgOk.of_le (by decide) (by rw [lp]; omega) (by decide) (by omega), fun q2 hq2 => ?_⟩
  rw [lp, rgV_nat]
  have x3 := ext_new (o := HO.lst (((List.range us.length).map fun i => ((i : Nat) : Int)).map V.int)) (ext_refl _) hq2
  refine neD_use 1 (by decide) (.lst (SqL.of (x3 _ _ upd_same)) (dp_ints ys)) (.lst (SqL.of upd_same) (dp_ints _)) (pl_ints 0 _) (pl_ints 0 _) fun b hb => ?_
  have eb : b = true := hb.mpr (by rw [sorted_plc wl.ro pm so])
  rw [eb]
  refine ⟨_, rfl, iteF ?_⟩
  have e3 := (e1.trans x2).trans x3
  refine ⟨_, rfl, p, plc us ls, rfl, hp.ext e3, by rw [plc_len]; omega, fun D2 H4 e4 hD2 => ?_⟩
  rw [one_block wl] at hD2
  refine ⟨D2, _, rfl, .inl (SqL.of hD2), rfl, ?_⟩
  exact k _ (e3.trans e4)
theorem ok_ledp (T : Bn mg) (KN : KindC mg) (D : DefAt K mg "_led" s_led) : FnAt P w K mg base 1 "_led" ["places", "kind"] (spLedP K) := by
  obtain ⟨_, g_UPPER⟩ := KN.UP
  refine fnAt D sc_led (fun _ _ _ _ _ _ us hl => match us, hl with | [_, _], _ => rfl) (fun vs H Q E h => ?_) fun f cdv A outer s H vs Q E hr h => ?_
  · obtain ⟨p, us, ls, k, rfl, _⟩ := h
    rfl
  obtain ⟨p, us, ls, kd, rfl, hp, wl, k⟩ := h
  refine ⟨_, (pss_cons (ps_asg (pe_tupF (pa_cons (pe_ix ix_tup (pv 0) (pe_un un_neg pe_int) (fun _ _ => rfl)) (pa_cons (pe_op op_sub (pe_callB call_len_seq (by rfl) T.b_len (by decide +kernel) (pa_cons (pv 0) pa_nil)) pe_int) pa_nil))) (pg_tup (by rfl) (pgs_cons (pg_name (i := 2) sc_led.nd rfl (Or.inr rfl)) (pgs_cons (pg_name (i := 3) sc_led.nd rfl (Or.inl rfl)) pgs_nil))))
    (pss_cons (ps_if (pt_cmpR op_eq (pv 1) (pe_glob (v := .str "upper") rfl g_UPPER ⟨_, rfl⟩) (nomark _)) (pss_cons (ps_setLc (i := 4) (own := [("place", 5)]) (g := gName 5) (tt := tYes) rfl sc_led.nd rfl rfl (sw_true rfl rfl rfl (by decide +kernel)) (pi_tup (pv 0)) (blkOk_by (N := ["places", "kind", "last", "greatest", "row", "place", "behind"]) (sc := defScope s_led) (by decide +kernel)) (fun _ _ _ _ _ => pg_name (i := 5) sc_led.nd rfl (Or.inl rfl)) (fun _ _ _ _ _ => pts_nil) (fun _ _ _ _ _ => (pe_ifExp (pt_cmpR op_le (pv 5) (pv 2) (nomark _)) (pv 5) (pe_op op_add (pv 5) pe_int))))
    (pss_cons (ps_asg (pe_op op_add (pv 2) pe_int) (pg_sub (pv 4) (pe_bmT PySem.F.plainAttrs_tuple PySem.F.slot_tuple_index PySem.F.type_tuple_index mt_tup_indexF (pv 0) (pa_cons (pv 3) pa_nil)) set_list))
    (pss_one (ps_ret (pe_callTy call_tupleF (by rfl) T.b_tuple (by decide +kernel) (pa_cons (pv 4) pa_nil)))))) pss_nil)
    (pss_cons (ps_set (i := 6) sc_led.nd rfl (Or.inl rfl) (pe_op op_add (pe_bmT PySem.F.plainAttrs_tuple PySem.F.slot_tuple_index PySem.F.type_tuple_index mt_tup_indexF (pv 0) (pa_cons (pv 3) pa_nil)) pe_int))
    (pss_one (ps_ret (pe_tupF (StX.pa_star (pe_slice sl_tupA (pv 0) po_none (po_some (pv 6))) (pa_cons (pv 2) (StX.pa_star (pe_slice sl_tupA (pv 0) (po_some (pv 6)) (po_some (pe_un un_neg pe_int))) pa_nil))))))))), ?_⟩
  have n2 := wl.two
  have n40 := wl.ro.le
  have lp : ((plc us ls).map V.int).length = us.length := by rw [List.length_map, plc_len]
  have lq := plc_len us ls
  have iq : atI ((plc us ls).map V.int) (-1) = some (.int ((pos ls (lastS us) : Nat) : Int)) := by
    rw [atI_end (by omega), lp, List.getElem?_map, plc_last wl]
    rfl
  have mB : lastS ls ∈ us := wl.ro.pm.mem_iff.mp (last_mem wl.nl)
  have pB := pos_lt mB
  have pL := pos_lt wl.memL
  rw [pos_drop wl.ro.nd wl.nu wl.memL, List.length_dropLast] at pL
  refine ⟨_, rfl, _, rfl, _, _, _, _, rfl, rfl, hp.1, iq, _, rfl, p, _, rfl, .inr hp.1, _, _, rfl, rfl, len_ok (Nat.le_of_ble_eq_true rfl), newT_use (K := K) fun t H1 e1 ht _ => ?_⟩
  refine ⟨t, _, rfl, ht, rfl, _, _, rfl, _, _, rfl, rfl, ?_⟩
  have hp1 := hp.ext e1
  have eg : (((plc us ls).map V.int).length : Int) - 1 = (us.length : Int) - 1 := by rw [lp]
  refine ⟨_, rfl, rfl, _, rfl, ?_⟩
  cases kd with
  | true =>
    refine iteT ?_
    refine ⟨_, rfl, p, rfl, ⟨_, hp1.1⟩, fun D hD => map_tup (xs := (plc us ls).map V.int) (fun _ v => .int (upF ((pos ls (lastS us) : Nat) : Int) (iOf v))) hp1.1 hD (by omega) (fun _ => rfl) (fun i v H' hi e Q' k' => ?_) fun H2 e2 hl => ?_⟩
    · rw [List.getElem?_map] at hi
      obtain ⟨z, hz, rfl⟩ := Option.map_eq_some_iff.mp hi
      refine ⟨_, rfl, _, rfl, _, _, rfl, rfl, _, rfl, ite2 (fun c => ?_) fun c => ?_⟩
      · have e3 : upF ((pos ls (lastS us) : Nat) : Int) z = z := if_pos (of_decide_eq_true c)
        dsimp only [iOf] at k'
        rw [e3] at k'
        exact ⟨_, rfl, k' H' (ext_refl _)⟩
      · have e3 : upF ((pos ls (lastS us) : Nat) : Int) z = z + 1 := if_neg fun h => c (decide_eq_true h)
        dsimp only [iOf] at k'
        rw [e3] at k'
        exact ⟨_, rfl, _, _, rfl, rfl, k' H' (ext_refl _)⟩
    rw [map_ints] at hl
    have hp2 := hp1.ext e2
    refine ⟨_, rfl, _, _, rfl, rfl, _, rfl, _, rfl, ⟨p, _, rfl, hp2.1, hp2.2⟩, _, rfl, ?_⟩
    dsimp only [tNil]
    refine top_use hp2.1 wl eg ?_
    refine ⟨D, _, _, pos us (lastS ls), rfl, rfl, hl, ixN_nat (by rw [List.length_map, List.length_map, lq]; exact pB), ?_⟩
    refine ⟨_, rfl, D, ((plc us (ledU us ls)).map V.int), rfl, .inl ⟨SqL.of ?_, newT_use (K := K) fun q H3 e3 hq nd => k q H3 ((e1.trans (ext_mut e2 hD)).trans e3) ⟨hq, nd⟩⟩⟩
    rw [upd_same, plcU wl]
    unfold ptsU
    rw [List.map_set]
    rfl
  | false =>
    refine iteF ?_
    refine ⟨_, rfl, ⟨p, _, rfl, hp1.1, hp1.2⟩, _, rfl, ?_⟩
    dsimp only [tNil]
    refine top_use hp1.1 wl eg ?_
    refine ⟨_, _, rfl, rfl, ?_⟩
    refine ⟨_, rfl, _, rfl, _, rfl, ?_⟩
    dsimp only [tNoPart]
    refine slA_use hp1.1 fun p1 H2 e2 h1 => ?_
    have ej : ((pos us (lastS ls) : Nat) : Int) + 1 = ((pos us (lastS ls) + 1 : Nat) : Int) := by omega
    rw [ej, cut_to (by omega)] at h1
    refine ⟨p1, _, rfl, .inl h1, _, rfl, _, rfl, _, rfl, _, rfl, _, rfl, _, rfl, ?_⟩
    refine slA_use (hp1.1.ext e2) fun p2 H3 e3 h2 => ?_
    rw [ej, cut_mid (by omega)] at h2
    have ec : ((plc us ls).map V.int).take (pos us (lastS ls) + 1) ++ (V.int ((pos ls (lastS us) : Nat) : Int) :: (((plc us ls).map V.int).dropLast.drop (pos us (lastS ls) + 1) ++ [])) = (plc (ledL us ls) ls).map V.int := by
      rw [plcL wl, List.append_nil]
      unfold ptsL
      rw [List.map_append, List.map_append, List.map_take, List.map_drop, List.map_dropLast, List.append_assoc]
      rfl
    refine ⟨p2, _, rfl, .inl h2, ?_, newT_use (K := K) fun q H4 e4 hq nd => ?_⟩
    · rw [ec, List.length_map, plc_len]
      have l1 := wl.ledL.ro.le
      exact len_ok (by omega)
    · rw [ec] at hq
      exact k q H4 (((e1.trans e2).trans e3).trans e4) ⟨hq, nd⟩
theorem ok_moved (T : Bn mg) (KN : KindC mg) (D : DefAt K mg "moved" s_moved) (F__are_whole_places : FnAt P w K mg base 2 "_are_whole_places" ["value"] (spWPl K)) (F__led : FnAt P w K mg base 1 "_led" ["places", "kind"] (spLedP K)) : FnAt P w K mg base 3 "moved" ["places", "kind"] (spLedP K) := by
  obtain ⟨_, g_UPPER⟩ := KN.UP
  obtain ⟨_, g_LOWER⟩ := KN.LO
  refine fnAt D sc_moved (fun _ _ _ _ _ _ us hl => match us, hl with | [_, _], _ => rfl) (fun vs H Q E h => ?_) fun f cdv A outer s H vs Q E hr h => ?_
  · obtain ⟨p, us, ls, k, rfl, _⟩ := h
    rfl
  obtain ⟨p, us, ls, kd, rfl, hp, wl, k⟩ := h
  refine ⟨_, (pss_cons (ps_if (pt_not (pt_val (callA F__are_whole_places (hr.mono (by decide)) rfl (pa_cons (pv 0) pa_nil)))) (pss_one ps_never) pss_nil)
    (pss_cons (ps_if (PW.pt (pw_and (pt_cmpR op_ne (pv 1) (pe_glob (v := .str "upper") rfl g_UPPER ⟨_, rfl⟩) (nomark _)) (pw_and1 (pt_cmpR op_ne (pv 1) (pe_glob (v := .str "lower") rfl g_LOWER ⟨_, rfl⟩) (nomark _))))) (pss_one ps_never) pss_nil)
    (pss_one (ps_ret (callA F__led (hr.mono (by decide)) rfl (pa_cons (pv 0) (pa_cons (pv 1) pa_nil))))))), ?_⟩
  refine ⟨_, rfl, p, us, ls, rfl, hp.1, wl, fun H1 e1 => ⟨_, rfl, iteF ?_⟩⟩
  refine ⟨_, rfl, rfl, _, rfl, ?_⟩
  cases kd with
  | true => exact iteF (iteF ⟨_, rfl, _, rfl, p, us, ls, true, rfl, hp.ext e1, wl, fun q H' e => k q H' (e1.trans e)⟩)
  | false => exact iteT ⟨_, rfl, rfl, _, rfl, iteF ⟨_, rfl, _, rfl, p, us, ls, false, rfl, hp.ext e1, wl, fun q H' e => k q H' (e1.trans e)⟩⟩
end
end My
namespace My
open PySem PySem.Spec PyProof.Rows L2
local macro_rules | `(tactic| walk_at "side") => `(tactic| first | assumption | decide | exact Or.inl ⟨by decide, by decide⟩ | exact Or.inr ⟨by decide, by decide⟩ | exact ⟨by decide, by decide, by decide⟩ | omega | (unfold CMulW; decide +kernel) | (dsimp only; first | assumption | omega | decide +kernel) | exact len_ok (Nat.le_of_ble_eq_true rfl) | fail "side")
local macro_rules | `(tactic| walk_at "rd") => `(tactic| first
  | refine ⟨_, _, _, _, rfl, rfl, SqL.of upd_same, atI_nat (j := 0) rfl, ?_⟩ | refine ⟨_, _, _, _, rfl, rfl, SqL.of upd_same, atI_nat (j := 1) rfl, ?_⟩ | refine ⟨_, _, _, _, rfl, rfl, SqL.of upd_same, atI_nat (j := 2) rfl, ?_⟩
  | refine ⟨_, _, _, _, rfl, rfl, upd_same, rfl, ?_⟩
  | refine ⟨_, _, rfl, rfl, ?_⟩ | refine ⟨_, rfl, ?_⟩ | refine ⟨_, _, rfl, ?_⟩ | refine Or.inl ⟨_, rfl, ?_⟩ | refine Or.inr ⟨_, rfl, ?_⟩ | refine ⟨(by walk_at "side"), ?_⟩ | fail "rd")

abbrev s_obeh : Stmt := top 29
theorem sc_obeh : FnScope ["order", "course", "upper", "lower", "_"] ["order", "course"] (defScope s_obeh) := ⟨rfl, rfl, rfl, by decide +kernel, rfl, by decide +kernel, by decide +kernel⟩
abbrev s_isren : Stmt := top 18
theorem sc_isren : FnScope ["names", "value", "name"] ["names", "value"] (defScope s_isren) := ⟨rfl, rfl, rfl, by decide +kernel, rfl, by decide +kernel, by decide +kernel⟩
abbrev s_oren : Stmt := inClass (top 14) 13
theorem sc_oren : FnScope ["self", "names", "upper", "name", "lower"] ["self", "names"] (defScope s_oren) := ⟨rfl, rfl, rfl, by decide +kernel, rfl, by decide +kernel, by decide +kernel⟩
def spOBeh (K : PySem.W.Frag) (C : Addr) : Sp := fun vs H Q _ => ∃ (o c : Addr) (zs ys : List Str) (ks : List Bool), vs = [.ref o, .ref c] ∧ OrdAt K C H o zs ys ∧ SqT K H c (kVs ks) ∧ (Whl zs ys ∨ ks = []) ∧ ks.length ≤ 1000 ∧ ∀ x H', Ext H H' → OrdAt K C H' x (leds ks (zs, ys)).1 (leds ks (zs, ys)).2 → Q (.ref x) H'
/-- a dict that takes the names zs to the names g z -/
def RenD (kvs : List (Key × V)) (zs : List Str) (g : Str → Str) : Prop := kvs.length = zs.length ∧ (∀ z ∈ zs, valV kvs (.inr z) = some (.str (g z))) ∧ ∃ ws : List Str, kvs.map (·.2) = ws.map V.str ∧ ws.Nodup ∧ ∀ w ∈ ws, isNm w = true
def spIsRen (K : PySem.W.Frag) : Sp := fun vs H Q _ => ∃ (a d : Addr) (zs : List Str) (kvs : List (Key × V)) (g : Str → Str), vs = [.ref a, .ref d] ∧ SqT K H a (zs.map V.str) ∧ H d = some (.dK kvs) ∧ RenD kvs zs g ∧ zs.length ≤ 40 ∧ ∀ H', Ext H H' → Q (.bl true) H'
def spORen (K : PySem.W.Frag) (C : Addr) : Sp := fun vs H Q _ => ∃ (o d : Addr) (zs ys : List Str) (kvs : List (Key × V)) (g : Str → Str), vs = [.ref o, .ref d] ∧ OrdAt K C H o zs ys ∧ H d = some (.dK kvs) ∧ RenD kvs zs g ∧ RowsOk (zs.map g) (ys.map g) ∧ ∀ x H', Ext H H' → OrdAt K C H' x (zs.map g) (ys.map g) → Q (.ref x) H'
theorem leds_rows {zs ys : List Str} {ks : List Bool} (ro : RowsOk zs ys) (h : Whl zs ys ∨ ks = []) : RowsOk (leds ks (zs, ys)).1 (leds ks (zs, ys)).2 := by
  rcases h with h | h
  · exact (Whl.leds (r := (zs, ys)) h).ro
  · rw [h]
    exact ro
theorem kit_dd {K : PySem.W.Frag} : PySem.W.kitOne K (.type "dict") (.type "dict") = some true := kit_ty (by decide +kernel : kitB "dict" "dict" = some true)
theorem map_strs (l : List Str) (g : Str → Str) : (l.map V.str).mapIdx (fun _ v => .str (g (sOf v))) = (l.map g).map V.str := by
  apply List.ext_getElem?
  intro i
  simp only [List.getElem?_mapIdx, List.getElem?_map, Option.map_map]
  rfl
section
variable {P : Program} {w : World} {K : PySem.W.Frag} {mg : Str → Option Value} {base : Heap} {C : Addr}
theorem ok_obeh (T : Bn mg) (OT : OrdT K mg C) (D : DefAt K mg "order_behind" s_obeh) (F_init : OInitAt P w K mg base 5 C (spOInit K C)) (F_require_order : FnAt P w K mg base 1 "require_order" ["value"] (spReqO K C)) (F_follow_course : FnAt P w K mg base 4 "follow_course" ["order", "course"] (spFol K C)) : FnAt P w K mg base 7 "order_behind" ["order", "course"] (spOBeh K C) := by
  refine fnAt D sc_obeh (fun _ _ _ _ _ _ us hl => match us, hl with | [_, _], _ => rfl) (fun vs H Q E h => ?_) fun f cdv A outer s H vs Q E hr h => ?_
  · obtain ⟨o, c, zs, ys, ks, rfl, _⟩ := h
    rfl
  obtain ⟨o, c, zs, ys, ks, rfl, oa, hc, wl, hl, k⟩ := h
  have ro := leds_rows oa.rows wl
  refine ⟨_, (pss_cons (ps_expr (callA F_require_order (hr.mono (by decide)) rfl (pa_cons (pv 0) pa_nil)))
    (pss_cons (ps_asg (callA F_follow_course (hr.mono (by decide)) rfl (pa_cons (pv 0) (pa_cons (pv 1) pa_nil))) (pg_tup (by rfl) (pgs_cons (pg_name (i := 2) sc_obeh.nd rfl (Or.inl rfl)) (pgs_cons (pg_name (i := 3) sc_obeh.nd rfl (Or.inl rfl)) (pgs_cons (pg_name (i := 4) sc_obeh.nd rfl (Or.inl rfl)) pgs_nil)))))
    (pss_one (ps_ret (mkO F_init OT (hr.mono (by decide)) (pa_cons (pe_callTy call_tuple_of (by rfl) T.b_tuple (by decide +kernel) (pa_cons (pv 2) pa_nil)) (pa_cons (pe_callTy call_tuple_of (by rfl) T.b_tuple (by decide +kernel) (pa_cons (pv 3) pa_nil)) pa_nil))))))), ?_⟩
  refine ⟨_, rfl, o, zs, ys, rfl, oa, ?_⟩
  refine ⟨_, rfl, _, rfl, o, c, zs, ys, ks, rfl, oa, hc, wl, hl, fun t A B R acc H1 e1 ht hA hB hR rl => ?_⟩
  refine ⟨t, _, rfl, SqT.of ht, rfl, _, _, rfl, _, _, rfl, _, _, rfl, rfl, ?_⟩
  refine ⟨_, rfl, A, _, rfl, .inl ⟨SqL.of hA, fun p hp => ?_⟩⟩
  have x1 := ext_new (o := HO.tup ((leds ks (zs, ys)).1.map V.str)) (ext_refl H1) hp
  refine ⟨_, rfl, B, _, rfl, .inl ⟨SqL.of (x1 _ _ hB), fun q hq => ?_⟩⟩
  have x2 := ext_new (o := HO.tup ((leds ks (zs, ys)).2.map V.str)) (ext_refl _) hq
  exact mk_useA (SqT.of (x2 _ _ upd_same)) (SqT.of upd_same) ro fun x H' e oa' => k x H' (((e1.trans x1).trans x2).trans e) oa'
theorem ok_isren (T : Bn mg) (D : DefAt K mg "_is_renaming" s_isren) (F__are_different : FnAt P w K mg base 3 "_are_different" ["names"] (spDif K)) : FnAt P w K mg base 4 "_is_renaming" ["names", "value"] (spIsRen K) := by
  refine fnAt D sc_isren (fun _ _ _ _ _ _ us hl => match us, hl with | [_, _], _ => rfl) (fun vs H Q E h => ?_) fun f cdv A outer s H vs Q E hr h => ?_
  · obtain ⟨a, d, zs, kvs, g, rfl, _⟩ := h
    rfl
  obtain ⟨a, d, zs, kvs, g, rfl, ha, hd, rn, hz, k⟩ := h
  obtain ⟨r1, r2, ws, r3, r4, r5⟩ := rn
  refine ⟨_, (pss_cons (ps_if (PW.pt (pw_or (pt_not (pt_val (pe_callB call_isi (by rfl) T.b_isinstance (by decide +kernel) (pa_cons (pv 1) (pa_cons (pe_bltn (v := .ty "dict") (by rfl) T.b_dict (by decide +kernel) rfl) pa_nil))))) (pw_or1 (pt_cmpR op_ne (pe_callB call_lenD (by rfl) T.b_len (by decide +kernel) (pa_cons (pv 1) pa_nil)) (pe_callB call_len_seq (by rfl) T.b_len (by decide +kernel) (pa_cons (pv 0) pa_nil)) (nomark _))))) (pss_one (ps_ret pe_bl)) pss_nil)
    (pss_one (ps_ret (pe_and (pe_callB (cr_all rfl) (by rfl) T.b_all (by decide +kernel) (pa_cons (pe_lc (own := [("name", 2)]) (g := gName 2) (tt := tYes) rfl sc_isren.nd (pi_tup (pv 0)) (blkOk_by (N := ["names", "value", "name"]) (sc := defScope s_isren) (by decide +kernel)) (fun _ _ _ _ _ => pg_name (i := 2) sc_isren.nd rfl (Or.inl rfl)) (fun _ _ _ _ _ => pts_nil) (fun _ _ _ _ _ => (pe_cmp (pc_din (hu1 hr) (pv 2) (pv 1)) rfl))) pa_nil)) (pe_one (callA F__are_different (hr.mono (by decide)) rfl (pa_cons (pe_tupVals rfl (by rfl) T.b_tuple (pv 1)) pa_nil))))))), ?_⟩
  refine ⟨_, rfl, _, _, _, _, true, rfl, .ty _, .base (.dK hd), kit_dd, _, rfl, iteF ?_⟩
  refine ⟨_, rfl, d, _, rfl, hd, _, rfl, a, _, rfl, .inr ha, rfl, _, rfl, ?_⟩
  have el : (!decide (V.int (kvs.length : Nat) = V.int (((zs.map V.str).length : Nat) : Int))) = false := by
    rw [List.length_map, r1, decide_eq_true rfl]
    rfl
  rw [el]
  refine iteF ?_
  refine ⟨_, rfl, a, rfl, ⟨_, ha⟩, fun D hD => map_tup (xs := zs.map V.str) (fun _ _ => .bl true) ha hD (by rw [List.length_map]; omega) (fun _ => rfl) (fun i v H' hi e Q' k' => ?_) fun H1 e1 hl => ?_⟩
  · rw [List.getElem?_map] at hi
    obtain ⟨z, hz', rfl⟩ := Option.map_eq_some_iff.mp hi
    refine ⟨_, rfl, _, rfl, d, _, rfl, DGet.k (k := .inr z) (e _ _ hd), ?_⟩
    rw [r2 z (List.mem_of_getElem? hz')]
    exact k' H' (ext_refl _)
  refine ⟨D, zs.map fun _ => true, rfl, SqL.of ?_, ?_⟩
  · rw [hl]
    congr 2
    apply List.ext_getElem?
    intro i
    simp only [List.getElem?_mapIdx, List.getElem?_map, Option.map_map]
    rfl
  have ea : (zs.map fun _ => true).all id = true := by rw [List.all_map]; exact List.all_eq_true.mpr fun _ _ => rfl
  rw [ea]
  refine ⟨_, rfl, iteT ?_⟩
  refine ⟨_, rfl, d, kvs, rfl, e1 _ _ hd, newT_use (K := K) fun q H2 e2 hq _ => ?_⟩
  rw [r3] at hq
  have lw : ws.length = zs.length := by
    have z := congrArg List.length r3
    rw [List.length_map, List.length_map] at z
    omega
  refine ⟨q, ws, rfl, hq, by omega, r5, fun H3 e3 => ?_⟩
  rw [decide_eq_true r4]
  exact k H3 ((e1.trans e2).trans e3)
theorem ok_oren (T : Bn mg) (OT : OrdT K mg C) (D : MethT K C "renamed" "Order.renamed" s_oren) (F_init : OInitAt P w K mg base 5 C (spOInit K C)) (F__is_renaming : FnAt P w K mg base 4 "_is_renaming" ["names", "value"] (spIsRen K)) : MethAt P w K mg base 7 C "renamed" ["self", "names"] (spORen K C) := by
  refine methAt D sc_oren (fun _ _ _ _ _ _ us hl => match us, hl with | [_, _], _ => rfl) (fun vs H Q E h => ?_) fun f cdv A outer s H vs Q E hr h => ?_
  · obtain ⟨o, d, zs, ys, kvs, g, rfl, _⟩ := h
    rfl
  obtain ⟨o, d, zs, ys, kvs, g, rfl, oa, hd, rn, ro, k⟩ := h
  obtain ⟨dx, a, b, c, e, ha, hb, hc, ro0⟩ := id oa
  refine ⟨_, (pss_cons (ps_if (pt_not (pt_val (callA F__is_renaming (hr.mono (by decide)) rfl (pa_cons (pe_fld (pv 0) rfl) (pa_cons (pv 1) pa_nil))))) (pss_one ps_never) pss_nil)
    (pss_cons (ps_set (i := 2) sc_oren.nd rfl (Or.inl rfl) (pe_callTy call_tuple_of (by rfl) T.b_tuple (by decide +kernel) (pa_cons (pe_lc (own := [("name", 3)]) (g := gName 3) (tt := tYes) rfl sc_oren.nd (pi_tup (pe_fld (pv 0) rfl)) (blkOk_by (N := ["self", "names", "upper", "name", "lower"]) (sc := defScope s_oren) (by decide +kernel)) (fun _ _ _ _ _ => pg_name (i := 3) sc_oren.nd rfl (Or.inl rfl)) (fun _ _ _ _ _ => pts_nil) (fun _ _ _ _ _ => (pe_dget (hu1 hr) (pv 1) (pv 3) (fun _ _ => rfl)))) pa_nil)))
    (pss_cons (ps_set (i := 4) sc_oren.nd rfl (Or.inl rfl) (pe_callTy call_tuple_of (by rfl) T.b_tuple (by decide +kernel) (pa_cons (pe_lc (own := [("name", 3)]) (g := gName 3) (tt := tYes) rfl sc_oren.nd (pi_tup (pe_fld (pv 0) rfl)) (blkOk_by (N := ["self", "names", "upper", "name", "lower"]) (sc := defScope s_oren) (by decide +kernel)) (fun _ _ _ _ _ => pg_name (i := 3) sc_oren.nd rfl (Or.inl rfl)) (fun _ _ _ _ _ => pts_nil) (fun _ _ _ _ _ => (pe_dget (hu1 hr) (pv 1) (pv 3) (fun _ _ => rfl)))) pa_nil)))
    (pss_one (ps_ret (mkO F_init OT (hr.mono (by decide)) (pa_cons (pv 2) (pa_cons (pv 4) pa_nil)))))))), ?_⟩
  obtain ⟨r1, r2, r3⟩ := id rn
  have l40 := ro0.le
  refine ⟨_, rfl, o, C, dx, _, _, rfl, e, OT.cl, OT.nA, ofs_a a b c, _, rfl, a, d, zs, kvs, g, rfl, ha, hd, rn, l40, fun H1 e1 => ⟨_, rfl, iteF ?_⟩⟩
  refine ⟨_, rfl, o, C, dx, _, _, rfl, e1 _ _ e, OT.cl, OT.nA, ofs_a a b c, a, rfl, ⟨_, ha.ext e1⟩, fun D hD => map_tup (xs := zs.map V.str) (fun _ v => .str (g (sOf v))) (ha.ext e1) hD (by rw [List.length_map]; omega) (fun _ => rfl) (fun i v H' hi e' Q' k' => ?_) fun H2 e2 hl => ?_⟩
  · rw [List.getElem?_map] at hi
    obtain ⟨z, hz', rfl⟩ := Option.map_eq_some_iff.mp hi
    exact ⟨_, rfl, _, rfl, d, _, rfl, by show DGet _ d (V.str z) (some (V.str (g z))); rw [← r2 z (List.mem_of_getElem? hz')]; exact DGet.k (k := .inr z) (e' _ _ (e1 _ _ hd)), k' H' (ext_refl _)⟩
  rw [map_strs] at hl
  have e12 := e1.trans e2
  refine ⟨D, _, rfl, .inl ⟨SqL.of hl, fun p hp => ?_⟩⟩
  have x3 := ext_new (o := HO.tup ((zs.map g).map V.str)) (ext_refl H2) hp
  have e13 := e12.trans x3
  have hp3 : SqT K (upd H2 p (.tup ((zs.map g).map V.str))) p ((zs.map g).map V.str) := SqT.of upd_same
  refine ⟨_, rfl, o, C, dx, _, _, rfl, e13 _ _ e, OT.cl, OT.nB, ofs_b a b c, b, rfl, ⟨_, hb.ext e13⟩, fun D2 hD2 => map_tup (xs := ys.map V.str) (fun _ v => .str (g (sOf v))) (hb.ext e13) hD2 (by rw [List.length_map, ro0.len]; omega) (fun _ => rfl) (fun i v H' hi e' Q' k' => ?_) fun H4 e4 hl4 => ?_⟩
  · rw [List.getElem?_map] at hi
    obtain ⟨z, hz', rfl⟩ := Option.map_eq_some_iff.mp hi
    exact ⟨_, rfl, _, rfl, d, _, rfl, by show DGet _ d (V.str z) (some (V.str (g z))); rw [← r2 z (ro0.pm.mem_iff.mp (List.mem_of_getElem? hz'))]; exact DGet.k (k := .inr z) (e' _ _ (e13 _ _ hd)), k' H' (ext_refl _)⟩
  rw [map_strs] at hl4
  refine ⟨D2, _, rfl, .inl ⟨SqL.of hl4, fun q hq => ?_⟩⟩
  have x5 := ext_new (o := HO.tup ((ys.map g).map V.str)) (ext_refl H4) hq
  refine ⟨_, rfl, _, rfl, ?_⟩
  exact mk_useA ((hp3.ext e4).ext x5) (SqT.of upd_same) ro fun x H' e' oa' => k x H' (((e13.trans e4).trans x5).trans e') oa'
end
end My
namespace My
open PySem PySem.Spec PyProof.Rows L2
local macro_rules | `(tactic| walk_at "side") => `(tactic| first | assumption | decide | exact Or.inl ⟨by decide, by decide⟩ | exact Or.inr ⟨by decide, by decide⟩ | exact ⟨by decide, by decide, by decide⟩ | omega | (unfold CMulW; decide +kernel) | (dsimp only; first | assumption | omega | decide +kernel) | exact len_ok (Nat.le_of_ble_eq_true rfl) | fail "side")
local macro_rules | `(tactic| walk_at "rd") => `(tactic| first
  | refine ⟨_, _, _, _, rfl, rfl, SqL.of upd_same, atI_nat (j := 0) rfl, ?_⟩ | refine ⟨_, _, _, _, rfl, rfl, SqL.of upd_same, atI_nat (j := 1) rfl, ?_⟩ | refine ⟨_, _, _, _, rfl, rfl, SqL.of upd_same, atI_nat (j := 2) rfl, ?_⟩
  | refine ⟨_, _, _, _, rfl, rfl, upd_same, rfl, ?_⟩
  | refine ⟨_, _, rfl, rfl, ?_⟩ | refine ⟨_, rfl, ?_⟩ | refine ⟨_, _, rfl, ?_⟩ | refine Or.inl ⟨_, rfl, ?_⟩ | refine Or.inr ⟨_, rfl, ?_⟩ | refine ⟨(by walk_at "side"), ?_⟩ | fail "rd")

abbrev s_lmov : Stmt := top 44
theorem sc_lmov : FnScope ["_law_places", "_law_kind", "_law_upper", "_law_lower", "_law_at", "_law_place", "_law_above", "_law_below", "_law_one"] ["_law_places", "_law_kind"] (defScope s_lmov) := ⟨rfl, rfl, rfl, by decide +kernel, rfl, by decide +kernel, by decide +kernel⟩
abbrev s_lpof : Stmt := top 45
theorem sc_lpof : FnScope ["_law_upper", "_law_lower", "_law_name"] ["_law_upper", "_law_lower"] (defScope s_lpof) := ⟨rfl, rfl, rfl, by decide +kernel, rfl, by decide +kernel, by decide +kernel⟩
abbrev s_lrule : Stmt := top 47
theorem sc_lrule : FnScope ["_law_places", "_law_kind", "_law_last", "_law_at", "_law_found", "_law_place"] ["_law_places", "_law_kind"] (defScope s_lrule) := ⟨rfl, rfl, rfl, by decide +kernel, rfl, by decide +kernel, by decide +kernel⟩
abbrev s_lback : Stmt := top 48
theorem sc_lback : FnScope ["_law_places", "_law_kind", "_law_times", "_law_here", "_law_turn"] ["_law_places", "_law_kind"] (defScope s_lback) := ⟨rfl, rfl, rfl, by decide +kernel, rfl, by decide +kernel, by decide +kernel⟩
def spLMov (K : PySem.W.Frag) : Sp := fun vs H Q _ => ∃ (p : Addr) (us ls : List Str) (k : Bool), vs = [.ref p, .str (kS k)] ∧ PtAt K H p us ls ∧ Whl us ls ∧ ∀ q H', Ext H H' → PtAt K H' q (led1 k (us, ls)).1 (led1 k (us, ls)).2 → Q (.ref q) H'
def spLPof (K : PySem.W.Frag) : Sp := fun vs H Q _ => ∃ (A B : Addr) (us ls : List Str), vs = [.ref A, .ref B] ∧ SqL K H A (us.map V.str) ∧ SqL K H B (ls.map V.str) ∧ RowsOk us ls ∧ ∀ q H', Ext H H' → PtAt K H' q us ls → Q (.ref q) H'
def spLRule (K : PySem.W.Frag) : Sp := fun vs H Q _ => ∃ (p : Addr) (us ls : List Str) (k : Bool), vs = [.ref p, .str (kS k)] ∧ PtAt K H p us ls ∧ Whl us ls ∧ ∀ q H', Ext H H' → SqT K H' q ((plc (led1 k (us, ls)).1 (led1 k (us, ls)).2).map V.int) → Q (.ref q) H'
def spLBack (K : PySem.W.Frag) : Sp := fun vs H Q _ => ∃ (p : Addr) (us ls : List Str) (k : Bool), vs = [.ref p, .str (kS k)] ∧ PtAt K H p us ls ∧ Whl us ls ∧ ∀ H', Ext H H' → Q (.bl true) H'
def fI (us : List Str) (z : Str) : Int := ((pos us z : Nat) : Int)
theorem fI_inj {us : List Str} {x z : Str} (hx : x ∈ us) (hz : z ∈ us) (e : fI us z = fI us x) : z = x := by
  unfold fI at e
  have g := pos_get hz
  have e2 : pos us z = pos us x := by omega
  rw [e2, pos_get hx] at g
  exact (Option.some.inj g).symm
/-- list.index of what a name is taken to -/
theorem idxF_use {K : PySem.W.Frag} {H : Hp} {b : Addr} {l : List Str} {x : Str} {f : Str → Int} {Q : VK} (hb : SqL K H b ((l.map f).map V.int)) (m : x ∈ l) (inj : ∀ z ∈ l, f z = f x → z = x) (q : Q (.int (pos l x : Nat)) H) : rIndex K (.ref b) [.int (f x)] H Q := by
  refine ⟨b, _, _, pos l x, .int (f x), rfl, rfl, hb, rfl, flat_ints _, ?_, ?_, fun n z' hn hz => ?_, q⟩
  · rw [List.getElem?_map, List.getElem?_map, pos_get m]
    rfl
  · show (f x == f x) = true
    exact beq_self_eq_true _
  · rw [List.getElem?_map, List.getElem?_map, Option.map_map] at hz
    obtain ⟨z, e, rfl⟩ := Option.map_eq_some_iff.mp hz
    show (f z == f x) = false
    exact beq_eq_false_iff_ne.mpr fun e2 => pos_no hn e (inj z (List.mem_of_getElem? e) e2)
def lowI (us ls : List Str) (i : Nat) : List Int := ls.map fun z => if pos us z < i then fI us z else 0
theorem low_zero (us ls : List Str) : (List.replicate ls.length [V.int 0]).flatten = (lowI us ls 0).map V.int := by
  unfold lowI
  rw [List.flatten_replicate_singleton, List.map_map]
  apply List.ext_getElem?
  intro i
  rw [List.getElem?_map, List.getElem?_replicate]
  by_cases h : i < ls.length
  · rw [if_pos h, List.getElem?_eq_getElem h]
    rfl
  · rw [if_neg h, List.getElem?_eq_none (by omega)]
    rfl
theorem low_full {us ls : List Str} (ro : RowsOk us ls) : lowI us ls us.length = ls.map (fI us) := by
  unfold lowI
  refine List.map_congr_left fun z hz => ?_
  rw [if_pos (pos_lt (ro.pm.mem_iff.mp hz))]
theorem low_step {us ls : List Str} (ro : RowsOk us ls) {i : Nat} (hi : i < us.length) : (lowI us ls i).set (pos ls us[i]) (i : Nat) = lowI us ls (i + 1) := by
  have mem : us[i] ∈ ls := ro.pm.mem_iff.mpr (List.getElem_mem hi)
  have pl := pos_lt mem
  have pa := pos_at ro.nd hi
  apply List.ext_getElem?
  intro j
  unfold lowI
  rw [List.getElem?_set, List.length_map, List.getElem?_map, List.getElem?_map]
  by_cases c : pos ls us[i] = j
  · rw [if_pos c, if_pos (by omega), ← c, pos_get mem, Option.map_some, pa, if_pos (Nat.lt_succ_self i)]
    unfold fI
    rw [pa]
  · rw [if_neg c]
    cases hz : ls[j]? with
    | none => rfl
    | some z =>
      rw [Option.map_some, Option.map_some]
      have mz : z ∈ us := ro.pm.mem_iff.mp (List.mem_of_getElem? hz)
      have ne : pos us z ≠ i := fun e => c (by
        have g := pos_get mz
        rw [e, List.getElem?_eq_getElem hi] at g
        rw [Option.some.inj g]
        exact pos_of ro.symm.nd hz)
      congr 1
      by_cases d : pos us z < i
      · rw [if_pos d, if_pos (by omega)]
      · rw [if_neg d, if_neg (by omega)]
theorem last_map {l : List Str} (h : l ≠ []) (f : Str → Int) : ((l.map f).map V.int)[((l.map f).map V.int).length - 1]? = some (.int (f (lastS l))) := by
  rw [List.length_map, List.length_map, List.getElem?_map, List.getElem?_map, last_get h]
  rfl
theorem put_map {l : List Str} {x y : Str} (f : Str → Int) : (((l.map f).map V.int).take (pos l x + 1) ++ [V.int (f y)] ++ ((l.map f).map V.int).drop (pos l x + 1)) = ((putAt l x y).map f).map V.int := by
  unfold putAt
  simp only [List.map_append, List.map_take, List.map_drop]
  rfl
theorem drop_map {l : List Str} (f : Str → Int) : ((l.map f).map V.int).dropLast = (l.dropLast.map f).map V.int := by rw [List.map_dropLast, List.map_dropLast]
section
variable {P : Program} {w : World} {K : PySem.W.Frag} {mg : Str → Option Value} {base : Heap} {C : Addr}
theorem ok_lmov (T : Bn mg) (D : DefAt K mg "_law_moved_places" s_lmov) : FnAt P w K mg base 1 "_law_moved_places" ["_law_places", "_law_kind"] (spLMov K) := by
  refine fnAt D sc_lmov (fun _ _ _ _ _ _ us hl => match us, hl with | [_, _], _ => rfl) (fun vs H Q E h => ?_) fun f cdv A outer s H vs Q E hr h => ?_
  · obtain ⟨p, us, ls, kd, rfl, _⟩ := h
    rfl
  obtain ⟨p, us, ls, kd, rfl, hp, wl, k⟩ := h
  refine ⟨_, (pss_cons (ps_asg (pe_tupF (pa_cons (pe_listRg rfl (by rfl) T.b_list (prg_1 (by rfl) T.b_range (pe_callB call_len_seq (by rfl) T.b_len (by decide +kernel) (pa_cons (pv 0) pa_nil)))) (pa_cons (pe_op op_rep (pe_lst (pa_cons pe_int pa_nil)) (pe_callB call_len_seq (by rfl) T.b_len (by decide +kernel) (pa_cons (pv 0) pa_nil))) pa_nil))) (pg_tup (by rfl) (pgs_cons (pg_name (i := 2) sc_lmov.nd rfl (Or.inl rfl)) (pgs_cons (pg_name (i := 3) sc_lmov.nd rfl (Or.inr rfl)) pgs_nil))))
    (pss_cons (ps_for PassesOwn.never rfl (pi_enumT (by rfl) T.b_enumerate (pa_cons (pv 0) pa_nil)) (pg_tup rfl (pgs_cons (pg_name (i := 4) sc_lmov.nd rfl (Or.inl rfl)) (pgs_cons (pg_name (i := 5) sc_lmov.nd rfl (Or.inl rfl)) pgs_nil)))
      (pss_one (ps_asg (pv 4) (pg_sub (pv 3) (pv 5) set_list))))
    (pss_cons (ps_par (i := 6) (j := 7) rfl sc_lmov.nd rfl rfl (by decide) rfl rfl (pa_cons (pe_ix ix_list (pv 2) (pe_un un_neg pe_int) (fun _ _ => rfl)) (pa_cons (pe_ix ix_list (pv 3) (pe_un un_neg pe_int) (fun _ _ => rfl)) pa_nil)) (by rfl))
    (Evl.pss_cut (ps_if (pt_cmpR op_eq (pv 1) pe_str (nomark _)) (pss_cons (ps_expr (pe_bm0 PySem.F.plainAttrs_list PySem.F.slot_list_pop PySem.F.type_list_pop mt_pop (pv 3)))
    (pss_one (ps_expr (pe_bm PySem.F.plainAttrs_list PySem.F.slot_list_insert PySem.F.type_list_insert mt_insert (pv 3) (pa_cons (pe_op op_add (pe_bm PySem.F.plainAttrs_list PySem.F.slot_list_index PySem.F.type_list_index mt_index (pv 3) (pa_cons (pv 6) pa_nil)) pe_int) (pa_cons (pv 7) pa_nil)))))) (pss_cons (ps_expr (pe_bm0 PySem.F.plainAttrs_list PySem.F.slot_list_pop PySem.F.type_list_pop mt_pop (pv 2)))
    (pss_one (ps_expr (pe_bm PySem.F.plainAttrs_list PySem.F.slot_list_insert PySem.F.type_list_insert mt_insert (pv 2) (pa_cons (pe_op op_add (pe_bm PySem.F.plainAttrs_list PySem.F.slot_list_index PySem.F.type_list_index mt_index (pv 2) (pa_cons (pv 7) pa_nil)) pe_int) (pa_cons (pv 6) pa_nil)))))))
    (pss_one (ps_ret (pe_callTy call_tupleF (by rfl) T.b_tuple (by decide +kernel) (pa_cons (pe_lc (own := [("_law_one", 8)]) (g := gName 8) (tt := tYes) rfl sc_lmov.nd (pi_list (pv 2)) (blkOk_by (N := ["_law_places", "_law_kind", "_law_upper", "_law_lower", "_law_at", "_law_place", "_law_above", "_law_below", "_law_one"]) (sc := defScope s_lmov) (by decide +kernel)) (fun _ _ _ _ _ => pg_name (i := 8) sc_lmov.nd rfl (Or.inl rfl)) (fun _ _ _ _ _ => pts_nil) (fun _ _ _ _ _ => (show PE _ _ (tBM K "list" (rIndex K) _ _) from pe_bm PySem.F.plainAttrs_list PySem.F.slot_list_index PySem.F.type_list_index mt_index (pv 3) (pa_cons (pv 8) pa_nil)))) pa_nil)))))))), ?_⟩
  have n2 := wl.two
  have n40 := wl.ro.le
  have hl := wl.ro.len
  have lp : ((plc us ls).map V.int).length = us.length := by rw [List.length_map, plc_len]
  refine ⟨_, rfl, p, _, rfl, .inr hp.1, _, rfl, RgOk.of_le (by decide) (by rw [lp]; omega) (by decide) (by omega), fun U hU => ?_⟩
  rw [lp, rgV_nat]
  have eU : ((List.range us.length).map fun i => ((i : Nat) : Int)).map V.int = (us.map (fI us)).map V.int := by rw [← plc_self wl.ro.nd]; rfl
  rw [eU]
  have x1 := ext_new (o := HO.lst ((us.map (fI us)).map V.int)) (ext_refl H) hU
  refine ⟨len_ok (Nat.le_of_ble_eq_true rfl), fun Z hZ => ?_⟩
  have x2 := ext_new (o := HO.lst [V.int 0]) x1 hZ
  refine ⟨_, rfl, p, _, rfl, .inr (hp.1.ext x2), Z, _, _, rfl, rfl, upd_same, by omega, by omega, ?_, fun L hL => ?_⟩
  · rw [lp]
    refine len_ok ?_
    rw [Int.toNat_natCast, List.length_singleton]
    omega
  rw [lp, Int.toNat_natCast, ← hl, low_zero us ls]
  have x3 := ext_new (o := HO.lst ((lowI us ls 0).map V.int)) x2 hL
  have hU3 : (upd (upd (upd H U (.lst ((us.map (fI us)).map V.int))) Z (.lst [V.int 0])) L (.lst ((lowI us ls 0).map V.int))) U = some (.lst ((us.map (fI us)).map V.int)) := by
    have h2 := ext_new (o := HO.lst [V.int 0]) (ext_refl (upd H U (.lst ((us.map (fI us)).map V.int)))) hZ
    have h3 := ext_new (o := HO.lst ((lowI us ls 0).map V.int)) h2 hL
    exact h3 _ _ upd_same
  have UL : U ≠ L := fun e => by
    rw [← e] at hL
    have h2 := ext_new (o := HO.lst [V.int 0]) (ext_refl (upd H U (.lst ((us.map (fI us)).map V.int)))) hZ
    rw [h2 _ _ upd_same] at hL
    cases hL
  have nL : H L = none := ext_none x2 hL
  refine ⟨len_ok (Nat.le_of_ble_eq_true rfl), newT_use (K := K) fun t H4 e4 ht _ => ?_⟩
  refine ⟨t, _, rfl, ht, rfl, _, _, rfl, _, _, rfl, rfl, ?_⟩
  have hL4 := e4 _ _ (upd_same (H := upd (upd H U (.lst ((us.map (fI us)).map V.int))) Z (.lst [V.int 0])) (a := L) (o := .lst ((lowI us ls 0).map V.int)))
  have hU4 := e4 _ _ hU3
  have x4 := x3.trans e4
  have wk : Walk (Iet K p) us.length (fun H => SqT K H p ((plc us ls).map V.int)) (YPair (fun i => some (.int (i : Nat))) (fun i => ((plc us ls).map V.int)[i]?)) := by
    have z := walk_enumT (K := K) (a := p) (xs := (plc us ls).map V.int)
    rwa [lp] at z
  have pc : us.map (fun z => ((pos ls z : Nat) : Int)) = plc us ls := rfl
  refine ⟨_, rfl, p, _, rfl, hp.1.ext x4, for_it wk (fun i σ' H' => ∃ x y : Option V, σ' = [some (.ref p), some (.str (kS kd)), some (.ref U), some (.ref L), x, y, none, none, none] ∧ Ext H H' ∧ H' U = some (.lst ((us.map (fI us)).map V.int)) ∧ H' L = some (.lst ((lowI us ls i).map V.int)))
    ⟨none, none, rfl, x4, hU4, hL4⟩ (fun i σ' H' _ p => ?_) (fun i x σ' H5 H6 hi p y => ?_) fun σ' H5 p => ?_⟩
  · obtain ⟨_, _, _, e, _⟩ := p
    exact hp.1.ext e
  · obtain ⟨T, u, v, rfl, hT, rfl, hu, hv⟩ := y
    obtain ⟨a1, a2, rfl, e5, hU5, hL5⟩ := p
    cases hu
    have hv2 : (plc us ls)[i]? = some ((pos ls us[i] : Nat) : Int) := by rw [plc_get, List.getElem?_eq_getElem hi]; rfl
    replace hv : ((plc us ls).map V.int)[i]? = some v := hv
    rw [List.getElem?_map, hv2] at hv
    cases hv
    have xT := ext_new (o := HO.tup [V.int (i : Nat), .int ((pos ls us[i] : Nat) : Int)]) (ext_refl H5) hT
    refine ⟨T, _, rfl, SqT.of upd_same, rfl, _, _, rfl, _, _, rfl, rfl, ?_⟩
    have mem : us[i] ∈ ls := wl.ro.pm.mem_iff.mpr (List.getElem_mem hi)
    have pl := pos_lt mem
    refine ⟨_, rfl, _, rfl, _, rfl, L, _, _, pos ls us[i], rfl, rfl, xT _ _ hL5, ixN_nat (by unfold lowI; rw [List.length_map, List.length_map]; exact pl), ?_⟩
    refine ⟨_, _, rfl, ext_mut (e5.trans xT) nL, ?_, ?_⟩
    · rw [upd_ne UL]
      exact xT _ _ hU5
    · rw [upd_same, ← low_step wl.ro hi, List.map_set]
  obtain ⟨a1, a2, rfl, e5, hU5, hL5⟩ := p
  rw [low_full wl.ro] at hL5
  have iu : atI ((us.map (fI us)).map V.int) (-1) = some (.int (fI us (lastS us))) := by
    rw [atI_end (by rw [List.length_map, List.length_map]; omega)]
    exact last_map wl.nu _
  have il : atI ((ls.map (fI us)).map V.int) (-1) = some (.int (fI us (lastS ls))) := by
    rw [atI_end (by rw [List.length_map, List.length_map]; omega)]
    exact last_map wl.nl _
  refine ⟨_, rfl, _, rfl, _, _, _, _, rfl, rfl, SqL.of hU5, iu, _, rfl, _, rfl, _, _, _, _, rfl, rfl, SqL.of hL5, il, _, _, rfl, ?_⟩
  have nU : H U = none := hU
  have memU := wl.memU
  have memL := wl.memL
  have inU : ∀ z ∈ us, ∀ x ∈ us, fI us z = fI us x → z = x := fun z hz x hx e => fI_inj hx hz e
  have toU : ∀ z ∈ ls, z ∈ us := fun z hz => wl.ro.pm.mem_iff.mp hz
  have dU : ∀ z ∈ us.dropLast, z ∈ us := fun z hz => (List.dropLast_sublist _).subset hz
  have dL : ∀ z ∈ ls.dropLast, z ∈ us := fun z hz => toU z ((List.dropLast_sublist _).subset hz)
  have lsU : lastS us ∈ us := last_mem wl.nu
  have lsL : lastS ls ∈ us := toU _ (last_mem wl.nl)
  refine ⟨fun σ' H' => σ' = [some (.ref p), some (.str (kS kd)), some (.ref U), some (.ref L), a1, a2, some (.int (fI us (lastS us))), some (.int (fI us (lastS ls))), none] ∧ Ext H H' ∧ H' U = some (.lst (((led1 kd (us, ls)).1.map (fI us)).map V.int)) ∧ H' L = some (.lst (((led1 kd (us, ls)).2.map (fI us)).map V.int)), ?_, ?_⟩
  · refine ⟨_, rfl, rfl, _, rfl, ?_⟩
    cases kd with
    | true =>
      refine iteT ?_
      refine ⟨_, rfl, .inl ⟨rfl, _, SqL.of hL5⟩, L, _, _, rfl, rfl, hL5, last_map wl.nl _, ?_⟩
      rw [drop_map]
      have ll : ls.dropLast.length = us.length - 1 := by rw [List.length_dropLast]; omega
      have pl := pos_lt memU
      refine ⟨_, rfl, .inl ⟨rfl, _, SqL.of upd_same⟩, _, rfl, .inl ⟨rfl, _, SqL.of upd_same⟩, _, rfl, ?_⟩
      dsimp only [tNil]
      refine idxF_use (SqL.of upd_same) memU (fun z hz e => inU z (dL z hz) _ lsU e) ?_
      refine ⟨_, _, rfl, rfl, _, rfl, L, _, _, _, rfl, rfl, upd_same, ?_, ?_, ?_, ?_⟩
      · rw [List.length_map, List.length_map]
        exact len_lt (by omega)
      · omega
      · omega
      · have en : ((pos ls.dropLast (lastS us) : Nat) + 1 : Int).toNat = pos ls.dropLast (lastS us) + 1 := by omega
        rw [en, put_map]
        refine ⟨rfl, ext_mut (ext_mut e5 nL) nL, ?_, ?_⟩
        · rw [upd_ne UL, upd_ne UL]
          exact hU5
        · rw [upd_same]
          rfl
    | false =>
      refine iteF ?_
      refine ⟨_, rfl, .inl ⟨rfl, _, SqL.of hU5⟩, U, _, _, rfl, rfl, hU5, last_map wl.nu _, ?_⟩
      rw [drop_map]
      have ll : us.dropLast.length = us.length - 1 := by rw [List.length_dropLast]
      have pl := pos_lt memL
      refine ⟨_, rfl, .inl ⟨rfl, _, SqL.of upd_same⟩, _, rfl, .inl ⟨rfl, _, SqL.of upd_same⟩, _, rfl, ?_⟩
      dsimp only [tNil]
      refine idxF_use (SqL.of upd_same) memL (fun z hz e => inU z (dU z hz) _ lsL e) ?_
      refine ⟨_, _, rfl, rfl, _, rfl, U, _, _, _, rfl, rfl, upd_same, ?_, ?_, ?_, ?_⟩
      · rw [List.length_map, List.length_map]
        exact len_lt (by omega)
      · omega
      · omega
      · have en : ((pos us.dropLast (lastS ls) : Nat) + 1 : Int).toNat = pos us.dropLast (lastS ls) + 1 := by omega
        rw [en, put_map]
        refine ⟨rfl, ext_mut (ext_mut e5 nU) nU, ?_, ?_⟩
        · rw [upd_same]
          rfl
        · rw [upd_ne UL.symm, upd_ne UL.symm]
          exact hL5
  rintro σ' H6 ⟨rfl, e6, hU6, hL6⟩
  have w2 : Whl (led1 kd (us, ls)).1 (led1 kd (us, ls)).2 := Whl.led1 (r := (us, ls)) wl
  have pmU : (led1 kd (us, ls)).1.Perm us := by
    cases kd with
    | true => exact List.Perm.refl _
    | false => exact ledU_perm wl.nu
  generalize led1 kd (us, ls) = r at hU6 hL6 w2 pmU k
  refine ⟨_, rfl, U, rfl, ⟨_, SqL.of hU6⟩, fun D hD => map_list (xs := (r.1.map (fI us)).map V.int) (fun j _ => .int ((pos r.2 (r.1.getD j Str.empty) : Nat) : Int)) (SqL.of hU6) hD (by rw [List.length_map, List.length_map, pmU.length_eq]; omega) (fun _ => rfl) (fun j v H' hj e' Q' k' => ?_) fun H7 e7 hl7 => ?_⟩
  · rw [List.getElem?_map, List.getElem?_map, Option.map_map] at hj
    obtain ⟨z, hz, rfl⟩ := Option.map_eq_some_iff.mp hj
    have ez : r.1.getD j Str.empty = z := by rw [List.getD_eq_getElem?_getD, hz]; rfl
    have mz : z ∈ r.2 := w2.ro.pm.mem_iff.mpr (List.mem_of_getElem? hz)
    have sub : ∀ y ∈ r.2, y ∈ us := fun y hy => pmU.mem_iff.mp (w2.ro.pm.mem_iff.mp hy)
    refine ⟨_, rfl, .inl ⟨rfl, _, SqL.of (e' _ _ hL6)⟩, _, rfl, ?_⟩
    dsimp only [tNil]
    refine idxF_use (SqL.of (e' _ _ hL6)) mz (fun y hy e => inU y (sub y hy) z (sub z mz) e) ?_
    rw [ez] at k'
    exact k' H' (ext_refl _)
  have ef : ((r.1.map (fI us)).map V.int).mapIdx (fun j _ => V.int ((pos r.2 (r.1.getD j Str.empty) : Nat) : Int)) = (plc r.1 r.2).map V.int := by
    apply List.ext_getElem?
    intro j
    rw [List.getElem?_mapIdx, List.getElem?_map, List.getElem?_map, List.getElem?_map, plc_get]
    cases hz : r.1[j]? with
    | none => rfl
    | some z =>
      have ez : r.1.getD j Str.empty = z := by rw [List.getD_eq_getElem?_getD, hz]; rfl
      simp only [Option.map_some]
      rw [ez]
  rw [ef] at hl7
  exact ⟨D, _, rfl, .inl ⟨SqL.of hl7, newT_use (K := K) fun q H8 e8 hq nd => k q H8 ((e6.trans e7).trans e8) ⟨hq, nd⟩⟩⟩
theorem ok_lpof (T : Bn mg) (D : DefAt K mg "_law_places_of" s_lpof) : FnAt P w K mg base 1 "_law_places_of" ["_law_upper", "_law_lower"] (spLPof K) := by
  refine fnAt D sc_lpof (fun _ _ _ _ _ _ us hl => match us, hl with | [_, _], _ => rfl) (fun vs H Q E h => ?_) fun f cdv A outer s H vs Q E hr h => ?_
  · obtain ⟨A, B, us, ls, rfl, _⟩ := h
    rfl
  obtain ⟨A, B, us, ls, rfl, hA, hB, ro, k⟩ := h
  refine ⟨_, (pss_one (ps_ret (pe_callTy call_tupleF (by rfl) T.b_tuple (by decide +kernel) (pa_cons (pe_lc (own := [("_law_name", 2)]) (g := gName 2) (tt := tYes) rfl sc_lpof.nd (pi_list (pv 0)) (blkOk_by (N := ["_law_upper", "_law_lower", "_law_name"]) (sc := defScope s_lpof) (by decide +kernel)) (fun _ _ _ _ _ => pg_name (i := 2) sc_lpof.nd rfl (Or.inl rfl)) (fun _ _ _ _ _ => pts_nil) (fun _ _ _ _ _ => (show PE _ _ (tBM K "list" (rIndex K) _ _) from pe_bm PySem.F.plainAttrs_list PySem.F.slot_list_index PySem.F.type_list_index mt_index (pv 1) (pa_cons (pv 2) pa_nil)))) pa_nil)))), ?_⟩
  have l40 := ro.le
  refine ⟨_, rfl, A, rfl, ⟨_, hA⟩, fun D hD => map_list (xs := us.map V.str) (fun _ v => .int ((pos ls (sOf v) : Nat) : Int)) hA hD (by rw [List.length_map]; omega) (fun _ => rfl) (fun j v H' hj e' Q' k' => ?_) fun H7 e7 hl7 => ?_⟩
  · rw [List.getElem?_map] at hj
    obtain ⟨z, hz, rfl⟩ := Option.map_eq_some_iff.mp hj
    refine ⟨_, rfl, .inl ⟨rfl, _, hB.ext e'⟩, _, rfl, ?_⟩
    dsimp only [tNil]
    exact idx_use (hB.ext e') (ro.pm.mem_iff.mpr (List.mem_of_getElem? hz)) (k' H' (ext_refl _))
  rw [plc_eq] at hl7
  exact ⟨D, _, rfl, .inl ⟨SqL.of hl7, newT_use (K := K) fun q H8 e8 hq nd => k q H8 (e7.trans e8) ⟨hq, nd⟩⟩⟩
theorem ok_lrule (T : Bn mg) (D : DefAt K mg "_law_by_rule" s_lrule) : FnAt P w K mg base 1 "_law_by_rule" ["_law_places", "_law_kind"] (spLRule K) := by
  refine fnAt D sc_lrule (fun _ _ _ _ _ _ us hl => match us, hl with | [_, _], _ => rfl) (fun vs H Q E h => ?_) fun f cdv A outer s H vs Q E hr h => ?_
  · obtain ⟨p, us, ls, kd, rfl, _⟩ := h
    rfl
  obtain ⟨p, us, ls, kd, rfl, hp, wl, k⟩ := h
  refine ⟨_, (pss_cons (ps_asg (pe_tup (pa_cons (pe_ix ix_tup (pv 0) (pe_un un_neg pe_int) (fun _ _ => rfl)) (pa_cons (pe_bmT PySem.F.plainAttrs_tuple PySem.F.slot_tuple_index PySem.F.type_tuple_index mt_tup_indexF (pv 0) (pa_cons (pe_op op_sub (pe_callB call_len_seq (by rfl) T.b_len (by decide +kernel) (pa_cons (pv 0) pa_nil)) pe_int) pa_nil)) pa_nil))) (pg_tup (by rfl) (pgs_cons (pg_name (i := 2) sc_lrule.nd rfl (Or.inr rfl)) (pgs_cons (pg_name (i := 3) sc_lrule.nd rfl (Or.inl rfl)) pgs_nil))))
    (pss_cons (ps_if (pt_cmpR op_eq (pv 1) pe_str (nomark _)) (pss_one (ps_ret (pe_op op_catA (pe_op op_catA (pe_slice sl_tupA (pv 0) po_none (po_some (pe_op op_add (pv 3) pe_int))) (pe_tup (pa_cons (pv 2) pa_nil))) (pe_slice sl_tupA (pv 0) (po_some (pe_op op_add (pv 3) pe_int)) (po_some (pe_un un_neg pe_int)))))) pss_nil)
    (pss_cons (ps_setLc (i := 4) (own := [("_law_place", 5)]) (g := gName 5) (tt := tYes) rfl sc_lrule.nd rfl rfl (sw_true rfl rfl rfl (by decide +kernel)) (pi_tup (pv 0)) (blkOk_by (N := ["_law_places", "_law_kind", "_law_last", "_law_at", "_law_found", "_law_place"]) (sc := defScope s_lrule) (by decide +kernel)) (fun _ _ _ _ _ => pg_name (i := 5) sc_lrule.nd rfl (Or.inl rfl)) (fun _ _ _ _ _ => pts_nil) (fun _ _ _ _ _ => (pe_ifExp (pt_cmpR op_le (pv 5) (pv 2) (nomark _)) (pv 5) (pe_op op_add (pv 5) pe_int))))
    (pss_cons (ps_asg (pe_op op_add (pv 2) pe_int) (pg_sub (pv 4) (pv 3) set_list))
    (pss_one (ps_ret (pe_callTy call_tuple_of (by rfl) T.b_tuple (by decide +kernel) (pa_cons (pv 4) pa_nil)))))))), ?_⟩
  have n2 := wl.two
  have n40 := wl.ro.le
  have lp : ((plc us ls).map V.int).length = us.length := by rw [List.length_map, plc_len]
  have lq := plc_len us ls
  have iq : atI ((plc us ls).map V.int) (-1) = some (.int ((pos ls (lastS us) : Nat) : Int)) := by
    rw [atI_end (by omega), lp, List.getElem?_map, plc_last wl]
    rfl
  have mB : lastS ls ∈ us := wl.ro.pm.mem_iff.mp (last_mem wl.nl)
  have pB := pos_lt mB
  have pL := pos_lt wl.memL
  rw [pos_drop wl.ro.nd wl.nu wl.memL, List.length_dropLast] at pL
  have eg : (((plc us ls).map V.int).length : Int) - 1 = (us.length : Int) - 1 := by rw [lp]
  refine ⟨_, rfl, _, rfl, _, _, _, _, rfl, rfl, hp.1, iq, _, rfl, ⟨p, _, rfl, hp.1, hp.2⟩, _, rfl, p, _, rfl, .inr hp.1, _, _, rfl, rfl, ?_⟩
  dsimp only [tNil]
  refine top_use hp.1 wl eg ?_
  refine ⟨len_ok (Nat.le_of_ble_eq_true rfl), fun t ht => ?_⟩
  have x1 := ext_new (o := HO.tup [V.int ((pos ls (lastS us) : Nat) : Int), .int ((pos us (lastS ls) : Nat) : Int)]) (ext_refl H) ht
  refine ⟨t, _, rfl, SqT.of upd_same, rfl, _, _, rfl, _, _, rfl, rfl, ?_⟩
  have hp1 := hp.ext x1
  refine ⟨_, rfl, rfl, _, rfl, ?_⟩
  have ej : ((pos us (lastS ls) : Nat) : Int) + 1 = ((pos us (lastS ls) + 1 : Nat) : Int) := by omega
  cases kd with
  | true =>
    refine iteF ?_
    refine ⟨_, rfl, p, rfl, ⟨_, hp1.1⟩, fun D hD => map_tup (xs := (plc us ls).map V.int) (fun _ v => .int (upF ((pos ls (lastS us) : Nat) : Int) (iOf v))) hp1.1 hD (by omega) (fun _ => rfl) (fun i v H' hi e Q' k' => ?_) fun H2 e2 hl => ?_⟩
    · rw [List.getElem?_map] at hi
      obtain ⟨z, hz, rfl⟩ := Option.map_eq_some_iff.mp hi
      refine ⟨_, rfl, _, rfl, _, _, rfl, rfl, _, rfl, ite2 (fun c => ?_) fun c => ?_⟩
      · have e3 : upF ((pos ls (lastS us) : Nat) : Int) z = z := if_pos (of_decide_eq_true c)
        dsimp only [iOf] at k'
        rw [e3] at k'
        exact ⟨_, rfl, k' H' (ext_refl _)⟩
      · have e3 : upF ((pos ls (lastS us) : Nat) : Int) z = z + 1 := if_neg fun h => c (decide_eq_true h)
        dsimp only [iOf] at k'
        rw [e3] at k'
        exact ⟨_, rfl, _, _, rfl, rfl, k' H' (ext_refl _)⟩
    rw [map_ints] at hl
    refine ⟨_, rfl, _, _, rfl, rfl, _, rfl, _, rfl, D, _, _, pos us (lastS ls), rfl, rfl, hl, ixN_nat (by rw [List.length_map, List.length_map, lq]; exact pB), ?_⟩
    refine ⟨_, rfl, D, ((plc us (ledU us ls)).map V.int), rfl, .inl ⟨SqL.of ?_, fun q hq => ?_⟩⟩
    · rw [upd_same, plcU wl]
      unfold ptsU
      rw [List.map_set]
      rfl
    · exact k q _ ((x1.trans (ext_mut e2 hD)).trans (ext_new (ext_refl _) hq)) (SqT.of upd_same)
  | false =>
    refine iteT ?_
    refine ⟨_, rfl, _, rfl, _, _, rfl, rfl, _, rfl, ?_⟩
    dsimp only [tNoPart]
    refine slA_use hp1.1 fun p1 H2 e2 h1 => ?_
    rw [ej, cut_to (by omega)] at h1
    refine ⟨_, rfl, len_ok (Nat.le_of_ble_eq_true rfl), fun q hq => ?_⟩
    have x3 := ext_new (o := HO.tup [V.int ((pos ls (lastS us) : Nat) : Int)]) (ext_refl H2) hq
    refine catA_use (h1.ext x3) (ys := [V.int ((pos ls (lastS us) : Nat) : Int)]) (SqT.of upd_same) (by rw [List.length_take, lp]; show _ + 1 ≤ 1000; omega) fun p4 H4 e4 h4 => ?_
    refine ⟨_, rfl, _, rfl, _, _, rfl, rfl, _, rfl, _, rfl, _, rfl, ?_⟩
    refine slA_use (((hp1.1.ext e2).ext x3).ext e4) fun p5 H5 e5 h5 => ?_
    rw [ej, cut_mid (by omega)] at h5
    refine catA_use (h4.ext e5) h5 (by rw [List.length_append, List.length_take, List.length_drop, List.length_dropLast, lp]; show _ + 1 + _ ≤ 1000; omega) fun p6 H6 e6 h6 => ?_
    have ec : ((plc us ls).map V.int).take (pos us (lastS ls) + 1) ++ [V.int ((pos ls (lastS us) : Nat) : Int)] ++ ((plc us ls).map V.int).dropLast.drop (pos us (lastS ls) + 1) = (plc (ledL us ls) ls).map V.int := by
      rw [plcL wl]
      unfold ptsL
      rw [List.map_append, List.map_append, List.map_take, List.map_drop, List.map_dropLast]
      rfl
    rw [ec] at h6
    exact k p6 H6 (((((x1.trans e2).trans x3).trans e4).trans e5).trans e6) h6
theorem ok_lback (T : Bn mg) (D : DefAt K mg "_law_turns_back" s_lback) (F_moved : FnAt P w K mg base 3 "moved" ["places", "kind"] (spLedP K)) : FnAt P w K mg base 4 "_law_turns_back" ["_law_places", "_law_kind"] (spLBack K) := by
  refine fnAt D sc_lback (fun _ _ _ _ _ _ us hl => match us, hl with | [_, _], _ => rfl) (fun vs H Q E h => ?_) fun f cdv A outer s H vs Q E hr h => ?_
  · obtain ⟨p, us, ls, kd, rfl, _⟩ := h
    rfl
  obtain ⟨p, us, ls, kd, rfl, hp, wl, k⟩ := h
  refine ⟨_, (Evl.pss_cut (ps_set (i := 2) sc_lback.nd rfl (Or.inl rfl) (pe_op op_sub (pe_op op_sub (pe_callB call_len_seq (by rfl) T.b_len (by decide +kernel) (pa_cons (pv 0) pa_nil)) pe_int) (pe_ifExp (pt_cmpR op_eq (pv 1) pe_str (nomark _)) (pe_ix ix_tup (pv 0) (pe_un un_neg pe_int) (fun _ _ => rfl)) (pe_bmT PySem.F.plainAttrs_tuple PySem.F.slot_tuple_index PySem.F.type_tuple_index mt_tup_indexF (pv 0) (pa_cons (pe_op op_sub (pe_callB call_len_seq (by rfl) T.b_len (by decide +kernel) (pa_cons (pv 0) pa_nil)) pe_int) pa_nil)))))
    (pss_cons (ps_set (i := 3) sc_lback.nd rfl (Or.inl rfl) (pv 0))
    (pss_cons (ps_for PassesOwn.never rfl (pi_range1 (by rfl) T.b_range (pa_cons (pv 2) pa_nil)) (pg_name (i := 4) sc_lback.nd rfl (Or.inl rfl))
      (pss_cons (ps_set (i := 3) sc_lback.nd rfl (Or.inl rfl) (callA F_moved (hr.mono (by decide)) rfl (pa_cons (pv 3) (pa_cons (pv 1) pa_nil))))
    (pss_one (ps_if (pt_cmpR op_ne (pe_cmpR (op_eqD (hu64 hr)) (pv 3) (pv 0) (nomark _)) (pe_cmpR op_eq (pv 4) (pe_op op_sub (pv 2) pe_int) (nomark _)) (nomark _)) (pss_one (ps_ret pe_bl)) pss_nil))))
    (pss_one (ps_ret (pe_cmpR op_gt (pv 2) pe_int (nomark _))))))), ?_⟩
  have n2 := wl.two
  have n40 := wl.ro.le
  have hl := wl.ro.len
  have lp : ((plc us ls).map V.int).length = us.length := by rw [List.length_map, plc_len]
  have iq : atI ((plc us ls).map V.int) (-1) = some (.int ((pos ls (lastS us) : Nat) : Int)) := by
    rw [atI_end (by omega), lp, List.getElem?_map, plc_last wl]
    rfl
  have eg : (((plc us ls).map V.int).length : Int) - 1 = (us.length : Int) - 1 := by rw [lp]
  have mA : lastS us ∈ ls := wl.ro.pm.mem_iff.mpr (last_mem wl.nu)
  have mB : lastS ls ∈ us := wl.ro.pm.mem_iff.mp (last_mem wl.nl)
  have pA := pos_lt mA
  have pB := pos_lt mB
  refine ⟨fun σ' H' => σ' = [some (.ref p), some (.str (kS kd)), some (.int (bk kd us ls : Nat)), none, none] ∧ Ext H H', ?_, ?_⟩
  · refine ⟨_, rfl, p, _, rfl, .inr hp.1, _, _, rfl, rfl, _, rfl, rfl, _, rfl, ?_⟩
    cases kd with
    | true =>
      refine iteT ?_
      refine ⟨_, rfl, _, rfl, _, _, _, _, rfl, rfl, hp.1, iq, _, _, rfl, rfl, ?_⟩
      have e : (((plc us ls).map V.int).length : Int) - 1 - ((pos ls (lastS us) : Nat) : Int) = ((bk true us ls : Nat) : Int) := by
        rw [lp]
        unfold bk
        simp only [if_true]
        omega
      exact ⟨by rw [← e]; rfl, ext_refl H⟩
    | false =>
      refine iteF ?_
      refine ⟨_, rfl, ⟨p, _, rfl, hp.1, hp.2⟩, _, rfl, p, _, rfl, .inr hp.1, _, _, rfl, rfl, ?_⟩
      dsimp only [tNil]
      refine top_use hp.1 wl eg ?_
      refine ⟨_, _, rfl, rfl, ?_⟩
      have e : (((plc us ls).map V.int).length : Int) - 1 - ((pos us (lastS ls) : Nat) : Int) = ((bk false us ls : Nat) : Int) := by
        rw [lp]
        unfold bk
        simp only [Bool.false_eq_true, if_false]
        omega
      exact ⟨by rw [← e]; rfl, ext_refl H⟩
  rintro σ' H1 ⟨rfl, e1⟩
  have b1 := bk_pos wl kd
  have b2 : bk kd us ls ≤ 40 := by unfold bk; omega
  refine ⟨_, rfl, _, rfl, _, rfl, by omega, by omega, ?_⟩
  rw [Int.toNat_natCast]
  refine for_range (lo := 0) (fun i σ H' => ∃ (q : Addr) (x : Option V), σ = [some (.ref p), some (.str (kS kd)), some (.int (bk kd us ls : Nat)), some (.ref q), x] ∧ Ext H H' ∧ PtAt K H' q (leds (List.replicate i kd) (us, ls)).1 (leds (List.replicate i kd) (us, ls)).2) ⟨p, _, rfl, e1, hp.ext e1⟩ ?_ ?_
  · rintro i σ H' hi ⟨q, x, rfl, e, hq⟩
    have w1 := Whl.leds (ks := List.replicate i kd) (r := (us, ls)) wl
    refine ⟨_, rfl, _, rfl, q, _, _, kd, rfl, hq, w1, fun q2 H2 e2 hq2 => ?_⟩
    have er : led1 kd ((leds (List.replicate i kd) (us, ls)).1, (leds (List.replicate i kd) (us, ls)).2) = leds (List.replicate (i + 1) kd) (us, ls) := by rw [List.replicate_succ', leds_more]
    rw [er] at hq2
    refine ⟨_, rfl, _, rfl, ?_⟩
    refine eqD_use 1 (by decide) (.tup hq2.1 (dp_ints _)) (.tup (hp.1.ext (e.trans e2)) (dp_ints _)) (pl_ints 0 _) (pl_ints 0 _) fun b hb => ?_
    have eb : b = decide (V.int (0 + ((i : Nat) : Int)) = V.int (((bk kd us ls : Nat) : Int) - 1)) := by
      rw [PyData.tuple.injEq, int_inj] at hb
      have z := back_iff wl kd (t := i + 1) (by omega) (by omega)
      unfold plcs at z
      rw [z] at hb
      rw [Bool.eq_iff_iff, hb, decide_eq_true_iff, V.int.injEq]
      omega
    rw [eb]
    refine ⟨_, rfl, _, rfl, _, _, rfl, rfl, rfl, rfl, _, rfl, ?_⟩
    have same : ∀ b : Bool, (!decide (V.bl b = V.bl b)) = false := fun b => by rw [decide_eq_true rfl]; rfl
    rw [same]
    exact iteF ⟨q2, _, rfl, e.trans e2, hq2⟩
  · rintro σ H' ⟨q, x, rfl, e, hq⟩
    refine ⟨_, rfl, _, _, rfl, rfl, ?_⟩
    show Q (.bl (decide ((0 : Int) < ((bk kd us ls : Nat) : Int)))) H'
    rw [decide_eq_true (show (0 : Int) < ((bk kd us ls : Nat) : Int) by omega)]
    exact k H' e
end
end My
/-! rounds of renamed rows -/
namespace My
open PySem PySem.Spec L2
def InjOn (g : Str → Str) (l : List Str) : Prop := ∀ x ∈ l, ∀ z ∈ l, g z = g x → z = x
theorem InjOn.sub {g : Str → Str} {l m : List Str} (h : InjOn g l) (s : ∀ x ∈ m, x ∈ l) : InjOn g m := fun x hx z hz e => h x (s x hx) z (s z hz) e
theorem pos_map {g : Str → Str} : ∀ {l : List Str} {x : Str}, (∀ z ∈ l, g z = g x → z = x) → pos (l.map g) (g x) = pos l x
  | [], _, _ => rfl
  | a :: r, x, h => by
    unfold pos
    rw [List.map_cons, List.findIdx_cons, List.findIdx_cons]
    by_cases e : a = x
    · subst e
      simp
    · have n : ¬ g a = g x := fun q => e (h a (List.mem_cons_self ..) q)
      have ih := pos_map (l := r) (x := x) fun z hz q => h z (List.mem_cons_of_mem _ hz) q
      unfold pos at ih
      simp only [decide_eq_false n, decide_eq_false e, cond_false, ih]
theorem put_mapS {g : Str → Str} {l : List Str} {x y : Str} (h : ∀ z ∈ l, g z = g x → z = x) : putAt (l.map g) (g x) (g y) = (putAt l x y).map g := by
  unfold putAt
  rw [pos_map h, List.map_append, List.map_append, List.map_take, List.map_drop]
  rfl
theorem last_mapS {g : Str → Str} {l : List Str} (h : l ≠ []) : lastS (l.map g) = g (lastS l) := by
  have n : l.map g ≠ [] := fun e => h (List.map_eq_nil_iff.mp e)
  have a := last_get n
  rw [List.length_map, List.getElem?_map, last_get h] at a
  exact (Option.some.inj a).symm
theorem ledU_map {g : Str → Str} {us ls : List Str} (w : Whl us ls) (h : InjOn g us) : ledU (us.map g) (ls.map g) = (ledU us ls).map g := by
  unfold ledU
  have lu : lastS us ∈ us := last_mem w.nu
  rw [last_mapS w.nu, last_mapS w.nl, ← List.map_dropLast, put_mapS fun z hz e => h _ lu z (w.ro.pm.mem_iff.mp ((List.dropLast_sublist _).subset hz)) e]
theorem ledL_map {g : Str → Str} {us ls : List Str} (w : Whl us ls) (h : InjOn g us) : ledL (us.map g) (ls.map g) = (ledL us ls).map g := by
  rw [ledL_eq, ledL_eq]
  exact ledU_map w.symm (h.sub fun x hx => w.ro.pm.mem_iff.mp hx)
theorem led1_perm {k : Bool} {us ls : List Str} (w : Whl us ls) : (led1 k (us, ls)).1.Perm us := by
  cases k with
  | true => exact List.Perm.refl _
  | false => exact ledU_perm w.nu
theorem leds_perm : ∀ {ks : List Bool} {r : List Str × List Str}, Whl r.1 r.2 → (leds ks r).1.Perm r.1
  | [], _, _ => List.Perm.refl _
  | k :: ks, (us, ls), w => (leds_perm (ks := ks) (r := led1 k (us, ls)) (Whl.led1 (r := (us, ls)) w)).trans (led1_perm w)
theorem led1_map {g : Str → Str} {k : Bool} {us ls : List Str} (w : Whl us ls) (h : InjOn g us) : led1 k (us.map g, ls.map g) = ((led1 k (us, ls)).1.map g, (led1 k (us, ls)).2.map g) := by
  cases k with
  | true =>
    show (us.map g, ledU (us.map g) (ls.map g)) = _
    rw [ledU_map w h]
    rfl
  | false =>
    show (ledL (us.map g) (ls.map g), ls.map g) = _
    rw [ledL_map w h]
    rfl
theorem leds_map {g : Str → Str} : ∀ {ks : List Bool} {us ls : List Str}, Whl us ls → InjOn g us → leds ks (us.map g, ls.map g) = ((leds ks (us, ls)).1.map g, (leds ks (us, ls)).2.map g)
  | [], _, _, _, _ => rfl
  | k :: ks, us, ls, w, h => by
    show leds ks (led1 k (us.map g, ls.map g)) = _
    rw [led1_map w h]
    have w1 : Whl (led1 k (us, ls)).1 (led1 k (us, ls)).2 := Whl.led1 (r := (us, ls)) w
    rw [leds_map (ks := ks) w1 (h.sub fun x hx => (led1_perm w).mem_iff.mp hx)]
    rfl
theorem mem_mapI {g : Str → Str} {l m : List Str} {z : Str} (h : InjOn g l) (s : ∀ x ∈ m, x ∈ l) (hz : z ∈ l) : g z ∈ m.map g ↔ z ∈ m := by
  constructor
  · intro q
    obtain ⟨y, hy, e⟩ := List.mem_map.mp q
    rw [← h z hz y (s y hy) e]
    exact hy
  · exact fun q => List.mem_map.mpr ⟨z, q, rfl⟩
theorem rows_map {g : Str → Str} {us ls : List Str} (ro : RowsOk us ls) (h : InjOn g us) (nm : ∀ z ∈ us, isNm (g z) = true) : RowsOk (us.map g) (ls.map g) := by
  refine ⟨fun z hz => ?_, ?_, ro.pm.map g, by rw [List.length_map]; exact ro.ne, by rw [List.length_map]; exact ro.le⟩
  · obtain ⟨y, hy, rfl⟩ := List.mem_map.mp hz
    exact nm y hy
  · refine List.nodup_iff_pairwise_ne.mpr (List.pairwise_map.mpr ?_)
    refine (List.nodup_iff_pairwise_ne.mp ro.nd).imp_of_mem fun ha hb n e => n (h _ hb _ ha e)
theorem Whl.map {g : Str → Str} {us ls : List Str} (w : Whl us ls) (h : InjOn g us) (nm : ∀ z ∈ us, isNm (g z) = true) : Whl (us.map g) (ls.map g) := by
  refine ⟨rows_map w.ro h nm, by rw [List.length_map]; exact w.two, fun k k0 kn q => ?_⟩
  rw [List.length_map] at kn
  refine w.unc k k0 kn fun x => ?_
  have toU : ∀ z ∈ ls, z ∈ us := fun z hz => w.ro.pm.mem_iff.mp hz
  have s1 : ∀ x ∈ us.take k, x ∈ us := fun x hx => List.mem_of_mem_take hx
  have s2 : ∀ x ∈ ls.take k, x ∈ us := fun x hx => toU x (List.mem_of_mem_take hx)
  have z := q (g x)
  rw [← List.map_take, ← List.map_take] at z
  constructor
  · intro hx
    exact (mem_mapI h s2 (s1 x hx)).mp (z.mp ((mem_mapI h s1 (s1 x hx)).mpr hx))
  · intro hx
    exact (mem_mapI h s1 (s2 x hx)).mp (z.mpr ((mem_mapI h s2 (s2 x hx)).mpr hx))
end My
/-! a dict made out of two rows of names -/
namespace My
open PySem PySem.Spec PyProof.Rows L2
def zk (ns ws : List Str) : List (Key × V) := (ns.zip ws).map fun p => ((Sum.inr p.1 : Key), V.str p.2)
def gz : List Str → List Str → Str → Str
  | n :: ns, w :: ws, z => if n = z then w else gz ns ws z
  | _, _, z => z
theorem zk_cons (n w : Str) (ns ws : List Str) : zk (n :: ns) (w :: ws) = (.inr n, .str w) :: zk ns ws := rfl
theorem zk_len : ∀ {ns ws : List Str}, ns.length = ws.length → (zk ns ws).length = ns.length := fun {ns ws} h => by
  unfold zk
  rw [List.length_map, List.length_zip, h, Nat.min_self]
theorem zk_vals : ∀ {ns ws : List Str}, ns.length = ws.length → (zk ns ws).map (·.2) = ws.map V.str
  | [], [], _ => rfl
  | [], _ :: _, h => by cases h
  | _ :: _, [], h => by cases h
  | n :: ns, w :: ws, h => by
    rw [zk_cons, List.map_cons, List.map_cons, zk_vals (by simpa using h)]
theorem gz_mem : ∀ {ns ws : List Str} {z : Str}, ns.length = ws.length → z ∈ ns → gz ns ws z ∈ ws
  | [], _, _, _, m => by cases m
  | _ :: _, [], _, h, _ => by cases h
  | n :: ns, w :: ws, z, h, m => by
    unfold gz
    by_cases e : n = z
    · rw [if_pos e]
      exact List.mem_cons_self ..
    · rw [if_neg e]
      rcases List.mem_cons.mp m with q | q
      · exact absurd q.symm e
      · exact List.mem_cons_of_mem _ (gz_mem (by simpa using h) q)
theorem gz_inj : ∀ {ns ws : List Str}, ns.length = ws.length → ws.Nodup → InjOn (gz ns ws) ns
  | [], _, _, _ => fun x hx => by cases hx
  | _ :: _, [], h, _ => by cases h
  | n :: ns, w :: ws, h, nd => by
    have h' : ns.length = ws.length := by simpa using h
    have nd' := List.nodup_cons.mp nd
    intro x hx z hz e
    unfold gz at e
    by_cases a : n = x
    · by_cases b : n = z
      · rw [← a, ← b]
      · rw [if_pos a, if_neg b] at e
        rcases List.mem_cons.mp hz with q | q
        · exact absurd q.symm b
        · exact absurd (e ▸ gz_mem h' q) nd'.1
    · by_cases b : n = z
      · rw [if_neg a, if_pos b] at e
        rcases List.mem_cons.mp hx with q | q
        · exact absurd q.symm a
        · exact absurd (e ▸ gz_mem h' q) nd'.1
      · rw [if_neg a, if_neg b] at e
        rcases List.mem_cons.mp hx with q | q
        · exact absurd q.symm a
        · rcases List.mem_cons.mp hz with q2 | q2
          · exact absurd q2.symm b
          · exact gz_inj h' nd'.2 x q z q2 e
theorem valV_cons (k k' : Key) (v : V) (r : List (Key × V)) : valV ((k, v) :: r) k' = if k = k' then some v else valV r k' := by
  unfold valV
  rw [List.find?_cons]
  by_cases e : k = k'
  · rw [if_pos e, e]
    simp
  · rw [if_neg e]
    simp [e]
theorem zk_get : ∀ {ns ws : List Str} {z : Str}, ns.length = ws.length → z ∈ ns → valV (zk ns ws) (.inr z) = some (.str (gz ns ws z))
  | [], _, _, _, m => by cases m
  | _ :: _, [], _, h, _ => by cases h
  | n :: ns, w :: ws, z, h, m => by
    rw [zk_cons, valV_cons]
    unfold gz
    by_cases e : n = z
    · rw [if_pos (by rw [e]), if_pos e]
    · rw [if_neg (fun q => e (Sum.inr.inj q)), if_neg e]
      rcases List.mem_cons.mp m with q | q
      · exact absurd q.symm e
      · exact zk_get (by simpa using h) q
theorem zk_at {ns ws : List Str} {i : Nat} {n w : Str} (hn : ns[i]? = some n) (hw : ws[i]? = some w) : (zk ns ws)[i]? = some (.inr n, .str w) := by
  unfold zk
  rw [List.getElem?_map, List.getElem?_zip_eq_some (z := (n, w)) |>.mpr ⟨hn, hw⟩]
  rfl
theorem valV_none {kvs : List (Key × V)} {k : Key} (h : ∀ p ∈ kvs, p.1 ≠ k) : valV kvs k = none := by
  unfold valV
  rw [List.find?_eq_none.mpr fun p hp => by simpa using h p hp]
  rfl
theorem zk_new {ns ws : List Str} (nd : ns.Nodup) (h : ns.length = ws.length) {i : Nat} {n : Str} (hn : ns[i]? = some n) : valV ((zk ns ws).take i) (.inr n) = none := by
  refine valV_none fun p hp e => ?_
  obtain ⟨j, hj, ej⟩ := List.getElem_of_mem hp
  rw [List.length_take] at hj
  have l := zk_len h
  obtain ⟨hi, ei⟩ := List.getElem?_eq_some_iff.mp hn
  have g := zk_at (ns := ns) (ws := ws) (i := j) (List.getElem?_eq_getElem (by omega)) (List.getElem?_eq_getElem (by omega))
  rw [List.getElem_take] at ej
  rw [List.getElem?_eq_getElem (by omega), ej] at g
  have pk := congrArg Prod.fst (Option.some.inj g)
  rw [e] at pk
  have pw := List.pairwise_iff_getElem.mp (List.nodup_iff_pairwise_ne.mp nd)
  exact pw j i (by omega) hi (by omega) ((Sum.inr.inj pk).symm.trans ei.symm)
theorem RenD.perm {kvs : List (Key × V)} {zs ys : List Str} {g : Str → Str} (h : RenD kvs zs g) (p : ys.Perm zs) : RenD kvs ys g := ⟨by rw [p.length_eq]; exact h.1, fun z hz => h.2.1 z (p.mem_iff.mp hz), h.2.2⟩
theorem zk_ren {ns ws zs : List Str} (h : ns.length = ws.length) (p : zs.Perm ns) (nd : ws.Nodup) (nm : ∀ w ∈ ws, isNm w = true) : RenD (zk ns ws) zs (gz ns ws) :=
  ⟨by rw [zk_len h, p.length_eq], fun z hz => zk_get h (p.mem_iff.mp hz), ws, zk_vals h, nd, nm⟩
end My
namespace My
open PySem PySem.Spec PyProof.Rows L2
local macro_rules | `(tactic| walk_at "side") => `(tactic| first | assumption | decide | exact Or.inl ⟨by decide, by decide⟩ | exact Or.inr ⟨by decide, by decide⟩ | exact ⟨by decide, by decide, by decide⟩ | omega | (unfold CMulW; decide +kernel) | (dsimp only; first | assumption | omega | decide +kernel) | exact len_ok (Nat.le_of_ble_eq_true rfl) | fail "side")
local macro_rules | `(tactic| walk_at "rd") => `(tactic| first
  | refine ⟨_, _, _, _, rfl, rfl, SqL.of upd_same, atI_nat (j := 0) rfl, ?_⟩ | refine ⟨_, _, _, _, rfl, rfl, SqL.of upd_same, atI_nat (j := 1) rfl, ?_⟩ | refine ⟨_, _, _, _, rfl, rfl, SqL.of upd_same, atI_nat (j := 2) rfl, ?_⟩
  | refine ⟨_, _, _, _, rfl, rfl, upd_same, rfl, ?_⟩
  | refine ⟨_, _, rfl, rfl, ?_⟩ | refine ⟨_, rfl, ?_⟩ | refine ⟨_, _, rfl, ?_⟩ | refine Or.inl ⟨_, rfl, ?_⟩ | refine Or.inr ⟨_, rfl, ?_⟩ | refine ⟨(by walk_at "side"), ?_⟩ | fail "rd")

abbrev s_lwr : Stmt := top 49
theorem sc_lwr : FnScope ["_law_dice_here", "_law_upper", "_law_lower", "_law_order", "_law_walk", "_law_names", "_law_name", "_law_other", "_law_here", "_law_at", "_law_kind", "_law_goal", "_law_last"] ["_law_dice_here"] (defScope s_lwr) := ⟨rfl, rfl, rfl, by decide +kernel, rfl, by decide +kernel, by decide +kernel⟩
section
variable {X : Cx} {k : Nat} {C : Addr} {x : Str} {ps : List Str} {sp : Sp} {p pos apos : Pos} {e o : Expr} {es : List Expr} {t : TA} {to : TE}
theorem methA {pl : Sem Bool} (F : MethAt X.prog X.w X.K X.mg X.base k C x ps sp) (c : Cls X.K C) (hr : Room k X.A) (he : PE X o to) (ha : PA X (e :: es) t)
    (hst : starEach (e :: es) X.env = (false, eval e X.env) :: starEach es X.env := by rfl) (hpl : (backTo pos (starEach es X.env)).any (·.1) = false := by rfl)
    (ht : eval (.Call (.Attribute o x apos) (e :: es) [] pos) X.env = (do
      let ov ← eval o X.env
      standAt apos.atName
      let (f, first) ← holding [ov] (getMethod ov x pl)
      callWith pos f first (backTo pos (starEach (e :: es) X.env)) (backToKw pos (keywordEach [] X.env))) := by rfl) : PE X (.Call (.Attribute o x apos) (e :: es) [] pos) (tMeth C x sp [] E0 to t) := by
  obtain ⟨f, fd, M, hb, G⟩ := F.ex
  exact pe_meth he c M G hr hb .nil pass0 ha hst hpl ht
end
theorem mk_useR {K : PySem.W.Frag} {C a b : Addr} {zs ys : List Str} {H : Hp} {R : Addr → Hp → Prop} {E : XK} (ha : SqT K H a (zs.map V.str)) (hb : SqT K H b (ys.map V.str)) (ro : RowsOk zs ys) (k : ∀ x H', Ext H H' → OrdAt K C H' x zs ys → R x H') :
    ∀ x dx, H x = none → H dx = none → dx ≠ x → spOInit K C (.ref x :: ([.ref a, .ref b] ++ [])) (upd (upd H dx (.own x)) x (.ins C dx [])) (fun v H2 => v = .non ∧ R x H2) E := fun x dx hx hd ne => by
  have e1 : Ext H (upd (upd H dx (.own x)) x (.ins C dx [])) := ext_mut (ext_new (ext_refl H) hd) hx
  exact ⟨x, dx, a, b, zs, ys, rfl, upd_same, ha.ext e1, hb.ext e1, ro, fun H' kp oa => ⟨rfl, k x H' (fun c o q => kp c o (e1 c o q) (ne_of_none q hx)) oa.at⟩⟩
def spLRight : Sp := fun vs H Q _ => ∃ a : Addr, vs = [.ref a] ∧ H a = some (DiceO a) ∧ ∀ H', Ext H H' → Q (.bl true) H'
section
variable {P : Program} {w : World} {K : PySem.W.Frag} {mg : Str → Option Value} {base : Heap} {C : Addr}
theorem ok_lwr (T : Bn mg) (OT : OrdT K mg C) (D : DefAt K mg "_law_walk_right" s_lwr) (F_init : OInitAt P w K mg base 5 C (spOInit K C)) (F__law_roll : FnAt P w K mg base 1 "_law_roll" ["_law_dice_here", "_law_total"] spRoll)
    (F__law_rows_drawn : FnAt P w K mg base 4 "_law_rows_drawn" ["_law_dice_here", "_law_times"] spLRows) (F__law_walk_drawn : FnAt P w K mg base 3 "_law_walk_drawn" ["_law_dice_here", "_law_times"] (spLKinds K))
    (F__law_names_drawn : FnAt P w K mg base 3 "_law_names_drawn" ["_law_dice_here", "_law_times"] spLNames)
    (F__law_places_of : FnAt P w K mg base 1 "_law_places_of" ["_law_upper", "_law_lower"] (spLPof K)) (F__law_turns_back : FnAt P w K mg base 4 "_law_turns_back" ["_law_places", "_law_kind"] (spLBack K))
    (F__law_moved_places : FnAt P w K mg base 1 "_law_moved_places" ["_law_places", "_law_kind"] (spLMov K)) (F__law_by_rule : FnAt P w K mg base 1 "_law_by_rule" ["_law_places", "_law_kind"] (spLRule K))
    (F_moved : FnAt P w K mg base 3 "moved" ["places", "kind"] (spLedP K)) (F_order_behind : FnAt P w K mg base 7 "order_behind" ["order", "course"] (spOBeh K C))
    (P_places : PropAt P w K mg base 1 C "places" (spGetT K C fun zs ys => (plc zs ys).map V.int)) (P_is_whole : PropAt P w K mg base 2 C "is_whole" (spWhole K C)) (M_renamed : MethAt P w K mg base 7 C "renamed" ["self", "names"] (spORen K C)) (S_eq : SpAt P w K mg base 1 C "__eq__" ["self", "other"] (spOEq K C)) :
    FnAt P w K mg base 8 "_law_walk_right" ["_law_dice_here"] spLRight := by
  refine fnAt D sc_lwr (fun _ _ _ _ _ _ us hl => match us, hl with | [_], _ => rfl) (fun vs H Q E h => ?_) fun f cdv A outer s H vs Q E hr h => ?_
  · obtain ⟨a, rfl, _⟩ := h
    rfl
  obtain ⟨a, rfl, ha, k⟩ := h
  refine ⟨_, (pss_cons (ps_asg (callA F__law_rows_drawn (hr.mono (by decide)) rfl (pa_cons (pv 0) (pa_cons (pe_op op_add pe_int (callA F__law_roll (hr.mono (by decide)) rfl (pa_cons (pv 0) (pa_cons pe_int pa_nil)))) pa_nil))) (pg_tup (by rfl) (pgs_cons (pg_name (i := 1) sc_lwr.nd rfl (Or.inl rfl)) (pgs_cons (pg_name (i := 2) sc_lwr.nd rfl (Or.inl rfl)) pgs_nil))))
    (pss_cons (ps_par (i := 3) (j := 4) rfl sc_lwr.nd rfl rfl (by decide) rfl rfl (pa_cons (mkO F_init OT (hr.mono (by decide)) (pa_cons (pe_callTy call_tuple_of (by rfl) T.b_tuple (by decide +kernel) (pa_cons (pv 1) pa_nil)) (pa_cons (pe_callTy call_tuple_of (by rfl) T.b_tuple (by decide +kernel) (pa_cons (pv 2) pa_nil)) pa_nil))) (pa_cons (callA F__law_walk_drawn (hr.mono (by decide)) rfl (pa_cons (pv 0) (pa_cons (callA F__law_roll (hr.mono (by decide)) rfl (pa_cons (pv 0) (pa_cons pe_int pa_nil))) pa_nil))) pa_nil)) (by rfl))
    (pss_cons (ps_set (i := 5) sc_lwr.nd rfl (Or.inl rfl) pe_dnewK)
    (pss_cons (ps_for PassesOwn.never rfl (pi_zip (by rfl) T.b_zip (pa_cons (pe_callB cr_sortedB (by rfl) T.b_sorted (by decide +kernel) (pa_cons (pv 1) pa_nil)) (pa_cons (callA F__law_names_drawn (hr.mono (by decide)) rfl (pa_cons (pv 0) (pa_cons (pe_callB call_len_seq (by rfl) T.b_len (by decide +kernel) (pa_cons (pv 1) pa_nil)) pa_nil))) pa_nil))) (pg_tup rfl (pgs_cons (pg_name (i := 6) sc_lwr.nd rfl (Or.inl rfl)) (pgs_cons (pg_name (i := 7) sc_lwr.nd rfl (Or.inl rfl)) pgs_nil)))
      (pss_one (ps_asg (pv 7) (pg_sub (pv 5) (pv 6) (set_dict (hu1 hr))))))
    (pss_cons (ps_set (i := 8) sc_lwr.nd rfl (Or.inl rfl) (callA F__law_places_of (hr.mono (by decide)) rfl (pa_cons (pv 1) (pa_cons (pv 2) pa_nil))))
    (pss_cons (ps_if (PW.pt (pw_or (pt_cmpR (op_neD (hu64 hr)) (propA P_places OT.cl (hr.mono (by decide)) (pv 3)) (pv 8) (nomark _)) (pw_or (pt_not (pt_val (callA F__law_turns_back (hr.mono (by decide)) rfl (pa_cons (pv 8) (pa_cons pe_str pa_nil))))) (pw_or1 (pt_not (pt_val (callA F__law_turns_back (hr.mono (by decide)) rfl (pa_cons (pv 8) (pa_cons pe_str pa_nil))))))))) (pss_one (ps_ret pe_bl)) pss_nil)
    (pss_cons (ps_for PassesOwn.never rfl (pi_enumT (by rfl) T.b_enumerate (pa_cons (pv 4) pa_nil)) (pg_tup rfl (pgs_cons (pg_name (i := 9) sc_lwr.nd rfl (Or.inl rfl)) (pgs_cons (pg_name (i := 10) sc_lwr.nd rfl (Or.inl rfl)) pgs_nil)))
      (pss_cons (ps_set (i := 11) sc_lwr.nd rfl (Or.inl rfl) (callA F__law_moved_places (hr.mono (by decide)) rfl (pa_cons (pv 8) (pa_cons (pv 10) pa_nil))))
    (pss_cons (ps_if (PW.pt (pw_or (pt_cmpR (op_neD (hu64 hr)) (callA F_moved (hr.mono (by decide)) rfl (pa_cons (pv 8) (pa_cons (pv 10) pa_nil))) (pv 11) (nomark _)) (pw_or1 (pt_cmpR (op_neD (hu64 hr)) (callA F__law_by_rule (hr.mono (by decide)) rfl (pa_cons (pv 8) (pa_cons (pv 10) pa_nil))) (pv 11) (nomark _))))) (pss_one (ps_ret pe_bl)) pss_nil)
    (pss_cons (ps_set (i := 8) sc_lwr.nd rfl (Or.inl rfl) (pv 11))
    (pss_one (ps_if (pt_cmpR (op_neD (hu64 hr)) (propA P_places OT.cl (hr.mono (by decide)) (callA F_order_behind (hr.mono (by decide)) rfl (pa_cons (pv 3) (pa_cons (pe_slice sl_tupA (pv 4) po_none (po_some (pe_op op_add (pv 9) pe_int))) pa_nil)))) (pv 8) (nomark _)) (pss_one (ps_ret pe_bl)) pss_nil))))))
    (pss_cons (ps_set (i := 12) sc_lwr.nd rfl (Or.inl rfl) (callA F_order_behind (hr.mono (by decide)) rfl (pa_cons (pv 3) (pa_cons (pv 4) pa_nil))))
    (pss_one (ps_ret (pe_and (propA P_is_whole OT.cl (hr.mono (by decide)) (pv 12)) (pe_one (pe_cmpR (eqA S_eq (hr.mono (by decide))) (callA F_order_behind (hr.mono (by decide)) rfl (pa_cons (methA M_renamed OT.cl (hr.mono (by decide)) (pv 3) (pa_cons (pv 5) pa_nil)) (pa_cons (pv 4) pa_nil))) (methA M_renamed OT.cl (hr.mono (by decide)) (pv 12) (pa_cons (pv 5) pa_nil)) (nomark _)))))))))))))), ?_⟩
  refine ⟨_, rfl, _, rfl, a, 7, rfl, ha, by decide, by unfold Sz; decide, fun r r0 r1 => ?_⟩
  obtain ⟨r', rfl⟩ : ∃ r' : Nat, r = (r' : Int) := ⟨r.toNat, by omega⟩
  refine ⟨_, _, rfl, rfl, a, r' + 2, ?_, ha, by omega, by omega, fun t U L us ls H1 e1 ht hU hL wl lu => ?_⟩
  · have ea : 2 + (r' : Int) = ((r' + 2 : Nat) : Int) := by omega
    show [V.ref a, .int (2 + (r' : Int))] = _
    rw [ea]
  refine ⟨t, _, rfl, SqT.of ht, rfl, _, _, rfl, _, _, rfl, rfl, ?_⟩
  refine ⟨_, rfl, U, _, rfl, .inl ⟨SqL.of hU, fun tu htu => ?_⟩⟩
  have x1 := ext_new (o := HO.tup (us.map V.str)) (ext_refl H1) htu
  refine ⟨_, rfl, L, _, rfl, .inl ⟨SqL.of (x1 _ _ hL), fun tl htl => ?_⟩⟩
  have x2 := ext_new (o := HO.tup (ls.map V.str)) (ext_refl _) htl
  dsimp only [tNil]
  refine mk_useR (K := K) (C := C) (SqT.of (x2 _ _ upd_same)) (SqT.of upd_same) wl.ro fun o H2 e2 oa => ?_
  have e02 := ((e1.trans x1).trans x2).trans e2
  have e12 := (x1.trans x2).trans e2
  refine ⟨_, rfl, _, rfl, a, 13, rfl, e02 _ _ ha, by decide, by unfold Sz; decide, fun r2 s0 s1 => ?_⟩
  obtain ⟨r2', rfl⟩ : ∃ r2' : Nat, r2 = (r2' : Int) := ⟨r2.toNat, by omega⟩
  refine ⟨a, r2', rfl, e02 _ _ ha, by omega, fun c H3 ks e3 hc lk => ⟨_, _, rfl, ?_⟩⟩
  have e03 := e02.trans e3
  have e13 := e12.trans e3
  refine fun d hd => ?_
  have xd := ext_new (o := HO.dK []) (ext_refl H3) hd
  have lm : (us.map V.str).length = us.length := List.length_map ..
  refine ⟨_, rfl, U, us, rfl, .inl (SqL.of (xd _ _ (e13 _ _ hU))), by omega, fun ns sp pm so hsp => ?_⟩
  have x4 := ext_new (o := HO.lst (ns.map V.str)) (ext_refl _) hsp
  refine ⟨_, rfl, _, rfl, U, _, rfl, .inl (SqL.of (x4 _ _ (xd _ _ (e13 _ _ hU)))), a, (us.map V.str).length, rfl, x4 _ _ (xd _ _ (e03 _ _ ha)), by have := wl.two; omega, by omega, fun sq H5 ws e5 hsq lw nd nm => ?_⟩
  rw [lm] at lw
  have lns : ns.length = us.length := pm.length_eq
  have lnw : ns.length = ws.length := by omega
  have ndn : ns.Nodup := pm.nodup_iff.mpr wl.ro.nd
  have hd5 : H5 d = some (.dK []) := e5 _ _ (x4 _ _ upd_same)
  have hsp5 : H5 sp = some (.lst (ns.map V.str)) := e5 _ _ upd_same
  have e35 : Ext H3 H5 := (xd.trans x4).trans e5
  have sd : sp ≠ d := fun e => by rw [e] at hsp; rw [upd_same] at hsp; cases hsp
  have qd : ∀ (q : Addr) (o' : HO), H3 q = some o' → q ≠ d := fun q o' h => ne_of_none h hd
  have oa5 := (oa.ext e3).ext e35
  have sqd : sq ≠ d := fun e => by rw [e, hd5] at hsq; cases hsq
  have wk : Walk (Itz K sp sq) us.length (fun H => SqL K H sp (ns.map V.str) ∧ SqL K H sq (ws.map V.str)) (YPair (fun i => (ns.map V.str)[i]?) (fun i => (ws.map V.str)[i]?)) := walk_zip (by rw [List.length_map, List.length_map]; omega)
  refine ⟨sp, sq, _, _, rfl, SqL.of hsp5, SqL.of hsq, for_it wk (fun i σ' H' => ∃ x y : Option V, σ' = [some (.ref a), some (.ref U), some (.ref L), some (.ref o), some (.ref c), some (.ref d), x, y, none, none, none, none, none] ∧ Ext H3 H' ∧ H' sp = some (.lst (ns.map V.str)) ∧ H' sq = some (.lst (ws.map V.str)) ∧ H' d = some (.dK ((zk ns ws).take i)))
    ⟨none, none, rfl, e35, hsp5, hsq, hd5⟩ (fun i σ' H' _ p => ?_) (fun i x σ' H6 H7 hi p y => ?_) fun σ' H6 p => ?_⟩
  · obtain ⟨_, _, _, _, h1, h2, _⟩ := p
    exact ⟨SqL.of h1, SqL.of h2⟩
  · obtain ⟨T, u, v, rfl, hT, rfl, hu, hv⟩ := y
    obtain ⟨y1, y2, rfl, e6, p1, p2, p3⟩ := p
    have gn : ns[i]? = some (ns[i]'(by omega)) := List.getElem?_eq_getElem _
    have gw : ws[i]? = some (ws[i]'(by omega)) := List.getElem?_eq_getElem _
    replace hu : (ns.map V.str)[i]? = some u := hu
    replace hv : (ws.map V.str)[i]? = some v := hv
    rw [List.getElem?_map, gn] at hu
    rw [List.getElem?_map, gw] at hv
    cases hu
    cases hv
    have xT := ext_new (o := HO.tup [V.str (ns[i]'(by omega)), .str (ws[i]'(by omega))]) (ext_refl H6) hT
    refine ⟨T, _, rfl, SqT.of upd_same, rfl, _, _, rfl, _, _, rfl, rfl, ?_⟩
    refine ⟨_, rfl, _, rfl, _, rfl, d, _, rfl, DPut.k (k := .inr (ns[i]'(by omega))) (xT _ _ p3) (Nat.lt_of_le_of_lt (show _ ≤ 1000 by rw [List.length_take]; omega) (by decide)), ?_⟩
    refine ⟨_, _, rfl, ext_mut (e6.trans xT) hd, ?_, ?_, ?_⟩
    · rw [upd_ne sd]
      exact xT _ _ p1
    · rw [upd_ne sqd]
      exact xT _ _ p2
    · rw [upd_same, putK_new _ (zk_new ndn lnw gn), take_next (zk_at gn gw)]
  obtain ⟨y1, y2, rfl, e6, _, _, hd6⟩ := p
  rw [List.take_of_length_le (by rw [zk_len lnw]; omega)] at hd6
  have e06 := e03.trans e6
  have e16 := e13.trans e6
  have oa6 := (oa.ext e3).ext e6
  have hc6 := hc.ext e6
  refine ⟨_, rfl, _, rfl, U, L, us, ls, rfl, SqL.of (e16 _ _ hU), SqL.of (e16 _ _ hL), wl.ro, fun q H7 e7 hq => ?_⟩
  have oa7 := oa6.ext e7
  obtain ⟨dx, _, _, _, eo7, _⟩ := id oa7
  refine ⟨_, rfl, o, dx, _, rfl, eo7, o, us, ls, rfl, oa7, fun c1 hc1 => ⟨_, rfl, ?_⟩⟩
  refine neD_use 1 (by decide) (.tup hc1 (dp_ints _)) (.tup hq.1 (dp_ints _)) (pl_ints 0 _) (pl_ints 0 _) fun b hb => ?_
  rw [hb.mpr rfl]
  refine ⟨_, rfl, iteF ?_⟩
  refine ⟨_, rfl, q, us, ls, true, rfl, hq, wl, fun H8 e8 => ⟨_, rfl, iteF ?_⟩⟩
  refine ⟨_, rfl, q, us, ls, false, rfl, hq.ext e8, wl, fun H9 e9 => ⟨_, rfl, iteF ?_⟩⟩
  have e69 := (e7.trans e8).trans e9
  have hc9 := hc6.ext e69
  have lkv : (kVs ks).length = ks.length := by unfold kVs; rw [List.length_map]
  have wk2 : Walk (Iet K c) ks.length (fun H => SqT K H c (kVs ks)) (YPair (fun i => some (.int (i : Nat))) (fun i => (kVs ks)[i]?)) := by
    have z := walk_enumT (K := K) (a := c) (xs := kVs ks)
    rwa [lkv] at z
  refine ⟨_, rfl, c, _, rfl, hc9, for_it wk2 (fun i σ' H' => ∃ (q : Addr) (x y z : Option V), σ' = [some (.ref a), some (.ref U), some (.ref L), some (.ref o), some (.ref c), some (.ref d), y1, y2, some (.ref q), x, y, z, none] ∧ Ext H6 H' ∧ PtAt K H' q (leds (ks.take i) (us, ls)).1 (leds (ks.take i) (us, ls)).2)
    ⟨q, none, none, none, rfl, e69, (hq.ext e8).ext e9⟩ (fun i σ' H' _ p => ?_) (fun i x σ' H10 H11 hi p y => ?_) fun σ' H10 p => ?_⟩
  · obtain ⟨_, _, _, _, _, e, _⟩ := p
    exact hc6.ext e
  · obtain ⟨T, u, v, rfl, hT, rfl, hu, hv⟩ := y
    obtain ⟨q, z1, z2, z3, rfl, e10, hq⟩ := p
    cases hu
    have gk : ks[i]? = some ks[i] := List.getElem?_eq_getElem hi
    replace hv : (kVs ks)[i]? = some v := hv
    unfold kVs at hv
    rw [List.getElem?_map, gk] at hv
    cases hv
    have xT := ext_new (o := HO.tup [V.int (i : Nat), .str (kS ks[i])]) (ext_refl H10) hT
    refine ⟨T, _, rfl, SqT.of upd_same, rfl, _, _, rfl, _, _, rfl, rfl, ?_⟩
    have hqT := hq.ext xT
    have w1 := Whl.leds (ks := ks.take i) (r := (us, ls)) wl
    have er : led1 ks[i] ((leds (ks.take i) (us, ls)).1, (leds (ks.take i) (us, ls)).2) = leds (ks.take (i + 1)) (us, ls) := by rw [take_next gk, leds_more]
    refine ⟨_, rfl, _, rfl, q, _, _, ks[i], rfl, hqT, w1, fun q2 H12 e12 hq2 => ?_⟩
    refine ⟨_, rfl, _, rfl, q, _, _, ks[i], rfl, hqT.ext e12, w1, fun q3 H13 e13 hq3 => ⟨_, rfl, ?_⟩⟩
    refine neD_use 1 (by decide) (.tup hq3.1 (dp_ints _)) (.tup (hq2.ext e13).1 (dp_ints _)) (pl_ints 0 _) (pl_ints 0 _) fun b hb => ?_
    rw [hb.mpr rfl]
    refine ⟨_, rfl, iteF ?_⟩
    refine ⟨_, rfl, _, rfl, q, _, _, ks[i], rfl, (hqT.ext e12).ext e13, w1, fun q4 H14 e14 hq4 => ⟨_, rfl, ?_⟩⟩
    have hq24 := (hq2.ext e13).ext e14
    refine neD_use 1 (by decide) (.tup hq4 (dp_ints _)) (.tup hq24.1 (dp_ints _)) (pl_ints 0 _) (pl_ints 0 _) fun b hb => ?_
    rw [hb.mpr rfl]
    refine ⟨_, rfl, iteF ?_⟩
    refine ⟨_, rfl, ?_⟩
    have eT : Ext H6 H14 := (((e10.trans xT).trans e12).trans e13).trans e14
    refine ⟨_, rfl, _, rfl, _, rfl, _, _, rfl, rfl, _, rfl, ?_⟩
    dsimp only [tNoPart]
    refine slA_use (hc6.ext eT) fun p15 H15 e15 h15 => ?_
    have ei : ((i : Nat) : Int) + 1 = ((i + 1 : Nat) : Int) := by omega
    have ck : cutV (kVs ks) none (some (((i : Nat) : Int) + 1)) = kVs (ks.take (i + 1)) := by
      rw [ei, cut_to (by omega)]
      unfold kVs
      rw [List.map_take]
    rw [ck] at h15
    refine ⟨o, p15, us, ls, ks.take (i + 1), rfl, oa6.ext (eT.trans e15), h15, .inl wl, by rw [List.length_take]; omega, fun y H16 e16 oay => ?_⟩
    obtain ⟨dy, _, _, _, eoy, _⟩ := id oay
    refine ⟨y, dy, _, rfl, eoy, y, _, _, rfl, oay, fun c2 hc2 => ⟨_, rfl, ?_⟩⟩
    rw [er] at hq24
    refine neD_use 1 (by decide) (.tup hc2 (dp_ints _)) (.tup ((hq24.ext e15).ext e16).1 (dp_ints _)) (pl_ints 0 _) (pl_ints 0 _) fun b hb => ?_
    rw [hb.mpr rfl]
    refine ⟨_, rfl, iteF ?_⟩
    exact ⟨q2, _, _, _, rfl, (eT.trans e15).trans e16, (hq24.ext e15).ext e16⟩
  obtain ⟨q, z1, z2, z3, rfl, e10, hq⟩ := p
  refine ⟨_, rfl, _, rfl, o, c, us, ls, ks, rfl, oa6.ext e10, hc6.ext e10, .inl wl, by omega, fun y H12 e12 oay => ?_⟩
  have wy : Whl (leds ks (us, ls)).1 (leds ks (us, ls)).2 := Whl.leds (r := (us, ls)) wl
  have py : (leds ks (us, ls)).1.Perm us := leds_perm (r := (us, ls)) wl
  obtain ⟨dy, _, _, _, eoy, _⟩ := id oay
  refine ⟨_, rfl, y, dy, _, rfl, eoy, y, _, _, rfl, oay, fun H13 e13 => ?_⟩
  rw [wy.whole]
  refine ⟨_, rfl, iteT ?_⟩
  have e613 := (e10.trans e12).trans e13
  have oa13 := oa6.ext e613
  have hd13 := e613 _ _ hd6
  have gI : InjOn (gz ns ws) us := (gz_inj lnw nd).sub fun x hx => pm.mem_iff.mpr hx
  have gN : ∀ z ∈ us, isNm (gz ns ws z) = true := fun z hz => nm _ (gz_mem lnw (pm.mem_iff.mpr hz))
  have rn : RenD (zk ns ws) us (gz ns ws) := zk_ren lnw pm.symm nd nm
  obtain ⟨dx3, _, _, _, eo3, _⟩ := id oa13
  refine ⟨_, rfl, o, dx3, _, rfl, eo3, rfl, _, rfl, o, d, us, ls, zk ns ws, gz ns ws, rfl, oa13, hd13, rn, rows_map wl.ro gI gN, fun n1 H14 e14 on1 => ?_⟩
  refine ⟨_, rfl, n1, c, _, _, ks, rfl, on1, (hc6.ext e613).ext e14, .inl (wl.map gI gN), by omega, fun n2 H15 e15 on2 => ?_⟩
  have oay15 := ((oay.ext e13).ext e14).ext e15
  obtain ⟨dy2, _, _, _, eoy2, _⟩ := id oay15
  have gI2 : InjOn (gz ns ws) (leds ks (us, ls)).1 := gI.sub fun x hx => py.mem_iff.mp hx
  refine ⟨_, rfl, y, dy2, _, rfl, eoy2, rfl, _, rfl, y, d, _, _, zk ns ws, gz ns ws, rfl, oay15, e15 _ _ (e14 _ _ hd13), rn.perm py, rows_map wy.ro gI2 (fun z hz => gN z (py.mem_iff.mp hz)), fun n3 H16 e16 on3 => ?_⟩
  have on2' := on2.ext e16
  obtain ⟨d2, _, _, _, q2, _⟩ := id on2'
  obtain ⟨d3, _, _, _, q3, _⟩ := id on3
  refine ⟨n2, d2, _, n3, d3, _, rfl, q2, rfl, q3, n2, .ref n3, _, _, rfl, on2', .inl ⟨n3, _, _, rfl, on3, ?_⟩⟩
  rw [leds_map wl gI, decide_eq_true rfl, decide_eq_true rfl]
  exact k H16 (((e06.trans e613).trans e14).trans (e15.trans e16))
end
end My
namespace My
open PySem PySem.Spec PyProof.Rows L2
local macro_rules | `(tactic| walk_at "side") => `(tactic| first | assumption | decide | exact Or.inl ⟨by decide, by decide⟩ | exact Or.inr ⟨by decide, by decide⟩ | exact ⟨by decide, by decide, by decide⟩ | omega | (unfold CMulW; decide +kernel) | (dsimp only; first | assumption | omega | decide +kernel) | exact len_ok (Nat.le_of_ble_eq_true rfl) | fail "side")
local macro_rules | `(tactic| walk_at "rd") => `(tactic| first
  | refine ⟨_, _, _, _, rfl, rfl, SqL.of upd_same, atI_nat (j := 0) rfl, ?_⟩ | refine ⟨_, _, _, _, rfl, rfl, SqL.of upd_same, atI_nat (j := 1) rfl, ?_⟩ | refine ⟨_, _, _, _, rfl, rfl, SqL.of upd_same, atI_nat (j := 2) rfl, ?_⟩
  | refine ⟨_, _, _, _, rfl, rfl, upd_same, rfl, ?_⟩
  | refine ⟨_, _, rfl, rfl, ?_⟩ | refine ⟨_, rfl, ?_⟩ | refine ⟨_, _, rfl, ?_⟩ | refine Or.inl ⟨_, rfl, ?_⟩ | refine Or.inr ⟨_, rfl, ?_⟩ | refine ⟨(by walk_at "side"), ?_⟩ | fail "rd")

abbrev s_law : Stmt := top 50
theorem sc_law : FnScope ["_law_script", "_law_spot", "_law_dice_here"] ["_law_script"] (defScope s_law) := ⟨rfl, rfl, rfl, by decide +kernel, rfl, by decide +kernel, by decide +kernel⟩
def uncC (us ls : List Str) : Bool := (List.range us.length).all fun k => decide (k = 0) || (us.take k).any fun x => !decide (x ∈ ls.take k)
theorem whl_of {us ls : List Str} (ro : RowsOk us ls) (two : 2 ≤ us.length) (h : uncC us ls = true) : Whl us ls := by
  refine ⟨ro, two, fun k k0 kn q => ?_⟩
  unfold uncC at h
  have z := List.all_eq_true.mp h k (List.mem_range.mpr kn)
  rw [decide_eq_false (by omega), Bool.false_or, List.any_eq_true] at z
  obtain ⟨x, hx, hn⟩ := z
  rw [decide_eq_true ((q x).mp hx)] at hn
  cases hn
def abc : List Str := ["a", "b", "c"]
def cba : List Str := ["c", "b", "a"]
def ab2 : List Str := ["a", "b"]
def ba2 : List Str := ["b", "a"]
theorem ro3 : RowsOk abc cba := ⟨by decide +kernel, by decide +kernel, by decide +kernel, by decide, by decide⟩
theorem ro2 : RowsOk ab2 ba2 := ⟨by decide +kernel, by decide +kernel, by decide +kernel, by decide, by decide⟩
theorem wl3 : Whl abc cba := whl_of ro3 (by decide) (by decide +kernel)
theorem wl2 : Whl ab2 ba2 := whl_of ro2 (by decide) (by decide +kernel)
theorem pl3 : (plc abc cba).map V.int = [.int 2, .int 1, .int 0] := by decide +kernel
theorem pl2 : (plc ab2 ba2).map V.int = [.int 1, .int 0] := by decide +kernel
theorem pu3 : (plc (led1 true (abc, cba)).1 (led1 true (abc, cba)).2).map V.int = [.int 1, .int 2, .int 0] := by decide +kernel
theorem pd3 : (plc (led1 false (abc, cba)).1 (led1 false (abc, cba)).2).map V.int = [.int 2, .int 0, .int 1] := by decide +kernel
theorem pu2 : (plc (led1 true (ab2, ba2)).1 (led1 true (ab2, ba2)).2).map V.int = [.int 1, .int 0] := by decide +kernel
def spLaw (K : PySem.W.Frag) : Sp := fun vs H Q _ => ∃ (a : Addr) (ns : List Int), vs = [.ref a] ∧ SqL K H a (ns.map V.int) ∧ ns.length ≤ 63 ∧ ∀ H', Q (.bl true) H'
section
variable {P : Program} {w : World} {K : PySem.W.Frag} {mg : Str → Option Value} {base : Heap} {C : Addr}
theorem ok_law {fa : Addr} {fd : FuncData} (T : Bn mg) (D : Fun K "law" "law" s_law fa fd) (F__law_dice : FnAt P w K mg base 1 "_law_dice" ["_law_script", "_law_spot"] (spDice K)) (F__law_walk_right : FnAt P w K mg base 8 "_law_walk_right" ["_law_dice_here"] spLRight)
    (F_moved : FnAt P w K mg base 3 "moved" ["places", "kind"] (spLedP K)) : FnOk P w K mg base CX0 10 fa fd ["_law_script"] (spLaw K) := by
  refine D.ok sc_law (fun vs H Q E h => ?_) fun cdv A outer s H vs Q E hr h => ?_
  · obtain ⟨a, ns, rfl, _⟩ := h
    rfl
  obtain ⟨a, ns, rfl, hS, hl, k⟩ := h
  refine ⟨_, (pss_cons (ps_for PassesOwn.never rfl (pi_range1 (by rfl) T.b_range (pa_cons (pe_callB (call_max2 rfl) (by rfl) T.b_max (by decide +kernel) (pa_cons pe_int (pa_cons (pe_callB (call_min2 rfl) (by rfl) T.b_min (by decide +kernel) (pa_cons pe_int (pa_cons (pe_callB call_len_seq (by rfl) T.b_len (by decide +kernel) (pa_cons (pv 0) pa_nil)) pa_nil))) pa_nil))) pa_nil)) (pg_name (i := 1) sc_law.nd rfl (Or.inl rfl))
      (pss_cons (ps_set (i := 2) sc_law.nd rfl (Or.inl rfl) (callA F__law_dice (hr.mono (by decide)) rfl (pa_cons (pv 0) (pa_cons (pv 1) pa_nil))))
    (pss_one (ps_if (PW.pt (pw_or (pt_not (pt_val (callA F__law_walk_right (hr.mono (by decide)) rfl (pa_cons (pv 2) pa_nil)))) (pw_or1 (pt_not (pt_val (callA F__law_walk_right (hr.mono (by decide)) rfl (pa_cons (pv 2) pa_nil))))))) (pss_one (ps_ret pe_bl)) pss_nil))))
    (pss_one (ps_ret (pe_cmpR (op_eqD (hu64 hr)) (pe_lst (pa_cons (callA F_moved (hr.mono (by decide)) rfl (pa_cons (pe_tupF (pa_cons pe_int (pa_cons pe_int (pa_cons pe_int pa_nil)))) (pa_cons pe_str pa_nil))) (pa_cons (callA F_moved (hr.mono (by decide)) rfl (pa_cons (pe_tupF (pa_cons pe_int (pa_cons pe_int (pa_cons pe_int pa_nil)))) (pa_cons pe_str pa_nil))) (pa_cons (callA F_moved (hr.mono (by decide)) rfl (pa_cons (pe_tupF (pa_cons pe_int (pa_cons pe_int pa_nil))) (pa_cons pe_str pa_nil))) pa_nil)))) (pe_lst (pa_cons (pe_tupF (pa_cons pe_int (pa_cons pe_int (pa_cons pe_int pa_nil)))) (pa_cons (pe_tupF (pa_cons pe_int (pa_cons pe_int (pa_cons pe_int pa_nil)))) (pa_cons (pe_tupF (pa_cons pe_int (pa_cons pe_int pa_nil))) pa_nil)))) (nomark _))))), ?_⟩
  have hb : ∀ L : Int, 0 ≤ L → 1 ≤ (if (if L < 2 then L else 2) > 1 then (if L < 2 then L else 2) else 1) ∧ (if (if L < 2 then L else 2) > 1 then (if L < 2 then L else 2) else 1) ≤ 2 := by
    intro L h
    split <;> split <;> omega
  have hb := hb (((ns.map V.int).length : Nat) : Int) (by omega)
  refine ⟨_, rfl, a, _, rfl, .inl hS, _, _, rfl, _, _, rfl, _, rfl, by omega, by omega, ?_⟩
  refine for_range (lo := 0) (fun i σ H' => Ext H H' ∧ ∃ x y, σ = [some (.ref a), x, y]) ⟨ext_refl H, _, _, rfl⟩ ?_ ?_
  · rintro i σ H' hi ⟨e, x, y, rfl⟩
    refine ⟨_, rfl, _, rfl, a, _, ns, rfl, hS.ext e, by omega, by omega, fun p H2 hp e2 hd => ?_⟩
    have eD := e.trans e2
    refine ⟨_, rfl, p, rfl, hd, fun H3 e3 => ⟨_, rfl, iteF ?_⟩⟩
    refine ⟨_, rfl, p, rfl, e3 _ _ hd, fun H4 e4 => ⟨_, rfl, iteF ⟨(eD.trans e3).trans e4, _, _, rfl⟩⟩⟩
  rintro σ H' ⟨e, x, y, rfl⟩
  refine ⟨len_ok (Nat.le_of_ble_eq_true rfl), newT_use (K := K) fun p1 H1 e1 h1 n1 => ?_⟩
  refine ⟨p1, abc, cba, true, rfl, ⟨by rw [pl3]; exact h1, n1⟩, wl3, fun q1 G1 f1 g1 => ?_⟩
  refine ⟨len_ok (Nat.le_of_ble_eq_true rfl), newT_use (K := K) fun p2 H2 e2 h2 n2 => ?_⟩
  refine ⟨p2, abc, cba, false, rfl, ⟨by rw [pl3]; exact h2, n2⟩, wl3, fun q2 G2 f2 g2 => ?_⟩
  refine ⟨len_ok (Nat.le_of_ble_eq_true rfl), newT_use (K := K) fun p3 H3 e3 h3 n3 => ?_⟩
  refine ⟨p3, ab2, ba2, true, rfl, ⟨by rw [pl2]; exact h3, n3⟩, wl2, fun q3 G3 f3 g3 => ?_⟩
  have t1 := g1.1
  rw [pu3] at t1
  have t2 := g2.1
  rw [pd3] at t2
  have t3 := g3.1
  rw [pu2] at t3
  refine ⟨len_ok (Nat.le_of_ble_eq_true rfl), fun A1 hA1 => ?_⟩
  have xA := ext_new (o := HO.lst [V.ref q1, .ref q2, .ref q3]) (ext_refl G3) hA1
  refine ⟨len_ok (Nat.le_of_ble_eq_true rfl), newT_use (K := K) fun r1 K1 k1 j1 _ => ?_⟩
  refine ⟨len_ok (Nat.le_of_ble_eq_true rfl), newT_use (K := K) fun r2 K2 k2 j2 _ => ?_⟩
  refine ⟨len_ok (Nat.le_of_ble_eq_true rfl), newT_use (K := K) fun r3 K3 k3 j3 _ => ?_⟩
  refine ⟨len_ok (Nat.le_of_ble_eq_true rfl), fun B1 hB1 => ?_⟩
  have xB := ext_new (o := HO.lst [V.ref r1, .ref r2, .ref r3]) (ext_refl K3) hB1
  have all := ((k1.trans k2).trans k3).trans xB
  have d1 : DpAll K (upd K3 B1 (.lst [V.ref r1, .ref r2, .ref r3])) [V.int 1, .int 2, .int 0] [.int 1, .int 2, .int 0] := dp_ints [1, 2, 0]
  have d2 : DpAll K (upd K3 B1 (.lst [V.ref r1, .ref r2, .ref r3])) [V.int 2, .int 0, .int 1] [.int 2, .int 0, .int 1] := dp_ints [2, 0, 1]
  have d3 : DpAll K (upd K3 B1 (.lst [V.ref r1, .ref r2, .ref r3])) [V.int 1, .int 0] [.int 1, .int 0] := dp_ints [1, 0]
  have a1 := (t1.ext (((((e2.trans f2).trans e3).trans f3).trans xA).trans all))
  have a2 := (t2.ext (((e3.trans f3).trans xA).trans all))
  have a3 := (t3.ext (xA.trans all))
  refine eqD_use 2 (by decide) (.lst (SqL.of (all _ _ upd_same)) (.cons (.tup a1 d1) (.cons (.tup a2 d2) (.cons (.tup a3 d3) .nil))))
    (.lst (SqL.of upd_same) (.cons (.tup (j1.ext ((k2.trans k3).trans xB)) d1) (.cons (.tup (j2.ext (k3.trans xB)) d2) (.cons (.tup (j3.ext xB) d3) .nil)))) (by decide) (by decide) fun b hb => ?_
  rw [hb.mpr rfl]
  exact k _
end
end My
/-! cls(e, ..), cls a local name that holds an own class -/
namespace My
open PySem PySem.Spec PyProof.Rows L2
def tMakeV (i : Nat) (C : Addr) (sp : Sp) (E : XK) (t : TA) : TE := fun σ H Q => σ[i]? = some (some (.ref C)) ∧ tMake C sp [] E t σ H Q
section
variable {X : Cx} {CX : CXT} {k i : Nat} {f C : Addr} {fd : FuncData} {ps : List Str} {sp : Sp} {E : XK} {x : Str} {e : Expr} {es : List Expr} {t : TA} {p pos : Pos}
theorem pe_makeV (M : Mk X.K C f) (F : FnOk X.prog X.w X.K X.mg X.base CX k f fd ps sp) (hr : Room (k + 1) X.A) (hb : Binds X.K fd ps []) (hx : Passes CX X E) (hN : X.N[i]? = some x) (hv : Vis X.env.scope x) (ha : PA X (e :: es) t)
    (hd : (x == ("__debug__" : Str)) = false := by decide) (hcd : (x == ("__classdict__" : Str)) = false := by decide)
    (he : starEach (e :: es) X.env = (false, eval e X.env) :: starEach es X.env := by rfl) (hpl : (backTo pos (starEach es X.env)).any (·.1) = false := by rfl) : PE X (.Call (.Name x p) (e :: es) [] pos) (tMakeV i C sp E t) := by
  refine ⟨fun pins s σ H Q I h => ?_⟩
  obtain ⟨hs, h⟩ := h
  refine wpAny_Call_Name_kw (thn ((pe_var (pos := p) (i := i) hN hv hd hcd).run pins s σ H (fun v H1 => v = .ref C ∧ H1 = H) I ⟨.ref C, hs, rfl, rfl⟩) fun u s1 ⟨v, H1, I1, r1, ev, eH⟩ => ?_)
  subst ev
  rw [eH] at I1
  cases r1
  refine PySem.W.callWith_K (h₀ := X.base) I.ok.mod.kin M.kp (thn (ha.run pos pins s1 σ H _ I1 h) fun us s2 ⟨vs, H2, I2, r, q⟩ => ⟨I2.kIn, ?_⟩) he hpl
  exact run_make M F hr hb .nil hx I2 r q
end
end My
namespace My
open PySem PySem.Spec PyProof.Rows L2
local macro_rules | `(tactic| walk_at "side") => `(tactic| first | assumption | decide | exact Or.inl ⟨by decide, by decide⟩ | exact Or.inr ⟨by decide, by decide⟩ | exact ⟨by decide, by decide, by decide⟩ | omega | (unfold CMulW; decide +kernel) | (dsimp only; first | assumption | omega | decide +kernel) | exact len_ok (Nat.le_of_ble_eq_true rfl) | fail "side")
local macro_rules | `(tactic| walk_at "rd") => `(tactic| first
  | refine ⟨_, _, _, _, rfl, rfl, SqL.of upd_same, atI_nat (j := 0) rfl, ?_⟩ | refine ⟨_, _, _, _, rfl, rfl, SqL.of upd_same, atI_nat (j := 1) rfl, ?_⟩ | refine ⟨_, _, _, _, rfl, rfl, SqL.of upd_same, atI_nat (j := 2) rfl, ?_⟩
  | refine ⟨_, _, _, _, rfl, rfl, upd_same, rfl, ?_⟩
  | refine ⟨_, _, rfl, rfl, ?_⟩ | refine ⟨_, rfl, ?_⟩ | refine ⟨_, _, rfl, ?_⟩ | refine Or.inl ⟨_, rfl, ?_⟩ | refine Or.inr ⟨_, rfl, ?_⟩ | refine ⟨(by walk_at "side"), ?_⟩ | fail "rd")

abbrev s_oread : Stmt := inClass (top 14) 1
theorem sc_oread : FnScope ["cls", "upper", "lower"] ["cls", "upper", "lower"] (defScope s_oread) := ⟨rfl, rfl, rfl, by decide +kernel, rfl, by decide +kernel, by decide +kernel⟩
section
variable {X : Cx} {k : Nat} {C : Addr} {p pos : Pos} {e : Expr} {es : List Expr} {t : TA}
theorem mkV (F : OInitAt X.prog X.w X.K X.mg X.base k C (spOInit X.K C)) (hr : Room (k + 1) X.A) (ha : PA X (e :: es) t) (hN : X.N[0]? = some ("cls" : Str) := by rfl) (hv : Vis X.env.scope "cls" := by first | exact Or.inl rfl | exact Or.inr (Or.inl rfl) | exact Or.inr (Or.inr rfl))
    (he : starEach (e :: es) X.env = (false, eval e X.env) :: starEach es X.env := by rfl) (hpl : (backTo pos (starEach es X.env)).any (·.1) = false := by rfl) : PE X (.Call (.Name "cls" p) (e :: es) [] pos) (tMakeV 0 C (spOInit X.K C) E0 t) := by
  obtain ⟨f, fd, M, G, hb⟩ := F.ex
  exact pe_makeV M G hr hb pass0 hN hv ha (by decide) (by decide) he hpl
end
/-- the class method as the top has made it, and its promise -/
structure ReadT (K : PySem.W.Frag) (C : Addr) : Prop where
  ex : ∃ (mc : Value) (p g : Addr) (fd : FuncData), ClX.CRead K C mc ∧ ClX.CMet K C mc "read" p g ∧ Fun K "read" "Order.read" s_oread g fd
structure ReadAt (P : Program) (w : World) (K : PySem.W.Frag) (mg : Str → Option Value) (base : Heap) (k : Nat) (C : Addr) (sp : Sp) : Prop where
  ex : ∃ (mc : Value) (p g : Addr), ClX.CRead K C mc ∧ ClX.CMet K C mc "read" p g ∧ FnR P w K mg base CX0 k g sp
def spORead (K : PySem.W.Frag) (C : Addr) : Sp := fun vs H Q _ => ∃ (sa sb : Str), vs = [.ref C, .str sa, .str sb] ∧ sa.length ≤ 1000 ∧ sb.length ≤ 1000 ∧ RowsOk (Txt.split sa " ") (Txt.split sb " ") ∧ ∀ o H', Ext H H' → OrdAt K C H' o (Txt.split sa " ") (Txt.split sb " ") → Q (.ref o) H'
section
variable {X : Cx} {k : Nat} {C : Addr} {sp : Sp} {p pos apos : Pos} {e o : Expr} {es : List Expr} {t : TA} {ta : TE}
theorem readO {pl : Sem Bool} (F : ReadAt X.prog X.w X.K X.mg X.base k C sp) (hr : Room k X.A) (ho : PE X o ta) (ha : PA X (e :: es) t)
    (hst : starEach (e :: es) X.env = (false, eval e X.env) :: starEach es X.env := by rfl) (hpl : (backTo pos (starEach es X.env)).any (·.1) = false := by rfl)
    (ht : eval (.Call (.Attribute o "read" apos) (e :: es) [] pos) X.env = (do
      let ov ← eval o X.env
      standAt apos.atName
      let (f, first) ← holding [ov] (getMethod ov "read" pl)
      callWith pos f first (backTo pos (starEach (e :: es) X.env)) (backToKw pos (keywordEach [] X.env))) := by rfl) : PE X (.Call (.Attribute o "read" apos) (e :: es) [] pos) (ClX.tCMeth C sp E0 ta t) := by
  obtain ⟨mc, q, g, r, c, G⟩ := F.ex
  exact ClX.pe_cmeth ho r c G hr pass0 ha hst hpl ht
end
section
variable {P : Program} {w : World} {K : PySem.W.Frag} {mg : Str → Option Value} {base : Heap} {C : Addr}
theorem ok_oread (T : Bn mg) (D : ReadT K C) (F_init : OInitAt P w K mg base 5 C (spOInit K C)) : ReadAt P w K mg base 7 C (spORead K C) := by
  obtain ⟨mc, p, g, fd, r, c, F⟩ := D.ex
  have G : FnOk P w K mg base CX0 7 g fd ["cls", "upper", "lower"] (spORead K C) := by
    refine F.ok sc_oread (fun vs H Q E h => ?_) fun cdv A outer s H vs Q E hr h => ?_
    · obtain ⟨sa, sb, rfl, _⟩ := h
      rfl
    obtain ⟨sa, sb, rfl, la, lb, ro, k⟩ := h
    refine ⟨_, (pss_cons (ps_if (PW.pt (pw_or (pt_not (pt_val (pe_callB call_isi (by rfl) T.b_isinstance (by decide +kernel) (pa_cons (pv 1) (pa_cons (pe_bltn (v := .ty "str") (by rfl) T.b_str (by decide +kernel) rfl) pa_nil))))) (pw_or1 (pt_not (pt_val (pe_callB call_isi (by rfl) T.b_isinstance (by decide +kernel) (pa_cons (pv 2) (pa_cons (pe_bltn (v := .ty "str") (by rfl) T.b_str (by decide +kernel) rfl) pa_nil)))))))) (pss_one ps_never) pss_nil)
    (pss_one (ps_ret (mkV F_init (hr.mono (by decide)) (pa_cons (pe_callTy call_tuple_of (by rfl) T.b_tuple (by decide +kernel) (pa_cons (pe_split (pv 1) pe_str) pa_nil)) (pa_cons (pe_callTy call_tuple_of (by rfl) T.b_tuple (by decide +kernel) (pa_cons (pe_split (pv 2) pe_str) pa_nil)) pa_nil)))))), ?_⟩
    refine ⟨_, rfl, _, _, _, _, true, rfl, .ty _, .base (.str _), kit_strstr, _, rfl, ?_⟩
    refine iteF ?_
    refine ⟨_, rfl, _, _, _, _, true, rfl, .ty _, .base (.str _), kit_strstr, _, rfl, ?_⟩
    refine iteF ?_
    have sl : ∀ z : Str, z.length ≤ 1000 → z.length + 2 ≤ sizeLine := fun z h => Nat.le_trans (Nat.add_le_add_right h 2) (by decide)
    refine ⟨rfl, _, rfl, ⟨_, rfl⟩, sa, " ", rfl, rfl, by decide +kernel, sl sa la, fun p1 hp1 => ⟨p1, _, rfl, .inl ⟨SqL.of upd_same, fun q1 hq1 => ?_⟩⟩⟩
    have x1 := ext_new (o := HO.lst ((Txt.split sa " ").map V.str)) (ext_refl H) hp1
    have x2 := ext_new (o := HO.tup ((Txt.split sa " ").map V.str)) (ext_refl _) hq1
    refine ⟨_, rfl, ⟨_, rfl⟩, sb, " ", rfl, rfl, by decide +kernel, sl sb lb, fun p2 hp2 => ⟨p2, _, rfl, .inl ⟨SqL.of upd_same, fun q2 hq2 => ?_⟩⟩⟩
    have x3 := ext_new (o := HO.lst ((Txt.split sb " ").map V.str)) (ext_refl _) hp2
    have x4 := ext_new (o := HO.tup ((Txt.split sb " ").map V.str)) (ext_refl _) hq2
    exact mk_useA (SqT.of (x4 _ _ (x3 _ _ upd_same))) (SqT.of upd_same) ro fun o H' e oa => k o H' ((((x1.trans x2).trans x3).trans x4).trans e) oa
  refine ⟨mc, p, g, r, c, ?_⟩
  have R := G.raw (F.binds (fun _ _ _ _ _ _ us hl => match us, hl with | [_, _, _], _ => rfl)) .nil
  exact R.imp fun vs H Q E h => by rw [List.append_nil]; exact h
end
end My
namespace My
open PySem PySem.Spec PyProof.Rows L2
section
variable {K : PySem.W.Frag} {h : Heap} {mg : Str → Option Value}
theorem defAt_mk {x : Str} {st : Stmt} {f : Addr} {oc : Value} {od an : Option Addr} {osl : Array (Option Value)} {kV doc pm cdv ct : Value} (X : K.In h) (G : h.Ns mainGlobals mg) (a : PySem.W.nsIn K mainGlobals x = some (some (.ref f)))
    (l : K.lookup f = some ⟨oc, od, .func (PySem.W.fnOf x x (defArgs st) (defBody st) (defScope st) .none kV doc pm an cdv ct), osl⟩) (c : PySem.W.codeIn K cdv x = true) (k : PySem.W.keepIn K (.ref f) = true) : DefAt K mg x st :=
  ⟨f, _, PySem.W.mg_of X G a, fun_mk l c k⟩
theorem spT_mk {C : Addr} {x qual : Str} {st : Stmt} {f : Addr} {oc : Value} {od an : Option Addr} {osl : Array (Option Value)} {kV doc pm cdv ct : Value} (a : PySem.W.findIn K (.ref C) x = some (some (.ref f))) (i : PySem.W.isFn K (.ref f) = true)
    (l : K.lookup f = some ⟨oc, od, .func (PySem.W.fnOf x qual (defArgs st) (defBody st) (defScope st) .none kV doc pm an cdv ct), osl⟩) (c : PySem.W.codeIn K cdv qual = true) (k : PySem.W.keepIn K (.ref f) = true) : SpT K C x qual st :=
  ⟨f, _, a, i, fun_mk l c k⟩
theorem methT_mk {C : Addr} {x qual : Str} {st : Stmt} {f : Addr} {oc : Value} {od an : Option Addr} {osl : Array (Option Value)} {kV doc pm cdv ct : Value} (a : PySem.W.findIn K (.ref C) x = some (some (.ref f))) (i : PySem.W.isFn K (.ref f) = true)
    (l : K.lookup f = some ⟨oc, od, .func (PySem.W.fnOf x qual (defArgs st) (defBody st) (defScope st) .none kV doc pm an cdv ct), osl⟩) (c : PySem.W.codeIn K cdv qual = true) (k : PySem.W.keepIn K (.ref f) = true) : MethT K C x qual st :=
  ⟨f, _, ⟨a, i, k⟩, i, fun_mk l c k⟩
theorem opT_mk {C : Addr} {op : Operator} {x qual : Str} {st : Stmt} {f : Addr} {oc : Value} {od an : Option Addr} {osl : Array (Option Value)} {kV doc pm cdv ct : Value} (W : OwnOp K C op f)
    (l : K.lookup f = some ⟨oc, od, .func (PySem.W.fnOf x qual (defArgs st) (defBody st) (defScope st) .none kV doc pm an cdv ct), osl⟩) (c : PySem.W.codeIn K cdv qual = true) (k : PySem.W.keepIn K (.ref f) = true) : OpT K C op x qual st :=
  ⟨f, _, W, fun_mk l c k⟩
theorem propT_mk {C : Addr} {x qual : Str} {st : Stmt} {p g : Addr} {oc : Value} {od an : Option Addr} {osl : Array (Option Value)} {kV doc pm cdv ct : Value} (W : PropOf K C x p g)
    (l : K.lookup g = some ⟨oc, od, .func (PySem.W.fnOf x qual (defArgs st) (defBody st) (defScope st) .none kV doc pm an cdv ct), osl⟩) (c : PySem.W.codeIn K cdv qual = true) (k : PySem.W.keepIn K (.ref g) = true) : PropT K C x qual st :=
  ⟨p, g, _, W, fun_mk l c k⟩
theorem ordT_mk {C f : Addr} {oc : Value} {od an : Option Addr} {osl : Array (Option Value)} {kV doc pm cdv ct : Value} (X : K.In h) (G : h.Ns mainGlobals mg)
    (a : PySem.W.nsIn K mainGlobals "Order" = some (some (.ref C))) (pg : PySem.W.plainGet K C Str.empty = true) (hd : PySem.W.hasDictIn K C = true) (po : PySem.W.plainOver K C = true) (sa : PySem.W.findIn K (.ref C) "__setattr__" = some (some (.builtin "object.__setattr__")))
    (n1 : PySem.W.findIn K (.ref C) "_above" = some none) (n2 : PySem.W.findIn K (.ref C) "_below" = some none) (n3 : PySem.W.findIn K (.ref C) "_places" = some none)
    (mk : PySem.W.makesIn K C = true) (ai : PySem.W.findIn K (.ref C) "__init__" = some (some (.ref f))) (ii : PySem.W.isFn K (.ref f) = true) (kc : PySem.W.keepIn K (.ref C) = true)
    (l : K.lookup f = some ⟨oc, od, .func (PySem.W.fnOf "__init__" "Order.__init__" (defArgs s_oinit) (defBody s_oinit) (defScope s_oinit) .none kV doc pm an cdv ct), osl⟩) (c : PySem.W.codeIn K cdv "Order.__init__" = true) (kf : PySem.W.keepIn K (.ref f) = true) : OrdT K mg C :=
  ⟨PySem.W.mg_of X G a, ⟨pg, hd, po, sa⟩, n1, n2, n3, ⟨f, _, ⟨mk, ai, ii, kc⟩, fun_mk l c kf⟩⟩
theorem readT_mk {C p g : Addr} {oc : Value} {od an : Option Addr} {osl : Array (Option Value)} {kV doc pm cdv ct : Value}
    (rd : PySem.W.readsIn K C (.type "type") = true) (ga : PySem.W.specialIn K (.ref C) "__getattribute__" = some (some (.builtin "type.__getattribute__"))) (at_ : PySem.W.findCls K (.ref C) (.type "type") "read" = some (.get (.builtin "classmethod.__get__") (.ref p) .none (.ref C)))
    (rc : ∃ rest, PySem.W.recIn K p "classmethod" = some (.ref g :: rest)) (fi : PySem.W.fnIn K g = true)
    (l : K.lookup g = some ⟨oc, od, .func (PySem.W.fnOf "read" "Order.read" (defArgs s_oread) (defBody s_oread) (defScope s_oread) .none kV doc pm an cdv ct), osl⟩) (c : PySem.W.codeIn K cdv "Order.read" = true) (kf : PySem.W.keepIn K (.ref g) = true) : ReadT K C :=
  ⟨.type "type", p, g, _, ⟨rd, ga⟩, ⟨at_, rc, fi⟩, fun_mk l c kf⟩
end
end My
namespace My
open PySem PySem.Spec PyProof.Rows L2
theorem mk_OrdC {K : PySem.W.Frag} {h : Heap} {mg : Str → Option Value} {tk0 : Tok} (X : K.In h) (G : h.Ns mainGlobals mg) (h0 : PySem.W.nsIn K mainGlobals "MAX_NAMES" = some (some (.int 40 tk0))) : OrdC mg := ⟨⟨_, PySem.W.mg_of X G h0⟩⟩
theorem mk_WordC {K : PySem.W.Frag} {h : Heap} {mg : Str → Option Value} {tk0 : Tok} {tk1 : Tok} {z0 : Str} (X : K.In h) (G : h.Ns mainGlobals mg) (h0 : PySem.W.nsIn K mainGlobals "LETTERS" = some (some (.str z0 tk0))) (e0 : z0 = letS) (h1 : PySem.W.nsIn K mainGlobals "MAX_LETTERS" = some (some (.int 8 tk1))) : WordC mg := ⟨⟨_, e0 ▸ PySem.W.mg_of X G h0⟩, ⟨_, PySem.W.mg_of X G h1⟩⟩
theorem mk_KindC {K : PySem.W.Frag} {h : Heap} {mg : Str → Option Value} {tk0 : Tok} {tk1 : Tok} {tk2 : Tok} {z0 : Str} {z1 : Str} {z2 : Str} (X : K.In h) (G : h.Ns mainGlobals mg) (h0 : PySem.W.nsIn K mainGlobals "UPPER" = some (some (.str z0 tk0))) (e0 : z0 = "upper") (h1 : PySem.W.nsIn K mainGlobals "LOWER" = some (some (.str z1 tk1))) (e1 : z1 = "lower") (h2 : PySem.W.nsIn K mainGlobals "EVEN" = some (some (.str z2 tk2))) (e2 : z2 = "even") : KindC mg := ⟨⟨_, e0 ▸ PySem.W.mg_of X G h0⟩, ⟨_, e1 ▸ PySem.W.mg_of X G h1⟩, ⟨_, e2 ▸ PySem.W.mg_of X G h2⟩⟩
theorem mk_CourC {K : PySem.W.Frag} {h : Heap} {mg : Str → Option Value} {tk1 : Tok} {q0 : Addr} {od0 : Option Addr} {n0 : Nat} {sl0 : Array (Option Value)} {u0_0 u0_1 u0_2 : Tok} (X : K.In h) (G : h.Ns mainGlobals mg) (h0 : PySem.W.nsIn K mainGlobals "KINDS" = some (some (.ref q0))) (l0 : K.lookup q0 = some ⟨.type "tuple", od0, .seq #[.str "upper" u0_0, .str "lower" u0_1, .str "even" u0_2] n0, sl0⟩) (h1 : PySem.W.nsIn K mainGlobals "MAX_COURSE" = some (some (.int 4000 tk1))) : CourC K mg := ⟨⟨q0, PySem.W.mg_of X G h0, fun H => .inr ⟨_, _, _, l0, rfl, rfl, (by show 3 ≤ sizeLine; decide), .cons ⟨_, rfl⟩ (.cons ⟨_, rfl⟩ (.cons ⟨_, rfl⟩ (.nil)))⟩⟩, ⟨_, PySem.W.mg_of X G h1⟩⟩
/-- all that the top has made, as the law needs it -/
structure Facts (K : PySem.W.Frag) (mg : Str → Option Value) (C : Addr) : Prop where
  T : Bn mg
  d_law : DefAt K mg "law" s_law
  d__law_dice : DefAt K mg "_law_dice" s_dice
  f3 : OrdT K mg C
  d__law_walk_right : DefAt K mg "_law_walk_right" s_lwr
  f5 : OrdC mg
  d__are_rows : DefAt K mg "_are_rows" s_rows
  d_are_names : DefAt K mg "are_names" s_arenames
  f8 : WordC mg
  d_is_name : DefAt K mg "is_name" s_isname
  d__are_different : DefAt K mg "_are_different" s_difd
  d__law_roll : DefAt K mg "_law_roll" s_roll
  d__law_rows_drawn : DefAt K mg "_law_rows_drawn" s_lrows
  d__law_mixed : DefAt K mg "_law_mixed" s_lmixed
  d__law_names_drawn : DefAt K mg "_law_names_drawn" s_lnames
  d__law_is_whole : DefAt K mg "_law_is_whole" s_lwhole
  d__law_walk_drawn : DefAt K mg "_law_walk_drawn" s_lkinds
  d__law_pick : DefAt K mg "_law_pick" s_pick
  d__law_places_of : DefAt K mg "_law_places_of" s_lpof
  d__law_turns_back : DefAt K mg "_law_turns_back" s_lback
  f20 : KindC mg
  d_moved : DefAt K mg "moved" s_moved
  d__are_whole_places : DefAt K mg "_are_whole_places" s_wpl
  d_is_any_integer : DefAt K mg "is_any_integer" s_anyint
  d_block_ends : DefAt K mg "block_ends" s_bends
  d__led : DefAt K mg "_led" s_led
  d__law_moved_places : DefAt K mg "_law_moved_places" s_lmov
  d__law_by_rule : DefAt K mg "_law_by_rule" s_lrule
  d_order_behind : DefAt K mg "order_behind" s_obeh
  f29 : OrdI K C
  d_require_order : DefAt K mg "require_order" s_reqord
  d_follow_course : DefAt K mg "follow_course" s_follow
  f32 : CourC K mg
  d_is_course : DefAt K mg "is_course" s_iscourse
  d_are_whole : DefAt K mg "are_whole" s_arewhole
  d_turn_rows : DefAt K mg "turn_rows" s_turn
  f36 : PropT K C "above" "Order.above" s_oabove
  f37 : PropT K C "below" "Order.below" s_obelow
  f38 : PropT K C "is_whole" "Order.is_whole" s_owhole
  f39 : PropT K C "places" "Order.places" s_oplaces
  f40 : MethT K C "renamed" "Order.renamed" s_oren
  d__is_renaming : DefAt K mg "_is_renaming" s_isren
  f42 : SpT K C "__eq__" "Order.__eq__" s_oeq
theorem law_binds {K : PySem.W.Frag} {fa : Addr} {fd : FuncData} (F : Fun K "law" "law" s_law fa fd) (s : Shared) (u : Value) : BindsTo s fd ⟨[u], []⟩ [("_law_script", u)] := by
  obtain ⟨oc, od, kV, doc, pm, an, cdv, ct, osl, rfl, lk, hcd⟩ := F.ex
  exact .of_eq rfl
theorem final {K : PySem.W.Frag} {h : Heap} {mg : Str → Option Value} {C fa : Addr} {P : Program} {w : World} (KX : K.In h) (G : h.Ns mainGlobals mg) (hmg : mg "law" = some (.ref fa)) (F : Facts K mg C) :
    ∃ fd : FuncData, (∀ (s : Shared) (u : Value), BindsTo s fd ⟨[u], []⟩ [("_law_script", u)]) ∧ ∀ base : Heap, K.In base → base.Ns mainGlobals mg → FnOk P w K mg base CX0 10 fa fd ["_law_script"] (spLaw K) := by
  obtain ⟨f, fd, hm, D⟩ := F.d_law.ex
  have ef : f = fa := by
    have := hm.symm.trans hmg
    cases this
    rfl
  subst ef
  refine ⟨fd, law_binds D, fun base _ _ => ?_⟩
  have a_dice : FnAt P w K mg base 1 "_law_dice" ["_law_script", "_law_spot"] (spDice K) := ok_dice F.T F.d__law_dice
  have a_isname : FnAt P w K mg base 1 "is_name" ["value"] (spNm K) := ok_isname F.T F.f8 F.d_is_name
  have a_arenames : FnAt P w K mg base 2 "are_names" ["value"] (spNms K) := ok_arenames F.T F.d_are_names a_isname
  have a_difd : FnAt P w K mg base 3 "_are_different" ["names"] (spDif K) := ok_difd F.T F.d__are_different a_arenames
  have a_rows : FnAt P w K mg base 4 "_are_rows" ["upper", "lower"] (spRows K) := ok_rows F.T F.f5 F.d__are_rows a_arenames a_difd
  have a_oinit : OInitAt P w K mg base 5 C (spOInit K C) := ok_oinit F.T F.f3 a_rows
  have a_roll : FnAt P w K mg base 1 "_law_roll" ["_law_dice_here", "_law_total"] spRoll := ok_roll F.T F.d__law_roll
  have a_lmixed : FnAt P w K mg base 2 "_law_mixed" ["_law_dice_here", "_law_items"] (spLMix K) := ok_lmixed F.T F.d__law_mixed a_roll
  have a_lnames : FnAt P w K mg base 3 "_law_names_drawn" ["_law_dice_here", "_law_times"] spLNames := ok_lnames F.T F.d__law_names_drawn a_lmixed
  have a_lwhole : FnAt P w K mg base 1 "_law_is_whole" ["_law_upper", "_law_lower"] (spLWh K) := ok_lwhole F.T F.d__law_is_whole
  have a_lrows : FnAt P w K mg base 4 "_law_rows_drawn" ["_law_dice_here", "_law_times"] spLRows := ok_lrows F.T F.d__law_rows_drawn a_roll a_lmixed a_lnames a_lwhole
  have a_pick : FnAt P w K mg base 2 "_law_pick" ["_law_dice_here", "_law_items"] (spPick K) := ok_pick F.T F.d__law_pick a_roll
  have a_lkinds : FnAt P w K mg base 3 "_law_walk_drawn" ["_law_dice_here", "_law_times"] (spLKinds K) := ok_lkinds F.T F.d__law_walk_drawn a_pick
  have a_lpof : FnAt P w K mg base 1 "_law_places_of" ["_law_upper", "_law_lower"] (spLPof K) := ok_lpof F.T F.d__law_places_of
  have a_anyint : FnAt P w K mg base 1 "is_any_integer" ["value"] spAnyInt := ok_anyint F.T F.d_is_any_integer
  have a_bends : FnAt P w K mg base 1 "block_ends" ["places"] (spBend K) := ok_bends F.T F.d_block_ends
  have a_wpl : FnAt P w K mg base 2 "_are_whole_places" ["value"] (spWPl K) := ok_wpl F.T F.f5 F.d__are_whole_places a_anyint a_bends
  have a_ledp : FnAt P w K mg base 1 "_led" ["places", "kind"] (spLedP K) := ok_ledp F.T F.f20 F.d__led
  have a_moved : FnAt P w K mg base 3 "moved" ["places", "kind"] (spLedP K) := ok_moved F.T F.f20 F.d_moved a_wpl a_ledp
  have a_lback : FnAt P w K mg base 4 "_law_turns_back" ["_law_places", "_law_kind"] (spLBack K) := ok_lback F.T F.d__law_turns_back a_moved
  have a_lmov : FnAt P w K mg base 1 "_law_moved_places" ["_law_places", "_law_kind"] (spLMov K) := ok_lmov F.T F.d__law_moved_places
  have a_lrule : FnAt P w K mg base 1 "_law_by_rule" ["_law_places", "_law_kind"] (spLRule K) := ok_lrule F.T F.d__law_by_rule
  have a_reqord : FnAt P w K mg base 1 "require_order" ["value"] (spReqO K C) := ok_reqord F.T F.f3 F.f29 F.d_require_order
  have a_iscourse : FnAt P w K mg base 1 "is_course" ["value"] (spIsC K) := ok_iscourse F.T F.f32 F.d_is_course
  have a_arewhole : FnAt P w K mg base 1 "are_whole" ["upper", "lower"] spNo := ok_arewhole F.d_are_whole
  have a_turn : FnAt P w K mg base 1 "turn_rows" ["upper", "lower", "kind"] spTurn := ok_turn F.T F.f20 F.d_turn_rows
  have a_oabove : PropAt P w K mg base 1 C "above" (spGetT K C fun zs _ => zs.map V.str) := ok_oabove F.f36 F.f3
  have a_obelow : PropAt P w K mg base 1 C "below" (spGetT K C fun _ ys => ys.map V.str) := ok_obelow F.f37 F.f3
  have a_owhole : PropAt P w K mg base 2 C "is_whole" (spWhole K C) := ok_owhole F.T F.f38 F.f3 a_bends
  have a_follow : FnAt P w K mg base 4 "follow_course" ["order", "course"] (spFol K C) := ok_follow F.T F.f3 F.f20 F.d_follow_course a_iscourse a_arewhole a_turn a_oabove a_obelow a_owhole
  have a_obeh : FnAt P w K mg base 7 "order_behind" ["order", "course"] (spOBeh K C) := ok_obeh F.T F.f3 F.d_order_behind a_oinit a_reqord a_follow
  have a_oplaces : PropAt P w K mg base 1 C "places" (spGetT K C fun zs ys => (plc zs ys).map V.int) := ok_oplaces F.f39 F.f3
  have a_isren : FnAt P w K mg base 4 "_is_renaming" ["names", "value"] (spIsRen K) := ok_isren F.T F.d__is_renaming a_difd
  have a_oren : MethAt P w K mg base 7 C "renamed" ["self", "names"] (spORen K C) := ok_oren F.T F.f3 F.f40 a_oinit a_isren
  have a_oeq : SpAt P w K mg base 1 C "__eq__" ["self", "other"] (spOEq K C) := ok_oeq F.T F.f42 F.f3 F.f29
  have a_lwr : FnAt P w K mg base 8 "_law_walk_right" ["_law_dice_here"] spLRight := ok_lwr F.T F.f3 F.d__law_walk_right a_oinit a_roll a_lrows a_lkinds a_lnames a_lpof a_lback a_lmov a_lrule a_moved a_obeh a_oplaces a_owhole a_oren a_oeq
  exact ok_law F.T D a_dice a_lwr a_moved
end My
open PySem PySem.W PyProof.Rows
set_option maxHeartbeats 0 in
theorem PySem.Challenge.cw_pieceround_k48_moves_of_places_beside_ro_holds : PySem.Challenge.rw_pieceround_k48_moves_of_places_beside_ro.Holds := by
  w_on; o_law; k_head; (case hw => w_witness2)
  k_fill
  refine L2.walk_ofK (CX := L2.CX0) (l := PySem.Challenge.rw_pieceround_k48_moves_of_places_beside_ro) (n := 63) (k := 10) (x := "_law_script") (sp := fun K => My.spLaw K) rfl (by decide) rfl ⟨rfl, by decide, by decide⟩ (fun w h Y => PySem.W.kIn_of Y) ?F ?S ?CX
  case CX => exact fun _ _ _ _ h => h
  case S => exact fun K H a ns hl hO hS => ⟨a, ns, rfl, hS, hl, fun _ => rfl⟩
  case F =>
    intro w mg fa h KX G hmg
    refine My.final (C := ?nC) KX G hmg ?FF
    case FF =>
      have T : My.Bn mg := by constructor <;> exact PySem.W.mg_none_of KX G (by k_is)
      refine { T := T, d_law := ?d_law, d__law_dice := ?d__law_dice, f3 := ?f3, d__law_walk_right := ?d__law_walk_right, f5 := ?f5, d__are_rows := ?d__are_rows, d_are_names := ?d_are_names, f8 := ?f8, d_is_name := ?d_is_name, d__are_different := ?d__are_different, d__law_roll := ?d__law_roll, d__law_rows_drawn := ?d__law_rows_drawn, d__law_mixed := ?d__law_mixed, d__law_names_drawn := ?d__law_names_drawn, d__law_is_whole := ?d__law_is_whole, d__law_walk_drawn := ?d__law_walk_drawn, d__law_pick := ?d__law_pick, d__law_places_of := ?d__law_places_of, d__law_turns_back := ?d__law_turns_back, f20 := ?f20, d_moved := ?d_moved, d__are_whole_places := ?d__are_whole_places, d_is_any_integer := ?d_is_any_integer, d_block_ends := ?d_block_ends, d__led := ?d__led, d__law_moved_places := ?d__law_moved_places, d__law_by_rule := ?d__law_by_rule, d_order_behind := ?d_order_behind, f29 := ?f29, d_require_order := ?d_require_order, d_follow_course := ?d_follow_course, f32 := ?f32, d_is_course := ?d_is_course, d_are_whole := ?d_are_whole, d_turn_rows := ?d_turn_rows, f36 := ?f36, f37 := ?f37, f38 := ?f38, f39 := ?f39, f40 := ?f40, d__is_renaming := ?d__is_renaming, f42 := ?f42 }
      case f3 =>
        refine' My.ordT_mk KX G ?qo1 ?qo2 ?qo3 ?qo4 ?qo5 ?qo6 ?qo7 ?qo8 ?qo9 ?qo10 ?qo11 ?qo12 ?qo13 ?qo14 ?qo15
        case qo1 => k_is
        case qo2 => k_is
        case qo3 => k_is
        case qo4 => k_is
        case qo5 => k_is
        case qo6 => k_is
        case qo7 => k_is
        case qo8 => k_is
        case qo9 => k_is
        case qo10 => k_is
        case qo11 => k_is
        case qo12 => k_is
        case qo13 => k_is
        case qo14 => k_is
        case qo15 => k_is
      case d_law => (refine' My.defAt_mk (by assumption) (by assumption) ?qda ?qdl ?qdc ?qdk; (case qda => k_is); (case qdl => k_is); (case qdc => k_is); (case qdk => k_is))
      case d__law_dice => (refine' My.defAt_mk (by assumption) (by assumption) ?qda ?qdl ?qdc ?qdk; (case qda => k_is); (case qdl => k_is); (case qdc => k_is); (case qdk => k_is))
      case d__law_walk_right => (refine' My.defAt_mk (by assumption) (by assumption) ?qda ?qdl ?qdc ?qdk; (case qda => k_is); (case qdl => k_is); (case qdc => k_is); (case qdk => k_is))
      case f5 =>
        refine' My.mk_OrdC KX G ?qch0
        case qch0 => k_is
      case d__are_rows => (refine' My.defAt_mk (by assumption) (by assumption) ?qda ?qdl ?qdc ?qdk; (case qda => k_is); (case qdl => k_is); (case qdc => k_is); (case qdk => k_is))
      case d_are_names => (refine' My.defAt_mk (by assumption) (by assumption) ?qda ?qdl ?qdc ?qdk; (case qda => k_is); (case qdl => k_is); (case qdc => k_is); (case qdk => k_is))
      case f8 =>
        refine' My.mk_WordC KX G ?qch0 ?qce0 ?qch1
        case qch0 => k_is
        case qce0 => decide
        case qch1 => k_is
      case d_is_name => (refine' My.defAt_mk (by assumption) (by assumption) ?qda ?qdl ?qdc ?qdk; (case qda => k_is); (case qdl => k_is); (case qdc => k_is); (case qdk => k_is))
      case d__are_different => (refine' My.defAt_mk (by assumption) (by assumption) ?qda ?qdl ?qdc ?qdk; (case qda => k_is); (case qdl => k_is); (case qdc => k_is); (case qdk => k_is))
      case d__law_roll => (refine' My.defAt_mk (by assumption) (by assumption) ?qda ?qdl ?qdc ?qdk; (case qda => k_is); (case qdl => k_is); (case qdc => k_is); (case qdk => k_is))
      case d__law_rows_drawn => (refine' My.defAt_mk (by assumption) (by assumption) ?qda ?qdl ?qdc ?qdk; (case qda => k_is); (case qdl => k_is); (case qdc => k_is); (case qdk => k_is))
      case d__law_mixed => (refine' My.defAt_mk (by assumption) (by assumption) ?qda ?qdl ?qdc ?qdk; (case qda => k_is); (case qdl => k_is); (case qdc => k_is); (case qdk => k_is))
      case d__law_names_drawn => (refine' My.defAt_mk (by assumption) (by assumption) ?qda ?qdl ?qdc ?qdk; (case qda => k_is); (case qdl => k_is); (case qdc => k_is); (case qdk => k_is))
      case d__law_is_whole => (refine' My.defAt_mk (by assumption) (by assumption) ?qda ?qdl ?qdc ?qdk; (case qda => k_is); (case qdl => k_is); (case qdc => k_is); (case qdk => k_is))
      case d__law_walk_drawn => (refine' My.defAt_mk (by assumption) (by assumption) ?qda ?qdl ?qdc ?qdk; (case qda => k_is); (case qdl => k_is); (case qdc => k_is); (case qdk => k_is))
      case d__law_pick => (refine' My.defAt_mk (by assumption) (by assumption) ?qda ?qdl ?qdc ?qdk; (case qda => k_is); (case qdl => k_is); (case qdc => k_is); (case qdk => k_is))
      case d__law_places_of => (refine' My.defAt_mk (by assumption) (by assumption) ?qda ?qdl ?qdc ?qdk; (case qda => k_is); (case qdl => k_is); (case qdc => k_is); (case qdk => k_is))
      case d__law_turns_back => (refine' My.defAt_mk (by assumption) (by assumption) ?qda ?qdl ?qdc ?qdk; (case qda => k_is); (case qdl => k_is); (case qdc => k_is); (case qdk => k_is))
      case f20 =>
        refine' My.mk_KindC KX G ?qch0 ?qce0 ?qch1 ?qce1 ?qch2 ?qce2
        case qch0 => k_is
        case qce0 => decide
        case qch1 => k_is
        case qce1 => decide
        case qch2 => k_is
        case qce2 => decide
      case d_moved => (refine' My.defAt_mk (by assumption) (by assumption) ?qda ?qdl ?qdc ?qdk; (case qda => k_is); (case qdl => k_is); (case qdc => k_is); (case qdk => k_is))
      case d__are_whole_places => (refine' My.defAt_mk (by assumption) (by assumption) ?qda ?qdl ?qdc ?qdk; (case qda => k_is); (case qdl => k_is); (case qdc => k_is); (case qdk => k_is))
      case d_is_any_integer => (refine' My.defAt_mk (by assumption) (by assumption) ?qda ?qdl ?qdc ?qdk; (case qda => k_is); (case qdl => k_is); (case qdc => k_is); (case qdk => k_is))
      case d_block_ends => (refine' My.defAt_mk (by assumption) (by assumption) ?qda ?qdl ?qdc ?qdk; (case qda => k_is); (case qdl => k_is); (case qdc => k_is); (case qdk => k_is))
      case d__led => (refine' My.defAt_mk (by assumption) (by assumption) ?qda ?qdl ?qdc ?qdk; (case qda => k_is); (case qdl => k_is); (case qdc => k_is); (case qdk => k_is))
      case d__law_moved_places => (refine' My.defAt_mk (by assumption) (by assumption) ?qda ?qdl ?qdc ?qdk; (case qda => k_is); (case qdl => k_is); (case qdc => k_is); (case qdk => k_is))
      case d__law_by_rule => (refine' My.defAt_mk (by assumption) (by assumption) ?qda ?qdl ?qdc ?qdk; (case qda => k_is); (case qdl => k_is); (case qdc => k_is); (case qdk => k_is))
      case d_order_behind => (refine' My.defAt_mk (by assumption) (by assumption) ?qda ?qdl ?qdc ?qdk; (case qda => k_is); (case qdl => k_is); (case qdc => k_is); (case qdk => k_is))
      case f29 => constructor <;> first | kit_is | k_is
      case d_require_order => (refine' My.defAt_mk (by assumption) (by assumption) ?qda ?qdl ?qdc ?qdk; (case qda => k_is); (case qdl => k_is); (case qdc => k_is); (case qdk => k_is))
      case d_follow_course => (refine' My.defAt_mk (by assumption) (by assumption) ?qda ?qdl ?qdc ?qdk; (case qda => k_is); (case qdl => k_is); (case qdc => k_is); (case qdk => k_is))
      case f32 =>
        refine' My.mk_CourC KX G ?qch0 ?qcl0 ?qch1
        case qch0 => k_is
        case qcl0 => k_is
        case qch1 => k_is
      case d_is_course => (refine' My.defAt_mk (by assumption) (by assumption) ?qda ?qdl ?qdc ?qdk; (case qda => k_is); (case qdl => k_is); (case qdc => k_is); (case qdk => k_is))
      case d_are_whole => (refine' My.defAt_mk (by assumption) (by assumption) ?qda ?qdl ?qdc ?qdk; (case qda => k_is); (case qdl => k_is); (case qdc => k_is); (case qdk => k_is))
      case d_turn_rows => (refine' My.defAt_mk (by assumption) (by assumption) ?qda ?qdl ?qdc ?qdk; (case qda => k_is); (case qdl => k_is); (case qdc => k_is); (case qdk => k_is))
      case f36 => (refine' My.propT_mk ⟨?qpa, ?qpg, ?qpt, ?qpr⟩ ?qpl ?qpc ?qpk; (case qpa => k_is); (case qpg => k_is); (case qpt => k_is); (case qpr => exact ⟨_, by k_is⟩); (case qpl => k_is); (case qpc => k_is); (case qpk => k_is))
      case f37 => (refine' My.propT_mk ⟨?qpa, ?qpg, ?qpt, ?qpr⟩ ?qpl ?qpc ?qpk; (case qpa => k_is); (case qpg => k_is); (case qpt => k_is); (case qpr => exact ⟨_, by k_is⟩); (case qpl => k_is); (case qpc => k_is); (case qpk => k_is))
      case f38 => (refine' My.propT_mk ⟨?qpa, ?qpg, ?qpt, ?qpr⟩ ?qpl ?qpc ?qpk; (case qpa => k_is); (case qpg => k_is); (case qpt => k_is); (case qpr => exact ⟨_, by k_is⟩); (case qpl => k_is); (case qpc => k_is); (case qpk => k_is))
      case f39 => (refine' My.propT_mk ⟨?qpa, ?qpg, ?qpt, ?qpr⟩ ?qpl ?qpc ?qpk; (case qpa => k_is); (case qpg => k_is); (case qpt => k_is); (case qpr => exact ⟨_, by k_is⟩); (case qpl => k_is); (case qpc => k_is); (case qpk => k_is))
      case f40 => (refine' My.methT_mk ?qma ?qmi ?qml ?qmc ?qmk; (case qma => k_is); (case qmi => k_is); (case qml => k_is); (case qmc => k_is); (case qmk => k_is))
      case d__is_renaming => (refine' My.defAt_mk (by assumption) (by assumption) ?qda ?qdl ?qdc ?qdk; (case qda => k_is); (case qdl => k_is); (case qdc => k_is); (case qdk => k_is))
      case f42 => (refine' My.spT_mk ?qsa ?qsi ?qsl ?qsc ?qsk; (case qsa => k_is); (case qsi => k_is); (case qsl => k_is); (case qsc => k_is); (case qsk => k_is))
