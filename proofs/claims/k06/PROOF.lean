import PyProof.Rows.All
import Wide.All
import OpenK.AllK
import Wide.FinOn
import HandS.ForMost
import HandS.Wide
import HandS.Gcd
import HandS.Property
import HandS.MakeKwOnly
import HandS.IsInst
import HandS.OwnEq
import HandS.Evl
import KE.KOpsOwn
import KE.KMathG
import PyProof.InstNe
import PyProof.ReprRoads
import HandS.Lambda
import HandS.WideBits
import HandS.Walk
import HandS.Iter
import HandS.SetKeys
import PyProof.Rows.SetFrom
import PyProof.WalksMore
import PyProof.Rows.PlainNe
import HandS.RaiseMore
import PyProof.Rows.SortStr
import PyProof.Draws
import PyProof.EnumMake
import HandS.DictComp
import HandS.ClsMeth
import HandS.Codes
import HandS.List
import HandS.Style
import HandS.SetFor
import HandS.Dict
import KE.KDictZip
import PyProof.SeqRoads2
import HandS.Strs
import HandS.TupAny
import HandS.Deep
import OpenK.KOps
import OpenK.KMeth
import PyProof.EqKinds
import KE.KEqDict
import HandS.FStr
import PyProof.FString3
import PyProof.Rows.StrIntSpec
import KE.KCallOwn
import HandS.IterNext
import HandS.IterVal
import KE.KOwnIter
import HandS.OwnIter
import HandS.Text
import HandS.Star
import HandS.Conv
import HandS.Sort
import KE.KDictList
import HandS.Small
import HandS.WordsDict
import HandS.Ends
import PySem.Challenge.RW_pieceround_k06_orders_told
set_option Elab.async false
set_option exponentiation.threshold 20000
set_option linter.all false
set_option maxHeartbeats 4000000
set_option maxRecDepth 100000
namespace My
open PySem PySem.Spec PyProof.Rows L2

theorem cmpBack_of {P : Value → Shared → Prop} {z : V} {w : Value} {s : Shared} (r : RelV z w) (h : P w s) : PySem.W.CmpBack P w s := by
  cases z with
  | non => cases r; exact h
  | bl _ => cases r; exact h
  | int _ => obtain ⟨t, rfl⟩ := r; exact h
  | str _ => obtain ⟨t, rfl⟩ := r; exact h
  | byt _ => obtain ⟨t, rfl⟩ := r; exact h
  | flt _ => obtain ⟨t, rfl⟩ := r; exact h
  | ref _ => cases r; exact h
  | ty _ => cases r; exact h

/-- the class at C has the def at f as its operator -/
structure OwnOp (K : PySem.W.Frag) (C : Addr) (op : Operator) (f : Addr) : Prop where
  sf : PySem.W.selfFirst K C = true
  at_ : PySem.W.findIn K (.ref C) (PySem.dunder op.info.2) = some (some (.ref f))
  fn : PySem.W.isFn K (.ref f) = true
  rr : PySem.W.findIn K (.ref C) (dunderR op.info.2) = some none
  i1 : ∃ fo, PySem.W.findIn K (.type "int") (PySem.dunder op.info.2) = some fo
  i2 : ∃ ro, PySem.W.findIn K (.type "int") (dunderR op.info.2) = some ro
  sub : PySem.W.subIn K (.type "int") (.ref C) = some false

/-- x op y, x an instance, y an instance or an int -/
def rOwn (C : Addr) (sp : Sp) (E : XK) : R2 := fun x y H Q => ∃ a dx fs, x = .ref a ∧ H a = some (.ins C dx fs) ∧ ((∃ i, y = .int i) ∨ ∃ b dy gs, y = .ref b ∧ H b = some (.ins C dy gs)) ∧ sp [.ref a, y] H Q E

section
variable {X : Cx} {CX : CXT} {k : Nat} {f C : Addr} {fd : FuncData} {ps : List Str} {sp : Sp} {E : XK} {op : Operator}
theorem op_own (W : OwnOp X.K C op f) (F : FnOk X.prog X.w X.K X.mg X.base CX k f fd ps sp) (hr : Room k X.A) (hb : Binds X.K fd ps []) (hx : Passes CX X E) : OpR X (binaryOp op) (rOwn C sp E) := by
  intro pins s σ H x y v u Q I rx ry hq
  obtain ⟨a, dx, fs, rfl, ea, hy, hsp⟩ := hq
  cases rx
  obtain ⟨mA, O, _⟩ := ins_get I.hok ea
  obtain ⟨od, J, _⟩ := O.look
  obtain ⟨m, hF⟩ := I.fr
  have hcall : wpAny (model X.prog X.w) X.A (call (.ref f) [.ref a, u]) (PySem.W.CmpBack (EP X pins σ Q)) X.xe s := by
    refine wpAny_mono (run_fn (us := [.ref a, u]) (vs := [.ref a, y]) (dvs := []) (ds := []) F hr hb .nil hx I (.cons rfl (.cons ry .nil)) hsp) (fun w s' hw => ?_) fun _ _ e => e
    obtain ⟨z, H', I', rz, q⟩ := hw
    exact cmpBack_of rz ⟨z, H', I', rz, q⟩
  rcases hy with ⟨i, rfl⟩ | ⟨b, dy, gs, rfl, eb⟩
  · obtain ⟨t, rfl⟩ := ry
    obtain ⟨fo, h1⟩ := W.i1
    obtain ⟨ro, h2⟩ := W.i2
    exact PySem.W.ksp_binT (T := "int") hF I.ok.mod.kin J (by rfl) W.sf W.at_ W.fn W.rr (.inl rfl) h1 h2 W.sub hcall
  · cases ry
    obtain ⟨mB, O', _⟩ := ins_get I.hok eb
    obtain ⟨od', J', _⟩ := O'.look
    exact PySem.W.binop_K hF I.ok.mod.kin J J'.type W.sf W.at_ W.fn hcall

/-- -x -/
def rOwnU (C : Addr) (sp : Sp) (E : XK) : V → Hp → VK → Prop := fun x H Q => ∃ a dx fs, x = .ref a ∧ H a = some (.ins C dx fs) ∧ sp [.ref a] H Q E
theorem un_ownNeg (hs : PySem.W.findIn X.K (.ref C) "__neg__" = some (some (.ref f))) (hf : PySem.W.isFn X.K (.ref f) = true) (F : FnOk X.prog X.w X.K X.mg X.base CX k f fd ps sp) (hr : Room k X.A) (hb : Binds X.K fd ps []) (hx : Passes CX X E) : UnR X (unaryOp .USub) (rOwnU C sp E) := by
  intro pins s σ H x v Q I rx hq
  obtain ⟨a, dx, fs, rfl, ea, hsp⟩ := hq
  cases rx
  obtain ⟨mA, O, _⟩ := ins_get I.hok ea
  obtain ⟨od, J, _⟩ := O.look
  obtain ⟨m, hF⟩ := I.fr
  exact PySem.W.ksp_neg hF I.ok.mod.kin J hs hf (run_fn (us := [.ref a]) (vs := [.ref a]) (dvs := []) (ds := []) F hr hb .nil hx I (.cons rfl .nil) hsp)

/-- x == y of two instances, by the class's own def, whatever the answer -/
def rOwnEq (C : Addr) (sp : Sp) (E : XK) : R2 := fun x y H Q => ∃ a dx fs b dy gs, x = .ref a ∧ H a = some (.ins C dx fs) ∧ y = .ref b ∧ H b = some (.ins C dy gs) ∧ sp [.ref a, .ref b] H Q E
theorem op_ownEq (hs : PySem.W.findIn X.K (.ref C) "__eq__" = some (some (.ref f))) (hf : PySem.W.isFn X.K (.ref f) = true) (F : FnOk X.prog X.w X.K X.mg X.base CX k f fd ps sp) (hr : Room k X.A) (hb : Binds X.K fd ps []) (hx : Passes CX X E) : OpR X (compareOp .Eq) (rOwnEq C sp E) := by
  intro pins s σ H x y v u Q I rx ry hq
  obtain ⟨a, dx, fs, b, dy, gs, rfl, ea, rfl, eb, hsp⟩ := hq
  cases rx
  cases ry
  obtain ⟨mA, O, _⟩ := ins_get I.hok ea
  obtain ⟨od, J, _⟩ := O.look
  obtain ⟨mB, O', _⟩ := ins_get I.hok eb
  obtain ⟨od', J', _⟩ := O'.look
  obtain ⟨m, hF⟩ := I.fr
  show wpAny (model X.prog X.w) X.A (richCompare .Eq (.ref a) (.ref b)) (EP X pins σ Q) X.xe s
  refine PySem.W.cmp_K (op := .Eq) (tb := .ref C) hr.units0 hF I.ok.mod.kin J J'.type (by simp [PySem.W.notFirst]) hs hf ?_
  refine wpAny_mono (run_fn (us := [.ref a, .ref b]) (vs := [.ref a, .ref b]) (dvs := []) (ds := []) F hr hb .nil hx I (.cons rfl (.cons rfl .nil)) hsp) (fun w s' hw => ?_) fun _ _ e => e
  obtain ⟨z, H', I', rz, q⟩ := hw
  exact cmpBack_of rz ⟨z, H', I', rz, q⟩
end

/-! ### math -/
theorem args_gcd3 (a b c : Value) : argsOk "math.gcd" ⟨[a, b, c], []⟩ := by unfold argsOk; kernel_rfl
theorem run_gcd3 (a : Int) (t : Tok) (b : Int) (u : Tok) (c : Int) (w : Tok) :
    Gives (Builtin.«math.gcd» ⟨[.int a t, .int b u, .int c w], []⟩) (.int ((((((Nat.gcd 0 a.natAbs).gcd b.natAbs).gcd c.natAbs) : Nat) : Int))) :=
  .of_wp fun M A E s Q h => by obtain ⟨hp, g, d, tk, os⟩ := s; wp_walk; exact ⟨_, rfl, h⟩
def rGcd3 : List V → Hp → VK → Prop := fun vs H Q => ∃ a b c : Int, vs = [.int a, .int b, .int c] ∧ Q (.int ((Nat.gcd (Nat.gcd a.natAbs b.natAbs) c.natAbs : Nat) : Int)) H
def rSqrt : List V → Hp → VK → Prop := fun vs H Q => ∃ a : Int, vs = [.int a] ∧ 0 ≤ a ∧ a.toNat < 2 ^ 13000 ∧ Q (.int ((Float64.isqrt a.toNat : Nat) : Int)) H
section
variable {X : Cx}
theorem cr_gcd3 : CallR X (.builtin "math.gcd") rGcd3 := by
  intro pins s σ H vs us Q I r h
  obtain ⟨a, b, c, rfl, q⟩ := h
  cases r with
  | cons r1 r => cases r with
    | cons r2 r => cases r with
      | cons r3 r =>
        cases r
        obtain ⟨t1, rfl⟩ := r1
        obtain ⟨t2, rfl⟩ := r2
        obtain ⟨t3, rfl⟩ := r3
        have g := run_gcd3 a t1 b t2 c t3
        rw [Nat.gcd_zero_left] at g
        exact call_function_meets PySem.W.MGF.kind_gcd PySem.W.MGF.plain_gcd PySem.W.MGF.entry_gcd (args_gcd3 _ _ _) g.meets ⟨.int _, H, I.tok _, ⟨_, rfl⟩, q⟩
theorem cr_isqrt : CallR X (.builtin "math.isqrt") rSqrt := by
  intro pins s σ H vs us Q I r h
  obtain ⟨a, rfl, h0, h1, q⟩ := h
  cases r with
  | cons r1 r =>
    cases r
    obtain ⟨t1, rfl⟩ := r1
    have hl : a.toNat.log2 < 13000 := PySem.Flt.log2_lt_of (by decide) h1
    have g := PySem.W.mg_run_isqrt a t1 (by omega) (by omega) (by omega)
    exact call_function_meets PySem.W.MGF.kind_isqrt PySem.W.MGF.plain_isqrt PySem.W.MGF.entry_isqrt (PySem.W.MGF.args_isqrt _) g.meets ⟨.int _, H, I.tok _, ⟨_, rfl⟩, q⟩
end

/-! ### repr of data -/
section
variable {X : Cx}
def rRepr (K : PySem.W.Frag) : List V → Hp → VK → Prop := fun vs H Q => ∃ v d, vs = [v] ∧ (∃ a, v = .ref a) ∧ Dp K H v d ∧ d.showable = true ∧ d.hasDict = false ∧ d.depth < 20 ∧ d.shown.length ≤ sizeLine ∧ Q (.str d.shown) H
theorem cr_repr {k : Nat} (hr : Room k X.A) (hg : X.A.guards = some []) : CallR X (.builtin "repr") (rRepr X.K) := by
  intro pins s σ H vs us Q I r h
  obtain ⟨v, d, rfl, ⟨a, rfl⟩, hd, hs, hn, hdp, hz, q⟩ := h
  cases r with
  | cons r1 r =>
    cases r
    cases r1
    obtain ⟨as, hrd⟩ := Dp.reads I d (.ref a) (.ref a) hd rfl
    refine repr_of_reads' hrd hs (fun z => by rw [hn] at z; cases z) hg (by have := hr.un; omega) (fun _ _ e => e) (fun h' u tk hk => ?_) hz
    exact ⟨.str d.shown, H, I.kept hk, ⟨_, rfl⟩, q⟩
end
end My
namespace My
open PySem PySem.Spec PyProof.Rows L2

/-! ### a def's promise where no builtin's repr is under way -/
structure FnG (P : Program) (w : World) (K : PySem.W.Frag) (mg : Str → Option Value) (base : Heap) (CX : CXT) (k : Nat) (f : Addr) (fd : FuncData) (ps : List Str) (sp : Sp) : Prop where
  size : ∀ vs H Q E, sp vs H Q E → vs.length = ps.length
  go : ∀ (A : Around) (outer : List Env) (s : Shared) (H : Hp) (args : Args) (us : List Value) (vs : List V) (Q : VK) (E : XK), A.guards = some [] → Room k A → Env0 P w K mg base A outer s H → BindsTo s fd args (ps.zip us) → Vals vs us → sp vs H Q E →
    codeAny (model P w) A (.call (.ref f) args) (CR CX outer P w H s Q E) s
theorem FnG.mono {P : Program} {w : World} {K : PySem.W.Frag} {mg : Str → Option Value} {base : Heap} {CX : CXT} {j k : Nat} {f : Addr} {fd : FuncData} {ps : List Str} {sp : Sp} (F : FnG P w K mg base CX j f fd ps sp) (h : j ≤ k) : FnG P w K mg base CX k f fd ps sp :=
  ⟨F.size, fun A outer s H args us vs Q E g hr => F.go A outer s H args us vs Q E g (hr.mono h)⟩
section
variable {P : Program} {w : World} {K : PySem.W.Frag} {mg : Str → Option Value} {base : Heap}
theorem okG {x qual : Str} {st : Stmt} {f : Addr} {fd : FuncData} {N ps : List Str} {k : Nat} {sp : Sp} (F : Fun K x qual st f fd) (S : FnScope N ps (defScope st)) (len : ∀ vs H Q E, sp vs H Q E → vs.length = ps.length)
    (hbody : ∀ (cdv : Value) (A : Around) (outer : List Env) (s : Shared) (H : Hp) (vs : List V) (Q : VK) (E : XK), (A.deeper (envOfC qual (defScope st) s.heap.objs.size f cdv)).guards = some [] → Room k (A.deeper (envOfC qual (defScope st) s.heap.objs.size f cdv)) → sp vs H Q E →
      ∃ t, PSs (cxOf CX0 P w K mg base N qual (defScope st) f cdv A outer s H E).nox (defBody st) t ∧ t { nx := fun _ H' => Q .non H', rt := Q } (start N vs) H) : FnG P w K mg base CX0 (k + 1) f fd ps sp := by
  obtain ⟨oc, od, kV, doc, pm, an, cdv, ct, osl, e1, lk, hcd⟩ := F.ex
  subst e1
  refine ⟨len, fun A outer s H args us vs Q E g hr e0 hb r hsp => LamX.run_ofS lk hcd S hr e0 hb r (len _ _ _ _ hsp) fun hr' => ?_⟩
  obtain ⟨t, h, q⟩ := hbody cdv A outer s H vs Q E g hr' hsp
  exact ⟨t, h.nox, q⟩
end
section
variable {X : Cx} {CX : CXT} {k : Nat} {f : Addr} {fd : FuncData} {ps : List Str} {sp : Sp} {E : XK} {x : Str} {p pos : Pos} {e : Expr} {es : List Expr} {t : TA}
theorem callG (F : FnG X.prog X.w X.K X.mg X.base CX k f fd ps sp) (g : X.A.guards = some []) (hr : Room k X.A) (hg : Gl X x) (hm : X.mg x = some (.ref f)) (hk : PySem.W.keepIn X.K (.ref f) = true) (hb : Binds X.K fd ps []) (hx : Passes CX X E)
    (ha : PA X (e :: es) t) (hdb : (x == ("__debug__" : Str)) = false := by decide) (he : starEach (e :: es) X.env = (false, eval e X.env) :: starEach es X.env := by rfl) (hpl : (backTo pos (starEach es X.env)).any (·.1) = false := by rfl) :
    PE X (.Call (.Name x p) (e :: es) [] pos) (tCall sp [] E t) := by
  refine ⟨fun pins s σ H Q I h => wpAny_Call_Name_kw (ld_glob I hg hm (PySem.W.callWith_K (h₀ := X.base) I.ok.mod.kin hk (thn (ha.run pos pins s σ H _ I h) fun us s1 hh => ?_) he hpl) hdb)⟩
  obtain ⟨vs, H1, I1, r, q⟩ := hh
  refine ⟨I1.kIn, ?_⟩
  have q0 : sp vs H1 Q E := by
    have z := q
    rw [List.append_nil] at z
    exact z
  have hl : us.length = ps.length := by rw [← r.length]; exact F.size _ _ _ _ q0
  have bd : BindsTo s1 fd ⟨us, []⟩ (ps.zip us) := by
    have z := hb s1 us I1.kIn (by rw [List.append_nil]; exact hl)
    rw [List.append_nil] at z
    exact z
  refine wpAny_call (codeAny_mono (F.go X.A X.stack s1 H1 ⟨us, []⟩ us vs Q E g hr I1.env0 bd r q0) fun r2 s2 hq => ?_)
  match r2, hq with
  | .error er, hq => exact hx pins σ H1 s1 er s2 I1 hq
  | .ok (.ret u), hq => exact I1.after hq
end
/-- the law's own head, from such a promise -/
theorem lawG {P : Program} {w : World} {K : PySem.W.Frag} {mg mb : Str → Option Value} {k : Nat} {fa a : Addr} {fd : FuncData} {x : Str} {sp : Sp} {z : Shared} {vs : List Value} {ns : List Int}
    (KX : K.In z.heap) (hns : z.heap.Ns mainGlobals mg) (hb : z.heap.Ns builtinsNs mb) (hbb : ∀ x : Str, x ≠ "__name__" → mb x = bootBuiltins x) (hlim : z.heap.NoLimit) (hg : z.gens = #[])
    (ha : z.heap.get? a = some { cls := .type "list", data := .seq vs.toArray }) (hi : IntsAre vs ns) (hl : ns.length ≤ sizeLine) (hr : Room k callerA)
    (F : ∀ base : Heap, K.In base → base.Ns mainGlobals mg → FnG P w K mg base CX0 k fa fd [x] sp) (hbind : ∀ (s : Shared) (u : Value), BindsTo s fd ⟨[u], []⟩ [(x, u)])
    (hsp : ∀ H : Hp, Only H → SqL K H a (ns.map V.int) → sp [.ref a] H (fun v _ => v = .bl true) fun _ _ _ => False) :
    codeAny (model P w) callerA (.call (.ref fa) ⟨[.ref a], []⟩) (fun r s' => r = .ok (.ret (.bool true)) ∧ OldK z.heap s'.heap ∧ s'.os = z.os ∧ AllBare s'.gens) z := by
  have run : ∀ H : Hp, Only H → SqL K H a (ns.map V.int) → HOk P w H z.heap → (∀ b, H b ≠ none → b = a ∧ K.lookup a = none) →
      codeAny (model P w) callerA (.call (.ref fa) ⟨[.ref a], []⟩) (fun r s' => r = .ok (.ret (.bool true)) ∧ OldK z.heap s'.heap ∧ s'.os = z.os ∧ AllBare s'.gens) z := by
    intro H hO hS hok hA
    have free : ∀ {b : Addr}, b ≠ a → H b = none := fun {b} hb => Classical.byContradiction fun q => hb (hA b q).1
    have nsOk : ∀ {b : Addr} {m : Str → Option Value}, z.heap.Ns b m → (hidT z.heap H).Ns b m := fun {b m} hn => by
      obtain ⟨o, es, ep, e, d, r⟩ := hn
      refine ⟨o, es, ep, hidT_get e (free fun q => ?_), d, r⟩
      rw [q, ha] at e
      have d2 : Data.seq vs.toArray = Data.dict es ep := by
        rw [← d, ← Option.some.inj e]
      cases d2
    have kin : K.In (hidT z.heap H) := fun b o e => hidT_get (KX b o e) (Classical.byContradiction fun q => by
      obtain ⟨e1, e2⟩ := hA b q
      rw [e1, e2] at e
      cases e)
    have md : Mod K mg (hidT z.heap H) := ⟨kin, nsOk hns, ⟨mb, nsOk hb, hbb⟩, let ⟨mc, h1, h2⟩ := hlim; ⟨mc, nsOk h1, h2⟩⟩
    have en : Env0 P w K mg (hidT z.heap H) callerA [] z H := ⟨rfl, md, fun b o e => of_hidT e, Nat.le_of_eq (hidT_size _ _), trivial, fun b hb => absurd hb List.not_mem_nil, hok, .of_eq hg⟩
    have fin := (F _ kin (nsOk hns)).go callerA [] z H ⟨[.ref a], []⟩ [.ref a] [.ref a] _ _ rfl hr en (hbind z (.ref a)) (.cons rfl .nil) (hsp H hO hS)
    refine codeAny_mono fin fun r s' h => ?_
    match r, h with
    | .error e, h => exact absurd h id
    | .ok (.ret u), h =>
      obtain ⟨v, H', os, bare, un, hok', r', q⟩ := h
      have q' : v = .bl true := q
      rw [q'] at r'
      have ru : u = Value.bool true := r'
      refine ⟨by rw [ru], OldK.of_keep fun b o e => ?_, os, bare⟩
      rcases hO b with y | ⟨ob, xs, y⟩
      · exact un.keep b o e y List.not_mem_nil List.not_mem_nil
      · obtain ⟨e2, _⟩ := hok' b _ (un.frzs b ob _ y)
        obtain ⟨e1, _⟩ := hok b _ y
        rw [e] at e1
        rw [Option.some.inj e1]
        exact e2
  have rv := vals_ints hi
  by_cases hk : K.lookup a = none
  · refine run (fun b => if b = a then some (.frz { cls := .type "list", data := .seq vs.toArray } (.lst (ns.map V.int))) else none) (fun b => ?_) (.inl (.inr ⟨_, if_pos rfl⟩)) (fun b u y => ?_) fun b y => ?_
    · by_cases hb : b = a
      · exact .inr ⟨_, _, if_pos hb⟩
      · exact .inl (if_neg hb)
    · by_cases q : b = a
      · rw [q] at y ⊢
        have y2 := (if_pos rfl).symm.trans y
        rw [← Option.some.inj y2]
        exact ⟨ha, by rw [List.length_map]; exact hl, vs, _, rv, ha⟩
      · cases (if_neg q).symm.trans y
    · by_cases q : b = a
      · exact ⟨q, hk⟩
      · exact absurd (if_neg q) y
  · obtain ⟨o, ho⟩ := Option.ne_none_iff_exists'.mp hk
    have e := KX a o ho
    rw [ha] at e
    cases e
    exact run (fun _ => none) (fun _ => .inl rfl) (.inr ⟨_, vs.toArray, _, ho, rfl, rfl, rfl, by rw [List.size_toArray, hi.length]; exact hl, by simpa using rv⟩) (fun b u y => nomatch y) fun b y => absurd rfl y
theorem walkG {l : PySem.W.OpenLaw} {n k : Nat} {q : Program} {loose : List Str} {XP : (Str → Option Value) → Heap → Prop} {YP : World → Heap → Prop} {d : DefRec} {K : Params → PySem.W.Frag} {sp : PySem.W.Frag → Sp} {x : Str}
    (hn : l.most = some n) (hn2 : n ≤ sizeLine) (hdf : d.params.defaults = []) (hr : Room k callerA)
    (hY : ∀ (w : World) (h : Heap), YP w h → (K w.params).In h)
    (F : ∀ (w : World) (mg : Str → Option Value) (fa : Addr) (h : Heap), (K w.params).In h → h.Ns mainGlobals mg → mg d.name = some (.ref fa) →
      ∃ fd : FuncData, (∀ (s : Shared) (u : Value), BindsTo s fd ⟨[u], []⟩ [(x, u)]) ∧ ∀ base : Heap, (K w.params).In base → base.Ns mainGlobals mg → FnG l.prog w (K w.params) mg base CX0 k fa fd [x] (sp (K w.params)))
    (hsp : ∀ (K : PySem.W.Frag) (H : Hp) (a : Addr) (ns : List Int), ns.length ≤ n → Only H → SqL K H a (ns.map V.int) → sp K [.ref a] H (fun v _ => v = .bl true) fun _ _ _ => False) :
    PySem.W.WalkO q loose XP YP l.row.toRowW d [] (fun f vs => PySem.call f vs) := by
  refine Att.attach_call hn hdf fun w s₀ z mg mb fa o pm cd doc a vs ns G Y ho hd hcd hmg hobj hints hlen hg => ?_
  have KX := hY w _ Y
  have ⟨fd, hb, hF⟩ := F w mg fa _ KX G.T.g hmg
  exact lawG KX G.T.g G.T.b G.T.builtins G.T.nolimit hg hobj hints (Nat.le_trans hlen hn2) hr hF hb fun H hO hS => hsp (K w.params) H a ns hlen hO hS

/-! ### a list of three ints that is told by its kind alone: the dice -/
def DiceO (a : Addr) : HO := .ext fun h => ∃ (l s c : Int) (t1 t2 t3 : Tok) (n : Nat), h.get? a = some { cls := .type "list", data := .seq #[.int l t1, .int s t2, .int c t3] n }
def d3 (l s c : Int) : HO := .lst [.int l, .int s, .int c]
section
variable {X : Cx} {pins : List (Addr × Obj)} {σ : L2.St} {H : Hp} {s : Shared} {a : Addr} {o : HO}
theorem recast (I : Inv X pins σ H s) (hm : Mut (H a)) (ex : ∃ u, s.heap.get? a = some u) (new : ObjOk X.prog X.w (upd H a o) s.heap a o) : Inv X pins σ (upd H a o) s := by
  obtain ⟨hp, g, d, t, os⟩ := s
  exact I.write (h' := hp) (t' := t) (x := a) (e := a) hm (.inl rfl) (fun _ _ _ e => e) ex new
theorem dice_ok {P : Program} {w : World} {H : Hp} {h : Heap} {l s c : Int} {t1 t2 t3 : Tok} {n : Nat} (e : h.get? a = some { cls := .type "list", data := .seq #[.int l t1, .int s t2, .int c t3] n }) : ObjOk P w H h a (DiceO a) :=
  ⟨⟨l, s, c, t1, t2, t3, n, e⟩, ⟨_, e⟩, fun h1 h2 ⟨l, s, c, t1, t2, t3, n, q⟩ k => ⟨l, s, c, t1, t2, t3, n, k _ q⟩⟩
theorem dice_open (I : Inv X pins σ H s) (e : H a = some (DiceO a)) : ∃ l z c, Inv X pins σ (upd H a (d3 l z c)) s := by
  have x : ObjOk X.prog X.w H s.heap a (.ext fun h => ∃ (l s c : Int) (t1 t2 t3 : Tok) (n : Nat), h.get? a = some { cls := .type "list", data := .seq #[.int l t1, .int s t2, .int c t3] n }) := I.hok a _ e
  obtain ⟨l, z, c, t1, t2, t3, n, q⟩ := x.1
  exact ⟨l, z, c, recast I (by rw [e]; exact True.intro) ⟨_, q⟩ ⟨by show 3 ≤ sizeLine; decide, [.int l t1, .int z t2, .int c t3], n, .cons ⟨_, rfl⟩ (.cons ⟨_, rfl⟩ (.cons ⟨_, rfl⟩ .nil)), q⟩⟩
theorem dice_close {l z c : Int} (I : Inv X pins σ H s) (e : H a = some (d3 l z c)) : Inv X pins σ (upd H a (DiceO a)) s := by
  obtain ⟨_, its, n, r, q⟩ := (show ObjOk X.prog X.w H s.heap a (.lst [.int l, .int z, .int c]) from I.hok a _ e)
  refine recast I (by rw [e]; exact True.intro) ⟨_, q⟩ ?_
  cases r with
  | cons r1 r => cases r with
    | cons r2 r => cases r with
      | cons r3 r =>
        cases r
        obtain ⟨t1, rfl⟩ := r1
        obtain ⟨t2, rfl⟩ := r2
        obtain ⟨t3, rfl⟩ := r3
        exact dice_ok q
end
/-- the body may see the dice (the slot i) as a list; it leaves them as dice -/
def tDice (i : Nat) (t : TS) : TS := fun D σ H => ∃ a, σ[i]? = some (some (.ref a)) ∧ H a = some (DiceO a) ∧ ∀ l z c, t
  { nx := fun σ' H' => (∃ l z c, H' a = some (d3 l z c)) ∧ D.nx σ' (upd H' a (DiceO a)), rt := fun v H' => (∃ l z c, H' a = some (d3 l z c)) ∧ D.rt v (upd H' a (DiceO a)),
    bk := fun σ' H' => (∃ l z c, H' a = some (d3 l z c)) ∧ D.bk σ' (upd H' a (DiceO a)), ct := fun σ' H' => (∃ l z c, H' a = some (d3 l z c)) ∧ D.ct σ' (upd H' a (DiceO a)) } σ (upd H a (d3 l z c))
theorem pss_dice {X : Cx} {i : Nat} {body : List Stmt} {t : TS} (h : PSs X body t) : PSs X body (tDice i t) := by
  refine ⟨fun pins s σ H D I hq => ?_⟩
  obtain ⟨a, _, e, q⟩ := hq
  obtain ⟨l, z, c, I1⟩ := dice_open I e
  refine wpAny_mono (h.run pins s σ _ _ I1 (q l z c)) (fun f s' hs => ?_) fun _ _ e => e
  match f, hs with
  | .next, hs => obtain ⟨σ', H', J, ⟨l, z, c, e⟩, w⟩ := hs; exact ⟨σ', _, dice_close J e, w⟩
  | .brk, hs => obtain ⟨σ', H', J, ⟨l, z, c, e⟩, w⟩ := hs; exact ⟨σ', _, dice_close J e, w⟩
  | .cont, hs => obtain ⟨σ', H', J, ⟨l, z, c, e⟩, w⟩ := hs; exact ⟨σ', _, dice_close J e, w⟩
  | .ret u, hs => obtain ⟨v, σ', H', J, r, ⟨l, z, c, e⟩, w⟩ := hs; exact ⟨v, σ', _, dice_close J e, r, w⟩
/-- the body hands back new dice -/
def tDiced (t : TS) : TS := fun D σ H => t { nx := D.nx, rt := fun v H' => ∃ a l z c, v = .ref a ∧ H' a = some (d3 l z c) ∧ D.rt v (upd H' a (DiceO a)), bk := D.bk, ct := D.ct } σ H
theorem pss_diced {X : Cx} {body : List Stmt} {t : TS} (h : PSs X body t) : PSs X body (tDiced t) := by
  refine ⟨fun pins s σ H D I hq => wpAny_mono (h.run pins s σ H _ I hq) (fun f s' hs => ?_) fun _ _ e => e⟩
  match f, hs with
  | .next, hs => exact hs
  | .brk, hs => exact hs
  | .cont, hs => exact hs
  | .ret u, hs => obtain ⟨v, σ', H', J, r, a, l, z, c, ev, e, w⟩ := hs; exact ⟨v, σ', _, dice_close J e, r, w⟩
end My
namespace My
open PySem PySem.Spec PyProof.Rows L2

/-- a def of the module, by its name, with its promise -/
structure FnAt (P : Program) (w : World) (K : PySem.W.Frag) (mg : Str → Option Value) (base : Heap) (k : Nat) (x : Str) (ps : List Str) (sp : Sp) : Prop where
  ex : ∃ (f : Addr) (fd : FuncData), mg x = some (.ref f) ∧ PySem.W.keepIn K (.ref f) = true ∧ Binds K fd ps [] ∧ FnOk P w K mg base CX0 k f fd ps sp
structure FgAt (P : Program) (w : World) (K : PySem.W.Frag) (mg : Str → Option Value) (base : Heap) (k : Nat) (x : Str) (ps : List Str) (sp : Sp) : Prop where
  ex : ∃ (f : Addr) (fd : FuncData), mg x = some (.ref f) ∧ PySem.W.keepIn K (.ref f) = true ∧ Binds K fd ps [] ∧ FnG P w K mg base CX0 k f fd ps sp
/-- a def of the module, by its name, with its text -/
structure DefAt (K : PySem.W.Frag) (mg : Str → Option Value) (x : Str) (st : Stmt) : Prop where
  ex : ∃ (f : Addr) (fd : FuncData), mg x = some (.ref f) ∧ Fun K x x st f fd
section
variable {X : Cx} {k j : Nat} {ps : List Str} {sp : Sp} {x : Str} {p pos : Pos} {e : Expr} {es : List Expr} {t : TA}
theorem callA (F : FnAt X.prog X.w X.K X.mg X.base k x ps sp) (hr : Room k X.A) (hg : Gl X x) (ha : PA X (e :: es) t) (hdb : (x == ("__debug__" : Str)) = false := by decide)
    (he : starEach (e :: es) X.env = (false, eval e X.env) :: starEach es X.env := by rfl) (hpl : (backTo pos (starEach es X.env)).any (·.1) = false := by rfl) : PE X (.Call (.Name x p) (e :: es) [] pos) (tCall sp [] E0 t) := by
  obtain ⟨f, fd, hm, hk, hb, G⟩ := F.ex
  exact pe_call G hr hg hm hk hb .nil pass0 ha hdb he hpl
theorem callB (F : FgAt X.prog X.w X.K X.mg X.base k x ps sp) (gd : X.A.guards = some []) (hr : Room k X.A) (hg : Gl X x) (ha : PA X (e :: es) t) (hdb : (x == ("__debug__" : Str)) = false := by decide)
    (he : starEach (e :: es) X.env = (false, eval e X.env) :: starEach es X.env := by rfl) (hpl : (backTo pos (starEach es X.env)).any (·.1) = false := by rfl) : PE X (.Call (.Name x p) (e :: es) [] pos) (tCall sp [] E0 t) := by
  obtain ⟨f, fd, hm, hk, hb, G⟩ := F.ex
  exact callG G gd hr hg hm hk hb pass0 ha hdb he hpl
end
section
variable {P : Program} {w : World} {K : PySem.W.Frag} {mg : Str → Option Value} {base : Heap}
theorem fnAt {x : Str} {st : Stmt} {N ps : List Str} {k : Nat} {sp : Sp} (D : DefAt K mg x st) (S : FnScope N ps (defScope st))
    (hbind : ∀ (kV doc pm : Value) (an : Option Addr) (cdv ct : Value) (us : List Value), us.length = ps.length → bindArgs (PySem.W.fnOf x x (defArgs st) (defBody st) (defScope st) .none kV doc pm an cdv ct) ⟨us, []⟩ = pure (ps.zip us))
    (len : ∀ vs H Q E, sp vs H Q E → vs.length = ps.length)
    (hbody : ∀ (f : Addr) (cdv : Value) (A : Around) (outer : List Env) (s : Shared) (H : Hp) (vs : List V) (Q : VK) (E : XK), Room k (A.deeper (envOfC x (defScope st) s.heap.objs.size f cdv)) → sp vs H Q E →
      ∃ t, PSs (cxOf CX0 P w K mg base N x (defScope st) f cdv A outer s H E).nox (defBody st) t ∧ t { nx := fun _ H' => Q .non H', rt := Q } (start N vs) H) : FnAt P w K mg base (k + 1) x ps sp := by
  obtain ⟨f, fd, hm, F⟩ := D.ex
  exact ⟨f, fd, hm, F.kp, F.binds hbind, F.ok S len fun cdv A outer s H vs Q E hr h => hbody f cdv A outer s H vs Q E hr h⟩
theorem fgAt {x : Str} {st : Stmt} {N ps : List Str} {k : Nat} {sp : Sp} (D : DefAt K mg x st) (S : FnScope N ps (defScope st))
    (hbind : ∀ (kV doc pm : Value) (an : Option Addr) (cdv ct : Value) (us : List Value), us.length = ps.length → bindArgs (PySem.W.fnOf x x (defArgs st) (defBody st) (defScope st) .none kV doc pm an cdv ct) ⟨us, []⟩ = pure (ps.zip us))
    (len : ∀ vs H Q E, sp vs H Q E → vs.length = ps.length)
    (hbody : ∀ (f : Addr) (cdv : Value) (A : Around) (outer : List Env) (s : Shared) (H : Hp) (vs : List V) (Q : VK) (E : XK), (A.deeper (envOfC x (defScope st) s.heap.objs.size f cdv)).guards = some [] → Room k (A.deeper (envOfC x (defScope st) s.heap.objs.size f cdv)) → sp vs H Q E →
      ∃ t, PSs (cxOf CX0 P w K mg base N x (defScope st) f cdv A outer s H E).nox (defBody st) t ∧ t { nx := fun _ H' => Q .non H', rt := Q } (start N vs) H) : FgAt P w K mg base (k + 1) x ps sp := by
  obtain ⟨f, fd, hm, F⟩ := D.ex
  exact ⟨f, fd, hm, F.kp, F.binds hbind, okG F S len fun cdv A outer s H vs Q E gd hr h => hbody f cdv A outer s H vs Q E gd hr h⟩
end
/-- the built-in names that are free -/
structure Bn (mg : Str → Option Value) : Prop where
  b_len : mg "len" = none
  b_int : mg "int" = none
  b_bool : mg "bool" = none
  b_str : mg "str" = none
  b_list : mg "list" = none
  b_tuple : mg "tuple" = none
  b_max : mg "max" = none
  b_abs : mg "abs" = none
  b_min : mg "min" = none
  b_range : mg "range" = none
  b_repr : mg "repr" = none
  b_isinstance : mg "isinstance" = none
  b_all : mg "all" = none
  b_set : mg "set" = none
  b_sum : mg "sum" = none
  b_any : mg "any" = none
  b_sorted : mg "sorted" = none
  b_zip : mg "zip" = none
  b_enumerate : mg "enumerate" = none
  b_dict : mg "dict" = none
  b_reversed : mg "reversed" = none
  b_divmod : mg "divmod" = none
  b_ord : mg "ord" = none
theorem hu64 {A : Around} {k : Nat} (hr : Room k A) : A.units + 64 < cLine := hr.units

/-! ### whole numbers of any size, divided by any divisor but 0 of at most 9000 bits -/
def CDivX (_ j : Int) : Prop := j ≠ 0 ∧ j.natAbs.log2 < 9000
section
variable {X : Cx}
theorem op_fdivX : OpR X (binaryOp .FloorDiv) (rI CDivX fun i j => .int (i.fdiv j)) := opI fun i j _ _ _ _ _ hc q => floordiv_int hc.1 q (.inl (PyProof.noPylong_of_log2 hc.2))
end
/-- at most n bits -/
def Sz (n : Nat) (i : Int) : Prop := i.natAbs < 2 ^ n
theorem Sz.mono {n m : Nat} {i : Int} (h : Sz n i) (l : n ≤ m) : Sz m i := Nat.lt_of_lt_of_le h (Nat.pow_le_pow_right (by decide) l)
theorem Sz.mul {n m : Nat} {i j : Int} (h : Sz n i) (g : Sz m j) : Sz (n + m) (i * j) := wide_lt h g
theorem Sz.neg {n : Nat} {i : Int} (h : Sz n i) : Sz n (-i) := by unfold Sz; rw [Int.natAbs_neg]; exact h
theorem Sz.add {n : Nat} {i j : Int} (h : Sz n i) (g : Sz n j) : Sz (n + 1) (i + j) := by
  unfold Sz at *
  have e : 2 ^ (n + 1) = 2 ^ n + 2 ^ n := by rw [Nat.pow_succ]; omega
  have := Int.natAbs_add_le i j
  omega
theorem Sz.sub {n : Nat} {i j : Int} (h : Sz n i) (g : Sz n j) : Sz (n + 1) (i - j) := by
  rw [Int.sub_eq_add_neg]
  exact h.add g.neg
theorem Sz.ofLt {n : Nat} {i b : Int} (h : i.natAbs ≤ b.natAbs) (g : Sz n b) : Sz n i := Nat.lt_of_le_of_lt h g
theorem Sz.log {n : Nat} {i : Int} (h : Sz n i) (h0 : 0 < n) : i.natAbs.log2 < n := PySem.Flt.log2_lt_of h0 h
theorem Sz.cmul {n m : Nat} {i j : Int} (h : Sz n i) (g : Sz m j) (hn : 0 < n) (hm : 0 < m) (l : n + m ≤ 1000000) : CMulW i j := wide_mul h g hn hm l
theorem Sz.cdiv {n : Nat} {i j : Int} (h0 : j ≠ 0) (h : Sz n j) (hn : 0 < n) (l : n ≤ 9000) : CDivX i j := ⟨h0, Nat.lt_of_lt_of_le (h.log hn) l⟩
/-- a number of the law's own head -/
theorem ext_refl (H : Hp) : Ext H H := fun _ _ h => h
theorem ext_new {H H1 : Hp} {p : Addr} {o : HO} (e : Ext H H1) (h : H1 p = none) : Ext H (upd H1 p o) := Ext.upd' e h
theorem ext_none {H H1 : Hp} {p : Addr} (e : Ext H H1) (h : H1 p = none) : H p = none := by
  cases q : H p with
  | none => rfl
  | some o => rw [e p o q] at h; cases h
/-- a new object changed: what stood before stands -/
theorem ext_mut {H H1 : Hp} {p : Addr} {o : HO} (e : Ext H H1) (h : H p = none) : Ext H (upd H1 p o) := fun a u q => by
  rw [upd_ne (ne_of_none q h)]
  exact e a u q
end My
namespace My
open PySem PySem.Spec PyProof.Rows L2
theorem len_ok {n : Nat} (h : n ≤ 1000) : n ≤ sizeLine := Nat.le_trans h (by decide)
theorem len_lt {n : Nat} (h : n ≤ 1000) : n < sizeLine := Nat.lt_of_le_of_lt h (by decide)
end My
namespace My
open PySem PySem.Spec PyProof.Rows L2
def top (i : Nat) : Stmt := PySem.Challenge.pw_pieceround_k06_orders_told.main.body.getD i (.Pass ⟨0, 0, 0, 0⟩)
abbrev s_dice : Stmt := top 18
abbrev s_roll : Stmt := top 19

local macro_rules | `(tactic| walk_at "side") => `(tactic| first | assumption | decide | exact Or.inl ⟨by decide, by decide⟩ | exact Or.inr ⟨by decide, by decide⟩ | exact ⟨by decide, by decide, by decide⟩ | omega | (unfold CMulW; decide +kernel) | (dsimp only; first | assumption | omega | decide +kernel) | exact len_ok (Nat.le_of_ble_eq_true rfl) | fail "side")
local macro_rules | `(tactic| walk_at "rd") => `(tactic| first
  | refine ⟨_, _, _, _, rfl, rfl, SqL.of upd_same, atI_nat (j := 0) rfl, ?_⟩ | refine ⟨_, _, _, _, rfl, rfl, SqL.of upd_same, atI_nat (j := 1) rfl, ?_⟩ | refine ⟨_, _, _, _, rfl, rfl, SqL.of upd_same, atI_nat (j := 2) rfl, ?_⟩
  | refine ⟨_, _, _, _, rfl, rfl, upd_same, rfl, ?_⟩
  | refine ⟨_, _, rfl, rfl, ?_⟩ | refine ⟨_, rfl, ?_⟩ | refine ⟨_, _, rfl, ?_⟩ | refine Or.inl ⟨_, rfl, ?_⟩ | refine Or.inr ⟨_, rfl, ?_⟩ | refine ⟨(by walk_at "side"), ?_⟩ | fail "rd")
def spDice (K : PySem.W.Frag) : Sp := fun vs H Q _ => ∃ (a : Addr) (i : Int) (ns : List Int), vs = [.ref a, .int i] ∧ SqL K H a (ns.map V.int) ∧ 0 ≤ i ∧ i < 1000 ∧
  ∀ p H', H p = none → Ext H H' → H' p = some (DiceO p) → Q (.ref p) H'
def spRoll : Sp := fun vs H Q _ => ∃ (a : Addr) (n : Int), vs = [.ref a, .int n] ∧ H a = some (DiceO a) ∧ 0 < n ∧ Sz 9000 n ∧ ∀ r : Int, 0 ≤ r → r < n → Q (.int r) H

section
variable {P : Program} {w : World} {K : PySem.W.Frag} {mg : Str → Option Value} {base : Heap}
theorem sc_dice : FnScope ["_law_script", "_law_spot", "_law_cell", "_law_left"] ["_law_script", "_law_spot"] (defScope s_dice) := ⟨rfl, rfl, rfl, by decide +kernel, rfl, by decide +kernel, by decide +kernel⟩
theorem ok_dice (T : Bn mg) (D : DefAt K mg "_law_dice" s_dice) : FnAt P w K mg base 1 "_law_dice" ["_law_script", "_law_spot"] (spDice K) := by
  refine fnAt D sc_dice (fun _ _ _ _ _ _ us hl => match us, hl with | [_, _], _ => rfl) (fun vs H Q E h => ?_) fun f cdv A outer s H vs Q E hr h => ?_
  · obtain ⟨a, i, ns, rfl, _⟩ := h
    rfl
  obtain ⟨a, i, ns, rfl, hS, h0, h1, k⟩ := h
  refine ⟨_, pss_diced (pss_cons (ps_set (i := 2) sc_dice.nd rfl (Or.inl rfl) (pe_ifExp (pt_cmpR op_lt (pv 1) (pe_callB call_len_seq (by rfl) T.b_len (by decide +kernel) (pa_cons (pv 0) pa_nil)) (nomark _)) (pe_callTy call_int1 (by rfl) T.b_int (by decide +kernel) (pa_cons (pe_ix ix_list (pv 0) (pv 1) (fun _ _ => rfl)) pa_nil)) (pe_op op_add (pe_op op_mul pe_int (pv 1)) pe_int)))
    (pss_cons (ps_set (i := 3) sc_dice.nd rfl (Or.inl rfl) (pe_op op_modN (pe_callB (call_max2 rfl) (by rfl) T.b_max (by decide +kernel) (pa_cons pe_int (pa_cons (pe_op op_sub (pe_callB call_abs (by rfl) T.b_abs (by decide +kernel) (pa_cons (pv 2) pa_nil)) (pe_op op_pow pe_int pe_int)) pa_nil))) (pe_op op_mulW (pe_op op_pow pe_int pe_int) (pe_op op_pow pe_int pe_int))))
    (pss_one (ps_ret (pe_lst (pa_cons (pv 3) (pa_cons (pe_op op_add (pe_op op_add (pe_op op_add (pe_op op_mul (pe_op op_modN (pe_callB call_abs (by rfl) T.b_abs (by decide +kernel) (pa_cons (pv 2) pa_nil)) pe_int) pe_int) (pe_op op_mul pe_int (pv 1))) (pe_op op_mul pe_int (pe_callTy call_int1 (by rfl) T.b_int (by decide +kernel) (pa_cons (pe_cmpR op_lt (pv 2) pe_int (nomark _)) pa_nil)))) pe_int) (pa_cons pe_int pa_nil)))))))), ?_⟩
  refine ⟨_, rfl, _, rfl, a, _, rfl, .inl hS, _, _, rfl, rfl, _, rfl, ite2 (fun hlt => ?a) (fun hge => ?b)⟩
  case' a =>
    have hj : i < (ns.length : Int) := by
      have z := of_decide_eq_true hlt
      rw [List.length_map] at z
      exact z
    obtain ⟨j, rfl⟩ : ∃ j : Nat, i = (j : Int) := ⟨i.toNat, by omega⟩
    obtain ⟨c, hc⟩ : ∃ c, ns[j]? = some c := ⟨ns[j], List.getElem?_eq_getElem (by omega)⟩
    refine ⟨_, rfl, _, rfl, a, _, _, V.int c, rfl, rfl, hS, atI_nat (by rw [List.getElem?_map, hc]; rfl), .inl ⟨_, rfl, ?_⟩⟩
  case' b => 
    repeat' (walk_at "rd")
  all_goals
    repeat' (walk_at "rd")
    intro p hp
    exact ⟨p, _, _, _, rfl, upd_same, k p _ hp (ext_mut (ext_new (ext_refl H) hp) hp) upd_same⟩

theorem fmod_in {i n : Int} (h : 0 < n) : 0 ≤ i.fmod n ∧ i.fmod n < n := by
  rw [Int.fmod_eq_emod_of_nonneg _ (by omega)]
  exact ⟨Int.emod_nonneg _ (by omega), Int.emod_lt_of_pos _ h⟩
theorem sc_roll : FnScope ["_law_dice_here", "_law_total", "_law_found", "_law_one", "_law_two"] ["_law_dice_here", "_law_total"] (defScope s_roll) := ⟨rfl, rfl, rfl, by decide +kernel, rfl, by decide +kernel, by decide +kernel⟩
theorem ok_roll (T : Bn mg) (D : DefAt K mg "_law_roll" s_roll) : FnAt P w K mg base 1 "_law_roll" ["_law_dice_here", "_law_total"] spRoll := by
  refine fnAt D sc_roll (fun _ _ _ _ _ _ us hl => match us, hl with | [_, _], _ => rfl) (fun vs H Q E h => ?_) fun f cdv A outer s H vs Q E hr h => ?_
  · obtain ⟨a, i, rfl, _⟩ := h
    rfl
  obtain ⟨a, n, rfl, ha, h0, hz, k⟩ := h
  have n0 : n ≠ 0 := by omega
  have hd : CDivX 0 n := ⟨n0, hz.log (by decide)⟩
  have h64 : ∀ x : Int, -(2 ^ 64) < x.fmod 2305843009213693951 ∧ x.fmod 2305843009213693951 < 2 ^ 64 := fun x => by
    have := fmod_in (i := x) (n := 2305843009213693951) (by decide)
    omega
  have h64' : ∀ x : Int, -(2 ^ 64) < x.fmod 2305843009213693921 ∧ x.fmod 2305843009213693921 < 2 ^ 64 := fun x => by
    have := fmod_in (i := x) (n := 2305843009213693921) (by decide)
    omega
  refine ⟨_, pss_dice (i := 0) (pss_cons (ps_if (pt_cmpR op_gt (pe_ix ix_list (pv 0) pe_int (fun _ _ => rfl)) pe_int (nomark _)) (pss_cons (ps_set (i := 2) sc_roll.nd rfl (Or.inl rfl) (pe_op op_modN (pe_callTy call_int1 (by rfl) T.b_int (by decide +kernel) (pa_cons (pe_ix ix_list (pv 0) pe_int (fun _ _ => rfl)) pa_nil)) (pv 1)))
    (pss_cons (ps_asg (pe_op op_fdivX (pe_ix ix_list (pv 0) pe_int (fun _ _ => rfl)) (pv 1)) (pg_sub (pv 0) pe_int set_list))
    (pss_one (ps_ret (pv 2))))) pss_nil)
    (pss_cons (ps_asg (pe_op op_add (pe_ix ix_list (pv 0) pe_int (fun _ _ => rfl)) pe_int) (pg_sub (pv 0) pe_int set_list))
    (pss_cons (ps_set (i := 3) sc_roll.nd rfl (Or.inl rfl) (pe_op op_modN (pe_callTy call_int1 (by rfl) T.b_int (by decide +kernel) (pa_cons (pe_op op_add (pe_ix ix_list (pv 0) pe_int (fun _ _ => rfl)) (pe_op op_mul pe_int (pe_ix ix_list (pv 0) pe_int (fun _ _ => rfl)))) pa_nil)) pe_int))
    (pss_cons (ps_set (i := 4) sc_roll.nd rfl (Or.inl rfl) (pe_op op_add (pe_op op_mul (pe_op op_modN (pe_callTy call_int1 (by rfl) T.b_int (by decide +kernel) (pa_cons (pe_op op_add (pe_op op_mul (pv 3) (pv 3)) (pe_op op_mul pe_int (pe_ix ix_list (pv 0) pe_int (fun _ _ => rfl)))) pa_nil)) pe_int) pe_int) (pv 3)))
    (pss_one (ps_ret (pe_op op_modN (pe_callTy call_int1 (by rfl) T.b_int (by decide +kernel) (pa_cons (pe_op op_fdivX (pv 4) pe_int) pa_nil)) (pv 1)))))))), ?_⟩
  refine ⟨a, rfl, ha, fun l z c => ?_⟩
  have back : ∀ o, upd (upd (upd H a (d3 l z c)) a o) a (DiceO a) = H := fun o => by
    rw [upd_upd, upd_upd]
    funext b
    by_cases hb : b = a
    · rw [hb, upd_same, ha]
    · rw [upd_ne hb]
  repeat' (walk_at "rd")
  refine ite2 (fun h1 => ?_) (fun h2 => ?_)
  · have hdl : CDivX l n := hd
    repeat' (walk_at "rd")
    exact ⟨⟨_, _, _, upd_same⟩, (by
      show Q _ (upd (upd (upd H a _) a _) a _)
      rw [back]
      exact k _ (fmod_in h0).1 (fmod_in h0).2)⟩
  · repeat' (first | walk_at "rd" | refine ⟨.inl (h64 _), ?_⟩  | refine ⟨.inl (h64' _), ?_⟩ | refine ⟨(show CDivX _ 65536 from ⟨by decide, by decide +kernel⟩), ?_⟩ | fail)
    exact ⟨⟨_, _, _, upd_same⟩, (by
      show Q _ (upd (upd (upd H a _) a _) a _)
      rw [back]
      exact k _ (fmod_in h0).1 (fmod_in h0).2)⟩
end
end My
namespace My
open PySem PySem.Spec PyProof.Rows L2
section
variable {K : PySem.W.Frag} {a D : Addr} {xs : List V} {te : TE} {vs : List Nat} {σ : L2.St} {H1 : Hp} {j : Nat}
theorem take_next {α : Type} {l : List α} {i : Nat} {x : α} (h : l[i]? = some x) : l.take (i + 1) = l.take i ++ [x] := by
  rw [List.take_succ, h]
  rfl
/-- what a comprehension without a test has made behind i turns -/
def Made (H1 : Hp) (D : Addr) (f : Nat → V → V) (xs : List V) (i : Nat) (H' : Hp) : Prop := H1 D = none ∧ Ext H1 H' ∧ H' D = some (.lst ((xs.take i).mapIdx f))
theorem made_turn {f : Nat → V → V} {i : Nat} {x : V} {H' : Hp} {σ2 : L2.St} (hz : xs.length ≤ 1000000) (hi : xs[i]? = some x) (p : Made H1 D f xs i H') (he : ∀ Q' : VK, (∀ H'', Ext H' H'' → Q' (f i x) H'') → te σ2 H' Q') :
    tYes σ2 H' fun b H3 => if b = true then te σ2 H3 fun y H4 => ∃ acc, H4 D = some (.lst acc) ∧ acc.length < sizeLine ∧ Made H1 D f xs (i + 1) (upd H4 D (.lst (acc ++ [y]))) else Made H1 D f xs (i + 1) H3 := by
  obtain ⟨p1, p2, p3⟩ := p
  unfold tYes
  dsimp only
  rw [if_pos rfl]
  refine he _ fun H'' e => ⟨_, e _ _ p3, ?_, p1, ext_mut (p2.trans e) p1, ?_⟩
  · rw [List.length_mapIdx, List.length_take]
    exact Nat.lt_of_le_of_lt (Nat.le_trans (Nat.min_le_right _ _) hz) (by decide)
  · have hl : i < xs.length := (List.getElem?_eq_some_iff.mp hi).1
    rw [upd_same, take_next hi, List.mapIdx_append]
    have e1 : (xs.take i).length = i := by rw [List.length_take]; omega
    simp [e1]
abbrev Block (J : It) (g : TG) (tt : TT) (te : TE) (vs : List Nat) (σ : L2.St) (H1 : Hp) (D : Addr) (Qd : Hp → Prop) : Prop := ∃ W : Nat → Nat → Hp → Prop, (∃ m, W 0 m (upd H1 D (.lst []))) ∧ ∀ i m H, W i m H →
  (J.stop i H ∧ Qd H) ∨ (J.go i H ∧ ∃ Nx : Hp → Prop, (∀ H', Nx H' → ∃ m', m' < m ∧ W (i + 1) m' H') ∧ ∀ x H', J.yld i H x H' → g x (wipe σ vs) H' fun σ2 H2 => wipe σ2 vs = wipe σ vs ∧ tt σ2 H2 fun b H3 =>
    if b = true then te σ2 H3 fun y H4 => ∃ acc, H4 D = some (.lst acc) ∧ acc.length < sizeLine ∧ Nx (upd H4 D (.lst (acc ++ [y]))) else Nx H3)
theorem map_list {Qd : Hp → Prop} (f : Nat → V → V) (hx : SqL K H1 a xs) (hD : H1 D = none) (hz : xs.length ≤ 1000000) (hw : ∀ x, wipe ((wipe σ vs).set j (some x)) vs = wipe σ vs)
    (he : ∀ i x H', xs[i]? = some x → Ext H1 H' → ∀ Q' : VK, (∀ H'', Ext H' H'' → Q' (f i x) H'') → te ((wipe σ vs).set j (some x)) H' Q') (hd : ∀ H', Ext H1 H' → H' D = some (.lst (xs.mapIdx f)) → Qd H') :
    Block (Itl K a) (gName j) tYes te vs σ H1 D Qd :=
  lc_list (xs := xs) (Made H1 D f xs) ⟨hD, ext_new (ext_refl H1) hD, upd_same⟩ (fun i H' _ p => hx.ext p.2.1) (fun i x H' hi p => ⟨hw x, made_turn hz hi p (he i x H' hi p.2.1)⟩) fun H' p => hd H' p.2.1 (by have q := p.2.2; rw [List.take_length] at q; exact q)
theorem map_tup {Qd : Hp → Prop} (f : Nat → V → V) (hx : SqT K H1 a xs) (hD : H1 D = none) (hz : xs.length ≤ 1000000) (hw : ∀ x, wipe ((wipe σ vs).set j (some x)) vs = wipe σ vs)
    (he : ∀ i x H', xs[i]? = some x → Ext H1 H' → ∀ Q' : VK, (∀ H'', Ext H' H'' → Q' (f i x) H'') → te ((wipe σ vs).set j (some x)) H' Q') (hd : ∀ H', Ext H1 H' → H' D = some (.lst (xs.mapIdx f)) → Qd H') :
    Block (Itt K a) (gName j) tYes te vs σ H1 D Qd :=
  lc_tup (xs := xs) (Made H1 D f xs) ⟨hD, ext_new (ext_refl H1) hD, upd_same⟩ (fun i H' _ p => hx.ext p.2.1) (fun i x H' hi p => ⟨hw x, made_turn hz hi p (he i x H' hi p.2.1)⟩) fun H' p => hd H' p.2.1 (by have q := p.2.2; rw [List.take_length] at q; exact q)
end
end My
namespace My
open PySem PySem.Spec PyProof.Rows L2
section
variable {K : PySem.W.Frag} {a D : Addr} {xs : List V} {te : TE} {vs : List Nat} {σ : L2.St} {H1 : Hp} {j : Nat}
/-- what is said of the list D survives, when only D changes -/
def Keeps (D : Addr) (Pv : List V → Hp → Prop) : Prop := ∀ acc H H', Pv acc H → (∃ l, H D = some (.lst l)) → (∀ a u, H a = some u → a ≠ D → H' a = some u) → Pv acc H'
def MadeP (H1 : Hp) (D : Addr) (Pv : List V → Hp → Prop) (i : Nat) (H' : Hp) : Prop := H1 D = none ∧ Ext H1 H' ∧ ∃ acc, H' D = some (.lst acc) ∧ acc.length = i ∧ Pv acc H'
theorem madeP_turn {Pv : List V → Hp → Prop} {i : Nat} {H' : Hp} {σ2 : L2.St} (hz : i ≤ 1000000) (kp : Keeps D Pv) (p : MadeP H1 D Pv i H')
    (he : ∀ acc, acc.length = i → Pv acc H' → Ext H1 H' → ∀ Q' : VK, (∀ y H'', Ext H' H'' → Pv (acc ++ [y]) H'' → Q' y H'') → te σ2 H' Q') :
    tYes σ2 H' fun b H3 => if b = true then te σ2 H3 fun y H4 => ∃ acc, H4 D = some (.lst acc) ∧ acc.length < sizeLine ∧ MadeP H1 D Pv (i + 1) (upd H4 D (.lst (acc ++ [y]))) else MadeP H1 D Pv (i + 1) H3 := by
  obtain ⟨p1, p2, acc, p3, p4, p5⟩ := p
  unfold tYes
  dsimp only
  rw [if_pos rfl]
  refine he acc p4 p5 p2 _ fun y H'' e pv => ⟨acc, e _ _ p3, ?_, p1, ext_mut (p2.trans e) p1, acc ++ [y], upd_same, by simp [p4], ?_⟩
  · rw [p4]
    exact Nat.lt_of_le_of_lt hz (by decide)
  · exact kp _ _ _ pv ⟨_, e _ _ p3⟩ fun a u q ne => by rw [upd_ne ne]; exact q
theorem made_range {Qd : Hp → Prop} {n : Nat} (Pv : List V → Hp → Prop) (kp : Keeps D Pv) (hD : H1 D = none) (hz : n ≤ 1000000) (hw : ∀ x, wipe ((wipe σ vs).set j (some x)) vs = wipe σ vs) (h0 : ∀ H, Pv [] H)
    (he : ∀ i H' acc, i < n → Ext H1 H' → acc.length = i → Pv acc H' → ∀ Q' : VK, (∀ y H'', Ext H' H'' → Pv (acc ++ [y]) H'' → Q' y H'') → te ((wipe σ vs).set j (some (.int (0 + i)))) H' Q')
    (hd : ∀ H' acc, Ext H1 H' → H' D = some (.lst acc) → acc.length = n → Pv acc H' → Qd H') :
    Block (Itr 0 n) (gName j) tYes te vs σ H1 D Qd :=
  lc_range (MadeP H1 D Pv) ⟨hD, ext_new (ext_refl H1) hD, [], upd_same, rfl, h0 _⟩ (fun i H' hi p => ⟨hw _, madeP_turn (by omega) kp p fun acc hl pv e Q' k => he i H' acc hi e hl pv Q' k⟩) fun H' ⟨_, e, acc, q, hl, pv⟩ => hd H' acc e q hl pv
theorem made_list {Qd : Hp → Prop} (Pv : List V → Hp → Prop) (kp : Keeps D Pv) (hx : SqL K H1 a xs) (hD : H1 D = none) (hz : xs.length ≤ 1000000) (hw : ∀ x, wipe ((wipe σ vs).set j (some x)) vs = wipe σ vs) (h0 : ∀ H, Pv [] H)
    (he : ∀ i x H' acc, xs[i]? = some x → Ext H1 H' → acc.length = i → Pv acc H' → ∀ Q' : VK, (∀ y H'', Ext H' H'' → Pv (acc ++ [y]) H'' → Q' y H'') → te ((wipe σ vs).set j (some x)) H' Q')
    (hd : ∀ H' acc, Ext H1 H' → H' D = some (.lst acc) → acc.length = xs.length → Pv acc H' → Qd H') :
    Block (Itl K a) (gName j) tYes te vs σ H1 D Qd :=
  lc_list (xs := xs) (MadeP H1 D Pv) ⟨hD, ext_new (ext_refl H1) hD, [], upd_same, rfl, h0 _⟩ (fun i H' _ p => hx.ext p.2.1)
    (fun i x H' hi p => ⟨hw _, madeP_turn (Nat.le_trans (Nat.le_of_lt (List.getElem?_eq_some_iff.mp hi).1) hz) kp p fun acc hl pv e Q' k => he i x H' acc hi e hl pv Q' k⟩) fun H' ⟨_, e, acc, q, hl, pv⟩ => hd H' acc e q hl pv
end
end My
namespace My
open PySem PySem.Spec PyProof.Rows L2
section
variable {K : PySem.W.Frag} {a D : Addr} {xs : List V} {z : Str} {tt : TT} {te : TE} {vs : List Nat} {σ : L2.St} {H1 : Hp} {j : Nat}
/-- the signs of a text -/
def signs (z : Str) : List V := z.cps.toList.map fun c => .str ⟨#[c]⟩
theorem signs_at {z : Str} {i c : Nat} (h : z.cps[i]? = some c) : (signs z)[i]? = some (.str ⟨#[c]⟩) := by
  unfold signs
  rw [List.getElem?_map, Array.getElem?_toList, h]
  rfl
theorem signs_len (z : Str) : (signs z).length = z.cps.size := by simp [signs]
theorem signs_mem {z : Str} {x : V} (h : x ∈ signs z) : ∃ c, c ∈ z.cps.toList ∧ x = .str ⟨#[c]⟩ := by
  obtain ⟨c, hc, e⟩ := List.mem_map.mp h
  exact ⟨c, hc, e.symm⟩
theorem map_str {Qd : Hp → Prop} (f : Nat → V → V) (hD : H1 D = none) (hz : z.cps.size ≤ 1000000) (hw : ∀ x, wipe ((wipe σ vs).set j (some x)) vs = wipe σ vs)
    (he : ∀ i x H', (signs z)[i]? = some x → Ext H1 H' → ∀ Q' : VK, (∀ H'', Ext H' H'' → Q' (f i x) H'') → te ((wipe σ vs).set j (some x)) H' Q') (hd : ∀ H', Ext H1 H' → H' D = some (.lst ((signs z).mapIdx f)) → Qd H') :
    Block (Its z) (gName j) tYes te vs σ H1 D Qd :=
  lc_it walk_str (Made H1 D f (signs z)) ⟨hD, ext_new (ext_refl H1) hD, upd_same⟩ (fun _ _ _ _ => trivial) (fun i x H H' hi p y => by
      obtain ⟨rfl, c, hc, rfl⟩ := y
      have q := signs_at hc
      exact ⟨hw _, made_turn (by rw [signs_len]; exact hz) q p (he i _ _ q p.2.1)⟩)
    fun H' p => hd H' p.2.1 (by
      have q := p.2.2
      rw [← signs_len, List.take_length] at q
      exact q)
/-- what a comprehension with a known test has kept behind i turns -/
def Filt (H1 : Hp) (D : Addr) (p : V → Bool) (xs : List V) (i : Nat) (H' : Hp) : Prop := H1 D = none ∧ Ext H1 H' ∧ H' D = some (.lst ((xs.take i).filter p))
theorem filt_turn {p : V → Bool} {i : Nat} {x : V} {H' : Hp} {σ2 : L2.St} (hz : xs.length ≤ 1000000) (hi : xs[i]? = some x) (q : Filt H1 D p xs i H') (ht : ∀ Q' : Bool → Hp → Prop, (∀ H'', Ext H' H'' → Q' (p x) H'') → tt σ2 H' Q') (he : ∀ (H : Hp) (Q' : VK), Q' x H → te σ2 H Q') :
    tt σ2 H' fun b H3 => if b = true then te σ2 H3 fun y H4 => ∃ acc, H4 D = some (.lst acc) ∧ acc.length < sizeLine ∧ Filt H1 D p xs (i + 1) (upd H4 D (.lst (acc ++ [y]))) else Filt H1 D p xs (i + 1) H3 := by
  obtain ⟨p1, p2, p3⟩ := q
  refine ht _ fun H'' e => ?_
  by_cases hp : p x = true
  · rw [if_pos hp]
    refine he _ _ ⟨_, e _ _ p3, ?_, p1, ext_mut (p2.trans e) p1, ?_⟩
    · have h1 : ((xs.take i).filter p).length ≤ (xs.take i).length := List.length_filter_le _ _
      rw [List.length_take] at h1
      exact Nat.lt_of_le_of_lt (Nat.le_trans h1 (Nat.le_trans (Nat.min_le_right _ _) hz)) (by decide)
    · rw [upd_same, take_next hi, List.filter_append, List.filter_cons, if_pos hp]
      rfl
  · rw [if_neg hp]
    refine ⟨p1, p2.trans e, ?_⟩
    rw [take_next hi, List.filter_append, List.filter_cons, if_neg hp]
    have := e _ _ p3
    simpa using this
theorem filt_list {Qd : Hp → Prop} (p : V → Bool) (hx : SqL K H1 a xs) (hD : H1 D = none) (hz : xs.length ≤ 1000000) (hw : ∀ x, wipe ((wipe σ vs).set j (some x)) vs = wipe σ vs)
    (ht : ∀ (i : Nat) x H', xs[i]? = some x → Ext H1 H' → ∀ Q' : Bool → Hp → Prop, (∀ H'', Ext H' H'' → Q' (p x) H'') → tt ((wipe σ vs).set j (some x)) H' Q') (he : ∀ x (H : Hp) (Q' : VK), Q' x H → te ((wipe σ vs).set j (some x)) H Q')
    (hd : ∀ H', Ext H1 H' → H' D = some (.lst (xs.filter p)) → Qd H') : Block (Itl K a) (gName j) tt te vs σ H1 D Qd :=
  lc_list (xs := xs) (Filt H1 D p xs) ⟨hD, ext_new (ext_refl H1) hD, upd_same⟩ (fun i H' _ q => hx.ext q.2.1) (fun i x H' hi q => ⟨hw x, filt_turn hz hi q (ht i x H' hi q.2.1) (he x)⟩)
    fun H' q => hd H' q.2.1 (by have z := q.2.2; rw [List.take_length] at z; exact z)
theorem filt_tup {Qd : Hp → Prop} (p : V → Bool) (hx : SqT K H1 a xs) (hD : H1 D = none) (hz : xs.length ≤ 1000000) (hw : ∀ x, wipe ((wipe σ vs).set j (some x)) vs = wipe σ vs)
    (ht : ∀ (i : Nat) x H', xs[i]? = some x → Ext H1 H' → ∀ Q' : Bool → Hp → Prop, (∀ H'', Ext H' H'' → Q' (p x) H'') → tt ((wipe σ vs).set j (some x)) H' Q') (he : ∀ x (H : Hp) (Q' : VK), Q' x H → te ((wipe σ vs).set j (some x)) H Q')
    (hd : ∀ H', Ext H1 H' → H' D = some (.lst (xs.filter p)) → Qd H') : Block (Itt K a) (gName j) tt te vs σ H1 D Qd :=
  lc_tup (xs := xs) (Filt H1 D p xs) ⟨hD, ext_new (ext_refl H1) hD, upd_same⟩ (fun i H' _ q => hx.ext q.2.1) (fun i x H' hi q => ⟨hw x, filt_turn hz hi q (ht i x H' hi q.2.1) (he x)⟩)
    fun H' q => hd H' q.2.1 (by have z := q.2.2; rw [List.take_length] at z; exact z)
theorem filt_str {Qd : Hp → Prop} (p : V → Bool) (hD : H1 D = none) (hz : z.cps.size ≤ 1000000) (hw : ∀ x, wipe ((wipe σ vs).set j (some x)) vs = wipe σ vs)
    (ht : ∀ (i : Nat) x H', (signs z)[i]? = some x → Ext H1 H' → ∀ Q' : Bool → Hp → Prop, (∀ H'', Ext H' H'' → Q' (p x) H'') → tt ((wipe σ vs).set j (some x)) H' Q') (he : ∀ x (H : Hp) (Q' : VK), Q' x H → te ((wipe σ vs).set j (some x)) H Q')
    (hd : ∀ H', Ext H1 H' → H' D = some (.lst ((signs z).filter p)) → Qd H') : Block (Its z) (gName j) tt te vs σ H1 D Qd :=
  lc_it walk_str (Filt H1 D p (signs z)) ⟨hD, ext_new (ext_refl H1) hD, upd_same⟩ (fun _ _ _ _ => trivial) (fun i x H H' hi q y => by
      obtain ⟨rfl, c, hc, rfl⟩ := y
      have e := signs_at hc
      exact ⟨hw _, filt_turn (by rw [signs_len]; exact hz) e q (ht i _ _ e q.2.1) (he _)⟩)
    fun H' q => hd H' q.2.1 (by
      have e := q.2.2
      rw [← signs_len, List.take_length] at e
      exact e)
/-- a comprehension whose test is not told: what is kept is of the source -/
def Some' (H1 : Hp) (D : Addr) (xs : List V) (i : Nat) (H' : Hp) : Prop := H1 D = none ∧ Ext H1 H' ∧ ∃ acc, H' D = some (.lst acc) ∧ acc.length ≤ i ∧ ∀ x ∈ acc, x ∈ xs
theorem some_list {Qd : Hp → Prop} (hx : SqL K H1 a xs) (hD : H1 D = none) (hz : xs.length ≤ 1000000) (hw : ∀ x, wipe ((wipe σ vs).set j (some x)) vs = wipe σ vs)
    (ht : ∀ (i : Nat) x H', xs[i]? = some x → Ext H1 H' → ∀ Q' : Bool → Hp → Prop, (∀ b H'', Ext H' H'' → Q' b H'') → tt ((wipe σ vs).set j (some x)) H' Q') (he : ∀ x (H : Hp) (Q' : VK), Q' x H → te ((wipe σ vs).set j (some x)) H Q')
    (hd : ∀ H' acc, Ext H1 H' → H' D = some (.lst acc) → acc.length ≤ xs.length → (∀ x ∈ acc, x ∈ xs) → Qd H') : Block (Itl K a) (gName j) tt te vs σ H1 D Qd :=
  lc_list (xs := xs) (Some' H1 D xs) ⟨hD, ext_new (ext_refl H1) hD, [], upd_same, Nat.le_refl _, fun _ h => by cases h⟩ (fun i H' _ q => hx.ext q.2.1) (fun i x H' hi q => ⟨hw x, by
      obtain ⟨p1, p2, acc, p3, p4, p5⟩ := q
      have hlt := (List.getElem?_eq_some_iff.mp hi).1
      refine ht i x H' hi p2 _ fun b H'' e => ?_
      by_cases hb : b = true
      · rw [if_pos hb]
        refine he _ _ _ ⟨acc, e _ _ p3, Nat.lt_of_le_of_lt (show acc.length ≤ 1000000 by omega) (by decide), p1, ext_mut (p2.trans e) p1, acc ++ [x], upd_same, by rw [List.length_append]; exact Nat.succ_le_succ p4, fun y hy => ?_⟩
        rcases List.mem_append.mp hy with hy | hy
        · exact p5 y hy
        · rw [List.mem_singleton.mp hy]
          exact List.mem_of_getElem? hi
      · rw [if_neg hb]
        exact ⟨p1, p2.trans e, acc, e _ _ p3, Nat.le_succ_of_le p4, p5⟩⟩)
    fun H' ⟨_, e, acc, q, hl, hm⟩ => hd H' acc e q hl hm
theorem map_range {Qd : Hp → Prop} {n : Nat} (g : Nat → V) (hD : H1 D = none) (hz : n ≤ 1000000) (hw : ∀ x, wipe ((wipe σ vs).set j (some x)) vs = wipe σ vs)
    (he : ∀ i H', i < n → Ext H1 H' → ∀ Q' : VK, (∀ H'', Ext H' H'' → Q' (g i) H'') → te ((wipe σ vs).set j (some (.int (0 + i)))) H' Q')
    (hd : ∀ H', Ext H1 H' → H' D = some (.lst ((List.range n).map g)) → Qd H') : Block (Itr 0 n) (gName j) tYes te vs σ H1 D Qd :=
  made_range (fun acc _ => acc = (List.range acc.length).map g) (fun _ _ _ p _ _ => p) hD hz hw (fun _ => rfl) (fun i H' acc hi e hl pv Q' k => he i H' hi e Q' fun H'' e2 => k _ _ e2 (by
      rw [List.length_append, List.length_singleton, List.range_succ, List.map_append, ← pv, hl]
      rfl))
    fun H' acc e q hl pv => hd H' e (by rw [q]; rw [hl] at pv; rw [pv])
end
end My
/-! set(texts): a list's or a tuple's -/
namespace My
open PySem PySem.Spec PyProof.Rows L2
section
variable {κ : Type} [DecidableEq κ]
/-- one key more, once -/
def stp (acc : List κ) (k : κ) : List κ := if k ∈ acc then acc else acc ++ [k]
def met (val : Nat → κ) (i : Nat) : List κ := ((List.range i).map val).foldl stp []
theorem met_succ (val : Nat → κ) (i : Nat) : met val (i + 1) = stp (met val i) (val i) := by
  unfold met
  rw [List.range_succ, List.map_append, List.foldl_append]
  rfl
theorem stp_mem {acc : List κ} {k x : κ} : x ∈ stp acc k ↔ x ∈ acc ∨ x = k := by
  unfold stp
  split
  · exact ⟨.inl, fun h => h.elim id fun e => by rw [e]; assumption⟩
  · simp
theorem stp_len {acc : List κ} {k : κ} : (stp acc k).length = if k ∈ acc then acc.length else acc.length + 1 := by
  unfold stp
  split <;> simp
theorem met_le (val : Nat → κ) : ∀ i, (met val i).length ≤ i
  | 0 => Nat.le_refl _
  | i + 1 => by
    rw [met_succ, stp_len]
    have := met_le val i
    split <;> omega
theorem met_mem (val : Nat → κ) : ∀ i x, x ∈ met val i ↔ ∃ j, j < i ∧ val j = x
  | 0, x => by simp [met]
  | i + 1, x => by
    rw [met_succ, stp_mem, met_mem val i]
    constructor
    · rintro (⟨j, a, b⟩ | e)
      · exact ⟨j, by omega, b⟩
      · exact ⟨i, by omega, e.symm⟩
    · rintro ⟨j, a, b⟩
      by_cases q : j = i
      · exact .inr (by rw [← b, q])
      · exact .inl ⟨j, by omega, b⟩
end
section
variable {prog : Program} {w : World} {A : Around} {R : Result → Shared → Prop} {κ : Type} [DecidableEq κ] {knd : KeyKind prog w κ} {I : Addr} {fp wr : List Addr} {G : Array GenState → Array GenState → Prop} {n : Nat} {P : Nat → Value → Prop} {St : Nat → Shared → Prop}
theorem setOf_same {h : Heap} {a : Addr} {S S' : κ → Bool} {m m' : Nat} (x : h.SetOf knd a S m) (e : ∀ k, S k = S' k) (em : m = m') : h.SetOf knd a S' m' := by
  have z : S = S' := funext e
  subst z
  subst em
  exact x
/-- the update's turns, whatever the keys -/
theorem update_turns (W : WalksS prog w A.in1 I fp wr G n P St) (a : Addr) (out : a ∉ fp) (val : Nat → κ) (keys : ∀ i v, P i v → knd.is (val i) v = true ∧ v.scannable = true) (room : n + 1 < scanBound) :
    ∀ (left i : Nat) (s : Shared), n - i = left → i ≤ n → St i s → s.heap.SetOf knd a (fun k => decide (k ∈ met val i)) (met val i).length →
      (∀ s', Moved (a :: wr) G s s' → s'.heap.SetOf knd a (fun k => decide (k ∈ met val n)) (met val n).length → R (.ok (.ret .none)) s') →
      codeAny (model prog w) A (.builtin "set.update.loop" ⟨[.ref a, .ref I], []⟩) R s := by
  have outW : a ∉ wr := fun h => out (W.sub _ h)
  have more : ∀ b ∈ wr, b ∈ a :: wr := fun b hb => List.mem_cons_of_mem _ hb
  have kept : ∀ {s s' : Shared} {S : κ → Bool} {m : Nat}, s.heap.SetOf knd a S m → Moved wr G s s' → s'.heap.SetOf knd a S m := fun ⟨o, es, ep, t, ho, r⟩ hm => ⟨o, es, ep, t, hm.heap a _ outW ho, r⟩
  intro left
  induction left with
  | zero =>
    intro i s hk hi st hS fin
    obtain rfl : i = n := by omega
    refine codeAny_builtin F.entry_set_update_loop ?_
    rw [Around.under_plainId F.plain_set_update_loop _]
    refine wpAny_bind (W.done s _ _ st fun s' hm => wpAny_pure (fin s' (hm.mono more) (kept hS hm)))
  | succ left ih =>
    intro i s hk hi st hS fin
    have lt : i < n := by omega
    refine codeAny_builtin F.entry_set_update_loop ?_
    rw [Around.under_plainId F.plain_set_update_loop _]
    refine wpAny_bind (W.item i s _ _ lt st fun v s' hP st' hm => ?_)
    obtain ⟨isK, sc⟩ := keys i v hP
    have hS' := kept hS hm
    show wpAny _ A.in1 (holding [v] (setAdd a v) >>= _) _ _ s'
    refine wpAny_bind (wpAny_holding ?_)
    unfold setAdd
    refine wpAny_holding (wpAny_bind (knd.pyHash (k := val i) isK ?_))
    have fits : (met val i).length + 1 < scanBound := by have := met_le val i; omega
    refine wpAny_setAddHashed_of (knd := knd) (s := { s' with toks := s'.toks + 1 }) isK sc hS' fits fun h' sb hS2 => ?_
    have next : h'.SetOf knd a (fun k => decide (k ∈ met val (i + 1))) (met val (i + 1)).length :=
      setOf_same hS2 (fun k => by rw [met_succ, Bool.eq_iff_iff]; simp [stp_mem]) (by rw [met_succ, stp_len]; simp)
    refine wpAny_pure ⟨plainId_quiet F.plain_set_update_loop _, ih (i + 1) _ (by omega) lt (W.frame _ s' _ _ st' (Nat.le_succ _) fun b hb o e => ?_) next fun s'' hm'' hS'' => ?_⟩
    · rw [sb.2 b (fun h : b = a => out (by rw [← h]; exact hb))]
      exact e
    · refine fin s'' (Moved.trans W.gtrans ((hm.mono more).then_heap (Nat.le_succ _) fun b o hb e => ?_) hm'') hS''
      rw [sb.2 b (fun h : b = a => hb (by rw [h]; exact List.mem_cons_self))]
      exact e
end
end My
set_option maxHeartbeats 8000000
namespace My
open PySem PySem.Spec L2
theorem sub_tup_set : isSubtype (.type "tuple") (.type "set") = pure false := by rw [isSubtype_type]; kernel_rfl
theorem sub_tup_frozenset : isSubtype (.type "tuple") (.type "frozenset") = pure false := by rw [isSubtype_type]; kernel_rfl
theorem sub_lst_set : isSubtype (.type "list") (.type "set") = pure false := by rw [isSubtype_type]; kernel_rfl
theorem sub_lst_frozenset : isSubtype (.type "list") (.type "frozenset") = pure false := by rw [isSubtype_type]; kernel_rfl
section
variable {prog : Program} {w : World} {A : Around} {E : Value → Shared → Prop} {s : Shared} {κ : Type} [DecidableEq κ] {knd : KeyKind prog w κ}
/-- set(xs), a list of keys -/
theorem set_of_list {l : Addr} {items : Array Value} (val : Nat → κ) {Q : Value → Shared → Prop} (calm : A.handled = none) (hl : s.heap.IsList l items) (keys : ∀ i v, items[i]? = some v → knd.is (val i) v = true ∧ v.scannable = true) (room : items.size + 1 < scanBound)
    (go : ∀ (h' : Heap) (tk : Nat), h'.SetOf knd s.heap.objs.size (fun k => decide (k ∈ met val items.size)) (met val items.size).length → (∀ b o, b < s.heap.objs.size → s.heap.get? b = some o → h'.get? b = some o) → Q (.ref s.heap.objs.size) { s with heap := h', toks := tk }) :
    wpAny (model prog w) A (call (.type "set") [.ref l]) Q E s := by
  obtain ⟨c, tl, hmro⟩ := F.called_set.mro
  have made := F.called_set.made
  have sub := F.called_set.sub
  refine wpAny_call (codeAny_of_tree (?_))
  show wpAny _ _ (callAny (.type "set") _) _ _ _
  refine wpAny_pure ⟨Code.quiet_builtin _ (by decide +kernel), codeAny_builtin F.entry_type_call (?_)⟩
  rw [Around.under_plain (weight_type_call_type "set" [.ref l] []) rfl]
  have a1 := F.called_set.notType
  have a2 := F.called_set.canCreate
  have a3 := F.typeCall_set_1 (.ref l)
  repeat (any_goals (first | assumption | wp_step))
  refine codeAny_mono (code_set_new_1 (.ref l) (E := E) (Q₁ := fun obj s1 => ∃ led : Bool, obj = .ref s.heap.objs.size ∧ s1 = { s with heap := s.heap.push { cls := .type "set", dict := none, data := .set #[] 0 (.fresh 0 0 led) } }) fun led => ⟨led, rfl, rfl⟩) fun r s1 back => ?_
  cases r with
  | error e => exact back
  | ok fl =>
    cases fl with
    | ret obj =>
      obtain ⟨led, rfl, rfl⟩ := back
      have atS : (s.heap.push { cls := .type "set", dict := none, data := .set #[] 0 (.fresh 0 0 led) }).get? s.heap.objs.size = some { cls := .type "set", dict := none, data := .set #[] 0 (.fresh 0 0 led) } := Heap.get?_push_size _ rfl
      have isS : Shared.TypeIs { s with heap := s.heap.push { cls := .type "set", dict := none, data := .set #[] 0 (.fresh 0 0 led) } } (.ref s.heap.objs.size) "set" := ⟨_, atS, rfl⟩
      have b1 := F.called_set.init.lookup
      have b2 := F.called_set.init.bind (.ref s.heap.objs.size)
      repeat (any_goals (first | assumption | wp_step))
      refine codeAny_mono (codeAny_call_builtin (R := wants (fun r s2 => r = .none ∧ ∃ h' tk, s2 = { s with heap := h', toks := tk } ∧ h'.SetOf knd s.heap.objs.size (fun k => decide (k ∈ met val items.size)) (met val items.size).length ∧
          ∀ b o, b < s.heap.objs.size → s.heap.get? b = some o → h'.get? b = some o) E) F.called_set.init.plain F.entry_set_init (check_set_init_1 isS (?_))) fun r2 s2 back2 => ?_
      · obtain ⟨ol, hol, hcl, nl, hdl⟩ := hl
        obtain ⟨ocls, odict, odata, oslots⟩ := ol
        simp only at hcl hdl
        subst hcl
        subst hdl
        have hol2 : (s.heap.push { cls := .type "set", dict := none, data := .set #[] 0 (.fresh 0 0 led) }).get? l = some { cls := .type "list", dict := odict, data := .seq items nl, slots := oslots } := Heap.get?_push_of_some _ hol
        have n1 := sub_lst_set
        have n2 := sub_lst_frozenset
        have n3 : (Value.type "list" == Value.type "dict") = false := by decide
        have hl1 : (s.heap.push { cls := .type "set", dict := none, data := .set #[] 0 (.fresh 0 0 led) }).IsList l items := ⟨_, hol2, rfl, nl, rfl⟩
        unfold Builtin.«set.__init__» noKeywords Builtin.Frozenset.updateFrom
        generalize hPI : pyIter = PI
        wp_walk
        subst hPI
        refine wpAny_pyIter_list hl1 (wpAny_bind (wpAny_runValue (?_)))
        have lS : l < s.heap.objs.size := Heap.lt_size hol
        have calm3 : A.in1.in1.in1.handled = none := by simp [calm]
        have neI : l ≠ (s.heap.push { cls := .type "set", dict := none, data := .set #[] 0 (.fresh 0 0 led) }).objs.size := by
          rw [Heap.size_push]
          exact Nat.ne_of_lt (Nat.lt_succ_of_lt lS)
        have outS : s.heap.objs.size ∉ [(s.heap.push { cls := .type "set", dict := none, data := .set #[] 0 (.fresh 0 0 led) }).objs.size, l] := by
          rw [Heap.size_push]
          simp only [List.mem_cons, List.not_mem_nil, or_false, not_or]
          exact ⟨Nat.ne_of_lt (Nat.lt_succ_self _), Nat.ne_of_gt lS⟩
        refine update_turns ((Walks.list calm3 _ l neI items).toS) s.heap.objs.size outS val keys room (items.size - 0) 0 _ (by omega) (Nat.zero_le _) ⟨⟨_, Heap.get?_push_size _ rfl, rfl, rfl⟩, (hl1.push _)⟩ ?first ?last
        case first =>
          have got : ((s.heap.push { cls := .type "set", dict := none, data := .set #[] 0 (.fresh 0 0 led) }).push { cls := .type "list_iterator", data := .fields #[.ref l, .int 0 0] }).get? s.heap.objs.size = some { cls := .type "set", dict := none, data := .set #[] 0 (.fresh 0 0 led) } := Heap.get?_push_of_some _ atS
          exact setOf_same ((PyProof.Rows.setObjOf_fresh (knd := knd) led).setOf got (by unfold scanBound; omega)) (fun _ => rfl) rfl
        case last =>
          intro s' hm hS'
          obtain ⟨h', g', d', tk', os'⟩ := s'
          obtain rfl : g' = s.gens := hm.gens
          obtain rfl : d' = s.drawn := hm.drawn
          obtain rfl : os' = s.os := hm.os
          refine wpAny_pure (wpAny_pure ⟨rfl, h', tk', rfl, hS', fun b o hb e => ?_⟩)
          refine hm.heap b o ?_ (Heap.get?_push_of_some _ (Heap.get?_push_of_some _ e))
          simp only [List.mem_cons, List.not_mem_nil, or_false, not_or]
          exact ⟨Nat.ne_of_lt hb, by rw [Heap.size_push]; exact Nat.ne_of_lt (Nat.lt_succ_of_lt hb)⟩
      · cases r2 with
        | error e => exact back2
        | ok fl2 =>
          cases fl2 with
          | ret r =>
            obtain ⟨rfl, h', tk, rfl, hS', k'⟩ := back2
            repeat (any_goals (first | assumption | wp_step))
            exact go _ _ hS' k'
          | _ => exact back2.elim
    | _ => exact back.elim
/-- set(xs), a tuple of keys -/
theorem set_of_tuple {l : Addr} {items : Array Value} (val : Nat → κ) {Q : Value → Shared → Prop} (calm : A.handled = none) (hl : s.heap.IsTuple l items) (keys : ∀ i v, items[i]? = some v → knd.is (val i) v = true ∧ v.scannable = true) (room : items.size + 1 < scanBound)
    (go : ∀ (h' : Heap) (tk : Nat), h'.SetOf knd s.heap.objs.size (fun k => decide (k ∈ met val items.size)) (met val items.size).length → (∀ b o, b < s.heap.objs.size → s.heap.get? b = some o → h'.get? b = some o) → Q (.ref s.heap.objs.size) { s with heap := h', toks := tk }) :
    wpAny (model prog w) A (call (.type "set") [.ref l]) Q E s := by
  obtain ⟨c, tl, hmro⟩ := F.called_set.mro
  have made := F.called_set.made
  have sub := F.called_set.sub
  refine wpAny_call (codeAny_of_tree (?_))
  show wpAny _ _ (callAny (.type "set") _) _ _ _
  refine wpAny_pure ⟨Code.quiet_builtin _ (by decide +kernel), codeAny_builtin F.entry_type_call (?_)⟩
  rw [Around.under_plain (weight_type_call_type "set" [.ref l] []) rfl]
  have a1 := F.called_set.notType
  have a2 := F.called_set.canCreate
  have a3 := F.typeCall_set_1 (.ref l)
  repeat (any_goals (first | assumption | wp_step))
  refine codeAny_mono (code_set_new_1 (.ref l) (E := E) (Q₁ := fun obj s1 => ∃ led : Bool, obj = .ref s.heap.objs.size ∧ s1 = { s with heap := s.heap.push { cls := .type "set", dict := none, data := .set #[] 0 (.fresh 0 0 led) } }) fun led => ⟨led, rfl, rfl⟩) fun r s1 back => ?_
  cases r with
  | error e => exact back
  | ok fl =>
    cases fl with
    | ret obj =>
      obtain ⟨led, rfl, rfl⟩ := back
      have atS : (s.heap.push { cls := .type "set", dict := none, data := .set #[] 0 (.fresh 0 0 led) }).get? s.heap.objs.size = some { cls := .type "set", dict := none, data := .set #[] 0 (.fresh 0 0 led) } := Heap.get?_push_size _ rfl
      have isS : Shared.TypeIs { s with heap := s.heap.push { cls := .type "set", dict := none, data := .set #[] 0 (.fresh 0 0 led) } } (.ref s.heap.objs.size) "set" := ⟨_, atS, rfl⟩
      have b1 := F.called_set.init.lookup
      have b2 := F.called_set.init.bind (.ref s.heap.objs.size)
      repeat (any_goals (first | assumption | wp_step))
      refine codeAny_mono (codeAny_call_builtin (R := wants (fun r s2 => r = .none ∧ ∃ h' tk, s2 = { s with heap := h', toks := tk } ∧ h'.SetOf knd s.heap.objs.size (fun k => decide (k ∈ met val items.size)) (met val items.size).length ∧
          ∀ b o, b < s.heap.objs.size → s.heap.get? b = some o → h'.get? b = some o) E) F.called_set.init.plain F.entry_set_init (check_set_init_1 isS (?_))) fun r2 s2 back2 => ?_
      · obtain ⟨ol, hol, hcl, nl, hdl⟩ := hl
        obtain ⟨ocls, odict, odata, oslots⟩ := ol
        simp only at hcl hdl
        subst hcl
        subst hdl
        have hol2 : (s.heap.push { cls := .type "set", dict := none, data := .set #[] 0 (.fresh 0 0 led) }).get? l = some { cls := .type "tuple", dict := odict, data := .seq items nl, slots := oslots } := Heap.get?_push_of_some _ hol
        have n1 := sub_tup_set
        have n2 := sub_tup_frozenset
        have n3 : (Value.type "tuple" == Value.type "dict") = false := by decide
        have hl1 : (s.heap.push { cls := .type "set", dict := none, data := .set #[] 0 (.fresh 0 0 led) }).IsTuple l items := ⟨_, hol2, rfl, nl, rfl⟩
        unfold Builtin.«set.__init__» noKeywords Builtin.Frozenset.updateFrom
        generalize hPI : pyIter = PI
        wp_walk
        subst hPI
        refine wpAny_pyIter_tuple hl1 (wpAny_bind (wpAny_runValue (?_)))
        have lS : l < s.heap.objs.size := Heap.lt_size hol
        have calm3 : A.in1.in1.in1.handled = none := by simp [calm]
        have neI : l ≠ (s.heap.push { cls := .type "set", dict := none, data := .set #[] 0 (.fresh 0 0 led) }).objs.size := by
          rw [Heap.size_push]
          exact Nat.ne_of_lt (Nat.lt_succ_of_lt lS)
        have outS : s.heap.objs.size ∉ [(s.heap.push { cls := .type "set", dict := none, data := .set #[] 0 (.fresh 0 0 led) }).objs.size, l] := by
          rw [Heap.size_push]
          simp only [List.mem_cons, List.not_mem_nil, or_false, not_or]
          exact ⟨Nat.ne_of_lt (Nat.lt_succ_self _), Nat.ne_of_gt lS⟩
        refine update_turns ((Walks.tuple calm3 _ l neI items).toS) s.heap.objs.size outS val keys room (items.size - 0) 0 _ (by omega) (Nat.zero_le _) ⟨⟨_, Heap.get?_push_size _ rfl, rfl, rfl⟩, (hl1.push _)⟩ ?first ?last
        case first =>
          have got : ((s.heap.push { cls := .type "set", dict := none, data := .set #[] 0 (.fresh 0 0 led) }).push { cls := .type "tuple_iterator", data := .fields #[.ref l, .int 0 0] }).get? s.heap.objs.size = some { cls := .type "set", dict := none, data := .set #[] 0 (.fresh 0 0 led) } := Heap.get?_push_of_some _ atS
          exact setOf_same ((PyProof.Rows.setObjOf_fresh (knd := knd) led).setOf got (by unfold scanBound; omega)) (fun _ => rfl) rfl
        case last =>
          intro s' hm hS'
          obtain ⟨h', g', d', tk', os'⟩ := s'
          obtain rfl : g' = s.gens := hm.gens
          obtain rfl : d' = s.drawn := hm.drawn
          obtain rfl : os' = s.os := hm.os
          refine wpAny_pure (wpAny_pure ⟨rfl, h', tk', rfl, hS', fun b o hb e => ?_⟩)
          refine hm.heap b o ?_ (Heap.get?_push_of_some _ (Heap.get?_push_of_some _ e))
          simp only [List.mem_cons, List.not_mem_nil, or_false, not_or]
          exact ⟨Nat.ne_of_lt hb, by rw [Heap.size_push]; exact Nat.ne_of_lt (Nat.lt_succ_of_lt hb)⟩
      · cases r2 with
        | error e => exact back2
        | ok fl2 =>
          cases fl2 with
          | ret r =>
            obtain ⟨rfl, h', tk, rfl, hS', k'⟩ := back2
            repeat (any_goals (first | assumption | wp_step))
            exact go _ _ hS' k'
          | _ => exact back2.elim
    | _ => exact back.elim
end
end My
namespace My
open PySem PySem.Spec L2
theorem entry_set_eq : entryFor table "set.__eq__" = some Builtin.«frozenset.__eq__» := entryFor_alias (id' := "frozenset.__eq__") (by kernel_rfl) rfl (by decide +kernel) (by kernel_rfl)
section
variable {prog : Program} {w : World} {A : Around} {E : Value → Shared → Prop} {s : Shared} {κ : Type} [DecidableEq κ] {knd : KeyKind prog w κ}
theorem size_of {a : Addr} {S : κ → Bool} {n : Nat} {Q : Nat → Shared → Prop} (h : s.heap.SetOf knd a S n) (q : Q n s) : wpAny (model prog w) A (Builtin.Frozenset.sizeOf a) Q E s := by
  obtain ⟨o, es, ep, t, ho, hx, hd, _, _, _, hf, hn⟩ := h
  unfold Builtin.Frozenset.sizeOf
  exact wpAny_bind (wpAny_setEntries_of ho hd hf (wpAny_pure (by rw [hn]; exact q)))
theorem quiet_all {M : Model} {a : Addr} {Q : Option (List (Int × Value)) × Unit → Shared → Prop} (q : Q (none, ()) s) : ∀ l : List (Int × Value), (∀ e ∈ l, e.2.scannable = true) →
    wpAny M A (forIn l ((none : Option (List (Int × Value))), ()) fun x _ => match x with
      | (_, x) => do
        let d ← Builtin.Frozenset.quietEq x
        if (!d) = true then do
            let d ← Builtin.Frozenset.walk a
            pure (ForInStep.done (some d, ()))
          else pure (ForInStep.yield (none, ()))) Q E s
  | [], _ => wpAny_pure q
  | (h, x) :: l, sc => by
    rw [List.forIn_cons]
    have e : Builtin.Frozenset.quietEq x = pure true := by
      have z := sc (h, x) (List.mem_cons_self ..)
      unfold Builtin.Frozenset.quietEq
      cases x <;> first | rfl | cases z
    refine wpAny_bind ?_
    dsimp only
    rw [e]
    refine wpAny_bind (wpAny_pure ?_)
    rw [if_neg (by simp)]
    exact wpAny_pure (quiet_all q l fun e he => sc e (List.mem_cons_of_mem _ he))
theorem subset_all {a b : Addr} {S' : κ → Bool} {m : Nat} {oa : Obj} {ea : Array (Int × Value)} {pa : Nat} {ta : SetTable} (ho : s.heap.get? a = some oa) (hd : oa.data = .set ea pa ta) (hf : ta.fits ea.size = true) (hb : s.heap.SetOf knd b S' m) {id : String} {Q : Option Bool × Unit → Shared → Prop} :
    ∀ l : List (Int × Value), ElemsOf knd l → (∀ r : Bool, (r = true ↔ ∀ e ∈ l, ∀ k, knd.is k e.2 = true → S' k = true) → Q (if r then none else some false, ()) s) →
    wpAny (model prog w) A (forIn l ((none : Option Bool), ()) fun x _ => match x with
      | (h, x) => do
        let d ← holding [x] (setFind b x h)
        if d.isNone = true then pure (ForInStep.done (some false, ()))
          else do
            Builtin.Frozenset.unchanged id a pa
            pure (ForInStep.yield (none, ()))) Q E s
  | [], _, q => wpAny_pure (q true ⟨fun _ e he => absurd he List.not_mem_nil, fun _ => rfl⟩)
  | (h, x) :: l, el, q => by
    rw [List.forIn_cons]
    obtain ⟨⟨k, hk, eh⟩, sc⟩ := el.head
    dsimp only at hk eh sc
    subst eh
    refine wpAny_bind (wpAny_bind (wpAny_holding (wpAny_setFind_of hk sc hb fun r hr => ?_)))
    have only : ∀ k', knd.is k' x = true → k' = k := fun k' h' => knd.inj _ _ _ h' hk
    cases r with
    | none =>
      have no : S' k = false := hr.symm
      rw [if_pos (show (none : Option Nat).isNone = true from rfl)]
      refine wpAny_pure (wpAny_pure (q false ⟨fun z => (by cases z), fun z => ?_⟩))
      have y := z _ (List.mem_cons_self ..) k hk
      rw [no] at y
      cases y
    | some i =>
      have yes : S' k = true := hr.symm
      rw [if_neg (by simp)]
      unfold Builtin.Frozenset.unchanged
      refine wpAny_bind (wpAny_bind (wpAny_setEpoch_of ho hd hf ?_))
      rw [if_neg (by simp)]
      refine wpAny_pure (wpAny_pure (subset_all ho hd hf hb l el.tail fun r hr2 => q r ⟨fun z e he k' hk' => ?_, fun z => hr2.mpr fun e he => z e (List.mem_cons_of_mem _ he)⟩))
      rcases List.mem_cons.mp he with e1 | he
      · subst e1
        rw [only k' hk']
        exact yes
      · exact hr2.mp z e he k' hk'
theorem eq_of_sets {a b : Addr} {S S' : κ → Bool} {n m : Nat} {Q : Value → Shared → Prop} (ha : s.heap.SetOf knd a S n) (hb : s.heap.SetOf knd b S' m)
    (q : ∀ r : Bool, (r = true ↔ n = m ∧ ∀ k, S k = true → S' k = true) → Q (.bool r) s) : wpAny (model prog w) A (call (.builtin "set.__eq__") [.ref a, .ref b]) Q E s := by
  refine wpAny_call_entry F.slot_set_eq ha.typeIs entry_set_eq ?_ (F.args_set_eq_2 _ _)
  unfold Builtin.«frozenset.__eq__»
  refine wpAny_bind ?_
  unfold Builtin.Frozenset.slot1
  refine wpAny_bind (wpAny_of_eq (a := ((Value.ref a : Value), [Value.ref b])) (by first | rfl | (simp only [slotArgs]; rfl)) ?_)
  refine wpAny_pure (wpAny_bind ?_)
  unfold Builtin.Frozenset.isAnySet
  refine wpAny_bind (wpAny_isInstance hb.typeIs sub_set_self (wpAny_pure ?_))
  refine wpAny_bind (wpAny_pure (wpAny_bind (wpAny_pure (wpAny_bind (size_of ha (wpAny_bind (size_of hb ?_)))))))
  refine wpAny_bind ?_
  by_cases hn : n = m
  · subst hn
    rw [if_neg (by simp)]
    refine wpAny_bind (wpAny_bind (wpAny_isInstance ha.typeIs F.sub_set_frozenset (wpAny_pure ?_)))
    dsimp only
    rw [if_neg (by simp)]
    unfold Builtin.Frozenset.subsetOf
    refine wpAny_bind (size_of ha (wpAny_bind (size_of hb ?_)))
    rw [if_neg (Nat.lt_irrefl _)]
    obtain ⟨oa, ea, pa, ta, ha1, ha2, ha3, ha4, ha5, ha6, ha7, ha8⟩ := ha
    obtain ⟨ob, eb, pb, tb, hb1, hb2, hb3, hb4, hb5, hb6, hb7, hb8⟩ := id hb
    refine wpAny_bind (wpAny_setEpoch_of ha1 ha3 ha7 (wpAny_bind ?_))
    unfold Builtin.Frozenset.walkUnseen
    refine wpAny_bind (wpAny_setEntries_of ha1 ha3 ha7 (wpAny_bind (wpAny_setEntries_of hb1 hb3 hb7 ?_)))
    refine wpAny_bind (quiet_all ?_ _ fun e he => (List.mem_append.mp he).elim (fun h => (ha4 e h).2) fun h => (hb4 e h).2)
    refine wpAny_pure (wpAny_bind (subset_all ha1 ha3 ha7 hb _ ha4 fun r hr => ?_))
    have fin : (r = true ↔ n = n ∧ ∀ k, S k = true → S' k = true) := by
      rw [hr]
      constructor
      · intro z
        refine ⟨rfl, fun k hk => ?_⟩
        obtain ⟨e, he, hke⟩ := (ha5 k).mp hk
        exact z e he k hke
      · rintro ⟨_, z⟩ e he k hke
        exact z k ((ha5 k).mpr ⟨e, he, hke⟩)
    cases r with
    | true => exact wpAny_pure (wpAny_pure ⟨_, rfl, q true fin⟩)
    | false => exact wpAny_pure (wpAny_pure ⟨_, rfl, q false fin⟩)
  · rw [if_pos (by simpa using hn)]
    exact wpAny_pure (wpAny_pure ⟨_, rfl, q false ⟨fun z => (by cases z), fun z => absurd z.1 hn⟩⟩)
end
end My
namespace My
open PySem PySem.Spec PyProof.Rows L2
/-- the class has the def at f as __eq__ and no __ne__ -/
structure NeK (K : PySem.W.Frag) (C f : Addr) : Prop where
  cls : ∃ nm q N bs hdct sn sub ab col dd k0 k1 k2 k3 k5 newId, K.lookup C = some (excClassObj nm q C N bs [.type "object"] hdct sn sub ab col dd k0 k1 k2 k3 k5 newId) ∧ PySem.W.nsOkIn K N = true ∧
    PySem.W.nsIn K N "__eq__" = some (some (.ref f)) ∧ PySem.W.nsIn K N "__ne__" = some none
  fn : ∃ od fd sl, K.lookup f = some ⟨.type "function", od, .func fd, sl⟩
theorem ty_eq : ∃ y, typeLookup (.type "object") ("__eq__" : Str) = pure y := ⟨some (.builtin "object.__eq__"), by kernel_rfl⟩
theorem ns_some {K : PySem.W.Frag} {h : Heap} {N : Addr} {mg : Str → Option Value} {n : Str} {v : Value} (X : K.In h) (G : h.Ns N mg) (e : PySem.W.nsIn K N n = some (some v)) : mg n = some v := by
  obtain ⟨o, es, ep, ho, hd, _, hf⟩ := G
  cases q : K.lookup N with
  | none => unfold PySem.W.nsIn at e; rw [q] at e; cases e
  | some on =>
    have z := X _ _ q
    rw [ho] at z
    cases z
    obtain ⟨cl, od, dt, sl⟩ := o
    dsimp only at hd
    subst hd
    unfold PySem.W.nsIn at e
    rw [q] at e
    dsimp only at e
    cases he : es.toList.find? (·.key.isStr n) with
    | none => rw [he] at e; dsimp only at e; split at e <;> cases e
    | some en =>
      rw [he] at e
      cases e
      rw [← hf]
      unfold nsFind findBy
      rw [← Array.find?_toList, he]
      rfl
section
variable {X : Cx} {CX : CXT} {k : Nat} {f C : Addr} {fd : FuncData} {ps : List Str} {sp : Sp} {E : XK}
def rOwnNe (C : Addr) (sp : Sp) (E : XK) : R2 := fun x y H Q => ∃ a dx fs b dy gs, x = .ref a ∧ H a = some (.ins C dx fs) ∧ y = .ref b ∧ H b = some (.ins C dy gs) ∧ sp [.ref a, .ref b] H (fun v H' => ∃ c, v = .bl c ∧ Q (.bl (!c)) H') E
theorem op_ownNe (T : NeK X.K C f) (F : FnOk X.prog X.w X.K X.mg X.base CX k f fd ps sp) (hr : Room (k + 1) X.A) (hb : Binds X.K fd ps []) (hx : Passes CX X E) : OpR X (compareOp .NotEq) (rOwnNe C sp E) := by
  intro pins s σ H x y v u Q I rx ry hq
  obtain ⟨a, dx, fs, b, dy, gs, rfl, ea, rfl, eb, hsp⟩ := hq
  cases rx
  cases ry
  obtain ⟨mA, O, _⟩ := ins_get I.hok ea
  obtain ⟨od, J, _⟩ := O.look
  obtain ⟨mB, O', _⟩ := ins_get I.hok eb
  obtain ⟨od', J', _⟩ := O'.look
  obtain ⟨nm, q, N, bs, hdct, sn, sub, ab, col, dd, k0, k1, k2, k3, k5, nid, hC, hok, heq, hne⟩ := T.cls
  obtain ⟨ofd, fdd, sl, hf⟩ := T.fn
  obtain ⟨yv, hy⟩ := ty_eq
  have X0 := I.kIn
  have hns : s.heap.Ns N (s.heap.nsMap N) := .of_isNs (PySem.W.isNs_of_in X0 hok)
  have Y : s.heap.OwnEqNoNe a C f "object" [.type "object"] :=
    ⟨_, _, nm, q, N, bs, hdct, sn, sub, ab, col, dd, k0, k1, k2, k3, k5, nid, _, yv, J.at_, J.cls, X0 _ _ hC, hns, ns_some X0 hns heq, X0 _ _ hf, rfl, PySem.F.mro_object, hy, PySem.W.ns_none_of X0 hns hne⟩
  obtain ⟨hp, g, d, t, os⟩ := s
  have fr : FnOk X.prog X.w X.K X.mg X.base CX k f fd ps sp := F
  refine compareOp_ne_ownEq PySem.F.cmp_object Y J'.at_ J'.cls (by have := hr.un; omega) ?_
  refine wpAny_call ?_
  have hl : ([Value.ref a, Value.ref b] : List Value).length = ps.length := by
    have := F.len _ _ _ _ hsp
    exact this
  have bd : BindsTo ⟨hp, g, d, t, os⟩ fd ⟨[.ref a, .ref b], []⟩ (ps.zip [.ref a, .ref b]) := by
    have z := hb ⟨hp, g, d, t, os⟩ [.ref a, .ref b] I.kIn (by rw [List.append_nil]; exact hl)
    rw [List.append_nil] at z
    exact z
  refine codeAny_mono (F.run X.A.in1 X.stack ⟨hp, g, d, t, os⟩ H ⟨[.ref a, .ref b], []⟩ [.ref a, .ref b] [.ref a, .ref b] _ E hr.in1 I.env0.in1 bd (.cons rfl (.cons rfl .nil)) hsp) fun r2 s2 hq => ?_
  match r2, hq with
  | .error er, hq => exact hx pins σ H _ er s2 I hq
  | .ok (.ret u), hq =>
    obtain ⟨z, H', I', rz, c, ez, q⟩ := I.after hq
    subst ez
    cases rz
    exact ⟨c, rfl, .bl (!c), H', I', rfl, q⟩
end
end My
namespace My
open PySem PySem.Spec PyProof.Rows L2
section
variable {prog : Program} {w : World} {A : Around} {E : Value → Shared → Prop} {h : Heap} {g : Array GenState} {d : Drawn} {t : Nat} {os : OsState} {C x f : Addr} {B : String} {bm : List Value} {v tb : Value} {K : PySem.W.Frag}
theorem neA_entry (X : h.OwnEqNoNe x C f B bm) (hu : A.units < cLine) {Q : Fin → Shared → Prop}
    (hcall : wpAny (model prog w) A (call (.ref f) [.ref x, v]) (fun v s' => ∃ b, v = .bool b ∧ Q (.done (.ret (.bool (!b)))) s') E ⟨h, g, d, t, os⟩) :
    wpAny (model prog w) A (Builtin.«object.__ne__» ⟨[.ref x, v], []⟩) Q E ⟨h, g, d, t, os⟩ := by
  unfold Builtin.«object.__ne__»
  repeat (first
    | with_reducible refine wpAny_cRoomFor hu ?_
    | (refine wpAny_bind (m := callSpecialIfBound? (.ref x) (Str.ofString "__eq__") [v])
        (wpAny_callSpecialIfBound?_own X.ownEq (wpAny_mono hcall (fun r s' hr => by
          obtain ⟨b, rfl, hq⟩ := hr
          repeat (first | exact hq | exact wpAny_pure hq | exact wpAny_truthy_bool hq | (refine wpAny_bind (m := truthy (.bool _)) (wpAny_truthy_bool ?_)) | wp_step)) fun _ _ e => e)))
    | wp_step)
theorem neA_try (FB : CmpFacts B bm) (X : h.OwnEqNoNe x C f B bm) (hu : A.units + 1 < cLine) {Q : Option Value → Shared → Prop}
    (hcall : wpAny (model prog w) A.in1 (call (.ref f) [.ref x, v]) (fun v s' => ∃ b, v = .bool b ∧ Q (some (.bool (!b))) s') E ⟨h, g, d, t, os⟩) :
    wpAny (model prog w) A (tryCompare (.ref x) "__ne__" v) Q E ⟨h, g, d, t, os⟩ := by
  obtain ⟨o, of, nm, q, N, bs, hdct, sn, sub, ab, col, dd, k0, k1, k2, k3, k5, newId, mN, yv, hx, hc, hC, hn, _, _, _, _, _, hne⟩ := id X
  simp only [tryCompare]
  refine wpAny_bind (wpAny_callSpecialIfBound?_inst hx hc hC hn hne FB.mro FB.ne (wpAny_call (codeAny_call_builtin FB.ne.plain F.cmpEntry_ne
    (wpAny_check_slot_inst F.cmpKind_ne F.cmpSplit_ne (F.cmpArgs_ne _ _) FB.hasObject hx hc hC
      (neA_entry (A := A.in1) X hu (wpAny_mono hcall (fun v s' hv => ?_) fun _ _ e => e))))))
  obtain ⟨b, rfl, hq⟩ := hv
  first | exact ⟨b, rfl, wpAny_pure hq⟩ | exact ⟨b, rfl, wpAny_pure (wpAny_pure hq)⟩ | exact ⟨b, rfl, hq⟩
theorem neA_cmp (FB : CmpFacts B bm) (X : h.OwnEqNoNe x C f B bm) (KX : K.In h) (hb : PySem.W.Looks (model prog w) h (typeOf v) tb) (hn : PySem.W.notFirst K C tb = true) (hu : A.units + 1 < cLine) {Q : Value → Shared → Prop}
    (hcall : wpAny (model prog w) A.in1 (call (.ref f) [.ref x, v]) (fun v s' => ∃ b, v = .bool b ∧ Q (.bool (!b)) s') E ⟨h, g, d, t, os⟩) :
    wpAny (model prog w) A (compareOp .NotEq (.ref x) v) Q E ⟨h, g, d, t, os⟩ := by
  have X' := X
  obtain ⟨o, of, nm, q, N, bs, hdct, sn, sub, ab, col, dd, k0, k1, k2, k3, k5, newId, mN, yv, hx, hc, _⟩ := X'
  unfold compareOp
  show wpAny (model prog w) A (richCompare .NotEq (.ref x) v) Q E _
  unfold richCompare
  simp only [oneThing_ref]
  refine wpAny_holding ?_
  refine wpAny_bind (wpAny_cRoomFor (Nat.lt_of_succ_lt hu) ?_)
  rw [cmpInfo_NotEq]
  dsimp only
  refine wpAny_bind (wpAny_typeOf_ref hx ?_)
  rw [hc]
  refine wpAny_bind (hb.here ?_)
  have fin : wpAny (model prog w) A (tryCompare (.ref x) "__ne__" v) (fun r s' => ∃ b, r = some (.bool b) ∧ Q (.bool b) s') E ⟨h, g, d, t, os⟩ := neA_try FB X hu (wpAny_mono hcall (fun v s' hv => by
    obtain ⟨b, rfl, hq⟩ := hv
    exact ⟨b, rfl, _, rfl, hq⟩) fun _ _ e => e)
  split
  · rename_i q
    have e : PySem.W.subIn K tb (.ref C) = some false := by
      rcases Bool.or_eq_true_iff.mp hn with e | e
      · rw [beq_iff_eq.mp e] at q; simp at q
      · exact beq_iff_eq.mp e
    refine wpAny_bind ((PySem.W.looks_subIn KX e).here ?_)
    simp only [Bool.false_eq_true, if_false]
    refine wpAny_bind (wpAny_mono fin (fun r s' z => ?_) fun _ _ e => e)
    obtain ⟨b, rfl, hq⟩ := z
    exact wpAny_pure hq
  · refine wpAny_bind (wpAny_pure ?_)
    simp only [Bool.false_eq_true, if_false]
    refine wpAny_bind (wpAny_mono fin (fun r s' z => ?_) fun _ _ e => e)
    obtain ⟨b, rfl, hq⟩ := z
    exact wpAny_pure hq
end
section
variable {X : Cx} {CX : CXT} {k : Nat} {f C : Addr} {fd : FuncData} {ps : List Str} {sp : Sp} {E : XK}
/-- x == y, x an instance, y of any kind that does not go first -/
def rOwnEqA (K : PySem.W.Frag) (C : Addr) (sp : Sp) (E : XK) : R2 := fun x y H Q => ∃ a dx fs t, x = .ref a ∧ H a = some (.ins C dx fs) ∧ TyX K H y t ∧ PySem.W.notFirst K C t = true ∧ sp [.ref a, y] H Q E
theorem op_ownEqA (hs : PySem.W.findIn X.K (.ref C) "__eq__" = some (some (.ref f))) (hf : PySem.W.isFn X.K (.ref f) = true) (F : FnOk X.prog X.w X.K X.mg X.base CX k f fd ps sp) (hr : Room k X.A) (hb : Binds X.K fd ps []) (hx : Passes CX X E) : OpR X (compareOp .Eq) (rOwnEqA X.K C sp E) := by
  intro pins s σ H x y v u Q I rx ry hq
  obtain ⟨a, dx, fs, t, rfl, ea, ty, hn, hsp⟩ := hq
  cases rx
  obtain ⟨mA, O, _⟩ := ins_get I.hok ea
  obtain ⟨od, J, _⟩ := O.look
  obtain ⟨P, Z, p, _⟩ := kit_of I ry ty
  obtain ⟨m, hF⟩ := I.fr
  show wpAny (model X.prog X.w) X.A (richCompare .Eq (.ref a) u) (EP X pins σ Q) X.xe s
  refine PySem.W.cmp_K (op := .Eq) (tb := t) hr.units0 hF I.ok.mod.kin J (Z.ty _ _ I.kIn p) hn hs hf ?_
  refine wpAny_mono (run_fn (us := [.ref a, u]) (vs := [.ref a, y]) (dvs := []) (ds := []) F hr hb .nil hx I (.cons rfl (.cons ry .nil)) hsp) (fun w s' hw => ?_) fun _ _ e => e
  obtain ⟨z, H', I', rz, q⟩ := hw
  exact cmpBack_of rz ⟨z, H', I', rz, q⟩
def rOwnNeA (K : PySem.W.Frag) (C : Addr) (sp : Sp) (E : XK) : R2 := fun x y H Q => ∃ a dx fs t, x = .ref a ∧ H a = some (.ins C dx fs) ∧ TyX K H y t ∧ PySem.W.notFirst K C t = true ∧ sp [.ref a, y] H (fun v H' => ∃ c, v = .bl c ∧ Q (.bl (!c)) H') E
theorem op_ownNeA (T : NeK X.K C f) (F : FnOk X.prog X.w X.K X.mg X.base CX k f fd ps sp) (hr : Room (k + 1) X.A) (hb : Binds X.K fd ps []) (hx : Passes CX X E) : OpR X (compareOp .NotEq) (rOwnNeA X.K C sp E) := by
  intro pins s σ H x y v u Q I rx ry hq
  obtain ⟨a, dx, fs, ty, rfl, ea, tyx, hnf, hsp⟩ := hq
  cases rx
  obtain ⟨mA, O, _⟩ := ins_get I.hok ea
  obtain ⟨od, J, _⟩ := O.look
  obtain ⟨P, Z, p, _⟩ := kit_of I ry tyx
  obtain ⟨nm, q, N, bs, hdct, sn, sub, ab, col, dd, k0, k1, k2, k3, k5, nid, hC, hok, heq, hne⟩ := T.cls
  obtain ⟨ofd, fdd, sl, hf⟩ := T.fn
  obtain ⟨yv, hy⟩ := ty_eq
  have X0 := I.kIn
  have hns : s.heap.Ns N (s.heap.nsMap N) := .of_isNs (PySem.W.isNs_of_in X0 hok)
  have Y : s.heap.OwnEqNoNe a C f "object" [.type "object"] :=
    ⟨_, _, nm, q, N, bs, hdct, sn, sub, ab, col, dd, k0, k1, k2, k3, k5, nid, _, yv, J.at_, J.cls, X0 _ _ hC, hns, ns_some X0 hns heq, X0 _ _ hf, rfl, PySem.F.mro_object, hy, PySem.W.ns_none_of X0 hns hne⟩
  have Lk := Z.ty (model X.prog X.w) s.heap I.kIn p
  obtain ⟨hp, g, d, t, os⟩ := s
  refine neA_cmp PySem.F.cmp_object Y X0 Lk hnf (by have := hr.un; omega) ?_
  refine wpAny_call ?_
  have hl : ([Value.ref a, u] : List Value).length = ps.length := by
    have := F.len _ _ _ _ hsp
    exact this
  have bd : BindsTo ⟨hp, g, d, t, os⟩ fd ⟨[.ref a, u], []⟩ (ps.zip [.ref a, u]) := by
    have z := hb ⟨hp, g, d, t, os⟩ [.ref a, u] I.kIn (by rw [List.append_nil]; exact hl)
    rw [List.append_nil] at z
    exact z
  refine codeAny_mono (F.run X.A.in1 X.stack ⟨hp, g, d, t, os⟩ H ⟨[.ref a, u], []⟩ [.ref a, u] [.ref a, y] _ E hr.in1 I.env0.in1 bd (.cons rfl (.cons ry .nil)) hsp) fun r2 s2 hq => ?_
  match r2, hq with
  | .error er, hq => exact hx pins σ H _ er s2 I hq
  | .ok (.ret u), hq =>
    obtain ⟨z, H', I', rz, c, ez, q⟩ := I.after hq
    subst ez
    cases rz
    exact ⟨c, rfl, .bl (!c), H', I', rfl, q⟩
end
end My
namespace My
open PySem PySem.Spec PyProof.Rows L2
/-! ### sets of texts -/
def hasK {κ : Type} [DecidableEq κ] (l : List κ) (k : κ) : Bool := decide (k ∈ l)
theorem hasK_iff {κ : Type} [DecidableEq κ] {l : List κ} {k : κ} : hasK l k = true ↔ k ∈ l := decide_eq_true_iff
def keyAt (zs : List Str) (i : Nat) : Key := .inr (zs.getD i Str.empty)
/-- how many different texts -/
def dif (zs : List Str) : Nat := (met (keyAt zs) zs.length).length
theorem keyAt_mem {zs : List Str} {k : Key} : k ∈ met (keyAt zs) zs.length ↔ ∃ x ∈ zs, k = .inr x := by
  rw [met_mem]
  constructor
  · rintro ⟨j, a, b⟩
    refine ⟨zs[j], List.getElem_mem a, ?_⟩
    rw [← b]
    unfold keyAt
    rw [List.getD_eq_getElem?_getD, List.getElem?_eq_getElem a]
    rfl
  · rintro ⟨x, hx, rfl⟩
    obtain ⟨j, a, b⟩ := List.getElem_of_mem hx
    refine ⟨j, a, ?_⟩
    unfold keyAt
    rw [List.getD_eq_getElem?_getD, List.getElem?_eq_getElem a, ← b]
    rfl
theorem dif_le (zs : List Str) : dif zs ≤ zs.length := met_le _ _
theorem stp_nodup {κ : Type} [DecidableEq κ] {acc : List κ} {k : κ} (h : acc.Nodup) : (stp acc k).Nodup := by
  unfold stp
  split
  · exact h
  · rename_i n
    exact List.nodup_append.mpr ⟨h, List.nodup_cons.mpr ⟨List.not_mem_nil, List.nodup_nil⟩, fun a ha b hb e => n (by rw [List.mem_singleton.mp hb] at e; rw [← e]; exact ha)⟩
theorem met_nodup {κ : Type} [DecidableEq κ] (val : Nat → κ) : ∀ i, (met val i).Nodup
  | 0 => List.nodup_nil
  | i + 1 => by
    rw [met_succ]
    exact stp_nodup (met_nodup val i)
/-- as many as there are exactly if all are different -/
theorem met_full {κ : Type} [DecidableEq κ] (val : Nat → κ) : ∀ i, (met val i).length = i ↔ ∀ j k, j < k → k < i → val j ≠ val k
  | 0 => by simp [met]
  | i + 1 => by
    have ih := met_full val i
    have le := met_le val i
    rw [met_succ, stp_len]
    constructor
    · intro h
      split at h
      · omega
      · rename_i n
        have e : (met val i).length = i := by omega
        intro j k a b q
        by_cases kk : k = i
        · subst kk
          exact n ((met_mem val k (val k)).mpr ⟨j, a, q⟩)
        · exact ih.mp e j k a (by omega) q
    · intro h
      have e := ih.mpr fun j k a b => h j k a (by omega)
      rw [if_neg, e]
      intro m
      obtain ⟨j, a, b⟩ := (met_mem val i (val i)).mp m
      exact h j i a (by omega) b
theorem dif_eq (zs : List Str) : dif zs = zs.length ↔ zs.Nodup := by
  unfold dif
  rw [met_full, List.nodup_iff_pairwise_ne, List.pairwise_iff_getElem]
  have at_ : ∀ j (h : j < zs.length), keyAt zs j = .inr zs[j] := fun j h => by
    unfold keyAt
    rw [List.getD_eq_getElem?_getD, List.getElem?_eq_getElem h]
    rfl
  constructor
  · intro h j k a b lt e
    exact h j k lt b (by rw [at_ j a, at_ k b, e])
  · intro h j k lt b e
    rw [at_ j (by omega), at_ k b] at e
    exact h j k (by omega) b lt (Sum.inr.inj e)
/-- the set of some texts at a -/
def SetT (P : Program) (w : World) (a : Addr) (zs : List Str) : HO := SetK P w a (hasK (met (keyAt zs) zs.length)) (dif zs)
def rSetT (P : Program) (w : World) (K : PySem.W.Frag) : List V → Hp → VK → Prop := fun xs H Q => ∃ (l : Addr) (zs : List Str), xs = [.ref l] ∧ (SqL K H l (zs.map V.str) ∨ SqT K H l (zs.map V.str)) ∧ zs.length ≤ 1000 ∧ ∀ p, H p = none → Q (.ref p) (upd H p (SetT P w p zs))
def rLenT (P : Program) (w : World) : List V → Hp → VK → Prop := fun xs H Q => ∃ (a : Addr) (zs : List Str), xs = [.ref a] ∧ H a = some (SetT P w a zs) ∧ zs.length ≤ 1000 ∧ Q (.int (dif zs : Nat)) H
/-- the same texts -/
def sameT (zs ys : List Str) : Bool := zs.all (fun z => decide (z ∈ ys)) && ys.all (fun y => decide (y ∈ zs))
def rEqT (P : Program) (w : World) : R2 := fun x y H Q => ∃ (a b : Addr) (zs ys : List Str), x = .ref a ∧ y = .ref b ∧ H a = some (SetT P w a zs) ∧ H b = some (SetT P w b ys) ∧ Q (.bl (sameT zs ys)) H
theorem sub_len {κ : Type} [DecidableEq κ] : ∀ (l m : List κ), l.Nodup → (∀ x ∈ l, x ∈ m) → l.length ≤ m.length
  | [], _, _, _ => Nat.zero_le _
  | a :: l, m, nd, sub => by
    have h := sub_len l (m.erase a) (List.nodup_cons.mp nd).2 fun x hx => (List.mem_erase_of_ne (fun e => (List.nodup_cons.mp nd).1 (by rw [← e]; exact hx))).mpr (sub x (List.mem_cons_of_mem _ hx))
    have am := sub a (List.mem_cons_self ..)
    rw [List.length_erase_of_mem am] at h
    have pos := List.length_pos_of_mem am
    rw [List.length_cons]
    omega
theorem perm_len {κ : Type} [DecidableEq κ] {l m : List κ} (hl : l.Nodup) (sub : ∀ x ∈ l, x ∈ m) (e : l.length = m.length) : ∀ x ∈ m, x ∈ l := fun x hx => Classical.byContradiction fun n => by
  have h := sub_len (x :: l) m (List.nodup_cons.mpr ⟨n, hl⟩) fun y hy => (List.mem_cons.mp hy).elim (fun e => by rw [e]; exact hx) (sub y)
  rw [List.length_cons] at h
  omega
section
variable {X : Cx}
theorem scan_str {P : Program} {w : World} {x : Str} {u : Value} (r : RelV (.str x) u) : (mixKind P w).is (.inr x) u = true ∧ u.scannable = true := ⟨kV_is (k := .inr x) r, key_scan (k := .inr x) r⟩
theorem cr_setT (hc : X.calm = true) : CallR X (.type "set") (rSetT X.prog X.w X.K) := by
  intro pins s σ H xs us Q I r h
  obtain ⟨l, zs, rfl, hs, hz, q⟩ := h
  cases r with
  | cons r1 r =>
    cases r
    cases r1
    have calm := I.ok.hd hc
    have keys : ∀ (its : List Value), Vals (zs.map V.str) its → ∀ i v, its.toArray[i]? = some v → (mixKind X.prog X.w).is (keyAt zs i) v = true ∧ v.scannable = true := fun its rv i v hv => by
      rw [List.getElem?_toArray] at hv
      have hi : i < zs.length := by
        have z := (List.getElem?_eq_some_iff.mp hv).1
        rw [← rv.length, List.length_map] at z
        exact z
      obtain ⟨u, hu, ru⟩ := rv.get (i := i) (x := .str zs[i]) (by rw [List.getElem?_map, List.getElem?_eq_getElem hi]; rfl)
      rw [hv] at hu
      cases hu
      have e : keyAt zs i = .inr zs[i] := by
        unfold keyAt
        rw [List.getD_eq_getElem?_getD, List.getElem?_eq_getElem hi]
        rfl
      rw [e]
      exact scan_str ru
    have done : ∀ (its : List Value), Vals (zs.map V.str) its → ∀ (h' : Heap) (tk : Nat), h'.SetOf (mixKind X.prog X.w) s.heap.objs.size (hasK (met (keyAt zs) its.toArray.size)) (met (keyAt zs) its.toArray.size).length →
        (∀ b o, b < s.heap.objs.size → s.heap.get? b = some o → h'.get? b = some o) → EP X pins σ Q (.ref s.heap.objs.size) { s with heap := h', toks := tk } := fun its rv h' tk S kp => by
      have sz : its.toArray.size = zs.length := by rw [List.size_toArray, ← rv.length, List.length_map]
      rw [sz] at S
      exact ⟨.ref _, upd H s.heap.objs.size (SetT X.prog X.w s.heap.objs.size zs), I.laid (t' := tk) (fun b u e => kp b u (Heap.lt_size e) e) (Nat.le_refl _) (setK_new S), rfl, q _ (I.hok.fresh (Nat.le_refl _))⟩
    have small : ∀ (its : List Value), Vals (zs.map V.str) its → its.toArray.size + 1 < scanBound := fun its rv => by
      have sz : its.toArray.size = zs.length := by rw [List.size_toArray, ← rv.length, List.length_map]
      rw [sz]
      unfold scanBound
      omega
    rcases hs with hs | hs
    · obtain ⟨its, rv, pl, _⟩ := I.list hs
      exact set_of_list (knd := mixKind X.prog X.w) (keyAt zs) calm pl.isList (keys its rv) (small its rv) (done its rv)
    · obtain ⟨its, rv, pl, _⟩ := I.tuple hs
      exact set_of_tuple (knd := mixKind X.prog X.w) (keyAt zs) calm (by obtain ⟨o, ho, hcl, n, hd⟩ := pl; exact ⟨o, ho, hcl, n, hd⟩) (keys its rv) (small its rv) (done its rv)
theorem cr_lenT : CallR X (.builtin "len") (rLenT X.prog X.w) := by
  intro pins s σ H vs us Q I r h
  obtain ⟨a, zs, rfl, ha, hz, q⟩ := h
  cases r with
  | cons r1 r =>
    cases r
    cases r1
    obtain ⟨o, es, ep, t, ho, hex, hd, _, _, _, hf, en⟩ := setK_get I ha
    have le := dif_le zs
    exact call_len_set ho hex hd hf (by rw [en]; omega) ⟨.int (dif zs : Nat), H, I.tok _, ⟨_, by rw [en]⟩, q⟩
theorem sameT_iff (zs ys : List Str) : sameT zs ys = true ↔ ∀ x, x ∈ zs ↔ x ∈ ys := by
  unfold sameT
  rw [Bool.and_eq_true, List.all_eq_true, List.all_eq_true]
  constructor
  · rintro ⟨a, b⟩ x
    exact ⟨fun h => of_decide_eq_true (a x h), fun h => of_decide_eq_true (b x h)⟩
  · intro h
    exact ⟨fun x hx => decide_eq_true ((h x).mp hx), fun x hx => decide_eq_true ((h x).mpr hx)⟩
theorem op_eqT (hu : X.A.units < cLine) : OpR X (compareOp .Eq) (rEqT X.prog X.w) := by
  intro pins s σ H x y v u Q I rx ry h
  obtain ⟨a, b, zs, ys, rfl, rfl, ha, hb, q⟩ := h
  cases rx
  cases ry
  have Sa := setK_get I ha
  have Sb := setK_get I hb
  show wpAny _ _ (richCompare .Eq _ _) _ _ _
  refine wpAny_richCompare_same_room Sa.typeIs Sb.typeIs F.slot_set_eq (eq_of_sets Sa Sb fun r hr => ⟨(fun z => nomatch z), ?_⟩) hu
  have er : r = sameT zs ys := by
    rw [Bool.eq_iff_iff, hr, sameT_iff]
    constructor
    · rintro ⟨e, sub⟩ x
      have sub' : ∀ k ∈ met (keyAt zs) zs.length, k ∈ met (keyAt ys) ys.length := fun k hk => hasK_iff.mp (sub k (hasK_iff.mpr hk))
      have back := perm_len (met_nodup _ _) sub' e
      constructor
      · intro h
        obtain ⟨y, hy, e2⟩ := keyAt_mem.mp (sub' _ (keyAt_mem.mpr ⟨x, h, rfl⟩))
        cases e2
        exact hy
      · intro h
        obtain ⟨y, hy, e2⟩ := keyAt_mem.mp (back _ (keyAt_mem.mpr ⟨x, h, rfl⟩))
        cases e2
        exact hy
    · intro same
      have sub : ∀ k ∈ met (keyAt zs) zs.length, k ∈ met (keyAt ys) ys.length := fun k hk => by
        obtain ⟨x, hx, e⟩ := keyAt_mem.mp hk
        exact keyAt_mem.mpr ⟨x, (same x).mp hx, e⟩
      have sub2 : ∀ k ∈ met (keyAt ys) ys.length, k ∈ met (keyAt zs) zs.length := fun k hk => by
        obtain ⟨x, hx, e⟩ := keyAt_mem.mp hk
        exact keyAt_mem.mpr ⟨x, (same x).mpr hx, e⟩
      have l1 := sub_len _ _ (met_nodup (keyAt zs) zs.length) sub
      have l2 := sub_len _ _ (met_nodup (keyAt ys) ys.length) sub2
      exact ⟨Nat.le_antisymm l1 l2, fun k hk => hasK_iff.mpr (sub k (hasK_iff.mp hk))⟩
  subst er
  exact ⟨.bl _, H, I, rfl, q⟩
end
end My
/-! sorted(a tuple of texts) -/
namespace My
open PySem PySem.Spec PyProof.Rows L2
section
variable {prog : Program} {w : World} {A : Around} {E : Value → Shared → Prop} {s : Shared}
theorem collect_tup {l : Addr} {vs : List Value} {Q : List Value → Shared → Prop} (at_ : s.heap.IsTuple l vs.toArray) (small : vs.length ≤ sizeLine)
    (go : Q vs { s with heap := (s.heap.push (seqObj "list" #[] 0)).update s.heap.objs.size (Obj.mapSeq (· ++ vs.toArray)) }) : wpAny (model prog w) A (collect (.ref l)) Q E s := by
  obtain ⟨o, ho, hc, n, hd⟩ := id at_
  unfold collect
  refine wpAny_bind (wpAny_runValue (codeAny_builtin entry_proto_collect' (?_)))
  show wpAny _ _ (do again (.builtin "list.__iadd__" ⟨[← newList [], .ref l], []⟩)) _ _ _
  refine wpAny_bind (wpAny_newList (wpAny_pure ⟨Code.quiet_builtin _ (by decide +kernel), codeAny_builtin entry_list_iadd' (?_)⟩))
  show wpAny _ _ (Builtin.List.listExtendWith (.ref s.heap.objs.size) (.ref l) (.ref s.heap.objs.size)) _ _ _
  unfold Builtin.List.listExtendWith
  have old : (s.heap.push (seqObj "list" #[] 0)).get? l = some o := Heap.get?_push_of_some _ ho
  refine wpAny_bind (wpAny_typeOf (T := "tuple") ⟨o, old, hc⟩ (?_))
  rw [if_pos (show (Builtin.List.listSameRef (Value.ref s.heap.objs.size) (Value.ref l) || Value.type "tuple" == Value.type "list" || Value.type "tuple" == Value.type "tuple") = true by rw [show (Value.type "tuple" == Value.type "tuple") = true from rfl, Bool.or_true])]
  refine wpAny_bind (listItems_at old hd (wpAny_bind (listItems_at (xs := #[]) (n := 0) (Heap.get?_push_size _ rfl) rfl (?_))))
  rw [if_neg (by simp)]
  refine wpAny_bind (listUpdate_at (xs := #[]) (n := 0) (Heap.get?_push_size _ rfl) rfl (wpAny_pure ?_) (Nat.zero_le _) (by show (#[] ++ vs.toArray).size ≤ sizeLine + 1; rw [show ((#[] : Array Value) ++ vs.toArray).size = vs.length by simp]; omega))
  show wpAny (model prog w) A (do
      let o ← load s.heap.objs.size
      match o.data with
      | .seq xs _ => pure xs.toList
      | _ => unsupported "internal:collect") Q E { s with heap := (s.heap.push (seqObj "list" #[] 0)).update s.heap.objs.size (Obj.mapSeq (· ++ vs.toArray)) }
  refine wpAny_bind (wpAny_load (get?_update_seq (Heap.get?_push_size _ rfl) _) (?_))
  show wpAny _ _ (pure ((#[] : Array Value) ++ vs.toArray).toList) Q E _
  have e : ((#[] : Array Value) ++ vs.toArray).toList = vs := by simp
  rw [e]
  exact wpAny_pure go
theorem sorted_tup {l : Addr} {vs : List Value} {ss : List Str} {Q : Value → Shared → Prop} (at_ : s.heap.IsTuple l vs.toArray) (hS : StrsAre vs ss) (few : vs.length < 64)
    (go : ∀ (out : Array Value) (ss' : List Str), StrsAre out.toList ss' → ss'.Perm ss → sortedS ss' = true → Q (.ref (s.heap.objs.size + 1)) { s with heap := sortedAll s.heap vs out }) :
    wpAny (model prog w) A (call (.builtin "sorted") [.ref l]) Q E s := by
  refine Calls.call_function_entry kind_sorted plain_sorted entry_sorted (args_sorted1 _) (?_)
  unfold Builtin.«sorted»
  refine wpAny_bind (m := checkCount "sorted" 1 1 _) (wpAny_pure (wpAny_bind (collect_tup at_ (by rw [sizeLine_eq]; omega) (wpAny_bind (wpAny_newList (?_))))))
  have sz : ((s.heap.push (seqObj "list" #[] 0)).update s.heap.objs.size (Obj.mapSeq (· ++ vs.toArray))).objs.size = s.heap.objs.size + 1 := by rw [Heap.size_update, size_push']
  have at2 : (((s.heap.push (seqObj "list" #[] 0)).update s.heap.objs.size (Obj.mapSeq (· ++ vs.toArray))).push (seqObj "list" vs.toArray 0)).get? (s.heap.objs.size + 1) = some (seqObj "list" vs.toArray 0) := by
    rw [← sz]
    exact Heap.get?_push_size _ rfl
  show wpAny _ _ _ _ _ { s with heap := ((s.heap.push (seqObj "list" #[] 0)).update s.heap.objs.size (Obj.mapSeq (· ++ vs.toArray))).push (seqObj "list" vs.toArray 0) }
  rw [sz]
  refine wpAny_bind (wpAny_holding (wpAny_call_entry slot_list_sort ⟨_, at2, rfl⟩ entry_list_sort (list_sort_treeK strKind_oneLt at2 hS.keysOf (fun v₁ v₂ rest e => keyKind_strs (by rw [← e]; exact hS)) few fun st' a1 a2 => ⟨_, rfl, ?_⟩) (args_list_sort _)))
  obtain ⟨ss', h1, h2, h3⟩ := sorted_out_str hS a1 a2
  exact wpAny_pure ⟨_, rfl, go _ ss' h1 h2 h3⟩
end
/-- sorted(texts), a list's or a tuple's -/
def rSortedB (K : PySem.W.Frag) : List V → Hp → VK → Prop := fun vs H Q => ∃ (a : Addr) (xs : List Str), vs = [.ref a] ∧ (SqL K H a (xs.map V.str) ∨ SqT K H a (xs.map V.str)) ∧ xs.length < 64 ∧ ∀ (ys : List Str) (p : Addr), ys.Perm xs → sortedS ys = true → H p = none → Q (.ref p) (upd H p (.lst (ys.map V.str)))
theorem cr_sortedB {X : Cx} : CallR X (.builtin "sorted") (rSortedB X.K) := by
  intro pins s σ H vs us Q I r h
  obtain ⟨a, xs, rfl, hs, h64, q⟩ := h
  rcases hs with hs | hs
  · exact cr_sortedS pins s σ H _ us Q I r ⟨a, xs, rfl, hs, h64, q⟩
  · obtain ⟨its, rv, pl, _⟩ := I.tuple hs
    rw [Vals.ref1 r]
    have l0 := rv.length
    rw [List.length_map] at l0
    refine sorted_tup (vs := its) (by obtain ⟨o, ho, hcl, n, hd⟩ := pl; exact ⟨o, ho, hcl, n, hd⟩) rv.strs (by rw [← l0]; exact h64) fun out ys h1 h2 h3 => ?_
    obtain ⟨ep, he'⟩ := PyProof.Rows.sortedAll_at s.heap its out
    have len : (ys.map V.str).length ≤ sizeLine := by rw [List.length_map, h2.length_eq]; exact small64 h64
    exact ⟨.ref _, upd H (s.heap.objs.size + 1) (.lst (ys.map V.str)), I.laid (t' := s.toks) (fun _ _ => PyProof.Rows.sortedAll_old) (Nat.le_succ _) ⟨len, out.toList, ep, vals_of_strs h1, he'⟩, rfl, q ys _ h2 h3 (I.hok.fresh (Nat.le_succ _))⟩
end My
/-! enumerate(a tuple) -/
namespace My
open PySem PySem.Spec PyProof.Rows L2
section
variable {prog : Program} {w : World} {A : Around} {E : Value → Shared → Prop} {s : Shared}
theorem next_tup {it l : Addr} {i : Nat} {items : Array Value} {x : Value} {Q : Value → Shared → Prop} (ti : s.heap.IsTupleIter it l i) (tl : s.heap.IsTuple l items) (hx : items[i]? = some x)
    (go : ∀ h', h'.IsTupleIter it l (i + 1) → Heap.SameBut it s.heap h' → Q x { s with heap := h' }) : wpAny (model prog w) A (Builtin.SmallTypes.nextOf (.ref it)) Q E s := by
  obtain ⟨o, ho, hc, hd⟩ := id ti
  obtain ⟨ol, hol, _, nl, hdl⟩ := tl
  unfold Builtin.SmallTypes.nextOf
  refine wpAny_bind (wpAny_callSpecial?_slot (name := Str.ofString "__next__") ti.typeIs F.slot_tuple_iterator_next (wpAny_call_entry F.slot_tuple_iterator_next ti.typeIs F.entry_tuple_iterator_next ?_ (F.args_tuple_iterator_next_1 _)))
  refine wpAny_bind (m := field (.ref it) 0) (wpAny_field ho hd (x := .ref l) rfl ?_)
  rw [if_neg (show ¬ ((Value.ref l == Value.none) = true) by simp)]
  refine wpAny_bind (m := field (.ref it) 1) (wpAny_field ho hd (x := .int i 0) rfl ?_)
  refine wpAny_bind (m := seqItems? (.ref l)) (wpAny_seqItems hol hdl ?_)
  simp only [Int.toNat_natCast, hx]
  refine wpAny_bind (wpAny_setField ho hd (by simp) (wpAny_pure ⟨x, rfl, wpAny_pure (go _ ?_ (Heap.SameBut.update ..))⟩))
  exact ⟨_, Heap.get?_update_self _ ho (Obj.isFreed_of_fields (Obj.data_mapFields hd _)), (Obj.cls_mapFields ..).trans hc, by rw [Obj.data_mapFields hd] <;> simp [rawInt]⟩
theorem next_tup_end {it l : Addr} {i : Nat} {items : Array Value} {Q : Value → Shared → Prop} (calm : A.handled = none) (ti : s.heap.IsTupleIter it l i) (tl : s.heap.IsTuple l items) (hx : items[i]? = none)
    (go : ∀ h' e, Heap.ExtBut it s.heap h' → (∃ o, h'.get? e = some o ∧ o.cls = .type "StopIteration") → E (.ref e) { s with heap := h' }) : wpAny (model prog w) A (Builtin.SmallTypes.nextOf (.ref it)) Q E s := by
  obtain ⟨o, ho, hc, hd⟩ := id ti
  obtain ⟨ol, hol, _, nl, hdl⟩ := tl
  unfold Builtin.SmallTypes.nextOf
  refine wpAny_bind (wpAny_callSpecial?_slot (name := Str.ofString "__next__") ti.typeIs F.slot_tuple_iterator_next (wpAny_call_entry F.slot_tuple_iterator_next ti.typeIs F.entry_tuple_iterator_next ?_ (F.args_tuple_iterator_next_1 _)))
  refine wpAny_bind (m := field (.ref it) 0) (wpAny_field ho hd (x := .ref l) rfl ?_)
  rw [if_neg (show ¬ ((Value.ref l == Value.none) = true) by simp)]
  refine wpAny_bind (m := field (.ref it) 1) (wpAny_field ho hd (x := .int i 0) rfl ?_)
  refine wpAny_bind (m := seqItems? (.ref l)) (wpAny_seqItems hol hdl ?_)
  simp only [Int.toNat_natCast, hx]
  refine wpAny_bind (wpAny_rule (wpAny_bind (wpAny_setField ho hd (by simp) ?_)))
  refine wpAny_bind (m := newExc (.type "StopIteration") []) ?_
  simp only [newExc, newTuple]
  refine wpAny_bind (wpAny_newObj_type ?_ (by size_fits))
  refine wpAny_bind (m := firstArgMember _ _) (wpAny_of_eq (a := Value.none) (by first | rfl | (simp only [firstArgMember]; rfl)) (wpAny_newObj_type ?_ (by size_fits)))
  simp only [raiseNew]
  refine wpAny_bind (wpAny_handled ?_)
  first | rw [show A.in1.handled = none from calm] | rw [calm]
  refine wpAny_bind (wpAny_pure (wpAny_throw (go _ _ (((Heap.SameBut.update ..).extBut.push _).push _) ⟨_, Heap.get?_push_size _ rfl, rfl⟩)))
theorem enum_tup_end {e it l : Addr} {i : Nat} {items : Array Value} {old : Value} {Q : Option Value → Shared → Prop} (calm : A.handled = none) (he : IsEnum s.heap e it i old) (ti : s.heap.IsTupleIter it l i) (tl : s.heap.IsTuple l items) (hx : items[i]? = none)
    (go : ∀ h', Heap.ExtBut it s.heap h' → Q none { s with heap := h' }) : wpAny (model prog w) A (pyNext (.ref e)) Q E s := by
  have isE : s.TypeIs (.ref e) "enumerate" := ⟨_, he, rfl⟩
  unfold pyNext
  refine wpAny_bind (wpAny_attempt (wpAny_callSpecial?_slot (name := Str.ofString "__next__") isE F.slot_enumerate_next (wpAny_call_entry F.slot_enumerate_next isE F.entry_enumerate_next ?_ (F.args_enumerate_next_1 _))))
  refine wpAny_bind (m := field (.ref e) 2) (wpAny_field he rfl (x := .ref it) rfl (wpAny_bind (next_tup_end (show A.in1.handled = none from calm) ti tl hx fun h' x eb hx' => ?_)))
  obtain ⟨o, ho, hc⟩ := hx'
  exact wpAny_bind (wpAny_isInstance (T := "StopIteration") (b := true) ⟨o, ho, hc⟩ isSubtype_stop (wpAny_pure (go _ eb)))
theorem draws_tup (calm : A.handled = none) (it l : Addr) (ne : l ≠ it) (items : Array Value) : Draws prog w A it [it, l] items.size (fun i v => items[i]? = some v) (fun i h => h.IsTupleIter it l i ∧ h.IsTuple l items) where
  live := fun _ _ st => let ⟨o, ho, _⟩ := st.1; ⟨o, ho⟩
  frame := fun _ _ _ st hk => ⟨st.1.at fun o e => hk it (by simp) o e, st.2.at fun o e => hk l (by simp) o e⟩
  item := fun i s Q E hi st go => next_tup st.1 st.2 (x := items[i]) (by simp [hi]) fun h' ti sb => go _ h' s.toks (by simp [hi]) ⟨ti, st.2.extBut sb.extBut ne⟩ sb
  done := fun s Q E st go => next_tup_end calm st.1 st.2 (by simp) go
theorem new_enum_tup (l : Addr) (items : Array Value) (n : Nat) (dct : Option Addr) (sl : Array (Option Value)) :
    Meets (Builtin.«enumerate.__new__» ⟨[.type "enumerate", .ref l], []⟩) (fun _ R s => s.heap.get? l = some { cls := .type "tuple", dict := dct, data := .seq items n, slots := sl } ∧ R (.ok (.ret (.ref (s.heap.push { cls := .type "tuple_iterator", data := .fields #[.ref l, .int 0 0] }).objs.size)))
        { s with heap := (s.heap.push { cls := .type "tuple_iterator", data := .fields #[.ref l, .int 0 0] }).push { cls := .type "enumerate", data := .fields #[.none, .bool false, .ref s.heap.objs.size, rawInt 0, .none, .none] } }) :=
  .of_wp fun prog w A R s h => by
    obtain ⟨hp, g, d, tk, os⟩ := s
    obtain ⟨hl, h⟩ := h
    have sub := sub_enumerate
    have isT : Heap.IsTuple (Shared.heap ⟨hp, g, d, tk, os⟩) l items := ⟨_, hl, rfl, n, rfl⟩
    wp_walk using AutoSeq1.wpAny_loadPart' hl
    refine wpAny_stack_any fun st => wpAny_pure ?_
    split
    · rename_i c _ _ _ _ _
      cases (c == Value.type "enumerate")
      · wp_walk using AutoSeq1.wpAny_loadPart' hl, wpAny_pyIter_tuple isT
        exact ⟨_, rfl, h⟩
      · wp_walk using AutoSeq1.wpAny_loadPart' hl, wpAny_pyIter_tuple isT
        exact ⟨_, rfl, h⟩
    · wp_walk using AutoSeq1.wpAny_loadPart' hl, wpAny_pyIter_tuple isT
      exact ⟨_, rfl, h⟩
theorem enum_tup {l : Addr} {items : Array Value} {Q : Value → Shared → Prop} (isT : s.heap.IsTuple l items)
    (go : ∀ h', IsEnum h' (s.heap.objs.size + 1) s.heap.objs.size 0 .none → h'.IsTupleIter s.heap.objs.size l 0 → h'.objs.size = s.heap.objs.size + 2 → (∀ b o, s.heap.get? b = some o → h'.get? b = some o) → Q (.ref (s.heap.objs.size + 1)) { s with heap := h' }) :
    wpAny (model prog w) A (call (.type "enumerate") [.ref l]) Q E s := by
  obtain ⟨⟨c, dct, dt, sl⟩, hl, hc, n, hd⟩ := isT
  obtain rfl : c = .type "tuple" := hc
  obtain rfl : dt = .seq items n := hd
  refine callType_new F.called_enumerate (by decide) (F.typeCall_enumerate_1 _) (F.newCall_enumerate_1 _) (fun obj => F.args_object_init_2 obj _) F.entry_enumerate_new (new_enum_tup l items n dct sl) ⟨hl, ?_⟩
  have sz : (s.heap.push { cls := .type "tuple_iterator", data := .fields #[.ref l, .int 0 0] }).objs.size = s.heap.objs.size + 1 := Heap.size_push ..
  show _ ∧ _
  rw [sz]
  have he : IsEnum ((s.heap.push { cls := .type "tuple_iterator", data := .fields #[.ref l, .int 0 0] }).push { cls := .type "enumerate", data := .fields #[.none, .bool false, .ref s.heap.objs.size, rawInt 0, .none, .none] }) (s.heap.objs.size + 1) s.heap.objs.size 0 .none := by
    have z := Heap.get?_push_size (s.heap.push { cls := .type "tuple_iterator", data := .fields #[.ref l, .int 0 0] }) (o := { cls := .type "enumerate", data := .fields #[.none, .bool false, .ref s.heap.objs.size, rawInt 0, .none, .none] }) rfl
    rw [sz] at z
    exact z
  exact ⟨⟨_, he, rfl⟩, go _ he ⟨_, Heap.get?_push_of_some _ (Heap.get?_push_size _ rfl), rfl, rfl⟩ (by rw [Heap.size_push, sz]) fun b o x => Heap.get?_push_of_some _ (Heap.get?_push_of_some _ x)⟩
end
/-- the tuple at a, each item in a new pair -/
def Iet (K : PySem.W.Frag) (a : Addr) : It :=
  ⟨fun i H => ∃ (xs : List V) (x : V), SqT K H a xs ∧ xs[i]? = some x, fun i H v H' => ∃ T x, v = .ref T ∧ H T = none ∧ H' = upd H T (.tup [.int (i : Nat), x]) ∧ ∀ xs, SqT K H a xs → xs[i]? = some x, fun i H => ∃ xs : List V, SqT K H a xs ∧ xs.length ≤ i⟩
theorem turn_enumT {P : Program} {w : World} {K : PySem.W.Frag} {elts : List Expr} {kk : Nat} {tpos : Pos} (a e it : Addr) (na : a ≠ it) (ne : a ≠ e) :
    Turn P w K (.Tuple elts kk tpos) (Iet K a) [e, it] e (fun i h => (∃ old, IsEnum h e it ((i : Nat) : Int) old) ∧ h.IsTupleIter it a i ∧ e ≠ it) where
  mem := by simp
  obj := fun i h st b hb => by
    obtain ⟨⟨old, he⟩, ⟨o, ho, hc, hd⟩, _⟩ := st
    rcases (show b = e ∨ b = it by simpa using hb) with z | z
    · rw [z]; exact ⟨_, he, fun v q => nomatch q⟩
    · rw [z]; exact ⟨o, ho, fun v q => by rw [hd] at q; cases q⟩
  keep := fun i h h' st k => let ⟨⟨old, he⟩, hi, hne⟩ := st; ⟨⟨old, k e (by simp) _ he⟩, hi.at fun o q => k it (by simp) o q, hne⟩
  item := by
    intro X hP hw hK hc i pins s σ H E I hf st hg
    subst hP hw hK
    obtain ⟨⟨old, he⟩, hit, hne⟩ := st
    obtain ⟨xs, x, hq, hx⟩ := hg
    obtain ⟨its, rv, p, hz⟩ := I.tuple hq
    obtain ⟨u, hu, ru⟩ := rv.get hx
    have hel : e < s.heap.objs.size := Heap.lt_size he
    have hil : it < s.heap.objs.size := by obtain ⟨_, q, _⟩ := hit; exact Heap.lt_size q
    have isT : s.heap.IsTuple a its.toArray := by obtain ⟨o, ho, hcl, n, hd⟩ := p; exact ⟨o, ho, hcl, n, hd⟩
    have lt : i < its.toArray.size := by
      rw [List.size_toArray]
      exact (List.getElem?_eq_some_iff.mp hu).1
    refine wpAny_pyNext_enum_itemD (draws_tup (show X.A.in1.handled = none from I.ok.hd hc) it a na its.toArray) he ⟨hit, isT⟩ lt hne (by simp [hne, Ne.symm ne]) fun y h' tk hy ho hst hT hsz hk => ?_
    obtain rfl : y = u := by
      have z : its.toArray[i]? = some y := hy
      rw [List.getElem?_toArray, hu] at z
      exact (Option.some.inj z).symm
    have hit' := hst.1
    refine ⟨_, rfl, wpAny_letOwnedTupleGo_enum (s := { s with heap := h', toks := tk + 1 }) ho fun h'' he' sb => ?_⟩
    have hT2 : h''.get? s.heap.objs.size = some { cls := .type "tuple", data := .seq #[.int i tk, y] } := (sb.2 _ (Nat.ne_of_gt hel)).trans hT
    have new : ObjOk X.prog X.w (upd H s.heap.objs.size (.tup [.int (i : Nat), x])) h'' s.heap.objs.size (.tup [.int (i : Nat), x]) := ⟨by show 2 ≤ sizeLine; decide, [.int i tk, y], .cons ⟨_, rfl⟩ (.cons ru .nil), ⟨_, hT2, rfl, _, rfl⟩⟩
    have I1 : Inv X pins σ (upd H s.heap.objs.size (.tup [.int (i : Nat), x])) { s with heap := h'', toks := tk + 1 } :=
      I.turnedNew (ch := [e, it]) (fun b ob hb q => (sb.2 b (fun z => hb (by simp [z]))).trans (hk b ob (fun z => hb (by simp [z])) (fun z => hb (by simp [z])) q)) hf (Nat.le_refl _) new
    refine ⟨.ref s.heap.objs.size, _, I1, rfl, ⟨_, x, rfl, I.hok.fresh (Nat.le_refl _), rfl, fun ys hy => by rw [I.tuple_inj hy hq]; exact hx⟩, ⟨⟨y, ?_⟩, hit'.at fun o q => (sb.2 it (Ne.symm hne)).trans q, hne⟩, fun b hb => ?_⟩
    · rw [show ((i + 1 : Nat) : Int) = (i : Int) + 1 by omega]
      exact he'
    · have lt2 : b < s.heap.objs.size := by
        rcases (show b = e ∨ b = it by simpa using hb) with z | z
        · rw [z]; exact hel
        · rw [z]; exact hil
      rw [upd_ne (Nat.ne_of_lt lt2)]
      exact (hf b hb).1
  done := by
    intro X hP hw hK hc i pins s σ H E I hf st hg
    subst hP hw hK
    obtain ⟨⟨old, he⟩, hit, hne⟩ := st
    obtain ⟨xs, hq, hx⟩ := hg
    obtain ⟨its, rv, p, hz⟩ := I.tuple hq
    obtain ⟨f0, f1, f2, f3, f4, f5⟩ := hf it (by simp)
    have hl := rv.length
    have isT : s.heap.IsTuple a its.toArray := by obtain ⟨o, ho, hcl, n, hd⟩ := p; exact ⟨o, ho, hcl, n, hd⟩
    exact enum_tup_end (I.ok.hd hc) he hit isT (by simp; omega) fun h' eb => ⟨rfl, I.turned (t' := s.toks) (fun b o hb q => eb b o hb q) f0 f1 f3 f4 f5⟩
  self := fun A i s Q E st h => let ⟨⟨_, he⟩, _⟩ := st; wpAny_pyIter_enum he h
def iEnumT (K : PySem.W.Frag) (ta : TA) : TI := fun σ H R => ta σ H fun vs H1 => ∃ a xs, vs = [.ref a] ∧ SqT K H1 a xs ∧ R (Iet K a) H1
theorem pi_enumT {X : Cx} {e : Expr} {ta : TA} {p pos tpos : Pos} {elts : List Expr} {kk : Nat} (hg : Gl X "enumerate") (hm : X.mg "enumerate" = none) (ha : PA X [e] ta) (hs : starEach [e] X.env = [(false, eval e X.env)] := by rfl) :
    PI X (.Tuple elts kk tpos) (.Call (.Name "enumerate" p) [e] [] pos) (iEnumT X.K ta) := by
  refine ⟨fun pins s σ H R I h => Call_ (ld_blt I hg hm boot_enumerate (PyProof.Rows.callWith_type1 (thn (ha.run pos pins s σ H _ I h) fun us s1 ⟨vs, H1, I1, r1, a, xs, ev, hq, q⟩ => ?_) hs rfl))⟩
  subst ev
  cases r1 with
  | cons r rr =>
    cases rr
    cases r
    obtain ⟨its, rv, pt, hz⟩ := I1.tuple hq
    have isT : s1.heap.IsTuple a its.toArray := by obtain ⟨o, ho, hcl, n, hd⟩ := pt; exact ⟨o, ho, hcl, n, hd⟩
    have old : a < s1.heap.objs.size := by obtain ⟨o, ho, _⟩ := isT; exact Heap.lt_size ho
    refine enum_tup isT fun h' he hit hsz hk => wpAny_pyIter_enum he ?_
    have I2 : Inv X pins σ H1 { s1 with heap := h' } := I1.kept (t' := s1.toks) hk
    refine ⟨s1.heap.objs.size + 1, [s1.heap.objs.size + 1, s1.heap.objs.size], _, _, H1, rfl, I2, turn_enumT a (s1.heap.objs.size + 1) s1.heap.objs.size (Nat.ne_of_lt old) (Nat.ne_of_lt (Nat.lt_succ_of_lt old)), ⟨⟨.none, he⟩, hit, Nat.succ_ne_self _⟩, fun b hb => ?_, q⟩
    have le : s1.heap.objs.size ≤ b := by
      rcases (show b = s1.heap.objs.size + 1 ∨ b = s1.heap.objs.size by simpa using hb) with z | z
      · rw [z]; exact Nat.le_succ _
      · rw [z]; exact Nat.le_refl _
    exact I1.fpOk le (I1.hok.fresh le)
theorem walk_enumT {K : PySem.W.Frag} {a : Addr} {xs : List V} : Walk (Iet K a) xs.length (fun H => SqT K H a xs) (YPair (fun i => some (.int (i : Nat))) (fun i => xs[i]?)) := by
  refine ⟨fun i _ hi q => ⟨xs, xs[i], q, by simp [hi]⟩, fun _ q => ⟨xs, q, Nat.le_refl _⟩, fun i H v H' _ q y => ?_⟩
  obtain ⟨T, x, h1, h2, h3, h4⟩ := y
  exact ⟨T, .int (i : Nat), x, h1, h2, h3, rfl, h4 xs q⟩
end My
/-! {name: index for index, name in enumerate(a tuple of texts)} -/
namespace My
open PySem PySem.Spec PyProof.Rows L2
section
variable {J : It} {n : Nat} {G : Hp → Prop} {Y : Nat → Hp → V → Hp → Prop}
/-- a dict comprehension over a walk: Pv by the turn and the heap (the new dict at D within) -/
theorem dc_it (w : Walk J n G Y) {g : TG} {tt : TT} {tk tv : TE} {vs : List Nat} {σ : L2.St} {H1 : Hp} {D : Addr} {Qd : Hp → Prop} (Pv : Nat → Hp → Prop) (h0 : Pv 0 (upd H1 D (.dK []))) (hG : ∀ i H, i ≤ n → Pv i H → G H)
    (hs : ∀ i x H H', i < n → Pv i H → Y i H x H' → g x (wipe σ vs) H' fun σ2 H2 => wipe σ2 vs = wipe σ vs ∧ tt σ2 H2 fun b H3 =>
      if b = true then tk σ2 H3 fun y H4 => tv σ2 H4 fun z H5 => ∃ kvs k, y = kV k ∧ H5 D = some (.dK kvs) ∧ kvs.length < sizeLine ∧ Pv (i + 1) (upd H5 D (.dK (putK kvs k z))) else Pv (i + 1) H3) (hd : ∀ H, Pv n H → Qd H) :
    ∃ W : Nat → Nat → Hp → Prop, (∃ m, W 0 m (upd H1 D (.dK []))) ∧ ∀ i m H, W i m H →
      (J.stop i H ∧ Qd H) ∨ (J.go i H ∧ ∃ Nx : Hp → Prop, (∀ H', Nx H' → ∃ m', m' < m ∧ W (i + 1) m' H') ∧ ∀ x H', J.yld i H x H' → g x (wipe σ vs) H' fun σ2 H2 => wipe σ2 vs = wipe σ vs ∧ tt σ2 H2 fun b H3 =>
        if b = true then tk σ2 H3 fun y H4 => tv σ2 H4 fun z H5 => ∃ kvs k, y = kV k ∧ H5 D = some (.dK kvs) ∧ kvs.length < sizeLine ∧ Nx (upd H5 D (.dK (putK kvs k z))) else Nx H3) := by
  refine ⟨fun i m H => m = n - i ∧ i ≤ n ∧ Pv i H, ⟨n, by simp, Nat.zero_le _, h0⟩, ?_⟩
  rintro i m H ⟨rfl, hi, p⟩
  have q := hG i H hi p
  by_cases hlt : i < n
  · refine .inr ⟨w.goes i H hlt q, Pv (i + 1), fun H' p' => ⟨n - (i + 1), by omega, rfl, hlt, p'⟩, fun x H' y => hs i x H H' hlt p (w.yields i H x H' hlt q y)⟩
  · have e : i = n := by omega
    subst e
    exact .inl ⟨w.stops H q, hd H p⟩
end
/-- where a text stands in a row -/
def pos (zs : List Str) (y : Str) : Nat := zs.findIdx fun z => decide (z = y)
def nmIdx (k : Nat) (zs : List Str) : List (Key × V) := zs.mapIdx fun i z => (.inr z, .int ((i + k : Nat) : Int))
theorem nmIdx_cons (k : Nat) (z : Str) (zs : List Str) : nmIdx k (z :: zs) = (.inr z, .int (k : Nat)) :: nmIdx (k + 1) zs := by
  unfold nmIdx
  rw [List.mapIdx_cons, Nat.zero_add]
  congr 1
  apply List.ext_getElem?
  intro i
  rw [List.getElem?_mapIdx, List.getElem?_mapIdx, show i + 1 + k = i + (k + 1) by omega]
theorem valV_nmIdx (y : Str) : ∀ (zs : List Str) (k : Nat), valV (nmIdx k zs) (.inr y) = if y ∈ zs then some (.int ((pos zs y + k : Nat) : Int)) else none
  | [], k => rfl
  | z :: zs, k => by
    rw [nmIdx_cons]
    by_cases e : z = y
    · subst e
      rw [valV_pos (p := ((.inr z : Key), V.int (k : Nat))) rfl, if_pos (List.mem_cons_self ..)]
      unfold pos
      rw [List.findIdx_cons, decide_eq_true rfl]
      simp
    · rw [valV_neg (p := ((.inr z : Key), V.int (k : Nat))) (fun q => e (Sum.inr.inj q)), valV_nmIdx y zs (k + 1)]
      have m : (y ∈ z :: zs) ↔ y ∈ zs := by
        rw [List.mem_cons]
        exact ⟨fun h => h.elim (fun q => absurd q.symm e) id, .inr⟩
      have p : pos (z :: zs) y = pos zs y + 1 := by
        unfold pos
        rw [List.findIdx_cons, decide_eq_false e]
        rfl
      by_cases h : y ∈ zs
      · rw [if_pos h, if_pos (m.mpr h), p, show pos zs y + 1 + k = pos zs y + (k + 1) by omega]
      · rw [if_neg h, if_neg (fun q => h (m.mp q))]
theorem nmIdx_snoc {zs : List Str} {i : Nat} {z : Str} (nd : zs.Nodup) (hz : zs[i]? = some z) : putK (nmIdx 0 (zs.take i)) (.inr z) (.int (i : Nat)) = nmIdx 0 (zs.take (i + 1)) := by
  have out : z ∉ zs.take i := fun m => by
    obtain ⟨j, hj, e⟩ := List.getElem_of_mem m
    rw [List.getElem_take] at e
    rw [List.length_take] at hj
    obtain ⟨hi, e2⟩ := List.getElem?_eq_some_iff.mp hz
    have q := (List.nodup_iff_pairwise_ne.mp nd)
    exact (List.pairwise_iff_getElem.mp q) j i (by omega) hi (by omega) (e.trans e2.symm)
  rw [putK_new _ (by rw [valV_nmIdx, if_neg out]), take_next hz]
  unfold nmIdx
  have hi : i < zs.length := (List.getElem?_eq_some_iff.mp hz).1
  have e1 : (zs.take i).length = i := by rw [List.length_take]; omega
  rw [List.mapIdx_append]
  simp [e1]
section
variable {K : PySem.W.Frag} {a D : Addr} {zs : List Str} {vs : List Nat} {σ : L2.St} {H1 : Hp} {Qd : Hp → Prop} {j k : Nat}
theorem nm_dict (nd : zs.Nodup) (hx : SqT K H1 a (zs.map V.str)) (hD : H1 D = none) (hz : zs.length ≤ 1000)
    (hw : ∀ x y, wipe (((wipe σ vs).set j (some x)).set k (some y)) vs = wipe σ vs) (hj : ∀ x y, (((wipe σ vs).set j (some x)).set k (some y))[j]? = some (some x)) (hk : ∀ x y, (((wipe σ vs).set j (some x)).set k (some y))[k]? = some (some y))
    (hd : ∀ H', Ext H1 H' → H' D = some (.dK (nmIdx 0 zs)) → Qd H') :
    ∃ W : Nat → Nat → Hp → Prop, (∃ m, W 0 m (upd H1 D (.dK []))) ∧ ∀ i m H, W i m H →
      ((Iet K a).stop i H ∧ Qd H) ∨ ((Iet K a).go i H ∧ ∃ Nx : Hp → Prop, (∀ H', Nx H' → ∃ m', m' < m ∧ W (i + 1) m' H') ∧ ∀ x H', (Iet K a).yld i H x H' → gTup K 2 (gCons (gName j) (gCons (gName k) gNil)) x (wipe σ vs) H' fun σ2 H2 => wipe σ2 vs = wipe σ vs ∧ tYes σ2 H2 fun b H3 =>
        if b = true then tVar k σ2 H3 fun y H4 => tVar j σ2 H4 fun z H5 => ∃ kvs k, y = kV k ∧ H5 D = some (.dK kvs) ∧ kvs.length < sizeLine ∧ Nx (upd H5 D (.dK (putK kvs k z))) else Nx H3) := by
  have wk : Walk (Iet K a) zs.length (fun H => SqT K H a (zs.map V.str)) (YPair (fun i => some (.int (i : Nat))) (fun i => (zs.map V.str)[i]?)) := by
    have z := walk_enumT (K := K) (a := a) (xs := zs.map V.str)
    rwa [List.length_map] at z
  refine dc_it wk (fun i H' => H1 D = none ∧ Ext H1 H' ∧ H' D = some (.dK (nmIdx 0 (zs.take i)))) ⟨hD, ext_new (ext_refl H1) hD, upd_same⟩ (fun i H' _ p => hx.ext p.2.1) (fun i x H H' hi p y => ?_) fun H' p => hd H' p.2.1 (by have q := p.2.2; rw [List.take_length] at q; exact q)
  obtain ⟨T, u, v, rfl, hT, rfl, hu, hv⟩ := y
  obtain ⟨p1, p2, p3⟩ := p
  cases hu
  replace hv : (zs.map V.str)[i]? = some v := hv
  rw [List.getElem?_map, List.getElem?_eq_getElem hi] at hv
  cases hv
  have eT := ext_new (o := HO.tup [V.int (i : Nat), .str zs[i]]) (ext_refl H) hT
  refine ⟨T, _, rfl, SqT.of upd_same, rfl, _, _, rfl, _, _, rfl, rfl, hw _ _, ?_⟩
  unfold tYes
  dsimp only
  rw [if_pos rfl]
  refine ⟨_, hk _ _, _, hj _ _, _, .inr zs[i], rfl, eT _ _ p3, ?_, p1, ext_mut (p2.trans eT) p1, ?_⟩
  · unfold nmIdx
    rw [List.length_mapIdx, List.length_take]
    exact Nat.lt_of_le_of_lt (Nat.le_trans (Nat.min_le_right _ _) hz) (by decide)
  · rw [upd_same, nmIdx_snoc nd (by simp [hi])]
end
end My
namespace My
open PySem PySem.Spec PyProof.Rows L2
/-! ### the class as the top has made it -/
structure PropT (K : PySem.W.Frag) (C : Addr) (x : Str) (qual : Str) (st : Stmt) : Prop where
  ex : ∃ (p g : Addr) (fd : FuncData), PropOf K C x p g ∧ Fun K x qual st g fd
structure MethT (K : PySem.W.Frag) (C : Addr) (x : Str) (qual : Str) (st : Stmt) : Prop where
  ex : ∃ (f : Addr) (fd : FuncData), Meth K C x f ∧ PySem.W.isFn K (.ref f) = true ∧ Fun K x qual st f fd
structure OpT (K : PySem.W.Frag) (C : Addr) (op : Operator) (x qual : Str) (st : Stmt) : Prop where
  ex : ∃ (f : Addr) (fd : FuncData), OwnOp K C op f ∧ Fun K x qual st f fd
structure SpT (K : PySem.W.Frag) (C : Addr) (x qual : Str) (st : Stmt) : Prop where
  ex : ∃ (f : Addr) (fd : FuncData), PySem.W.findIn K (.ref C) x = some (some (.ref f)) ∧ PySem.W.isFn K (.ref f) = true ∧ Fun K x qual st f fd
/-- the promises of these -/
structure PropAt (P : Program) (w : World) (K : PySem.W.Frag) (mg : Str → Option Value) (base : Heap) (k : Nat) (C : Addr) (x : Str) (sp : Sp) : Prop where
  ex : ∃ (p g : Addr) (fd : FuncData), PropOf K C x p g ∧ Binds K fd ["self"] [] ∧ FnOk P w K mg base CX0 k g fd ["self"] sp
structure MethAt (P : Program) (w : World) (K : PySem.W.Frag) (mg : Str → Option Value) (base : Heap) (k : Nat) (C : Addr) (x : Str) (ps : List Str) (sp : Sp) : Prop where
  ex : ∃ (f : Addr) (fd : FuncData), Meth K C x f ∧ Binds K fd ps [] ∧ FnOk P w K mg base CX0 k f fd ps sp
structure OpAt (P : Program) (w : World) (K : PySem.W.Frag) (mg : Str → Option Value) (base : Heap) (k : Nat) (C : Addr) (op : Operator) (sp : Sp) : Prop where
  ex : ∃ (f : Addr) (fd : FuncData), OwnOp K C op f ∧ Binds K fd ["self", "other"] [] ∧ FnOk P w K mg base CX0 k f fd ["self", "other"] sp
structure SpAt (P : Program) (w : World) (K : PySem.W.Frag) (mg : Str → Option Value) (base : Heap) (k : Nat) (C : Addr) (x : Str) (ps : List Str) (sp : Sp) : Prop where
  ex : ∃ (f : Addr) (fd : FuncData), PySem.W.findIn K (.ref C) x = some (some (.ref f)) ∧ PySem.W.isFn K (.ref f) = true ∧ Binds K fd ps [] ∧ FnOk P w K mg base CX0 k f fd ps sp
section
variable {X : Cx} {k n : Nat} {C : Addr} {x : Str} {ps : List Str} {sp : Sp} {p pos apos : Pos} {e o : Expr} {es : List Expr} {t : TA} {ta to : TE}
theorem propA (F : PropAt X.prog X.w X.K X.mg X.base k C x sp) (c : Cls X.K C) (hr : Room (k + 1) X.A) (he : PE X e ta) (hab : attributeBase e x X.env (eval e X.env) = eval e X.env := by rfl) : PE X (.Attribute e x pos) (tProp C sp [] E0 ta) := by
  obtain ⟨q, g, fd, hp, hb, G⟩ := F.ex
  exact pe_prop he c hp G hr hb .nil pass0 hab
theorem opA {op : Operator} (F : OpAt X.prog X.w X.K X.mg X.base k C op sp) (hr : Room k X.A) : OpR X (binaryOp op) (rOwn C sp E0) := by
  obtain ⟨f, fd, W, hb, G⟩ := F.ex
  exact op_own W G hr hb pass0
theorem negA (F : SpAt X.prog X.w X.K X.mg X.base k C "__neg__" ["self"] sp) (hr : Room k X.A) : UnR X (unaryOp .USub) (rOwnU C sp E0) := by
  obtain ⟨f, fd, hs, hf, hb, G⟩ := F.ex
  exact un_ownNeg hs hf G hr hb pass0
theorem eqA (F : SpAt X.prog X.w X.K X.mg X.base k C "__eq__" ["self", "other"] sp) (hr : Room k X.A) : OpR X (compareOp .Eq) (rOwnEq C sp E0) := by
  obtain ⟨f, fd, hs, hf, hb, G⟩ := F.ex
  exact op_ownEq hs hf G hr hb pass0
end
section
variable {P : Program} {w : World} {K : PySem.W.Frag} {mg : Str → Option Value} {base : Heap} {C : Addr}
theorem propAt {x qual : Str} {st : Stmt} {N : List Str} {k : Nat} {sp : Sp} (D : PropT K C x qual st) (S : FnScope N ["self"] (defScope st))
    (hbind : ∀ (kV doc pm : Value) (an : Option Addr) (cdv ct : Value) (us : List Value), us.length = 1 → bindArgs (PySem.W.fnOf x qual (defArgs st) (defBody st) (defScope st) .none kV doc pm an cdv ct) ⟨us, []⟩ = pure ((["self"] : List Str).zip us))
    (len : ∀ vs H Q E, sp vs H Q E → vs.length = 1)
    (hbody : ∀ (f : Addr) (cdv : Value) (A : Around) (outer : List Env) (s : Shared) (H : Hp) (vs : List V) (Q : VK) (E : XK), Room k (A.deeper (envOfC qual (defScope st) s.heap.objs.size f cdv)) → sp vs H Q E →
      ∃ t, PSs (cxOf CX0 P w K mg base N qual (defScope st) f cdv A outer s H E).nox (defBody st) t ∧ t { nx := fun _ H' => Q .non H', rt := Q } (start N vs) H) : PropAt P w K mg base (k + 1) C x sp := by
  obtain ⟨p, g, fd, hp, F⟩ := D.ex
  exact ⟨p, g, fd, hp, F.binds hbind, F.ok S len fun cdv A outer s H vs Q E hr h => hbody g cdv A outer s H vs Q E hr h⟩
theorem spAt {x qual : Str} {st : Stmt} {N ps : List Str} {k : Nat} {sp : Sp} (D : SpT K C x qual st) (S : FnScope N ps (defScope st))
    (hbind : ∀ (kV doc pm : Value) (an : Option Addr) (cdv ct : Value) (us : List Value), us.length = ps.length → bindArgs (PySem.W.fnOf x qual (defArgs st) (defBody st) (defScope st) .none kV doc pm an cdv ct) ⟨us, []⟩ = pure (ps.zip us))
    (len : ∀ vs H Q E, sp vs H Q E → vs.length = ps.length)
    (hbody : ∀ (f : Addr) (cdv : Value) (A : Around) (outer : List Env) (s : Shared) (H : Hp) (vs : List V) (Q : VK) (E : XK), Room k (A.deeper (envOfC qual (defScope st) s.heap.objs.size f cdv)) → sp vs H Q E →
      ∃ t, PSs (cxOf CX0 P w K mg base N qual (defScope st) f cdv A outer s H E).nox (defBody st) t ∧ t { nx := fun _ H' => Q .non H', rt := Q } (start N vs) H) : SpAt P w K mg base (k + 1) C x ps sp := by
  obtain ⟨f, fd, hs, hf, F⟩ := D.ex
  exact ⟨f, fd, hs, hf, F.binds hbind, F.ok S len fun cdv A outer s H vs Q E hr h => hbody f cdv A outer s H vs Q E hr h⟩
theorem opAt {op : Operator} {x qual : Str} {st : Stmt} {N : List Str} {k : Nat} {sp : Sp} (D : OpT K C op x qual st) (S : FnScope N ["self", "other"] (defScope st))
    (hbind : ∀ (kV doc pm : Value) (an : Option Addr) (cdv ct : Value) (us : List Value), us.length = 2 → bindArgs (PySem.W.fnOf x qual (defArgs st) (defBody st) (defScope st) .none kV doc pm an cdv ct) ⟨us, []⟩ = pure ((["self", "other"] : List Str).zip us))
    (len : ∀ vs H Q E, sp vs H Q E → vs.length = 2)
    (hbody : ∀ (f : Addr) (cdv : Value) (A : Around) (outer : List Env) (s : Shared) (H : Hp) (vs : List V) (Q : VK) (E : XK), Room k (A.deeper (envOfC qual (defScope st) s.heap.objs.size f cdv)) → sp vs H Q E →
      ∃ t, PSs (cxOf CX0 P w K mg base N qual (defScope st) f cdv A outer s H E).nox (defBody st) t ∧ t { nx := fun _ H' => Q .non H', rt := Q } (start N vs) H) : OpAt P w K mg base (k + 1) C op sp := by
  obtain ⟨f, fd, hs, F⟩ := D.ex
  exact ⟨f, fd, hs, F.binds hbind, F.ok S len fun cdv A outer s H vs Q E hr h => hbody f cdv A outer s H vs Q E hr h⟩
theorem methAt {x qual : Str} {st : Stmt} {N ps : List Str} {k : Nat} {sp : Sp} (D : MethT K C x qual st) (S : FnScope N ps (defScope st))
    (hbind : ∀ (kV doc pm : Value) (an : Option Addr) (cdv ct : Value) (us : List Value), us.length = ps.length → bindArgs (PySem.W.fnOf x qual (defArgs st) (defBody st) (defScope st) .none kV doc pm an cdv ct) ⟨us, []⟩ = pure (ps.zip us))
    (len : ∀ vs H Q E, sp vs H Q E → vs.length = ps.length)
    (hbody : ∀ (f : Addr) (cdv : Value) (A : Around) (outer : List Env) (s : Shared) (H : Hp) (vs : List V) (Q : VK) (E : XK), Room k (A.deeper (envOfC qual (defScope st) s.heap.objs.size f cdv)) → sp vs H Q E →
      ∃ t, PSs (cxOf CX0 P w K mg base N qual (defScope st) f cdv A outer s H E).nox (defBody st) t ∧ t { nx := fun _ H' => Q .non H', rt := Q } (start N vs) H) : MethAt P w K mg base (k + 1) C x ps sp := by
  obtain ⟨f, fd, hs, hf, F⟩ := D.ex
  exact ⟨f, fd, hs, F.binds hbind, F.ok S len fun cdv A outer s H vs Q E hr h => hbody f cdv A outer s H vs Q E hr h⟩
end
end My
namespace My
open PySem PySem.Spec PyProof.Rows L2
local macro_rules | `(tactic| walk_at "side") => `(tactic| first | assumption | decide | exact Or.inl ⟨by decide, by decide⟩ | exact Or.inr ⟨by decide, by decide⟩ | exact ⟨by decide, by decide, by decide⟩ | omega | (unfold CMulW; decide +kernel) | (dsimp only; first | assumption | omega | decide +kernel) | exact len_ok (Nat.le_of_ble_eq_true rfl) | fail "side")
local macro_rules | `(tactic| walk_at "rd") => `(tactic| first
  | refine ⟨_, _, _, _, rfl, rfl, SqL.of upd_same, atI_nat (j := 0) rfl, ?_⟩ | refine ⟨_, _, _, _, rfl, rfl, SqL.of upd_same, atI_nat (j := 1) rfl, ?_⟩ | refine ⟨_, _, _, _, rfl, rfl, SqL.of upd_same, atI_nat (j := 2) rfl, ?_⟩
  | refine ⟨_, _, _, _, rfl, rfl, upd_same, rfl, ?_⟩
  | refine ⟨_, _, rfl, rfl, ?_⟩ | refine ⟨_, rfl, ?_⟩ | refine ⟨_, _, rfl, ?_⟩ | refine Or.inl ⟨_, rfl, ?_⟩ | refine Or.inr ⟨_, rfl, ?_⟩ | refine ⟨(by walk_at "side"), ?_⟩ | fail "rd")

abbrev s_isname : Stmt := top 8
theorem sc_isname : FnScope ["value", "letter"] ["value"] (defScope s_isname) := ⟨rfl, rfl, rfl, by decide +kernel, rfl, by decide +kernel, by decide +kernel⟩
abbrev s_arenames : Stmt := top 9
theorem sc_arenames : FnScope ["value", "name"] ["value"] (defScope s_arenames) := ⟨rfl, rfl, rfl, by decide +kernel, rfl, by decide +kernel, by decide +kernel⟩
theorem tyOf_ext {K : PySem.W.Frag} {H H' : Hp} {v : V} {t : Value} (h : TyOf K H v t) (e : Ext H H') : TyOf K H' v t := by
  cases h with
  | non => exact .non
  | bl x => exact .bl x
  | int i => exact .int i
  | str x => exact .str x
  | flt x => exact .flt x
  | lst q => exact .lst (e _ _ q)
  | frz q => exact .frz (e _ _ q)
  | tup q => exact .tup (e _ _ q)
  | dK q => exact .dK (e _ _ q)
  | dT q => exact .dT (e _ _ q)
  | ins q cl ha hn htk hm => exact .ins (e _ _ q) cl ha hn htk hm
theorem tyX_ext {K : PySem.W.Frag} {H H' : Hp} {v : V} {t : Value} (h : TyX K H v t) (e : Ext H H') : TyX K H' v t := by
  cases h with
  | base h => exact .base (tyOf_ext h e)
  | byt b => exact .byt b
  | set q => exact .set (e _ _ q)
  | kList q c => exact .kList q c
  | kTuple q c => exact .kTuple q c
  | kDict q c => exact .kDict q c
  | fTuple q => exact .fTuple (e _ _ q)
  | fDict q => exact .fDict (e _ _ q)
def letS : Str := "abcdefghijklmnopqrstuvwxyz"
def sg : V → Nat
  | .str q => q.cps.toList.headD 0
  | _ => 0
theorem signs_map (z : Str) (g : Nat → V) : (signs z).mapIdx (fun _ x => g (sg x)) = z.cps.toList.map g := by
  unfold signs
  apply List.ext_getElem?
  intro i
  rw [List.getElem?_mapIdx, List.getElem?_map, List.getElem?_map, Option.map_map]
  rfl
structure WordC (mg : Str → Option Value) : Prop where
  LETTERS : ∃ t, mg "LETTERS" = some (.str letS t)
  ML : ∃ t, mg "MAX_LETTERS" = some (.int 8 t)
/-- a value whose class is none of T -/
def NotK (K : PySem.W.Frag) (H : Hp) (v : V) (T : String) : Prop := ∃ t, TyX K H v t ∧ PySem.W.kitOne K t (.type T) = some false
theorem NotK.ext {K : PySem.W.Frag} {H H' : Hp} {v : V} {T : String} (h : NotK K H v T) (e : Ext H H') : NotK K H' v T := let ⟨t, a, b⟩ := h; ⟨t, tyX_ext a e, b⟩
def isNm (s : Str) : Bool := (decide ((1 : Int) ≤ s.length) && decide ((s.length : Int) ≤ 8)) && s.cps.toList.all fun c => decide (c ∈ letS.cps.toList)
def spNm (K : PySem.W.Frag) : Sp := fun vs H Q _ => ∃ v, vs = [v] ∧ ((∃ s, v = .str s ∧ s.length ≤ 100000 ∧ ∀ H', Ext H H' → Q (.bl (isNm s)) H') ∨ (NotK K H v "str" ∧ ∀ H', Ext H H' → Q (.bl false) H'))
/-- the items of a tuple, judged -/
def Judged (K : PySem.W.Frag) (H : Hp) (x : V) (b : Bool) : Prop := (∃ s, x = .str s ∧ s.length ≤ 100000 ∧ b = isNm s) ∨ (NotK K H x "str" ∧ b = false)
def spNms (K : PySem.W.Frag) : Sp := fun vs H Q _ => ∃ v, vs = [v] ∧ ((NotK K H v "tuple" ∧ Q (.bl false) H) ∨
  ∃ (a : Addr) (xs : List V) (f : V → Bool), v = .ref a ∧ SqT K H a xs ∧ TyX K H v (.type "tuple") ∧ xs.length ≤ 1000 ∧ (∀ x ∈ xs, Judged K H x (f x)) ∧ ∀ H', Ext H H' → Q (.bl (xs.all f)) H')
theorem kit_strstr {K : PySem.W.Frag} : PySem.W.kitOne K (.type "str") (.type "str") = some true := kit_ty (by decide +kernel : kitB "str" "str" = some true)
theorem kit_tuptup' {K : PySem.W.Frag} : PySem.W.kitOne K (.type "tuple") (.type "tuple") = some true := kit_ty (by decide +kernel : kitB "tuple" "tuple" = some true)
theorem tyTup {K : PySem.W.Frag} {H : Hp} {a : Addr} {xs : List V} (h : SqT K H a xs) : TyX K H (.ref a) (.type "tuple") := by
  rcases h with (e | ⟨o, e⟩) | ⟨o, its, n, l, c, _⟩
  · exact .base (.tup e)
  · exact .fTuple e
  · exact .kTuple l c
section
variable {P : Program} {w : World} {K : PySem.W.Frag} {mg : Str → Option Value} {base : Heap}
theorem ok_isname (T : Bn mg) (WC : WordC mg) (D : DefAt K mg "is_name" s_isname) : FnAt P w K mg base 1 "is_name" ["value"] (spNm K) := by
  obtain ⟨_, g_LETTERS⟩ := WC.LETTERS
  obtain ⟨_, g_MAX_LETTERS⟩ := WC.ML
  refine fnAt D sc_isname (fun _ _ _ _ _ _ us hl => match us, hl with | [_], _ => rfl) (fun vs H Q E h => ?_) fun f cdv A outer s H vs Q E hr h => ?_
  · obtain ⟨v, rfl, _⟩ := h
    rfl
  obtain ⟨v, rfl, h⟩ := h
  refine ⟨_, (pss_cons (ps_if (PW.pt (pw_or (pt_not (pt_val (pe_callB call_isi (by rfl) T.b_isinstance (by decide +kernel) (pa_cons (pv 0) (pa_cons (pe_bltn (v := .ty "str") (by rfl) T.b_str (by decide +kernel) rfl) pa_nil))))) (pw_or1 (pt_not (pt_chain op_le op_le pe_int (pe_callB call_len_str (by rfl) T.b_len (by decide +kernel) (pa_cons (pv 0) pa_nil)) (pe_glob (v := .int 8) rfl g_MAX_LETTERS ⟨_, rfl⟩)))))) (pss_one (ps_ret pe_bl)) pss_nil)
    (pss_one (ps_ret (pe_callB (cr_all rfl) (by rfl) T.b_all (by decide +kernel) (pa_cons (pe_lc (own := [("letter", 1)]) (g := gName 1) (tt := tYes) rfl sc_isname.nd (pi_str (pv 0)) (blkOk_by (N := ["value", "letter"]) (sc := defScope s_isname) (by decide +kernel)) (fun _ _ _ _ _ => pg_name (i := 1) sc_isname.nd rfl (Or.inl rfl)) (fun _ _ _ _ _ => pts_nil) (fun _ _ _ _ _ => (pe_cmpR op_in_sign (pv 1) (pe_glob (v := .str letS) rfl g_LETTERS ⟨_, rfl⟩) rfl))) pa_nil))))), ?_⟩
  rcases h with ⟨z, rfl, hz, k⟩ | ⟨⟨t, ty, hk⟩, k⟩
  · refine ⟨_, rfl, _, _, _, _, true, rfl, .ty _, .base (.str _), kit_strstr, _, rfl, iteF ?_⟩
    refine ⟨_, rfl, _, rfl, Nat.le_trans hz (by decide), _, _, rfl, rfl, _, rfl, ?_⟩
    by_cases h1 : decide ((1 : Int) ≤ z.length) = true
    · rw [if_pos h1]
      refine ⟨_, _, rfl, rfl, _, rfl, ?_⟩
      by_cases h2 : decide ((z.length : Int) ≤ 8) = true
      · rw [h2]
        refine iteF ?_
        refine ⟨_, rfl, z, rfl, fun D hD => map_str (fun _ x => .bl (decide (sg x ∈ letS.cps.toList))) hD ?_ (fun _ => rfl) (fun i x H' hi e Q' k' => ?_) fun H' e hl => ?_⟩
        · exact Nat.le_trans hz (by decide)
        · obtain ⟨c, hc, rfl⟩ := signs_mem (List.mem_of_getElem? hi)
          exact ⟨_, rfl, c, letS, rfl, rfl, k' H' (ext_refl _)⟩
        · refine ⟨D, z.cps.toList.map fun c => decide (c ∈ letS.cps.toList), rfl, SqL.of ?_, ?_⟩
          · rw [hl, signs_map z fun c => .bl (decide (c ∈ letS.cps.toList)), List.map_map]
            rfl
          · have e1 : isNm z = (z.cps.toList.map fun c => decide (c ∈ letS.cps.toList)).all id := by
              unfold isNm
              rw [h1, h2, List.all_map]
              rfl
            rw [e1] at k
            exact k H' e
      · rw [Bool.eq_false_iff.mpr h2]
        refine iteT ?_
        have e1 : isNm z = false := by unfold isNm; rw [Bool.eq_false_iff.mpr h2, Bool.and_false]; rfl
        exact e1 ▸ k H (ext_refl H)
    · rw [if_neg h1]
      refine ⟨_, rfl, iteT ?_⟩
      have e1 : isNm z = false := by unfold isNm; rw [Bool.eq_false_iff.mpr h1]; rfl
      exact e1 ▸ k H (ext_refl H)
  · exact ⟨_, rfl, _, _, _, _, false, rfl, .ty _, ty, hk, _, rfl, iteT (k H (ext_refl H))⟩
theorem ok_arenames (T : Bn mg) (D : DefAt K mg "are_names" s_arenames) (F_is_name : FnAt P w K mg base 1 "is_name" ["value"] (spNm K)) : FnAt P w K mg base 2 "are_names" ["value"] (spNms K) := by
  refine fnAt D sc_arenames (fun _ _ _ _ _ _ us hl => match us, hl with | [_], _ => rfl) (fun vs H Q E h => ?_) fun f cdv A outer s H vs Q E hr h => ?_
  · obtain ⟨v, rfl, _⟩ := h
    rfl
  obtain ⟨v, rfl, h⟩ := h
  refine ⟨_, (pss_one (ps_ret (pe_and (pe_callB call_isi (by rfl) T.b_isinstance (by decide +kernel) (pa_cons (pv 0) (pa_cons (pe_bltn (v := .ty "tuple") (by rfl) T.b_tuple (by decide +kernel) rfl) pa_nil))) (pe_one (pe_callB (cr_all rfl) (by rfl) T.b_all (by decide +kernel) (pa_cons (pe_lc (own := [("name", 1)]) (g := gName 1) (tt := tYes) rfl sc_arenames.nd (pi_tup (pv 0)) (blkOk_by (N := ["value", "name"]) (sc := defScope s_arenames) (by decide +kernel)) (fun _ _ _ _ _ => pg_name (i := 1) sc_arenames.nd rfl (Or.inl rfl)) (fun _ _ _ _ _ => pts_nil) (fun _ _ _ _ _ => (callA F_is_name (hr.mono (by decide)) rfl (pa_cons (pv 1) pa_nil)))) pa_nil)))))), ?_⟩
  rcases h with ⟨⟨t, ty, hk⟩, k⟩ | ⟨a, xs, g, rfl, ha, ty, hl, hj, k⟩
  · exact ⟨_, rfl, _, _, _, _, false, rfl, .ty _, ty, hk, _, rfl, iteF k⟩
  · refine ⟨_, rfl, _, _, _, _, true, rfl, .ty _, ty, kit_tuptup', _, rfl, iteT ?_⟩
    refine ⟨_, rfl, a, rfl, ⟨_, ha⟩, fun D hD => map_tup (xs := xs) (fun _ x => .bl (g x)) ha hD (by omega) (fun _ => rfl) (fun i x H' hi e Q' k' => ?_) fun H' e hl2 => ?_⟩
    · refine ⟨_, rfl, _, rfl, ?_⟩
      rcases hj x (List.mem_of_getElem? hi) with ⟨z, rfl, hz, eb⟩ | ⟨nk, eb⟩
      · rw [eb] at k'
        exact .inl ⟨z, rfl, hz, k'⟩
      · rw [eb] at k'
        exact .inr ⟨nk.ext e, k'⟩
    · refine ⟨D, xs.map g, rfl, SqL.of ?_, ?_⟩
      · rw [hl2, List.map_map]
        congr 1
        congr 1
        apply List.ext_getElem?
        intro i
        rw [List.getElem?_mapIdx, List.getElem?_map]
        rfl
      · have e1 : xs.all g = (xs.map g).all id := by rw [List.all_map]; rfl
        rw [e1] at k
        exact k H' e
end
end My
namespace My
open PySem PySem.Spec PyProof.Rows L2
local macro_rules | `(tactic| walk_at "side") => `(tactic| first | assumption | decide | exact Or.inl ⟨by decide, by decide⟩ | exact Or.inr ⟨by decide, by decide⟩ | exact ⟨by decide, by decide, by decide⟩ | omega | (unfold CMulW; decide +kernel) | (dsimp only; first | assumption | omega | decide +kernel) | exact len_ok (Nat.le_of_ble_eq_true rfl) | fail "side")
local macro_rules | `(tactic| walk_at "rd") => `(tactic| first
  | refine ⟨_, _, _, _, rfl, rfl, SqL.of upd_same, atI_nat (j := 0) rfl, ?_⟩ | refine ⟨_, _, _, _, rfl, rfl, SqL.of upd_same, atI_nat (j := 1) rfl, ?_⟩ | refine ⟨_, _, _, _, rfl, rfl, SqL.of upd_same, atI_nat (j := 2) rfl, ?_⟩
  | refine ⟨_, _, _, _, rfl, rfl, upd_same, rfl, ?_⟩
  | refine ⟨_, _, rfl, rfl, ?_⟩ | refine ⟨_, rfl, ?_⟩ | refine ⟨_, _, rfl, ?_⟩ | refine Or.inl ⟨_, rfl, ?_⟩ | refine Or.inr ⟨_, rfl, ?_⟩ | refine ⟨(by walk_at "side"), ?_⟩ | fail "rd")

abbrev s_difd : Stmt := top 13
theorem sc_difd : FnScope ["names"] ["names"] (defScope s_difd) := ⟨rfl, rfl, rfl, by decide +kernel, rfl, by decide +kernel, by decide +kernel⟩
/-- a tuple of texts: whether all are names, and different -/
def spDif (K : PySem.W.Frag) : Sp := fun vs H Q _ => ∃ (a : Addr) (zs : List Str), vs = [.ref a] ∧ SqT K H a (zs.map V.str) ∧ zs.length ≤ 1000 ∧ (∀ z ∈ zs, isNm z = true) ∧ ∀ H', Ext H H' → Q (.bl (decide zs.Nodup)) H'
section
variable {P : Program} {w : World} {K : PySem.W.Frag} {mg : Str → Option Value} {base : Heap}
theorem nm_len {z : Str} (h : isNm z = true) : z.length ≤ 8 := by
  unfold isNm at h
  rw [Bool.and_eq_true, Bool.and_eq_true] at h
  have := of_decide_eq_true h.1.2
  omega
theorem judged_nm {H : Hp} {zs : List Str} (h : ∀ z ∈ zs, isNm z = true) : ∀ x ∈ zs.map V.str, Judged K H x ((fun _ => true) x) := fun x hx => by
  obtain ⟨z, hz, rfl⟩ := List.mem_map.mp hx
  exact .inl ⟨z, rfl, Nat.le_trans (nm_len (h z hz)) (by decide), (h z hz).symm⟩
theorem all_tt {zs : List V} : zs.all (fun _ => true) = true := by simp
theorem ok_difd (T : Bn mg) (D : DefAt K mg "_are_different" s_difd) (F_are_names : FnAt P w K mg base 2 "are_names" ["value"] (spNms K)) : FnAt P w K mg base 3 "_are_different" ["names"] (spDif K) := by
  refine fnAt D sc_difd (fun _ _ _ _ _ _ us hl => match us, hl with | [_], _ => rfl) (fun vs H Q E h => ?_) fun f cdv A outer s H vs Q E hr h => ?_
  · obtain ⟨a, zs, rfl, _⟩ := h
    rfl
  obtain ⟨a, zs, rfl, ha, hz, hn, k⟩ := h
  refine ⟨_, (pss_one (ps_ret (pe_and (callA F_are_names (hr.mono (by decide)) rfl (pa_cons (pv 0) pa_nil)) (pe_one (pe_cmpR op_eq (pe_callB cr_lenT (by rfl) T.b_len (by decide +kernel) (pa_cons (pe_callTy (cr_setT rfl) (by rfl) T.b_set (by decide +kernel) (pa_cons (pv 0) pa_nil)) pa_nil)) (pe_callB call_len_seq (by rfl) T.b_len (by decide +kernel) (pa_cons (pv 0) pa_nil)) (nomark _)))))), ?_⟩
  refine ⟨_, rfl, _, rfl, .inr ⟨a, _, fun _ => true, rfl, ha, tyTup ha, by rw [List.length_map]; exact hz, judged_nm hn, fun H1 e1 => ?_⟩⟩
  rw [all_tt]
  refine ⟨_, rfl, iteT ?_⟩
  refine ⟨_, rfl, a, zs, rfl, .inr (ha.ext e1), hz, fun p hp => ?_⟩
  have x := ext_new (o := SetT P w p zs) (ext_refl H1) hp
  refine ⟨p, zs, rfl, upd_same, hz, _, rfl, a, _, rfl, .inr ((ha.ext e1).ext x), ?_⟩
  refine ⟨rfl, ?_⟩
  have e2 : decide (V.int (dif zs : Nat) = .int ((zs.map V.str).length : Nat)) = decide zs.Nodup := by
    rw [List.length_map, dec_int, Bool.eq_iff_iff, beq_iff_eq, decide_eq_true_iff, ← dif_eq zs]
    omega
  rw [e2]
  exact k _ (e1.trans x)
end
end My
/-! a sorted list of texts is just one -/
namespace My
open PySem PySem.Spec PyProof.Rows L2
def leS (a b : Str) : Prop := a.cps.toList ≤ b.cps.toList
theorem leS_of {a b : Str} (h : (!ltCps b.cps.toList a.cps.toList) = true) : leS a b := by
  rw [ltCps_eq] at h
  have n : ¬ b.cps.toList < a.cps.toList := fun q => by rw [decide_eq_true q] at h; cases h
  exact List.not_lt.mp n
theorem leS_trans {a b c : Str} (h : leS a b) (g : leS b c) : leS a c := List.le_trans h g
theorem leS_anti {a b : Str} (h : leS a b) (g : leS b a) : a = b := by
  have e : a.cps.toList = b.cps.toList := List.le_antisymm h g
  cases a
  cases b
  congr 1
  exact Array.toList_inj.mp e
theorem rising_pw : ∀ (l : List Str) (p : Str), risingS p l = true → (p :: l).Pairwise leS
  | [], p, _ => List.pairwise_singleton ..
  | x :: r, p, h => by
    rw [show risingS p (x :: r) = (!ltCps x.cps.toList p.cps.toList && risingS x r) from rfl, Bool.and_eq_true] at h
    have ih := rising_pw r x h.2
    have le := leS_of h.1
    refine List.pairwise_cons.mpr ⟨fun y hy => ?_, ih⟩
    rcases List.mem_cons.mp hy with e | hy
    · rw [e]; exact le
    · exact leS_trans le ((List.pairwise_cons.mp ih).1 y hy)
theorem sorted_pw {l : List Str} (h : sortedS l = true) : l.Pairwise leS := by
  cases l with
  | nil => exact .nil
  | cons x r => exact rising_pw r x h
theorem sorted_one {a b : List Str} (p : a.Perm b) (ha : sortedS a = true) (hb : sortedS b = true) : a = b :=
  List.Perm.eq_of_pairwise (fun _ _ _ _ h g => leS_anti h g) (sorted_pw ha) (sorted_pw hb) p
end My
namespace My
open PySem PySem.Spec PyProof.Rows L2
/-! data of texts -/
theorem lay_strs : ∀ ss : List Str, (∀ s ∈ ss, PyData.strOk s = true) → PyData.canLayAll0 (ss.map PyData.str) = true := by
  intro ss h
  induction ss with
  | nil => rfl
  | cons x r ih =>
    rw [List.map_cons, PyData.canLayAll0, ih fun s hs => h s (List.mem_cons_of_mem _ hs), PyData.canLay0, h x (List.mem_cons_self ..)]
    rfl
theorem dep_strs : ∀ ss : List Str, PyData.depthAll (ss.map PyData.str) = 0 := by
  intro ss
  induction ss with
  | nil => rfl
  | cons x r ih =>
    rw [List.map_cons, PyData.depthAll, ih]
    rfl
theorem shaped_strs {ss : List Str} (h : ∀ s ∈ ss, PyData.strOk s = true) : SeqAt.shaped (.list (ss.map PyData.str)) = true := by
  unfold SeqAt.shaped
  rw [PyData.canLay0, lay_strs _ h, PyData.depth, dep_strs]
  rfl
theorem shaped_strsT {ss : List Str} (h : ∀ s ∈ ss, PyData.strOk s = true) : SeqAt.shaped (.tuple (ss.map PyData.str)) = true := by
  unfold SeqAt.shaped
  rw [PyData.canLay0, lay_strs _ h, PyData.depth, dep_strs]
  rfl
theorem eqv_strs : ∀ ss ts : List Str, PyData.eqvAll (ss.map PyData.str) (ts.map PyData.str) = decide (ss = ts) := by
  intro ss
  induction ss with
  | nil =>
    intro ts
    cases ts with
    | nil => rfl
    | cons _ _ => rfl
  | cons x r ih =>
    intro ts
    cases ts with
    | nil => rfl
    | cons y q =>
      rw [List.map_cons, List.map_cons, PyData.eqvAll, ih, PyData.eqv]
      by_cases h : x = y
      · subst h
        by_cases h2 : r = q
        · subst h2; simp
        · simp [h2]
      · simp [h]
theorem dp_strs {K : PySem.W.Frag} {H : Hp} : ∀ ss : List Str, DpAll K H (ss.map V.str) (ss.map PyData.str) := by
  intro ss
  induction ss with
  | nil => exact .nil
  | cons x r ih => exact .cons (.str x) ih
theorem joinL_ones : ∀ cs : List Nat, TL.joinL [] (cs.map fun c => [c]) = cs := by
  intro cs
  induction cs with
  | nil => rfl
  | cons c r ih =>
    cases r with
    | nil => rfl
    | cons d q =>
      show [c] ++ ([] ++ TL.joinL [] ((d :: q).map fun c => [c])) = _
      rw [ih]
      rfl
/-- a text of few codes -/
def Asc (z : Str) : Prop := ∀ c ∈ z.cps.toList, c < 1000
theorem Asc.ok {z : Str} (h : Asc z) : PyData.strOk z = true := by
  unfold PyData.strOk
  rw [← Array.all_toList]
  exact List.all_eq_true.mpr fun c hc => decide_eq_true (Nat.lt_trans (h c hc) (by decide))
theorem join_ones (cs : List Nat) : Txt.join ("" : Str) (cs.map fun c => (⟨#[c]⟩ : Str)) = ⟨cs.toArray⟩ := by
  have e := SX.join_S [] (cs.map fun c => [c])
  rw [List.map_map, joinL_ones] at e
  exact e
end My
namespace My
open PySem PySem.Spec PyProof.Rows L2
local macro_rules | `(tactic| walk_at "side") => `(tactic| first | assumption | decide | exact Or.inl ⟨by decide, by decide⟩ | exact Or.inr ⟨by decide, by decide⟩ | exact ⟨by decide, by decide, by decide⟩ | omega | (unfold CMulW; decide +kernel) | (dsimp only; first | assumption | omega | decide +kernel) | exact len_ok (Nat.le_of_ble_eq_true rfl) | fail "side")
local macro_rules | `(tactic| walk_at "rd") => `(tactic| first
  | refine ⟨_, _, _, _, rfl, rfl, SqL.of upd_same, atI_nat (j := 0) rfl, ?_⟩ | refine ⟨_, _, _, _, rfl, rfl, SqL.of upd_same, atI_nat (j := 1) rfl, ?_⟩ | refine ⟨_, _, _, _, rfl, rfl, SqL.of upd_same, atI_nat (j := 2) rfl, ?_⟩
  | refine ⟨_, _, _, _, rfl, rfl, upd_same, rfl, ?_⟩
  | refine ⟨_, _, rfl, rfl, ?_⟩ | refine ⟨_, rfl, ?_⟩ | refine ⟨_, _, rfl, ?_⟩ | refine Or.inl ⟨_, rfl, ?_⟩ | refine Or.inr ⟨_, rfl, ?_⟩ | refine ⟨(by walk_at "side"), ?_⟩ | fail "rd")

abbrev s_rows : Stmt := top 14
theorem sc_rows : FnScope ["upper", "lower"] ["upper", "lower"] (defScope s_rows) := ⟨rfl, rfl, rfl, by decide +kernel, rfl, by decide +kernel, by decide +kernel⟩
/-- the rows of an order -/
structure RowsOk (zs ys : List Str) : Prop where
  nm : ∀ z ∈ zs, isNm z = true
  nd : zs.Nodup
  pm : ys.Perm zs
  ne : 1 ≤ zs.length
  le : zs.length ≤ 40
theorem RowsOk.len {zs ys : List Str} (h : RowsOk zs ys) : ys.length = zs.length := h.pm.length_eq
theorem RowsOk.symm {zs ys : List Str} (h : RowsOk zs ys) : RowsOk ys zs :=
  ⟨fun z hz => h.nm z (h.pm.mem_iff.mp hz), h.pm.nodup_iff.mpr h.nd, h.pm.symm, by rw [h.len]; exact h.ne, by rw [h.len]; exact h.le⟩
theorem nm_asc {z : Str} (h : isNm z = true) : Asc z := fun c hc => by
  unfold isNm at h
  rw [Bool.and_eq_true] at h
  have m := of_decide_eq_true (List.all_eq_true.mp h.2 c hc)
  have all : ∀ d ∈ letS.cps.toList, d < 1000 := by decide +kernel
  exact all c m
theorem nm_ok {z : Str} (h : isNm z = true) : PyData.strOk z = true := (nm_asc h).ok
/-- the names, ascending -/
structure SortOf (zs ns : List Str) : Prop where
  pm : ns.Perm zs
  so : sortedS ns = true
structure OrdC (mg : Str → Option Value) : Prop where
  MAX_NAMES : ∃ t, mg "MAX_NAMES" = some (.int 40 t)
def spRows (K : PySem.W.Frag) : Sp := fun vs H Q _ => ∃ (a b : Addr) (zs ys : List Str), vs = [.ref a, .ref b] ∧ SqT K H a (zs.map V.str) ∧ SqT K H b (ys.map V.str) ∧ RowsOk zs ys ∧ ∀ H', Ext H H' → Q (.bl true) H'
section
variable {P : Program} {w : World} {K : PySem.W.Frag} {mg : Str → Option Value} {base : Heap}
theorem ok_rows (T : Bn mg) (OC : OrdC mg) (D : DefAt K mg "_are_rows" s_rows) (F_are_names : FnAt P w K mg base 2 "are_names" ["value"] (spNms K)) (F__are_different : FnAt P w K mg base 3 "_are_different" ["names"] (spDif K)) : FnAt P w K mg base 4 "_are_rows" ["upper", "lower"] (spRows K) := by
  obtain ⟨_, g_MAX_NAMES⟩ := OC.MAX_NAMES
  refine fnAt D sc_rows (fun _ _ _ _ _ _ us hl => match us, hl with | [_, _], _ => rfl) (fun vs H Q E h => ?_) fun f cdv A outer s H vs Q E hr h => ?_
  · obtain ⟨a, b, zs, ys, rfl, _⟩ := h
    rfl
  obtain ⟨a, b, zs, ys, rfl, ha, hb, ro, k⟩ := h
  have l1 := ro.le
  have l2 := ro.len
  have l3 := ro.ne
  refine ⟨_, (pss_cons (ps_if (PW.pt (pw_or (pt_not (pt_val (callA F__are_different (hr.mono (by decide)) rfl (pa_cons (pv 0) pa_nil)))) (pw_or1 (pt_not (pt_val (callA F_are_names (hr.mono (by decide)) rfl (pa_cons (pv 1) pa_nil))))))) (pss_one (ps_ret pe_bl)) pss_nil)
    (pss_one (ps_ret (pe_and (pe_chain op_le op_le pe_int (pe_callB call_len_seq (by rfl) T.b_len (by decide +kernel) (pa_cons (pv 0) pa_nil)) (pe_glob (v := .int 40) rfl g_MAX_NAMES ⟨_, rfl⟩)) (pe_one (pe_cmpR (op_eqD (hu64 hr)) (pe_callB cr_sortedB (by rfl) T.b_sorted (by decide +kernel) (pa_cons (pv 0) pa_nil)) (pe_callB cr_sortedB (by rfl) T.b_sorted (by decide +kernel) (pa_cons (pv 1) pa_nil)) (nomark _))))))), ?_⟩
  refine ⟨_, rfl, a, zs, rfl, ha, by omega, ro.nm, fun H1 e1 => ?_⟩
  rw [decide_eq_true ro.nd]
  refine ⟨_, rfl, iteF ?_⟩
  refine ⟨_, rfl, _, rfl, .inr ⟨b, _, fun _ => true, rfl, hb.ext e1, tyTup (hb.ext e1), by rw [List.length_map]; omega, judged_nm ro.symm.nm, fun H2 e2 => ?_⟩⟩
  rw [all_tt]
  refine ⟨_, rfl, iteF ?_⟩
  unfold tNext
  dsimp only
  unfold tRet tAndV tChain
  dsimp only
  have hA := (ha.ext e1).ext e2
  have hB := (hb.ext e1).ext e2
  refine ⟨_, rfl, a, _, rfl, .inr hA, _, _, rfl, rfl, _, rfl, ?_⟩
  rw [List.length_map, if_pos (decide_eq_true (show (1 : Int) ≤ (zs.length : Nat) by omega))]
  refine ⟨_, _, rfl, rfl, _, rfl, ?_⟩
  rw [if_pos (decide_eq_true (show ((zs.length : Nat) : Int) ≤ 40 by omega))]
  refine ⟨_, rfl, a, zs, rfl, .inr hA, by omega, fun s1 p1 pm1 so1 hp1 => ?_⟩
  have x1 := ext_new (o := HO.lst (s1.map V.str)) (ext_refl H2) hp1
  refine ⟨_, rfl, b, ys, rfl, .inr (hB.ext x1), by omega, fun s2 p2 pm2 so2 hp2 => ?_⟩
  have x2 := ext_new (o := HO.lst (s2.map V.str)) (ext_refl _) hp2
  have es : s1 = s2 := sorted_one (pm1.trans (ro.pm.symm.trans pm2.symm)) so1 so2
  have ok1 : ∀ z ∈ s1, PyData.strOk z = true := fun z hz => nm_ok (ro.nm z (pm1.mem_iff.mp hz))
  refine ⟨_, _, .lst (SqL.of (x2 _ _ upd_same)) (dp_strs s1), .lst (SqL.of upd_same) (dp_strs s2), shaped_strs ok1, shaped_strs (es ▸ ok1), ?_⟩
  have e3 : PyData.eqv (.list (s1.map PyData.str)) (.list (s2.map PyData.str)) = true := by
    rw [PyData.eqv, eqv_strs, es, decide_eq_true rfl]
  rw [e3]
  exact k _ (((e1.trans e2).trans x1).trans x2)
end
end My
namespace My
open PySem PySem.Spec PyProof.Rows L2
local macro_rules | `(tactic| walk_at "side") => `(tactic| first | assumption | decide | exact Or.inl ⟨by decide, by decide⟩ | exact Or.inr ⟨by decide, by decide⟩ | exact ⟨by decide, by decide, by decide⟩ | omega | (unfold CMulW; decide +kernel) | (dsimp only; first | assumption | omega | decide +kernel) | exact len_ok (Nat.le_of_ble_eq_true rfl) | fail "side")
local macro_rules | `(tactic| walk_at "rd") => `(tactic| first
  | refine ⟨_, _, _, _, rfl, rfl, SqL.of upd_same, atI_nat (j := 0) rfl, ?_⟩ | refine ⟨_, _, _, _, rfl, rfl, SqL.of upd_same, atI_nat (j := 1) rfl, ?_⟩ | refine ⟨_, _, _, _, rfl, rfl, SqL.of upd_same, atI_nat (j := 2) rfl, ?_⟩
  | refine ⟨_, _, _, _, rfl, rfl, upd_same, rfl, ?_⟩
  | refine ⟨_, _, rfl, rfl, ?_⟩ | refine ⟨_, rfl, ?_⟩ | refine ⟨_, _, rfl, ?_⟩ | refine Or.inl ⟨_, rfl, ?_⟩ | refine Or.inr ⟨_, rfl, ?_⟩ | refine ⟨(by walk_at "side"), ?_⟩ | fail "rd")

abbrev s_oinit : Stmt := inClass (top 12) 0
theorem sc_oinit : FnScope ["self", "upper", "lower", "place", "index", "name"] ["self", "upper", "lower"] (defScope s_oinit) := ⟨rfl, rfl, rfl, by decide +kernel, rfl, by decide +kernel, by decide +kernel⟩
theorem hu1 {A : Around} {k : Nat} (hr : Room k A) : A.units + 1 < cLine := by
  have := hr.units
  omega
/-- the class Order as the top has made it -/
structure OrdT (K : PySem.W.Frag) (mg : Str → Option Value) (C : Addr) : Prop where
  g : mg "Order" = some (.ref C)
  cl : Cls K C
  nA : NoAttr K C "_above"
  nB : NoAttr K C "_below"
  nP : NoAttr K C "_places"
  ini : ∃ f fd, Mk K C f ∧ Fun K "__init__" "Order.__init__" s_oinit f fd
/-- the places of an order -/
def plc (zs ys : List Str) : List Int := zs.map fun z => ((pos ys z : Nat) : Int)
def ofs (a b c : Addr) : List (Str × V) := [("_above", .ref a), ("_below", .ref b), ("_places", .ref c)]
def sOf : V → Str
  | .str s => s
  | _ => Str.empty
theorem plc_eq (zs ys : List Str) : (zs.map V.str).mapIdx (fun _ v => .int ((pos ys (sOf v) : Nat) : Int)) = (plc zs ys).map V.int := by
  unfold plc
  apply List.ext_getElem?
  intro i
  simp only [List.getElem?_mapIdx, List.getElem?_map, Option.map_map]
  rfl
/-- the order at o, with the rows at a and b -/
def OrdAB (K : PySem.W.Frag) (C : Addr) (H : Hp) (o a b : Addr) (zs ys : List Str) : Prop := ∃ dx c, H o = some (.ins C dx (ofs a b c)) ∧ SqT K H a (zs.map V.str) ∧ SqT K H b (ys.map V.str) ∧ SqT K H c ((plc zs ys).map V.int) ∧ RowsOk zs ys
/-- the order at o -/
def OrdAt (K : PySem.W.Frag) (C : Addr) (H : Hp) (o : Addr) (zs ys : List Str) : Prop := ∃ dx a b c, H o = some (.ins C dx (ofs a b c)) ∧ SqT K H a (zs.map V.str) ∧ SqT K H b (ys.map V.str) ∧ SqT K H c ((plc zs ys).map V.int) ∧ RowsOk zs ys
theorem OrdAB.at {K : PySem.W.Frag} {C : Addr} {H : Hp} {o a b : Addr} {zs ys : List Str} (h : OrdAB K C H o a b zs ys) : OrdAt K C H o zs ys := let ⟨dx, c, q⟩ := h; ⟨dx, a, b, c, q⟩
theorem OrdAB.ext {K : PySem.W.Frag} {C : Addr} {H H' : Hp} {o a b : Addr} {zs ys : List Str} (h : OrdAB K C H o a b zs ys) (e : Ext H H') : OrdAB K C H' o a b zs ys :=
  let ⟨dx, c, h1, h2, h3, h4, h5⟩ := h
  ⟨dx, c, e _ _ h1, h2.ext e, h3.ext e, h4.ext e, h5⟩
theorem OrdAt.ext {K : PySem.W.Frag} {C : Addr} {H H' : Hp} {o : Addr} {zs ys : List Str} (h : OrdAt K C H o zs ys) (e : Ext H H') : OrdAt K C H' o zs ys :=
  let ⟨dx, a, b, c, h1, h2, h3, h4, h5⟩ := h
  ⟨dx, a, b, c, e _ _ h1, h2.ext e, h3.ext e, h4.ext e, h5⟩
theorem OrdAt.rows {K : PySem.W.Frag} {C : Addr} {H : Hp} {o : Addr} {zs ys : List Str} (h : OrdAt K C H o zs ys) : RowsOk zs ys := let ⟨_, _, _, _, _, _, _, _, h5⟩ := h; h5
def spOInit (K : PySem.W.Frag) (C : Addr) : Sp := fun vs H Q _ => ∃ (x dx a b : Addr) (zs ys : List Str), vs = [.ref x, .ref a, .ref b] ∧ H x = some (.ins C dx []) ∧ SqT K H a (zs.map V.str) ∧ SqT K H b (ys.map V.str) ∧ RowsOk zs ys ∧
  ∀ H', (∀ a o, H a = some o → a ≠ x → H' a = some o) → OrdAB K C H' x a b zs ys → Q .non H'
structure OInitAt (P : Program) (w : World) (K : PySem.W.Frag) (mg : Str → Option Value) (base : Heap) (k : Nat) (C : Addr) (sp : Sp) : Prop where
  ex : ∃ (f : Addr) (fd : FuncData), Mk K C f ∧ FnOk P w K mg base CX0 k f fd ["self", "upper", "lower"] sp ∧ Binds K fd ["self", "upper", "lower"] []
/-- a tuple in the heap stays if all but x stays -/
theorem sqt_but {K : PySem.W.Frag} {H H' : Hp} {a x dx C : Addr} {xs : List V} (h : SqT K H a xs) (hx : H x = some (.ins C dx [])) (k : ∀ a o, H a = some o → a ≠ x → H' a = some o) : SqT K H' a xs := by
  rcases h with (e | ⟨o, e⟩) | r
  · exact .inl (.inl (k _ _ e fun z => by rw [z, hx] at e; cases e))
  · exact .inl (.inr ⟨o, k _ _ e fun z => by rw [z, hx] at e; cases e⟩)
  · exact .inr r
section
variable {P : Program} {w : World} {K : PySem.W.Frag} {mg : Str → Option Value} {base : Heap} {C : Addr}
theorem ok_oinit (T : Bn mg) (OT : OrdT K mg C) (F__are_rows : FnAt P w K mg base 4 "_are_rows" ["upper", "lower"] (spRows K)) : OInitAt P w K mg base 5 C (spOInit K C) := by
  obtain ⟨f, fd, M, F⟩ := OT.ini
  refine ⟨f, fd, M, F.ok sc_oinit (fun vs H Q E h => ?_) (fun cdv A outer s H vs Q E hr h => ?_), ?_⟩
  · obtain ⟨x, dx, a, b, zs, ys, rfl, _⟩ := h
    rfl
  · obtain ⟨x, dx, a, b, zs, ys, rfl, hx, ha, hb, ro, k⟩ := h
    have l1 := ro.le
    have l2 := ro.len
    refine ⟨_, PSs.nox (pss_cons (ps_if (pt_not (pt_val (callA F__are_rows (hr.mono (by decide)) rfl (pa_cons (pv 1) (pa_cons (pv 2) pa_nil))))) (pss_one ps_never) pss_nil)
    (pss_cons (ps_fld (pv 0) (pv 1) rfl)
    (pss_cons (ps_fld (pv 0) (pv 2) rfl)
    (pss_cons (ps_set (i := 3) sc_oinit.nd rfl (Or.inr rfl) (pe_dc (own := [("index", 4), ("name", 5)]) (g := gTup K 2 (gCons (gName 4) (gCons (gName 5) gNil))) (tt := tYes) rfl sc_oinit.nd (pi_enumT (by rfl) T.b_enumerate (pa_cons (pv 2) pa_nil)) (blkOk_by (N := ["self", "upper", "lower", "place", "index", "name"]) (sc := defScope s_oinit) (by decide +kernel)) (fun _ _ _ _ _ => pg_tup rfl (pgs_cons (pg_name (i := 4) sc_oinit.nd rfl (Or.inl rfl)) (pgs_cons (pg_name (i := 5) sc_oinit.nd rfl (Or.inl rfl)) pgs_nil))) (fun _ _ _ _ _ => pts_nil) (fun _ _ _ _ _ => (pv 5)) (fun _ _ _ _ _ => (pv 4))))
    (pss_one (ps_fld (pv 0) (pe_callTy call_tuple_of (by rfl) T.b_tuple (by decide +kernel) (pa_cons (pe_lc (own := [("name", 5)]) (g := gName 5) (tt := tYes) rfl sc_oinit.nd (pi_tup (pv 1)) (blkOk_by (N := ["self", "upper", "lower", "place", "index", "name"]) (sc := defScope s_oinit) (by decide +kernel)) (fun _ _ _ _ _ => pg_name (i := 5) sc_oinit.nd rfl (Or.inl rfl)) (fun _ _ _ _ _ => pts_nil) (fun _ _ _ _ _ => (pe_dget (hu1 hr) (pv 3) (pv 5) (fun _ _ => rfl)))) pa_nil)) rfl)))))), ?_⟩
    refine ⟨_, rfl, _, rfl, a, b, zs, ys, rfl, ha, hb, ro, fun H1 e1 => ?_⟩
    refine ⟨_, rfl, iteF ?_⟩
    have hx1 : H1 x = some (.ins C dx []) := e1 _ _ hx
    refine ⟨_, rfl, _, rfl, x, C, dx, _, rfl, hx1, OT.cl, OT.nA, (by show 0 < 1000; decide), ?_⟩
    refine ⟨_, rfl, _, rfl, x, C, dx, _, rfl, upd_same, OT.cl, OT.nB, (by show 1 < 1000; decide), ?_⟩
    generalize hH2 : upd (upd H1 x _) x _ = H2
    have k2 : ∀ c o, H1 c = some o → c ≠ x → H2 c = some o := fun c o e ne => by rw [← hH2, upd_ne ne, upd_ne ne]; exact e
    have hx2 : H2 x = some (.ins C dx [("_above", .ref a), ("_below", .ref b)]) := by rw [← hH2]; exact upd_same
    have ha2 := sqt_but (ha.ext e1) hx1 k2
    have hb2 := sqt_but (hb.ext e1) hx1 k2
    refine ⟨_, rfl, b, _, rfl, hb2, fun D hD => nm_dict (zs := ys) (j := 4) (k := 5) ro.symm.nd hb2 hD (by omega) (fun _ _ => rfl) (fun _ _ => rfl) (fun _ _ => rfl) fun H3 e3 hd => ?_⟩
    have hx3 := e3 _ _ hx2
    have ha3 := ha2.ext e3
    refine ⟨_, rfl, a, rfl, ⟨_, ha3⟩, fun D2 hD2 => map_tup (xs := zs.map V.str) (fun _ v => .int ((pos ys (sOf v) : Nat) : Int)) ha3 hD2 (by rw [List.length_map]; omega) (fun _ => rfl) (fun i v H' hi e Q' k' => ?_) fun H4 e4 hl4 => ?_⟩
    · rw [List.getElem?_map] at hi
      obtain ⟨z, hz, rfl⟩ := Option.map_eq_some_iff.mp hi
      have mem : z ∈ ys := ro.pm.mem_iff.mpr (List.mem_of_getElem? hz)
      exact ⟨_, rfl, _, rfl, D, _, rfl, .inl ⟨_, .inr z, .inl (e _ _ hd), rfl, ((valV_nmIdx z ys 0).trans (if_pos mem)).symm⟩, k' H' (ext_refl _)⟩
    rw [plc_eq] at hl4
    refine ⟨D2, _, rfl, .inl ⟨SqL.of hl4, fun l hl => ?_⟩⟩
    have hx4 := e4 _ _ hx3
    have nl : x ≠ l := ne_of_none hx4 hl
    refine ⟨_, rfl, x, C, dx, _, rfl, (upd_ne nl).trans hx4, OT.cl, OT.nP, (by show 2 < 1000; decide), ?_⟩
    have kp : ∀ (l : Addr) (H5 : Hp), H4 l = none → ∀ o : HO, H5 = upd (upd H4 l o) x (.ins C dx (ofs a b l)) → ∀ c o, H c = some o → c ≠ x → H5 c = some o := fun l H5 hl o e c o' h1 ne => by
      have h4 := e4 _ _ (e3 _ _ (k2 _ _ (e1 _ _ h1) ne))
      rw [e, upd_ne ne, upd_ne (ne_of_none h4 hl)]
      exact h4
    have kk := kp l _ hl (.tup ((plc zs ys).map V.int)) rfl
    refine k _ kk ⟨dx, l, upd_same, sqt_but ha hx kk, sqt_but hb hx kk, SqT.of ?_, ro⟩
    rw [upd_ne nl.symm]
    exact upd_same
  · exact F.binds (fun _ _ _ _ _ _ us hl => match us, hl with | [_, _, _], _ => rfl)
end
end My
namespace My
open PySem PySem.Spec PyProof.Rows L2
local macro_rules | `(tactic| walk_at "side") => `(tactic| first | assumption | decide | exact Or.inl ⟨by decide, by decide⟩ | exact Or.inr ⟨by decide, by decide⟩ | exact ⟨by decide, by decide, by decide⟩ | omega | (unfold CMulW; decide +kernel) | (dsimp only; first | assumption | omega | decide +kernel) | exact len_ok (Nat.le_of_ble_eq_true rfl) | fail "side")
local macro_rules | `(tactic| walk_at "rd") => `(tactic| first
  | refine ⟨_, _, _, _, rfl, rfl, SqL.of upd_same, atI_nat (j := 0) rfl, ?_⟩ | refine ⟨_, _, _, _, rfl, rfl, SqL.of upd_same, atI_nat (j := 1) rfl, ?_⟩ | refine ⟨_, _, _, _, rfl, rfl, SqL.of upd_same, atI_nat (j := 2) rfl, ?_⟩
  | refine ⟨_, _, _, _, rfl, rfl, upd_same, rfl, ?_⟩
  | refine ⟨_, _, rfl, rfl, ?_⟩ | refine ⟨_, rfl, ?_⟩ | refine ⟨_, _, rfl, ?_⟩ | refine Or.inl ⟨_, rfl, ?_⟩ | refine Or.inr ⟨_, rfl, ?_⟩ | refine ⟨(by walk_at "side"), ?_⟩ | fail "rd")

abbrev s_oabove : Stmt := inClass (top 12) 2
theorem sc_oabove : FnScope ["self"] ["self"] (defScope s_oabove) := ⟨rfl, rfl, rfl, by decide +kernel, rfl, by decide +kernel, by decide +kernel⟩
abbrev s_obelow : Stmt := inClass (top 12) 3
theorem sc_obelow : FnScope ["self"] ["self"] (defScope s_obelow) := ⟨rfl, rfl, rfl, by decide +kernel, rfl, by decide +kernel, by decide +kernel⟩
abbrev s_oplaces : Stmt := inClass (top 12) 6
theorem sc_oplaces : FnScope ["self"] ["self"] (defScope s_oplaces) := ⟨rfl, rfl, rfl, by decide +kernel, rfl, by decide +kernel, by decide +kernel⟩
/-! ### orders made -/
section
variable {X : Cx} {k : Nat} {C : Addr} {x : Str} {p pos : Pos} {e : Expr} {es : List Expr} {t : TA}
theorem mkO (F : OInitAt X.prog X.w X.K X.mg X.base k C (spOInit X.K C)) (OT : OrdT X.K X.mg C) (hr : Room (k + 1) X.A) (ha : PA X (e :: es) t) (hg : Gl X "Order" := by rfl)
    (he : starEach (e :: es) X.env = (false, eval e X.env) :: starEach es X.env := by rfl) (hpl : (backTo pos (starEach es X.env)).any (·.1) = false := by rfl) : PE X (.Call (.Name "Order" p) (e :: es) [] pos) (tMake C (spOInit X.K C) [] E0 t) := by
  obtain ⟨f, fd, M, G, hb⟩ := F.ex
  exact pe_make M G hr hg OT.g hb .nil pass0 ha (by decide) he hpl
end
theorem mk_use {K : PySem.W.Frag} {C a b : Addr} {zs ys : List Str} {H : Hp} {Q : VK} {E : XK} (ha : SqT K H a (zs.map V.str)) (hb : SqT K H b (ys.map V.str)) (ro : RowsOk zs ys) (k : ∀ x H', Ext H H' → OrdAB K C H' x a b zs ys → Q (.ref x) H') :
    ∀ x dx, H x = none → H dx = none → dx ≠ x → spOInit K C (.ref x :: ([.ref a, .ref b] ++ [])) (upd (upd H dx (.own x)) x (.ins C dx [])) (fun v H2 => v = .non ∧ Q (.ref x) H2) E := fun x dx hx hd ne => by
  have e1 : Ext H (upd (upd H dx (.own x)) x (.ins C dx [])) := ext_mut (ext_new (ext_refl H) hd) hx
  exact ⟨x, dx, a, b, zs, ys, rfl, upd_same, ha.ext e1, hb.ext e1, ro, fun H' kp oa => ⟨rfl, k x H' (fun c o q => kp c o (e1 c o q) (ne_of_none q hx)) oa⟩⟩
theorem mk_useA {K : PySem.W.Frag} {C a b : Addr} {zs ys : List Str} {H : Hp} {Q : VK} {E : XK} (ha : SqT K H a (zs.map V.str)) (hb : SqT K H b (ys.map V.str)) (ro : RowsOk zs ys) (k : ∀ x H', Ext H H' → OrdAt K C H' x zs ys → Q (.ref x) H') :
    ∀ x dx, H x = none → H dx = none → dx ≠ x → spOInit K C (.ref x :: ([.ref a, .ref b] ++ [])) (upd (upd H dx (.own x)) x (.ins C dx [])) (fun v H2 => v = .non ∧ Q (.ref x) H2) E := mk_use ha hb ro fun x H' e oa => k x H' e oa.at
/-! ### what an order tells -/
theorem ofs_a (a b c : Addr) : (ofs a b c).lookup ("_above" : Str) = some (.ref a) := rfl
theorem ofs_b (a b c : Addr) : (ofs a b c).lookup ("_below" : Str) = some (.ref b) := rfl
theorem ofs_p (a b c : Addr) : (ofs a b c).lookup ("_places" : Str) = some (.ref c) := rfl
def spGetT (K : PySem.W.Frag) (C : Addr) (f : List Str → List Str → List V) : Sp := fun vs H Q _ => ∃ o zs ys, vs = [.ref o] ∧ OrdAt K C H o zs ys ∧ ∀ a, SqT K H a (f zs ys) → Q (.ref a) H
def spGetN (K : PySem.W.Frag) (C : Addr) : Sp := fun vs H Q _ => ∃ o zs ys, vs = [.ref o] ∧ OrdAt K C H o zs ys ∧ Q (.int (zs.length : Nat)) H
def spNames (K : PySem.W.Frag) (C : Addr) : Sp := fun vs H Q _ => ∃ o zs ys, vs = [.ref o] ∧ OrdAt K C H o zs ys ∧ ∀ ns p H', SortOf zs ns → Ext H H' → SqT K H' p (ns.map V.str) → Q (.ref p) H'
/-- an order made of one -/
def spOrd (K : PySem.W.Frag) (C : Addr) (f g : List Str → List Str → List Str) : Sp := fun vs H Q _ => ∃ o zs ys, vs = [.ref o] ∧ OrdAt K C H o zs ys ∧ ∀ x H', Ext H H' → OrdAt K C H' x (f zs ys) (g zs ys) → Q (.ref x) H'
def spOEq (K : PySem.W.Frag) (C : Addr) : Sp := fun vs H Q _ => ∃ o y zs ys, vs = [.ref o, y] ∧ OrdAt K C H o zs ys ∧
  ((∃ b zs' ys', y = .ref b ∧ OrdAt K C H b zs' ys' ∧ Q (.bl (decide (zs = zs') && decide (ys = ys'))) H) ∨ (∃ t, TyX K H y t ∧ PySem.W.kitOne K t (.ref C) = some false ∧ Q (.bl false) H))
section
variable {P : Program} {w : World} {K : PySem.W.Frag} {mg : Str → Option Value} {base : Heap} {C : Addr}
theorem ok_oabove (D : PropT K C "above" "Order.above" s_oabove) (OT : OrdT K mg C) : PropAt P w K mg base 1 C "above" (spGetT K C fun zs _ => zs.map V.str) := by
  refine propAt D sc_oabove (fun _ _ _ _ _ _ us hl => match us, hl with | [_], _ => rfl) (fun vs H Q E h => ?_) fun f cdv A outer s H vs Q E hr h => ?_
  · obtain ⟨o, zs, ys, rfl, _⟩ := h
    rfl
  obtain ⟨o, zs, ys, rfl, ⟨dx, a, b, c, e, ha, hb, hc, ro⟩, k⟩ := h
  exact ⟨_, (pss_one (ps_ret (pe_fld (pv 0) rfl))), _, rfl, o, C, dx, _, _, rfl, e, OT.cl, OT.nA, ofs_a a b c, k a ha⟩
theorem ok_obelow (D : PropT K C "below" "Order.below" s_obelow) (OT : OrdT K mg C) : PropAt P w K mg base 1 C "below" (spGetT K C fun _ ys => ys.map V.str) := by
  refine propAt D sc_obelow (fun _ _ _ _ _ _ us hl => match us, hl with | [_], _ => rfl) (fun vs H Q E h => ?_) fun f cdv A outer s H vs Q E hr h => ?_
  · obtain ⟨o, zs, ys, rfl, _⟩ := h
    rfl
  obtain ⟨o, zs, ys, rfl, ⟨dx, a, b, c, e, ha, hb, hc, ro⟩, k⟩ := h
  exact ⟨_, (pss_one (ps_ret (pe_fld (pv 0) rfl))), _, rfl, o, C, dx, _, _, rfl, e, OT.cl, OT.nB, ofs_b a b c, k b hb⟩
theorem ok_oplaces (D : PropT K C "places" "Order.places" s_oplaces) (OT : OrdT K mg C) : PropAt P w K mg base 1 C "places" (spGetT K C fun zs ys => (plc zs ys).map V.int) := by
  refine propAt D sc_oplaces (fun _ _ _ _ _ _ us hl => match us, hl with | [_], _ => rfl) (fun vs H Q E h => ?_) fun f cdv A outer s H vs Q E hr h => ?_
  · obtain ⟨o, zs, ys, rfl, _⟩ := h
    rfl
  obtain ⟨o, zs, ys, rfl, ⟨dx, a, b, c, e, ha, hb, hc, ro⟩, k⟩ := h
  exact ⟨_, (pss_one (ps_ret (pe_fld (pv 0) rfl))), _, rfl, o, C, dx, _, _, rfl, e, OT.cl, OT.nP, ofs_p a b c, k c hc⟩
end
end My
/-! a tuple [::-1] -/
namespace My
open PySem PySem.Spec PyProof.Rows L2
section
variable {prog : Program} {w : World} {A : Around} {E : Value → Shared → Prop} {s : Shared}
theorem adjust_rev (n : Nat) : Builtin.Slice.sliceAdjust none none (-1) (n : Int) = ((n : Int) - 1, -1) := by
  unfold Builtin.Slice.sliceAdjust
  simp
theorem places_rev (n : Nat) : Builtin.Slice.slicePlaces ((n : Int) - 1) (-1) (-1) = n := by
  unfold Builtin.Slice.slicePlaces
  simp
  omega
theorem sliceApplied_rev {sl : Addr} {vs : Value} {n : Nat} {Q : Int × Int × Nat → Shared → Prop} (hs : s.heap.IsSliceOf sl .none .none vs) (ps : IsPart vs (some (-1)))
    (h : Q ((n : Int) - 1, -1, n) s) : wpAny (model prog w) A (Builtin.Slice.sliceApplied (.ref sl) (pure (n : Int))) Q E s := by
  obtain ⟨os, hos, hcs, hds⟩ := id hs
  unfold Builtin.Slice.sliceApplied Builtin.Slice.sliceFields
  refine wpAny_bind (wpAny_bind (wpAny_field hos hds (x := .none) rfl (wpAny_bind (wpAny_field hos hds (x := .none) rfl (wpAny_bind (wpAny_field hos hds (x := vs) rfl (wpAny_pure ?_)))))))
  refine wpAny_bind (HT.slicePart_ ps ?_)
  show wpAny _ _ (if ((-1 : Int) == 0) = true then _ else _) _ _ s
  rw [if_neg (by decide)]
  refine wpAny_bind (HT.slicePart_ .none (wpAny_bind (HT.slicePart_ .none (wpAny_bind (wpAny_pure ?_)))))
  show wpAny _ _ (match Builtin.Slice.sliceAdjust none none (-1) (n : Int) with | (lo, hi) => pure (lo, (-1 : Int), Builtin.Slice.slicePlaces lo hi (-1))) _ _ s
  rw [adjust_rev n]
  show wpAny _ _ (pure ((n : Int) - 1, (-1 : Int), Builtin.Slice.slicePlaces ((n : Int) - 1) (-1) (-1))) _ _ s
  rw [places_rev]
  exact wpAny_pure h
theorem fm_congr {α β : Type} {f g : α → Option β} : ∀ {l : List α}, (∀ x ∈ l, f x = g x) → l.filterMap f = l.filterMap g
  | [], _ => rfl
  | x :: r, h => by
    rw [List.filterMap_cons, List.filterMap_cons, h x (List.mem_cons_self ..), fm_congr fun y hy => h y (List.mem_cons_of_mem _ hy)]
theorem pick_rev (xs : Array Value) : ((List.range xs.size).filterMap fun (m : Nat) => xs[((xs.size : Int) - 1 + (m : Int) * (-1)).toNat]?).toArray = xs.toList.reverse.toArray := by
  have z := HT.pick_gen xs.toList.reverse.toArray 0 xs.size
  have e1 : ((List.range xs.size).filterMap fun (m : Nat) => xs[((xs.size : Int) - 1 + (m : Int) * (-1)).toNat]?) = (List.range xs.size).filterMap fun (m : Nat) => xs.toList.reverse.toArray[(((0 : Nat) : Int) + (m : Int) * 1).toNat]? := by
    refine fm_congr fun m hm => ?_
    have hl := List.mem_range.mp hm
    have a1 : ((xs.size : Int) - 1 + (m : Int) * (-1)).toNat = xs.size - 1 - m := by omega
    have a2 : (((0 : Nat) : Int) + (m : Int) * 1).toNat = m := by omega
    have e2 : xs.toList.reverse.toArray[m]? = xs.toList.reverse[m]? := List.getElem?_toArray
    rw [a1, a2, e2, List.getElem?_reverse (by rw [Array.length_toList]; exact hl), Array.length_toList, Array.getElem?_toList]
  rw [e1, z]
  simp only [List.drop_zero]
  rw [List.take_of_length_le (by rw [List.length_reverse, Array.length_toList]; exact Nat.le_refl _)]
theorem getItem_tuple_rev {t sl : Addr} {items : Array Value} {vs : Value} {Q : Value → Shared → Prop} (ht : IsTup s.heap t items) (hs : s.heap.IsSliceOf sl .none .none vs) (ps : IsPart vs (some (-1)))
    (h : Q (.ref s.heap.objs.size) { s with heap := s.heap.push { cls := .type "tuple", data := .seq items.toList.reverse.toArray } })
    (hsz : items.size ≤ sizeLine) : wpAny (model prog w) A (getItem (.ref t) (.ref sl)) Q E s := by
  have htake : sizeOk (.seq items.toList.reverse.toArray) := by
    show items.toList.reverse.toArray.size ≤ sizeLine
    rw [List.size_toArray, List.length_reverse, Array.length_toList]
    exact hsz
  obtain ⟨os, hos, hcs, hds⟩ := id hs
  have hTs : s.TypeIs (.ref sl) "slice" := ⟨os, hos, hcs⟩
  unfold getItem
  try with_reducible refine wpAny_holding ?_
  first | refine wpAny_bind (wpAny_pure ?_) | skip
  refine wpAny_bind (wpAny_sequenceKey ht.typeIs (by decide) ?_)
  refine wpAny_bind (wpAny_callSpecial?_slot (name := Str.ofString "__getitem__") ht.typeIs PyProof.Rows.slot_tuple_getitem
    (wpAny_call_entry PyProof.Rows.slot_tuple_getitem ht.typeIs entry_tuple_getitem ?_ (args_tuple_getitem _ _)))
  show wpAny _ _ (Builtin.Tuple.tupleItemsOf (.ref t) >>= _) _ _ s
  refine wpAny_bind (tupleItemsOf_ ht ?_)
  refine wpAny_bind (wpAny_typeOf hTs ?_)
  rw [if_pos (by decide)]
  refine wpAny_bind (sliceApplied_rev hs ps ?_)
  have hno : ¬ ((((items.size : Int) - 1) == 0 && (-1 : Int) == 1 && items.size == items.size) = true) := by
    rw [show ((-1 : Int) == 1) = false from rfl, Bool.and_false, Bool.false_and]
    exact Bool.false_ne_true
  show wpAny _ _ (if (((items.size : Int) - 1) == 0 && (-1 : Int) == 1 && items.size == items.size) = true then _ else _) _ _ s
  rw [if_neg hno, pick_rev]
  first
    | exact wpAny_bind (m := Builtin.Tuple.tupleExact _) (wpAny_newObj_type (wpAny_pure ⟨_, rfl, wpAny_pure h⟩) htake)
    | exact wpAny_bind (m := Builtin.Tuple.tupleExact _) (wpAny_newObj_type (wpAny_bind (wpAny_pure (wpAny_pure ⟨_, rfl, wpAny_pure h⟩))) htake)
    | exact wpAny_bind (wpAny_bind (m := Builtin.Tuple.tupleExact _) (wpAny_newObj_type (wpAny_pure (wpAny_pure ⟨_, rfl, wpAny_pure h⟩)) htake))
    | exact wpAny_bind (wpAny_bind (m := Builtin.Tuple.tupleExact _) (wpAny_newObj_type (wpAny_pure ⟨_, rfl, wpAny_pure h⟩) htake))
end
section
variable {X : Cx}
def tRevT (K : PySem.W.Frag) (te : TE) : TE := fun σ H Q => te σ H fun x H1 => ∃ a xs, x = .ref a ∧ SqT K H1 a xs ∧ ∀ p, H1 p = none → Q (.ref p) (upd H1 p (.tup xs.reverse))
theorem pe_revT {e : Expr} {te : TE} {k : Nat} {p1 p2 p3 pos : Pos} (he : PE X e te) : PE X (.Subscript e (.Slice none none (some (.UnaryOp .USub (.Constant (.int 1) k p1) p2)) p3) pos) (tRevT X.K te) := by
  refine ⟨fun pins s σ H Q I h => ?_⟩
  refine Subscript_ (thn (he.run pins s σ H _ I h) fun v s1 ⟨x, H1, I1, r1, q1⟩ => ?_)
  obtain ⟨a, xs, ex, hx, q⟩ := q1
  subst ex
  cases r1
  have hst : PO X (some (.UnaryOp .USub (.Constant (.int 1) k p1) p2)) (tPart (tUn (rU fun i => .int (-i)) (tC (.int 1)))) := po_some (pe_un un_neg pe_int)
  refine wpAny_Slice (thn (po_none.run pins s1 σ H1 (fun o H2 => o = none ∧ H2 = H1) I1 ⟨rfl, rfl⟩) fun vl s2 ⟨l, H2, I2, pl, el, e2⟩ => ?_)
  subst el e2
  refine thn (po_none.run pins s2 σ H2 (fun o H3 => o = none ∧ H3 = H2) I2 ⟨rfl, rfl⟩) fun vu s3 ⟨u, H3, I3, pu, eu, e3⟩ => ?_
  subst eu e3
  refine thn (hst.run pins s3 σ H3 (fun o H4 => o = some (-1) ∧ H4 = H3) I3 ⟨1, rfl, -1, rfl, rfl, rfl⟩) fun vs s4 ⟨o, H4, I4, ps, eo, e4⟩ => ?_
  subst eo e4
  cases pl
  cases pu
  have I5 : Inv X pins σ H4 { s4 with heap := s4.heap.push { cls := .type "slice", data := .fields #[.none, .none, vs] } } := I4.kept (t' := s4.toks) fun b ob q => Heap.get?_push_of_some _ q
  obtain ⟨its, r, ht, hz⟩ := I5.tuple hx
  have hlen := r.length
  show wpAny (model X.prog X.w) X.A (subscriptTail e (.Slice none none (some (.UnaryOp .USub (.Constant (.int 1) k p1) p2)) p3) (.ref a) (.ref s4.heap.objs.size)) (EP X pins σ Q) X.xe { s4 with heap := s4.heap.push { cls := .type "slice", data := .fields #[.none, .none, vs] } }
  refine tail_any (ops := [.ref a, .ref s4.heap.objs.size]) ht.typeIs (PyProof.Rows.slot_tuple_getitem.lookup) ?_ (by with_unfolding_all rfl)
  refine getItem_tuple_rev ht (Heap.IsSliceOf.new _ .none .none vs) ps ?_ (by rw [List.size_toArray]; omega)
  refine ⟨.ref _, _, I5.laid (t' := s4.toks) (o := .tup xs.reverse) (fun b ob q => Heap.get?_push_of_some _ q) (Nat.le_refl _) ?_, rfl, q _ (I5.hok.fresh (Nat.le_refl _))⟩
  exact ⟨by rw [List.length_reverse]; exact hz, _, r.reverse, IsTup.new _ _⟩
end
end My
namespace My
open PySem PySem.Spec PyProof.Rows L2
local macro_rules | `(tactic| walk_at "side") => `(tactic| first | assumption | decide | exact Or.inl ⟨by decide, by decide⟩ | exact Or.inr ⟨by decide, by decide⟩ | exact ⟨by decide, by decide, by decide⟩ | omega | (unfold CMulW; decide +kernel) | (dsimp only; first | assumption | omega | decide +kernel) | exact len_ok (Nat.le_of_ble_eq_true rfl) | fail "side")
local macro_rules | `(tactic| walk_at "rd") => `(tactic| first
  | refine ⟨_, _, _, _, rfl, rfl, SqL.of upd_same, atI_nat (j := 0) rfl, ?_⟩ | refine ⟨_, _, _, _, rfl, rfl, SqL.of upd_same, atI_nat (j := 1) rfl, ?_⟩ | refine ⟨_, _, _, _, rfl, rfl, SqL.of upd_same, atI_nat (j := 2) rfl, ?_⟩
  | refine ⟨_, _, _, _, rfl, rfl, upd_same, rfl, ?_⟩
  | refine ⟨_, _, rfl, rfl, ?_⟩ | refine ⟨_, rfl, ?_⟩ | refine ⟨_, _, rfl, ?_⟩ | refine Or.inl ⟨_, rfl, ?_⟩ | refine Or.inr ⟨_, rfl, ?_⟩ | refine ⟨(by walk_at "side"), ?_⟩ | fail "rd")

abbrev s_oeq : Stmt := inClass (top 12) 15
theorem sc_oeq : FnScope ["self", "other"] ["self", "other"] (defScope s_oeq) := ⟨rfl, rfl, rfl, by decide +kernel, rfl, by decide +kernel, by decide +kernel⟩
structure OrdI (K : PySem.W.Frag) (C : Addr) : Prop where
  kOrd : PySem.W.kitOne K (.ref C) (.ref C) = some true
  ha : PySem.W.findIn K (.ref C) "__class__" = some (some (.builtin "object.__class__"))
  hn : PySem.W.specialIn K (.builtin "object.__class__") "__get__" = some (some (.builtin "getset_descriptor.__get__"))
  htk : PySem.W.takesIn K (.builtin "object.__class__") = some true
  hm : PySem.W.mroIn K C (.type "object") = some true
theorem OrdAt.ty {K : PySem.W.Frag} {H : Hp} {C o : Addr} {zs ys : List Str} (h : OrdAt K C H o zs ys) (c : Cls K C) (I : OrdI K C) : TyX K H (.ref o) (.ref C) := let ⟨dx, _, _, _, e, _⟩ := h; .base (.ins e c I.ha I.hn I.htk I.hm)
theorem eqT_strs (ss ts : List Str) : PyData.eqv (.tuple (ss.map PyData.str)) (.tuple (ts.map PyData.str)) = decide (ss = ts) := by
  rw [PyData.eqv, eqv_strs]
theorem RowsOk.strOk {zs ys : List Str} (h : RowsOk zs ys) : ∀ z ∈ zs, PyData.strOk z = true := fun z hz => nm_ok (h.nm z hz)
section
variable {P : Program} {w : World} {K : PySem.W.Frag} {mg : Str → Option Value} {base : Heap} {C : Addr}
theorem ok_oeq (T : Bn mg) (D : SpT K C "__eq__" "Order.__eq__" s_oeq) (OT : OrdT K mg C) (OI : OrdI K C) : SpAt P w K mg base 1 C "__eq__" ["self", "other"] (spOEq K C) := by
  refine spAt D sc_oeq (fun _ _ _ _ _ _ us hl => match us, hl with | [_, _], _ => rfl) (fun vs H Q E h => ?_) fun f cdv A outer s H vs Q E hr h => ?_
  · obtain ⟨o, y, zs, ys, rfl, _⟩ := h
    rfl
  obtain ⟨o, y, zs, ys, rfl, ⟨dx, a, b, c, e, ha, hb, hc, ro⟩, h⟩ := h
  refine ⟨_, (pss_one (ps_ret (pe_and (pe_callB call_isi (by rfl) T.b_isinstance (by decide +kernel) (pa_cons (pv 1) (pa_cons (pe_glob (v := .ref C) rfl OT.g rfl) pa_nil))) (pe_and (pe_cmpR (op_eqD (hu64 hr)) (pe_fld (pv 0) rfl) (pe_fld (pv 1) rfl) (nomark _)) (pe_one (pe_cmpR (op_eqD (hu64 hr)) (pe_fld (pv 0) rfl) (pe_fld (pv 1) rfl) (nomark _))))))), ?_⟩
  rcases h with ⟨o2, zs', ys', rfl, h2, k⟩ | ⟨t, ty, hk, k⟩
  · obtain ⟨dx2, a2, b2, c2, e2, ha2, hb2, hc2, ro2⟩ := id h2
    refine ⟨_, rfl, _, _, _, _, true, rfl, .own C, h2.ty OT.cl OI, OI.kOrd, _, rfl, iteT ?_⟩
    refine ⟨_, rfl, o, C, dx, _, _, rfl, e, OT.cl, OT.nA, ofs_a a b c, _, rfl, o2, C, dx2, _, _, rfl, e2, OT.cl, OT.nA, ofs_a a2 b2 c2, ?_⟩
    refine ⟨_, _, .tup ha (dp_strs zs), .tup ha2 (dp_strs zs'), shaped_strsT ro.strOk, shaped_strsT ro2.strOk, ?_⟩
    rw [eqT_strs]
    refine ⟨_, rfl, ?_⟩
    refine ite2 (fun c1 => ?_) (fun c1 => ?_)
    · refine ⟨_, rfl, o, C, dx, _, _, rfl, e, OT.cl, OT.nB, ofs_b a b c, _, rfl, o2, C, dx2, _, _, rfl, e2, OT.cl, OT.nB, ofs_b a2 b2 c2, ?_⟩
      refine ⟨_, _, .tup hb (dp_strs ys), .tup hb2 (dp_strs ys'), shaped_strsT ro.symm.strOk, shaped_strsT ro2.symm.strOk, ?_⟩
      rw [eqT_strs]
      rw [c1, Bool.true_and] at k
      exact k
    · rw [Bool.eq_false_iff.mpr c1, Bool.false_and] at k
      exact k
  · exact ⟨_, rfl, _, _, _, _, false, rfl, .own C, ty, hk, _, rfl, iteF k⟩
end
end My
namespace My
open PySem PySem.Spec PyProof.Rows L2
local macro_rules | `(tactic| walk_at "side") => `(tactic| first | assumption | decide | exact Or.inl ⟨by decide, by decide⟩ | exact Or.inr ⟨by decide, by decide⟩ | exact ⟨by decide, by decide, by decide⟩ | omega | (unfold CMulW; decide +kernel) | (dsimp only; first | assumption | omega | decide +kernel) | exact len_ok (Nat.le_of_ble_eq_true rfl) | fail "side")
local macro_rules | `(tactic| walk_at "rd") => `(tactic| first
  | refine ⟨_, _, _, _, rfl, rfl, SqL.of upd_same, atI_nat (j := 0) rfl, ?_⟩ | refine ⟨_, _, _, _, rfl, rfl, SqL.of upd_same, atI_nat (j := 1) rfl, ?_⟩ | refine ⟨_, _, _, _, rfl, rfl, SqL.of upd_same, atI_nat (j := 2) rfl, ?_⟩
  | refine ⟨_, _, _, _, rfl, rfl, upd_same, rfl, ?_⟩
  | refine ⟨_, _, rfl, rfl, ?_⟩ | refine ⟨_, rfl, ?_⟩ | refine ⟨_, _, rfl, ?_⟩ | refine Or.inl ⟨_, rfl, ?_⟩ | refine Or.inr ⟨_, rfl, ?_⟩ | refine ⟨(by walk_at "side"), ?_⟩ | fail "rd")

abbrev s_lmixed : Stmt := top 20
theorem sc_lmixed : FnScope ["_law_dice_here", "_law_items", "_law_left", "_law_found", "_law_turn"] ["_law_dice_here", "_law_items"] (defScope s_lmixed) := ⟨rfl, rfl, rfl, by decide +kernel, rfl, by decide +kernel, by decide +kernel⟩
abbrev s_lnames : Stmt := top 21
theorem sc_lnames : FnScope ["_law_dice_here", "_law_times"] ["_law_dice_here", "_law_times"] (defScope s_lnames) := ⟨rfl, rfl, rfl, by decide +kernel, rfl, by decide +kernel, by decide +kernel⟩
def spLMix (K : PySem.W.Frag) : Sp := fun vs H Q _ => ∃ (a l : Addr) (xs : List V), vs = [.ref a, .ref l] ∧ H a = some (DiceO a) ∧ SqL K H l xs ∧ xs.length ≤ 100 ∧ ∀ p H' ys, Ext H H' → H' p = some (.lst ys) → ys.Perm xs → Q (.ref p) H'
theorem two_new {H H' : Hp} {L : Addr} {o : HO} (hL : H L = none) (e : ∀ a u, H a = some u → H' a = some u) : ∀ a u, H a = some u → upd H' L o a = some u := fun a u q => by
  rw [upd_ne (ne_of_none q hL)]
  exact e a u q
theorem erase_perm {α : Type} : ∀ {l : List α} {j : Nat} (h : j < l.length), (l[j] :: l.eraseIdx j).Perm l
  | x :: r, 0, _ => List.Perm.refl _
  | x :: r, j + 1, h => by
    have ih := erase_perm (l := r) (j := j) (by simpa using h)
    exact (List.Perm.swap x _ _).trans (ih.cons x)
theorem cut_to {xs : List V} {n : Nat} (h : n ≤ xs.length) : cutV xs none (some (n : Int)) = xs.take n := by
  unfold cutV
  rw [HT.sIx_none, HT.sIx_nat, Nat.min_eq_left h]
  rfl
theorem cut_from {xs : List V} {n : Nat} (h : n ≤ xs.length) : cutV xs (some (n : Int)) none = xs.drop n := by
  unfold cutV
  rw [HT.sIx_none, HT.sIx_nat, Nat.min_eq_left h]
  rw [List.take_of_length_le (by rw [List.length_drop]; exact Nat.le_refl _)]
def tenN : List Str := ["a", "b", "c", "d", "e", "x", "aa", "ab", "zz", "zzzzzzzz"]
theorem ten_nm : ∀ z ∈ tenN, isNm z = true := by decide +kernel
theorem ten_nd : tenN.Nodup := by decide +kernel
theorem perm_strs {ys : List V} {zs : List Str} (h : ys.Perm (zs.map V.str)) : ∃ ws : List Str, ys = ws.map V.str ∧ ws.Perm zs := by
  refine ⟨ys.map sOf, ?_, ?_⟩
  · rw [List.map_map]
    have : ∀ y ∈ ys, (V.str ∘ sOf) y = y := fun y hy => by
      obtain ⟨z, _, rfl⟩ := List.mem_map.mp (h.mem_iff.mp hy)
      rfl
    rw [List.map_congr_left this, List.map_id']
  · have p := h.map sOf
    rw [List.map_map] at p
    have e : zs.map (sOf ∘ V.str) = zs := by
      have : ∀ z ∈ zs, (sOf ∘ V.str) z = z := fun _ _ => rfl
      rw [List.map_congr_left this, List.map_id']
    rw [e] at p
    exact p
def spLNames : Sp := fun vs H Q _ => ∃ (a : Addr) (n : Nat), vs = [.ref a, .int (n : Nat)] ∧ H a = some (DiceO a) ∧ 1 ≤ n ∧ n ≤ 10 ∧ ∀ p H' (ws : List Str), Ext H H' → H' p = some (.lst (ws.map V.str)) → ws.length = n → ws.Nodup → (∀ z ∈ ws, z ∈ tenN) → Q (.ref p) H'
section
variable {P : Program} {w : World} {K : PySem.W.Frag} {mg : Str → Option Value} {base : Heap}
theorem ok_lmixed (T : Bn mg) (D : DefAt K mg "_law_mixed" s_lmixed) (F__law_roll : FnAt P w K mg base 1 "_law_roll" ["_law_dice_here", "_law_total"] spRoll) : FnAt P w K mg base 2 "_law_mixed" ["_law_dice_here", "_law_items"] (spLMix K) := by
  refine fnAt D sc_lmixed (fun _ _ _ _ _ _ us hl => match us, hl with | [_, _], _ => rfl) (fun vs H Q E h => ?_) fun f cdv A outer s H vs Q E hr h => ?_
  · obtain ⟨a, l, xs, rfl, _⟩ := h
    rfl
  obtain ⟨a, l, xs, rfl, ha, hl, hz, k⟩ := h
  refine ⟨_, (pss_cons (ps_par (i := 2) (j := 3) rfl sc_lmixed.nd rfl rfl (by decide) rfl rfl (pa_cons (pe_callTy call_list_of (by rfl) T.b_list (by decide +kernel) (pa_cons (pv 1) pa_nil)) (pa_cons (pe_lst pa_nil) pa_nil)) (by rfl))
    (pss_cons (ps_for PassesOwn.never rfl (pi_range1 (by rfl) T.b_range (pa_cons (pe_callB call_len_seq (by rfl) T.b_len (by decide +kernel) (pa_cons (pv 1) pa_nil)) pa_nil)) (pg_name (i := 4) sc_lmixed.nd rfl (Or.inl rfl))
      (pss_one (ps_expr (pe_bm PySem.F.plainAttrs_list PySem.F.slot_list_append PySem.F.type_list_append mt_append (pv 3) (pa_cons (pe_bm PySem.F.plainAttrs_list PySem.F.slot_list_pop PySem.F.type_list_pop mt_popAt (pv 2) (pa_cons (callA F__law_roll (hr.mono (by decide)) rfl (pa_cons (pv 0) (pa_cons (pe_callB call_len_seq (by rfl) T.b_len (by decide +kernel) (pa_cons (pv 2) pa_nil)) pa_nil))) pa_nil)) pa_nil)))))
    (pss_one (ps_ret (pv 3))))), ?_⟩
  refine ⟨_, rfl, l, xs, rfl, .inl hl, fun L hL => ⟨len_ok (Nat.le_of_ble_eq_true rfl), fun F hF => ⟨_, _, rfl, ?_⟩⟩⟩
  have E1 := ext_new (o := .lst xs) (ext_refl H) hL
  have E2 := ext_new (o := .lst []) E1 hF
  have FL : F ≠ L := fun z => by rw [z, upd_same] at hF; cases hF
  have hF0 : H F = none := ext_none E1 hF
  refine ⟨_, rfl, l, xs, rfl, .inl (hl.ext E2), _, rfl, by omega, by omega, ?_⟩
  refine for_range (lo := 0) (fun i σ H' => ∃ ls fs z, σ = [some (.ref a), some (.ref l), some (.ref L), some (.ref F), z] ∧ (∀ a u, H a = some u → H' a = some u) ∧ H' L = some (.lst ls) ∧ H' F = some (.lst fs) ∧ ls.length + i = xs.length ∧ fs.length = i ∧ (fs ++ ls).Perm xs) ?_ ?_ ?_
  · exact ⟨xs, [], _, rfl, E2, by rw [upd_ne FL.symm, upd_same], upd_same, rfl, rfl, List.Perm.refl _⟩
  · rintro i σ H' hi ⟨ls, fs, z, rfl, e, hL', hF', c1, c2, c3⟩
    have hp : 0 < ls.length := by omega
    refine ⟨_, rfl, .inl ⟨rfl, fs, SqL.of hF'⟩, _, rfl, .inl ⟨rfl, ls, SqL.of hL'⟩, _, rfl, _, rfl, L, ls, rfl, .inl (SqL.of hL'), a, _, rfl, e _ _ ha, by omega, Sz.mono (n := 10) (by unfold Sz; omega) (by decide), fun r r0 r1 => ?_⟩
    obtain ⟨j, rfl⟩ : ∃ j : Nat, r = (j : Int) := ⟨r.toNat, by omega⟩
    have hj : j < ls.length := by omega
    have sj : seqIndex? (j : Int) ls.length = some j := PySem.StrLaws.seqIndex_nonneg (by omega) (by omega)
    refine ⟨L, ls, j, j, ls[j], rfl, rfl, hL', by omega, by omega, sj, List.getElem?_eq_getElem hj, F, fs, _, rfl, rfl, by rw [upd_ne FL]; exact hF', Nat.lt_of_le_of_lt (show fs.length ≤ 1000 by omega) (by decide), ?_⟩
    refine ⟨ls.eraseIdx j, fs ++ [ls[j]], _, rfl, two_new hF0 (two_new hL e), by rw [upd_ne FL.symm, upd_same], upd_same, ?_, by simp [c2], ?_⟩
    · rw [List.length_eraseIdx, if_pos hj]
      omega
    · rw [List.append_assoc]
      exact (List.Perm.append_left fs (erase_perm hj)).trans c3
  · rintro σ H' ⟨ls, fs, z, rfl, e, hL', hF', c1, c2, c3⟩
    have ez : ls = [] := List.eq_nil_of_length_eq_zero (by omega)
    rw [ez, List.append_nil] at c3
    exact ⟨_, rfl, k F H' fs e hF' c3⟩
theorem ok_lnames (T : Bn mg) (D : DefAt K mg "_law_names_drawn" s_lnames) (F__law_mixed : FnAt P w K mg base 2 "_law_mixed" ["_law_dice_here", "_law_items"] (spLMix K)) : FnAt P w K mg base 3 "_law_names_drawn" ["_law_dice_here", "_law_times"] spLNames := by
  refine fnAt D sc_lnames (fun _ _ _ _ _ _ us hl => match us, hl with | [_, _], _ => rfl) (fun vs H Q E h => ?_) fun f cdv A outer s H vs Q E hr h => ?_
  · obtain ⟨a, n, rfl, _⟩ := h
    rfl
  obtain ⟨a, n, rfl, ha, n1, n2, k⟩ := h
  refine ⟨_, (pss_one (ps_ret (pe_slice sl_list (callA F__law_mixed (hr.mono (by decide)) rfl (pa_cons (pv 0) (pa_cons (pe_lst (pa_cons pe_str (pa_cons pe_str (pa_cons pe_str (pa_cons pe_str (pa_cons pe_str (pa_cons pe_str (pa_cons pe_str (pa_cons pe_str (pa_cons pe_str (pa_cons pe_str pa_nil))))))))))) pa_nil))) po_none (po_some (pv 1))))), ?_⟩
  refine ⟨_, rfl, len_ok (Nat.le_of_ble_eq_true rfl), fun L hL => ?_⟩
  have x1 := ext_new (o := HO.lst (tenN.map V.str)) (ext_refl H) hL
  refine ⟨a, L, tenN.map V.str, rfl, x1 _ _ ha, SqL.of upd_same, by decide, fun p H' ys e hp pm => ?_⟩
  obtain ⟨ws, rfl, pw⟩ := perm_strs pm
  have hw : ws.length = 10 := pw.length_eq
  have cut : cutV (ws.map V.str) none (some (n : Int)) = (ws.take n).map V.str := by
    rw [cut_to (by rw [List.length_map]; omega), List.map_take]
  refine ⟨_, rfl, _, rfl, p, _, rfl, SqL.of hp, fun q hq => ?_⟩
  have x2 := ext_new (o := HO.lst ((ws.take n).map V.str)) (ext_refl H') hq
  rw [cut]
  refine k q _ (ws.take n) ((x1.trans e).trans x2) upd_same (by rw [List.length_take]; omega) ?_ fun z hz => pw.mem_iff.mp (List.mem_of_mem_take hz)
  exact List.nodup_iff_pairwise_ne.mpr ((List.nodup_iff_pairwise_ne.mp (pw.nodup_iff.mpr ten_nd)).sublist (List.take_sublist _ _))
end
end My
/-! dict(zip(texts, xs)); list.remove of a text -/
namespace My
open PySem PySem.Spec PyProof.Rows L2
/-- texts and what they are taken to -/
def zkV (ks : List Str) (ys : List V) : List (Key × V) := (ks.zip ys).map fun p => ((Sum.inr p.1 : Key), p.2)
theorem zkV_len {ks : List Str} {ys : List V} (h : ks.length = ys.length) : (zkV ks ys).length = ks.length := by
  unfold zkV
  rw [List.length_map, List.length_zip, h, Nat.min_self]
theorem zkV_at {ks : List Str} {ys : List V} {i : Nat} {k : Str} {y : V} (hk : ks[i]? = some k) (hy : ys[i]? = some y) : (zkV ks ys)[i]? = some (.inr k, y) := by
  unfold zkV
  rw [List.getElem?_map, List.getElem?_zip_eq_some (z := (k, y)) |>.mpr ⟨hk, hy⟩]
  rfl
section
variable {X : Cx}
def tDictZip (K : PySem.W.Frag) (t : TA) : TE := fun σ H Q => t σ H fun vs H1 => ∃ (a b : Addr) (ks : List Str) (ys : List V), vs = [.ref a, .ref b] ∧ SqL K H1 a (ks.map V.str) ∧ SqL K H1 b ys ∧ ks.length = ys.length ∧ ks.length ≤ 1000 ∧
  ∀ d, H1 d = none → Q (.ref d) (upd H1 d (.dK (mergeK [] (zkV ks ys))))
theorem pe_dictZip {e e2 : Expr} {ta : TA} {p p2 q pos : Pos} (hc : X.calm = true) (hg : Gl X "dict") (hm : X.mg "dict" = none) (hg2 : Gl X "zip") (hm2 : X.mg "zip" = none) (ha : PA X [e, e2] ta)
    (hs : starEach [e, e2] X.env = (false, eval e X.env) :: starEach [e2] X.env := by rfl) (hpl : (backTo q (starEach [e2] X.env)).any (·.1) = false := by rfl)
    (hse : starEach [Expr.Call (.Name "zip" p2) [e, e2] [] q] X.env = [(false, eval (Expr.Call (.Name "zip" p2) [e, e2] [] q) X.env)] := by rfl) :
    PE X (.Call (.Name "dict" p) [.Call (.Name "zip" p2) [e, e2] [] q] [] pos) (tDictZip X.K ta) := by
  refine ⟨fun pins s σ H Q I h => ?_⟩
  refine Call_ (ld_blt I hg hm boot_dict (PyProof.Rows.callWith_type1 (args_cons ?_ hse) hse))
  refine Call_ (ld_blt I hg2 hm2 PyProof.Rows.boot_zip (PyProof.Rows.callWith_type1 (thn (ha.run q pins s σ H _ I h) fun us s1 ⟨vs, H1, I1, r1, q1⟩ => ?_) hs hpl))
  obtain ⟨a, b, ks, ys, ex, hqx, hqy, hl, h1000, k⟩ := q1
  subst ex
  cases r1 with
  | cons r rr =>
    cases rr with
    | cons r' rr =>
      cases rr
      cases r
      cases r'
      obtain ⟨its, rv, p1, _⟩ := I1.list hqx
      obtain ⟨its2, rv2, p2, _⟩ := I1.list hqy
      have la : a < s1.heap.objs.size := p1.lt
      have lb : b < s1.heap.objs.size := p2.lt
      have l1 : its.length = ks.length := by rw [← rv.length, List.length_map]
      have l2 : its2.length = ks.length := by rw [← rv2.length, hl]
      refine call_zip_2 p1.isList p2.isList fun h' hz hTI hTO h1 h2 hsz hk => ?_
      refine args_nil ?_
      have I2 : Inv X pins σ H1 { s1 with heap := h' } := I1.kept (t' := s1.toks) hk
      -- the pairs as the machine has them
      let prs : List (Key × Value) := (ks.zip its2).map fun p => (Sum.inr p.1, p.2)
      have lp : prs.length = ks.length := by
        show ((ks.zip its2).map _).length = _
        rw [List.length_map, List.length_zip, l2, Nat.min_self]
      have rel : KV (zkV ks ys) prs := by
        unfold zkV
        show KV _ ((ks.zip its2).map _)
        clear lp
        have go : ∀ (ks : List Str) (ys : List V) (us : List Value), Vals ys us → KV ((ks.zip ys).map fun p => ((Sum.inr p.1 : Key), p.2)) ((ks.zip us).map fun p => ((Sum.inr p.1 : Key), p.2)) := by
          intro ks
          induction ks with
          | nil => intro ys us _; exact .nil
          | cons k r ih =>
            intro ys us rv
            cases rv with
            | nil => exact .nil
            | cons a t => exact .cons ⟨rfl, a⟩ (ih _ _ t)
        exact go ks ys its2 rv2
      refine PySem.call_dict_pairs (knd := mixKind X.prog X.w) (kvs := prs) (PySem.PairArg.zip (s1.heap.objs.size + 4) (s1.heap.objs.size + 2) (s1.heap.objs.size + 3) s1.heap.objs.size (s1.heap.objs.size + 1) a b (PySem.W.ktu_apart s1.heap.objs.size a b la lb) its.toArray its2.toArray) (I.ok.hd hc)
        ⟨hz, hTI, ⟨_, _, hTO⟩, h1, h2, p1.isList.at fun o e => hk _ o e, p2.isList.at fun o e => hk _ o e⟩ ⟨?_, fun i key v hr => ?_⟩ ?_ fun h2' tk hd' hk2 => ?_
      · rw [lp, List.size_toArray, List.size_toArray, l1, l2, Nat.min_self]
      · obtain ⟨g1, g2⟩ := hr
        rw [List.getElem?_toArray] at g1 g2
        have hi : i < ks.length := by
          have := (List.getElem?_eq_some_iff.mp g1).1
          omega
        have gk : ks[i]? = some ks[i] := List.getElem?_eq_getElem hi
        obtain ⟨u, hu, ru⟩ := rv.get (i := i) (x := .str ks[i]) (by rw [List.getElem?_map, gk]; rfl)
        rw [g1] at hu
        cases hu
        refine ⟨.inr ks[i], ?_, kV_is (k := .inr ks[i]) ru⟩
        show ((ks.zip its2).map _)[i]? = _
        rw [List.getElem?_map, List.getElem?_zip_eq_some (z := (ks[i], v)) |>.mpr ⟨gk, g2⟩]
        rfl
      · rw [List.size_toArray, List.size_toArray, l1, l2, Nat.min_self]
        exact Nat.le_trans h1000 (by decide)
      · have hm : (h'.objs.size == sysModules) = false := beq_eq_false_iff_ne.mpr (Nat.ne_of_gt I2.big)
        have hlen : (mergeK [] (zkV ks ys)).length ≤ sizeLine := by
          refine Nat.le_trans (length_mergeK _ []) ?_
          rw [List.length_nil, Nat.zero_add, zkV_len hl]
          exact Nat.le_trans h1000 (by decide)
        have keep : ∀ c o, s1.heap.get? c = some o → h2'.get? c = some o := fun c o e => by
          refine hk2 c o (fun hw => ?_) (hk c o e)
          have lt := Heap.lt_size e
          simp only [List.mem_cons, List.not_mem_nil, or_false] at hw
          refine absurd lt (Nat.not_lt.mpr ?_)
          rcases hw with e | e | e | e <;> rw [e] <;> first | exact Nat.le_refl _ | exact Nat.le_add_right _ _
        exact ⟨.ref h'.objs.size, upd H1 h'.objs.size (.dK (mergeK [] (zkV ks ys))), I1.laid (t' := tk) keep (by omega) (show ObjOk X.prog X.w _ _ _ (.dK _) from ⟨hlen, hm, merged [] prs, KV.merge rel .nil, hd'⟩), rfl, k _ (I2.hok.fresh (Nat.le_refl _))⟩
end
end My
/-! list.remove of a text -/
namespace My
open PySem PySem.Spec PyProof.Rows L2
def eqs (k : Str) (v : Value) : Bool := match v with
  | .str n _ => n.cps.toList == k.cps.toList
  | _ => false
theorem eqs_gives {k : Str} {t : Tok} : ∀ {us : List Value} {ns : List Str}, StrsAre us ns → ∀ y ∈ us, MeetsSeq.EqGives y (.str k t) (eqs k y)
  | _, _, .nil => fun y hy => by cases hy
  | _, _, .cons n t' h => fun y hy => by
    rcases List.mem_cons.mp hy with e | e
    · rw [e]
      exact PySem.SeqRoads2.EqGives.str n k t' t
    · exact eqs_gives h y e
theorem erase_mapS : ∀ (l : List Str) (j : Nat), (l.map V.str).eraseIdx j = (l.eraseIdx j).map V.str
  | [], j => by simp
  | a :: r, 0 => by simp
  | a :: r, j + 1 => by
    have ih := erase_mapS r j
    simp [ih]
section
variable {X : Cx}
def rRemS : V → List V → Hp → VK → Prop := fun x xs H Q => ∃ (l : Addr) (ns : List Str) (k : Str) (j : Nat), x = .ref l ∧ xs = [.str k] ∧ H l = some (.lst (ns.map V.str)) ∧ ns[j]? = some k ∧ (∀ m : Nat, m < j → ns[m]? ≠ some k) ∧ Q .non (upd H l (.lst ((ns.eraseIdx j).map V.str)))
theorem mt_removeS : MtM X "list.remove" rRemS := by
  intro pins s σ H x xs v us Q I rx rxs h
  obtain ⟨l, ns, k, j, rfl, rfl, hH, hj, hno, q⟩ := h
  cases rx
  obtain ⟨u, rfl, ru⟩ := rxs.one
  obtain ⟨t, rfl⟩ := ru
  obtain ⟨z, its, n, r, hl, e⟩ := I.lstM hH
  have hi := r.strs
  rw [List.length_map] at hl z
  have hjn : j < ns.length := (List.getElem?_eq_some_iff.mp hj).1
  have hjl : j < its.toArray.size := by rw [List.size_toArray]; omega
  have at' : ∀ (m : Nat) (hm : m < its.toArray.size), ∃ y t', ns[m]? = some y ∧ its.toArray[m] = Value.str y t' := fun m hm => by
    have hm' : m < ns.length := by rw [List.size_toArray] at hm; omega
    obtain ⟨w, hw, t', hw'⟩ := r.get (i := m) (x := .str ns[m]) (by simp [hm'])
    refine ⟨ns[m], t', List.getElem?_eq_getElem hm', ?_⟩
    have e := (List.getElem?_eq_some_iff.mp hw).2
    rw [← hw', ← e]
    simp
  refine call_meets PySem.F.slot_list_remove ⟨_, e, rfl⟩ PySem.F.entry_list_remove (PySem.F.args_list_remove_2 _ _)
    (MeetsSeq.list_remove l its.toArray n (.str k t) (eqs k) (fun y hy => eqs_gives hi y (by simpa using hy)) j hjl ?_ ?_ (by rw [List.size_toArray]; omega)) ⟨e, ?_⟩
  · obtain ⟨y, t', h1, h2⟩ := at' j hjl
    rw [hj] at h1
    cases h1
    rw [h2]
    exact beq_self_eq_true k.cps.toList
  · intro m hm hmj
    obtain ⟨y, t', h1, h2⟩ := at' m hm
    rw [h2]
    refine beq_eq_false_iff_ne.mpr fun e2 => hno m hmj ?_
    obtain ⟨⟨y⟩⟩ := y
    obtain ⟨⟨k⟩⟩ := k
    simp at e2
    rw [h1, e2]
  · have rr := r.eraseIdx j
    rw [erase_mapS] at rr
    refine ⟨.non, _, I.lset (its' := its.eraseIdx j) (t' := s.toks) hH e ?_ rr ?_, rfl, q⟩
    · show its.toArray.eraseIdxIfInBounds j = (its.eraseIdx j).toArray
      rw [List.eraseIdxIfInBounds_toArray]
    · rw [List.length_map, List.length_eraseIdx]
      split <;> omega
end
end My
/-! tuples whose object is told to have no dict: t.index(x) -/
namespace My
open PySem PySem.Spec PyProof.Rows L2
/-- the tuple at a has no dict -/
def NoD (K : PySem.W.Frag) (H : Hp) (a : Addr) : Prop := (∃ o u, H a = some (.frz o u) ∧ o.dict = none) ∨ ∃ o, K.lookup a = some o ∧ o.dict = none
theorem NoD.ext {K : PySem.W.Frag} {H H' : Hp} {a : Addr} (h : NoD K H a) (e : Ext H H') : NoD K H' a := h.elim (fun ⟨o, u, q, d⟩ => .inl ⟨o, u, e _ _ q, d⟩) .inr
/-- a tuple that is made: its object -/
def NewT (p : Addr) (xs : List V) (H : Hp) (Q : VK) : Prop := ∀ ob : Obj, H p = none → ob.dict = none → Q (.ref p) (upd H p (.frz ob (.tup xs)))
theorem newT_use {K : PySem.W.Frag} {H : Hp} {xs : List V} {Q : VK} (k : ∀ p H', Ext H H' → SqT K H' p xs → NoD K H' p → Q (.ref p) H') : ∀ p, NewT p xs H Q := fun p ob hp hd =>
  k p _ (ext_new (ext_refl H) hp) (.inl (.inr ⟨ob, upd_same⟩)) (.inl ⟨ob, _, upd_same, hd⟩)
section
variable {X : Cx} {pins : List (Addr × Obj)} {σ : L2.St} {H : Hp} {s : Shared}
theorem tup_is {p : Addr} {xs : List V} (I : Inv X pins σ H s) (hx : SqT X.K H p xs) (nd : NoD X.K H p) : s.TypeIs (.ref p) "tuple" ∧ ∀ a, Value.ref p = .ref a → ∃ ob, s.heap.get? a = some ob ∧ ob.dict = none := by
  obtain ⟨its, r, pl, hz⟩ := I.tuple hx
  refine ⟨pl.typeIs, fun a e => ?_⟩
  cases e
  rcases nd with ⟨o, u, e, d⟩ | ⟨o, e, d⟩
  · exact ⟨o, (show X.prog = X.prog ∧ s.heap.get? p = some o from ⟨rfl, (I.hok p _ e).1⟩).2, d⟩
  · exact ⟨o, I.kIn p o e, d⟩
theorem laidT {its : List Value} {xs : List V} {h' : Heap} (I : Inv X pins σ H { s with heap := h' }) (r : Vals xs its) (hz : xs.length ≤ sizeLine) :
    Inv X pins σ (upd H h'.objs.size (.frz { cls := .type "tuple", data := .seq its.toArray } (.tup xs))) { s with heap := h'.push { cls := .type "tuple", data := .seq its.toArray } } :=
  I.laid (t' := s.toks) (fun b o e => Heap.get?_push_of_some _ e) (Nat.le_refl _) ⟨Heap.get?_push_size _ rfl, hz, its, r, IsTup.new _ _⟩
end
section
variable {X : Cx} {es : List Expr} {t : TA} {pos : Pos}
def tTupF (t : TA) : TE := fun σ H Q => t σ H fun xs H1 => xs.length ≤ sizeLine ∧ ∀ p, NewT p xs H1 Q
theorem pe_tupF {x1} (h : PA X es t) : PE X (.Tuple es x1 pos) (tTupF t) := by
  refine ⟨fun pins s σ H Q I hq => ?_⟩
  refine wpAny_Tuple_spliced (thn (h.run pos pins s σ H _ I hq) fun us s1 ⟨xs, H1, I1, r, z, q⟩ => ⟨by rw [← r.length]; exact z, ?_⟩)
  exact ⟨.ref s1.heap.objs.size, _, laidT I1 r z, rfl, q _ _ (I1.hok.fresh (Nat.le_refl _)) rfl⟩
/-- tuple(x) -/
theorem call_tupleF : CallR X (.type "tuple") (fun xs H Q => ∃ p ys, xs = [.ref p] ∧ ((SqL X.K H p ys ∧ ∀ l, NewT l ys H Q) ∨ (SqT X.K H p ys ∧ Q (.ref p) H))) := by
  intro pins s σ H xs us Q I r h
  obtain ⟨p, ys, rfl, h⟩ := h
  obtain ⟨u, rfl, rx⟩ := vals1 r
  cases rx
  rcases h with ⟨hq, q⟩ | ⟨hq, q⟩
  · obtain ⟨its, r', pl, hz⟩ := I.list hq
    have hlen := r'.length
    refine call_tuple_list pl.isList (fun h' kp => ?_) (by simp only [List.size_toArray] <;> omega)
    have I1 : Inv X pins σ H { s with heap := h' } := I.kept (t' := s.toks) kp
    exact ⟨.ref h'.objs.size, _, laidT I1 r' hz, rfl, q _ _ (I1.hok.fresh (Nat.le_refl _)) rfl⟩
  · obtain ⟨its, r', pl, hz⟩ := I.tuple hq
    exact call_tuple_same pl ⟨.ref p, H, I, rfl, q⟩
/-- t[lo:hi] -/
def rSlF (K : PySem.W.Frag) : V → Option Int → Option Int → Hp → VK → Prop := fun x lo hi H Q => ∃ a xs, x = .ref a ∧ SqT K H a xs ∧
  ((HT.sIx xs.length 0 lo = 0 ∧ HT.sIx xs.length xs.length hi = xs.length) → Q (.ref a) H) ∧ (¬ (HT.sIx xs.length 0 lo = 0 ∧ HT.sIx xs.length xs.length hi = xs.length) → ∀ p, NewT p (cutV xs lo hi) H Q)
end
section
variable {X : Cx} {o e : Expr} {es : List Expr} {to : TE} {t : TA} {name : Str} {apos cpos : Pos} {id : String} {r : V → List V → Hp → VK → Prop}
/-- t.m(..) of such a tuple -/
def tBMT (K : PySem.W.Frag) (r : V → List V → Hp → VK → Prop) (to : TE) (t : TA) : TE := fun σ H Q => to σ H fun x H1 => (∃ p xs, x = .ref p ∧ SqT K H1 p xs ∧ NoD K H1 p) ∧ t σ H1 fun xs H2 => r x xs H2 Q
theorem pe_bmT (pa : PlainAttrs "tuple") (slot : Slot "tuple" name id) (hty : typeOf (.builtin id) = pure (.type "method_descriptor")) (hm : MtR X id r) (ho : PE X o to) (ha : PA X (e :: es) t)
    (hbase : attributeBase o name X.env (eval o X.env) = eval o X.env := by rfl)
    (hfew : ((backTo cpos (starEach (e :: es) X.env)).all (fun x => !x.1) && (backToKw cpos (keywordEach [] X.env)).all (fun x => x.1.isSome)
      && decide ((e :: es).length + ([] : List Keyword).length + (if ([] : List Keyword).isEmpty then 0 else 1) < 30)) = true := by rfl)
    (hline : (apos.endLine == cpos.line) = true := by rfl) (hs : starEach (e :: es) X.env = (false, eval e X.env) :: starEach es X.env := by rfl) (hplain : (backTo cpos (starEach es X.env)).any (·.1) = false := by rfl) :
    PE X (.Call (.Attribute o name apos) (e :: es) [] cpos) (tBMT X.K r to t) := by
  refine ⟨fun pins s σ H Q I h => ?_⟩
  refine wpAny_Call_method_late hbase hfew hline rfl (thn (ho.run pins s σ H _ I h) fun v s1 ⟨x, H1, I1, r1, ⟨p, xs, ex, hx, nd⟩, q1⟩ => ?_)
  subst ex
  cases r1
  obtain ⟨h1, h2⟩ := tup_is I1 hx nd
  refine ⟨"tuple", id, pa, slot, hty, h1, h2, ?_⟩
  have hA := ha.run cpos pins s1 σ H1 _ I1 q1
  rw [hs] at hA ⊢
  refine Calls.callWith_builtin (by show (false || (backTo cpos (starEach es X.env)).any (·.1)) = false; rw [hplain] <;> rfl) (Calls.evalArgs_plain ?_)
  exact thn hA fun us s2 ⟨vs, H2, I2, r2, q2⟩ => hm pins s2 σ H2 (.ref p) vs _ us Q I2 rfl r2 q2
/-- t.index(x): flat things, the first place -/
def rIdxT (K : PySem.W.Frag) : V → List V → Hp → VK → Prop := fun x vs H Q => ∃ p xs z j y, x = .ref p ∧ vs = [z] ∧ SqT K H p xs ∧ xs.all flatV = true ∧ flatV z = true ∧ xs[j]? = some y ∧ eqV y z = true ∧ (∀ m v, m < j → xs[m]? = some v → eqV v z = false) ∧ Q (.int (j : Nat)) H
theorem mt_tup_indexF : MtR X "tuple.index" (rIdxT X.K) := by
  intro pins s σ H x xs v us Q I rx rs h
  obtain ⟨p, ys, z, j, y, rfl, rfl, hq, fl, fz, hy, eq, hno, q⟩ := h
  cases rx
  obtain ⟨u, rfl, ru⟩ := vals1 rs
  obtain ⟨its, r, pl, hz⟩ := I.tuple hq
  obtain ⟨⟨cls, dd, dt, sl⟩, ho, hc, n, hd⟩ := pl
  simp only at hc hd
  subst hc
  subst hd
  have hl : its.toArray.size = ys.length := by rw [List.size_toArray, ← r.length]
  have hj : j < its.toArray.size := by rw [hl]; exact (List.getElem?_eq_some_iff.mp hy).1
  have at' : ∀ (m : Nat) (hm : m < its.toArray.size) (v : V), ys[m]? = some v → eqU z its.toArray[m] = eqV v z := fun m hm v hv => by
    obtain ⟨w, hw, rw'⟩ := r.get (i := m) (x := v) hv
    have e := (List.getElem?_eq_some_iff.mp hw).2
    have e2 : its.toArray[m] = w := by rw [← e]; simp
    rw [e2]
    exact eqU_of rw' (List.all_eq_true.mp fl v (List.mem_of_getElem? hv))
  refine call_meets PySem.F.slot_tuple_index ⟨_, ho, rfl⟩ PySem.F.entry_tuple_index (PySem.F.args_tuple_index_2 _ _) (TI.tuple_indexAt p its.toArray n dd sl u (eqU z) j hj ?_ ?_)
    ⟨ho, fun w hw => mem_eqAt ru fz r fl w (by simpa using hw), ⟨.int (j : Nat), H, I.tok _, ⟨_, rfl⟩, q⟩⟩
  · rw [at' j hj y hy, eq]
  · intro m hm hmj
    have hm' : m < ys.length := by rw [← hl]; exact hm
    rw [at' m hm _ (List.getElem?_eq_getElem hm')]
    exact hno m _ hmj (List.getElem?_eq_getElem hm')
end
end My
/-! the place of a text in a row; list.index, tuple.index of a text that is there -/
namespace My
open PySem PySem.Spec PyProof.Rows L2
theorem pos_lt {l : List Str} {x : Str} (h : x ∈ l) : pos l x < l.length := List.findIdx_lt_length_of_exists ⟨x, h, decide_eq_true rfl⟩
theorem pos_get {l : List Str} {x : Str} (h : x ∈ l) : l[pos l x]? = some x := by
  have hl := pos_lt h
  rw [List.getElem?_eq_getElem hl]
  have z : decide (l[pos l x] = x) = true := List.findIdx_getElem (w := hl) (p := fun z => decide (z = x))
  rw [of_decide_eq_true z]
theorem pos_no {l : List Str} {x z : Str} {m : Nat} (h : m < pos l x) (e : l[m]? = some z) : z ≠ x := fun q => by
  obtain ⟨hl, e2⟩ := List.getElem?_eq_some_iff.mp e
  have n := List.not_of_lt_findIdx (p := fun z => decide (z = x)) h
  rw [e2, q] at n
  simp at n
/-- list.index of a text that is there -/
theorem idx_use {K : PySem.W.Frag} {H : Hp} {b : Addr} {l : List Str} {x : Str} {Q : VK} (hb : SqL K H b (l.map V.str)) (m : x ∈ l) (q : Q (.int (pos l x : Nat)) H) : rIndex K (.ref b) [.str x] H Q := by
  refine ⟨b, _, _, pos l x, .str x, rfl, rfl, hb, rfl, ?_, ?_, ?_, fun n z' hn hz => ?_, q⟩
  · rw [List.all_map]
    exact List.all_eq_true.mpr fun _ _ => rfl
  · rw [List.getElem?_map, pos_get m]
    rfl
  · show (x == x) = true
    exact beq_self_eq_true x
  · rw [List.getElem?_map] at hz
    obtain ⟨z, e, rfl⟩ := Option.map_eq_some_iff.mp hz
    show (z == x) = false
    exact beq_eq_false_iff_ne.mpr (pos_no hn e)
theorem idxT_use {K : PySem.W.Frag} {H : Hp} {b : Addr} {l : List Str} {x : Str} {Q : VK} (hb : SqT K H b (l.map V.str)) (m : x ∈ l) (q : Q (.int (pos l x : Nat)) H) : rIdxT K (.ref b) [.str x] H Q := by
  refine ⟨b, _, _, pos l x, .str x, rfl, rfl, hb, ?_, rfl, ?_, ?_, fun n z' hn hz => ?_, q⟩
  · rw [List.all_map]
    exact List.all_eq_true.mpr fun _ _ => rfl
  · rw [List.getElem?_map, pos_get m]
    rfl
  · show (x == x) = true
    exact beq_self_eq_true x
  · rw [List.getElem?_map] at hz
    obtain ⟨z, e, rfl⟩ := Option.map_eq_some_iff.mp hz
    show (z == x) = false
    exact beq_eq_false_iff_ne.mpr (pos_no hn e)
theorem cut_strs {zs : List Str} {b e : Nat} (h : b < e) (h2 : e ≤ zs.length) : cutV (zs.map V.str) (some ((b : Nat) : Int)) (some ((e : Nat) : Int)) = ((zs.take e).drop b).map V.str := by
  unfold cutV
  rw [HT.sIx_nat, HT.sIx_nat, List.length_map, Nat.min_eq_left (show b ≤ zs.length by omega), Nat.min_eq_left (show e ≤ zs.length from h2), ← List.map_drop, ← List.map_take, List.drop_take]
end My
namespace My
open PySem PySem.Spec PyProof.Rows L2
local macro_rules | `(tactic| walk_at "side") => `(tactic| first | assumption | decide | exact Or.inl ⟨by decide, by decide⟩ | exact Or.inr ⟨by decide, by decide⟩ | exact ⟨by decide, by decide, by decide⟩ | omega | (unfold CMulW; decide +kernel) | (dsimp only; first | assumption | omega | decide +kernel) | exact len_ok (Nat.le_of_ble_eq_true rfl) | fail "side")
local macro_rules | `(tactic| walk_at "rd") => `(tactic| first
  | refine ⟨_, _, _, _, rfl, rfl, SqL.of upd_same, atI_nat (j := 0) rfl, ?_⟩ | refine ⟨_, _, _, _, rfl, rfl, SqL.of upd_same, atI_nat (j := 1) rfl, ?_⟩ | refine ⟨_, _, _, _, rfl, rfl, SqL.of upd_same, atI_nat (j := 2) rfl, ?_⟩
  | refine ⟨_, _, _, _, rfl, rfl, upd_same, rfl, ?_⟩
  | refine ⟨_, _, rfl, rfl, ?_⟩ | refine ⟨_, rfl, ?_⟩ | refine ⟨_, _, rfl, ?_⟩ | refine Or.inl ⟨_, rfl, ?_⟩ | refine Or.inr ⟨_, rfl, ?_⟩ | refine ⟨(by walk_at "side"), ?_⟩ | fail "rd")

abbrev s_lany : Stmt := top 22
theorem sc_lany : FnScope ["_law_dice_here", "_law_most", "_law_upper", "_law_lower", "_law_at", "_law_is_cut", "_law_turn", "_law_size"] ["_law_dice_here", "_law_most"] (defScope s_lany) := ⟨rfl, rfl, rfl, by decide +kernel, rfl, by decide +kernel, by decide +kernel⟩
def spLAny : Sp := fun vs H Q _ => ∃ (a : Addr) (n : Nat), vs = [.ref a, .int (n : Nat)] ∧ H a = some (DiceO a) ∧ 1 ≤ n ∧ n ≤ 8 ∧
  ∀ t U L H' zs ys, Ext H H' → H' t = some (.tup [.ref U, .ref L]) → H' U = some (.lst (zs.map V.str)) → H' L = some (.lst (ys.map V.str)) → RowsOk zs ys → zs.length ≤ 8 → (∀ z ∈ zs, z ∈ tenN) → Q (.ref t) H'
section
variable {P : Program} {w : World} {K : PySem.W.Frag} {mg : Str → Option Value} {base : Heap}
theorem ok_lany (T : Bn mg) (D : DefAt K mg "_law_any_rows" s_lany) (F__law_roll : FnAt P w K mg base 1 "_law_roll" ["_law_dice_here", "_law_total"] spRoll) (F__law_mixed : FnAt P w K mg base 2 "_law_mixed" ["_law_dice_here", "_law_items"] (spLMix K)) (F__law_names_drawn : FnAt P w K mg base 3 "_law_names_drawn" ["_law_dice_here", "_law_times"] spLNames) : FnAt P w K mg base 4 "_law_any_rows" ["_law_dice_here", "_law_most"] spLAny := by
  refine fnAt D sc_lany (fun _ _ _ _ _ _ us hl => match us, hl with | [_, _], _ => rfl) (fun vs H Q E h => ?_) fun f cdv A outer s H vs Q E hr h => ?_
  · obtain ⟨a, n, rfl, _⟩ := h
    rfl
  obtain ⟨a, n, rfl, ha, h1, h8, k⟩ := h
  refine ⟨_, (pss_cons (ps_set (i := 2) sc_lany.nd rfl (Or.inl rfl) (callA F__law_names_drawn (hr.mono (by decide)) rfl (pa_cons (pv 0) (pa_cons (pe_op op_add pe_int (callA F__law_roll (hr.mono (by decide)) rfl (pa_cons (pv 0) (pa_cons (pv 1) pa_nil)))) pa_nil))))
    (pss_cons (ps_par (i := 3) (j := 4) rfl sc_lany.nd rfl rfl (by decide) rfl rfl (pa_cons (pe_lst pa_nil) (pa_cons pe_int pa_nil)) (by rfl))
    (pss_cons (ps_set (i := 5) sc_lany.nd rfl (Or.inl rfl) (pe_cmpR op_gt (callA F__law_roll (hr.mono (by decide)) rfl (pa_cons (pv 0) (pa_cons pe_int pa_nil))) pe_int (nomark _)))
    (Evl.pss_cut (ps_for PassesOwn.never rfl (pi_range1 (by rfl) T.b_range (pa_cons (pe_callB call_len_seq (by rfl) T.b_len (by decide +kernel) (pa_cons (pv 2) pa_nil)) pa_nil)) (pg_name (i := 6) sc_lany.nd rfl (Or.inl rfl))
      (pss_cons (ps_if (pt_cmpR op_eq (pv 4) (pe_callB call_len_seq (by rfl) T.b_len (by decide +kernel) (pa_cons (pv 2) pa_nil)) (nomark _)) (pss_one ps_break) pss_nil)
    (pss_cons (ps_set (i := 7) sc_lany.nd rfl (Or.inl rfl) (pe_ifExp (pt_val (pv 5)) (pe_op op_add pe_int (callA F__law_roll (hr.mono (by decide)) rfl (pa_cons (pv 0) (pa_cons (pe_op op_sub (pe_callB call_len_seq (by rfl) T.b_len (by decide +kernel) (pa_cons (pv 2) pa_nil)) (pv 4)) pa_nil)))) (pe_callB call_len_seq (by rfl) T.b_len (by decide +kernel) (pa_cons (pv 2) pa_nil))))
    (pss_cons (ps_set (i := 3) sc_lany.nd rfl (Or.inl rfl) (pe_op op_cat (pv 3) (callA F__law_mixed (hr.mono (by decide)) rfl (pa_cons (pv 0) (pa_cons (pe_slice sl_list (pv 2) (po_some (pv 4)) (po_some (pe_op op_add (pv 4) (pv 7)))) pa_nil)))))
    (pss_one (ps_set (i := 4) sc_lany.nd rfl (Or.inl rfl) (pe_op op_add (pv 4) (pv 7))))))))
    (Evl.pss_cut (ps_if (PW.pt (pw_and (pt_cmpR op_eq (callA F__law_roll (hr.mono (by decide)) rfl (pa_cons (pv 0) (pa_cons pe_int pa_nil))) pe_int (nomark _)) (pw_and1 (pt_cmpR op_gt (pe_callB call_len_seq (by rfl) T.b_len (by decide +kernel) (pa_cons (pv 2) pa_nil)) pe_int (nomark _))))) (pss_cons (ps_set (i := 4) sc_lany.nd rfl (Or.inl rfl) (callA F__law_roll (hr.mono (by decide)) rfl (pa_cons (pv 0) (pa_cons (pe_op op_sub (pe_callB call_len_seq (by rfl) T.b_len (by decide +kernel) (pa_cons (pv 2) pa_nil)) pe_int) pa_nil))))
    (pss_cons (ps_expr (pe_bm PySem.F.plainAttrs_list PySem.F.slot_list_remove PySem.F.type_list_remove mt_removeS (pv 3) (pa_cons (pe_ix ix_list (pv 2) (pe_op op_add (pv 4) pe_int) (fun _ _ => rfl)) pa_nil)))
    (pss_one (ps_expr (pe_bm PySem.F.plainAttrs_list PySem.F.slot_list_insert PySem.F.type_list_insert mt_insert (pv 3) (pa_cons (pe_op op_add (pe_bm PySem.F.plainAttrs_list PySem.F.slot_list_index PySem.F.type_list_index mt_index (pv 3) (pa_cons (pe_ix ix_list (pv 2) (pv 4) (fun _ _ => rfl)) pa_nil)) pe_int) (pa_cons (pe_ix ix_list (pv 2) (pe_op op_add (pv 4) pe_int) (fun _ _ => rfl)) pa_nil))))))) pss_nil)
    (pss_one (ps_ret (pe_tup (pa_cons (pv 2) (pa_cons (pv 3) pa_nil)))))))))), ?_⟩
  refine ⟨_, rfl, _, rfl, _, rfl, a, (n : Nat), rfl, ha, by omega, Sz.mono (n := 10) (by unfold Sz; omega) (by decide), fun r r0 r1 => ?_⟩
  obtain ⟨m, rfl⟩ := Int.eq_ofNat_of_zero_le r0
  refine ⟨_, _, rfl, rfl, a, m + 1, by show [V.ref a, V.int (1 + ((m : Nat) : Int))] = _; rw [Int.add_comm]; rfl, ha, by omega, by omega, fun U H1 zs e1 hU lu nd nm => ?_⟩
  have lz : zs.length = m + 1 := lu
  have lz8 : zs.length ≤ 8 := by omega
  refine ⟨len_ok (Nat.le_of_ble_eq_true rfl), fun L hL => ⟨_, _, rfl, ?_⟩⟩
  have x1 := ext_new (o := HO.lst []) (ext_refl H1) hL
  have e2 := e1.trans x1
  have hU2 := x1 _ _ hU
  have nLU : L ≠ U := fun z => by rw [z, hU] at hL; cases hL
  have nL : H L = none := ext_none e1 hL
  have hL2 : upd H1 L (.lst []) L = some (.lst (([] : List Str).map V.str)) := upd_same
  generalize upd H1 L (.lst []) = H2 at e2 hU2 hL2 ⊢
  refine ⟨_, rfl, a, 3, rfl, e2 _ _ ha, by decide, by unfold Sz; decide, fun r r0 r1 => ⟨_, _, rfl, rfl, ?_⟩⟩
  clear x1 hL r0 r1
  refine ⟨fun σ' H' => ∃ (L' : Addr) (ys : List Str) (u v w : Option V), σ' = [some (.ref a), some (.int (n : Nat)), some (.ref U), some (.ref L'), w, some (.bl (decide ((0 : Int) < r))), u, v] ∧ L' ≠ U ∧ H L' = none ∧ Ext H H' ∧ H' U = some (.lst (zs.map V.str)) ∧ H' L' = some (.lst (ys.map V.str)) ∧ ys.Perm zs, ?_, ?_⟩
  · refine ⟨_, rfl, U, _, rfl, .inl (SqL.of hU2), _, rfl, by omega, by rw [List.length_map]; omega, ?_⟩
    rw [List.length_map, Int.toNat_natCast]
    refine for_range (lo := 0) (fun i σ' H' => ∃ (L' : Addr) (ys : List Str) (at' : Nat) (u v : Option V), σ' = [some (.ref a), some (.int (n : Nat)), some (.ref U), some (.ref L'), some (.int (at' : Nat)), some (.bl (decide ((0 : Int) < r))), u, v] ∧ L' ≠ U ∧ H L' = none ∧ Ext H H' ∧ H' U = some (.lst (zs.map V.str)) ∧ H' L' = some (.lst (ys.map V.str)) ∧ ys.Perm (zs.take at') ∧ at' ≤ zs.length ∧ i ≤ at' ∧ (decide ((0 : Int) < r) = false → at' = 0 ∨ at' = zs.length)) ?_ ?_ ?_
    · exact ⟨L, [], 0, _, _, rfl, nLU, nL, e2, hU2, hL2, by rw [List.take_zero], Nat.zero_le _, Nat.le_refl _, fun _ => .inl rfl⟩
    · rintro i σ' H' hi ⟨L', ys, at', u, v, rfl, p1, p2, e3, h1, h2, pm, p3, p4, p5⟩
      refine ⟨_, rfl, _, rfl, U, _, rfl, .inl (SqL.of h1), rfl, _, rfl, ?_⟩
      have ec : decide (V.int ((at' : Nat) : Int) = V.int (((zs.map V.str).length : Nat) : Int)) = decide (at' = zs.length) := by
        rw [dec_int, List.length_map, Bool.eq_iff_iff, beq_iff_eq, decide_eq_true_iff]
        omega
      rw [ec]
      refine ite2 (fun c => ?_) (fun c => ?_)
      · have c' := of_decide_eq_true c
        rw [c', List.take_length] at pm
        exact ⟨L', ys, _, _, _, rfl, p1, p2, e3, h1, h2, pm⟩
      have c' : ¬ at' = zs.length := fun z => c (decide_eq_true z)
      by_cases hc : decide ((0 : Int) < r) = true
      · refine ⟨_, rfl, _, rfl, ?_⟩
        dsimp only
        rw [if_pos hc]
        refine ⟨_, rfl, _, rfl, U, _, rfl, .inl (SqL.of h1), _, rfl, _, _, rfl, rfl, a, _, rfl, e3 _ _ ha, by rw [List.length_map]; omega, Sz.mono (n := 10) (by unfold Sz; rw [List.length_map]; omega) (by decide), fun r2 r20 r21 => ?_⟩
        rw [List.length_map] at r21
        obtain ⟨q, rfl⟩ := Int.eq_ofNat_of_zero_le r20
        have cn : (1 : Int) + ((q : Nat) : Int) = ((q + 1 : Nat) : Int) := by omega
        refine ⟨_, _, rfl, rfl, ?_⟩
        dsimp only
        rw [cn]
        have s1 : at' + (q + 1) ≤ zs.length := by omega
        have s2 : decide ((0 : Int) < r) = false → at' + (q + 1) = zs.length := fun z => by rw [z] at hc; cases hc
        generalize hq : q + 1 = sz at s1 s2
        have s3 : 1 ≤ sz := by omega
        refine ⟨_, rfl, _, rfl, _, rfl, _, rfl, _, rfl, _, rfl, _, rfl, _, _, rfl, rfl, _, rfl, U, _, rfl, SqL.of h1, fun S hS => ?_⟩
        have cn2 : ((at' : Nat) : Int) + ((sz : Nat) : Int) = ((at' + sz : Nat) : Int) := by omega
        dsimp only [tNil]
        rw [cn2, cut_strs (by omega) s1]
        have x4 := ext_new (o := HO.lst (((zs.take (at' + sz)).drop at').map V.str)) (ext_refl H') hS
        have l4 : ((zs.take (at' + sz)).drop at').length ≤ 8 := by rw [List.length_drop, List.length_take]; omega
        have ly : ys.length ≤ 8 := by rw [pm.length_eq, List.length_take]; omega
        refine ⟨a, S, _, rfl, x4 _ _ (e3 _ _ ha), SqL.of upd_same, by rw [List.length_map]; omega, fun p H5 ws e5 hp pm2 => ?_⟩
        obtain ⟨ws', rfl, pw⟩ := perm_strs pm2
        have e45 := x4.trans e5
        have lw := pw.length_eq
        refine ⟨L', p, _, _, rfl, rfl, e45 _ _ h2, hp, len_ok (by rw [List.length_map, List.length_map]; omega), fun p3 hp3 => ?_⟩
        have x6 := ext_new (o := HO.lst (ys.map V.str ++ ws'.map V.str)) (ext_refl H5) hp3
        have e36 := e3.trans (e45.trans x6)
        have n3 : H p3 = none := ext_none (e3.trans e45) hp3
        refine ⟨_, rfl, _, rfl, _, _, rfl, rfl, p3, ys ++ ws', at' + sz, some (.int (0 + (i : Nat))), some (.int (sz : Nat)), ?_, fun z => ?_, n3, e36, (e45.trans x6) _ _ h1, ?_, ?_, s1, by omega, fun z => .inr (s2 z)⟩
        · dsimp only
          rw [cn2]
          rfl
        · rw [z, e45 _ _ h1] at hp3
          cases hp3
        · rw [upd_same, List.map_append]
        · have ez : zs.take (at' + sz) = zs.take at' ++ (zs.take (at' + sz)).drop at' := by
            have := (List.take_append_drop at' (zs.take (at' + sz))).symm
            rw [List.take_take, Nat.min_eq_left (by omega)] at this
            exact this
          rw [ez]
          exact pm.append pw
      · refine ⟨_, rfl, _, rfl, ?_⟩
        dsimp only
        rw [if_neg hc]
        refine ⟨_, rfl, U, _, rfl, .inl (SqL.of h1), ?_⟩
        have z0 : at' = 0 := by
          rcases p5 (by rwa [Bool.not_eq_true] at hc) with z | z
          · exact z
          · exact absurd z c'
        rw [List.length_map]
        have s1 : at' + zs.length ≤ zs.length := by omega
        have s2 : decide ((0 : Int) < r) = false → at' + zs.length = zs.length := fun _ => by omega
        have s3 : 1 ≤ zs.length := by omega
        generalize hq : zs.length = sz at s1 s2 s3
        refine ⟨_, rfl, _, rfl, _, rfl, _, rfl, _, rfl, _, rfl, _, rfl, _, _, rfl, rfl, _, rfl, U, _, rfl, SqL.of h1, fun S hS => ?_⟩
        have cn2 : ((at' : Nat) : Int) + ((sz : Nat) : Int) = ((at' + sz : Nat) : Int) := by omega
        dsimp only [tNil]
        rw [cn2, cut_strs (by omega) (by rw [hq]; exact s1)]
        have x4 := ext_new (o := HO.lst (((zs.take (at' + sz)).drop at').map V.str)) (ext_refl H') hS
        have l4 : ((zs.take (at' + sz)).drop at').length ≤ 8 := by rw [List.length_drop, List.length_take]; omega
        have ly : ys.length ≤ 8 := by rw [pm.length_eq, List.length_take]; omega
        refine ⟨a, S, _, rfl, x4 _ _ (e3 _ _ ha), SqL.of upd_same, by rw [List.length_map]; omega, fun p H5 ws e5 hp pm2 => ?_⟩
        obtain ⟨ws', rfl, pw⟩ := perm_strs pm2
        have e45 := x4.trans e5
        have lw := pw.length_eq
        refine ⟨L', p, _, _, rfl, rfl, e45 _ _ h2, hp, len_ok (by rw [List.length_map, List.length_map]; omega), fun p3 hp3 => ?_⟩
        have x6 := ext_new (o := HO.lst (ys.map V.str ++ ws'.map V.str)) (ext_refl H5) hp3
        have e36 := e3.trans (e45.trans x6)
        have n3 : H p3 = none := ext_none (e3.trans e45) hp3
        refine ⟨_, rfl, _, rfl, _, _, rfl, rfl, p3, ys ++ ws', at' + sz, some (.int (0 + (i : Nat))), some (.int (sz : Nat)), ?_, fun z => ?_, n3, e36, (e45.trans x6) _ _ h1, ?_, ?_, s1, by omega, fun z => .inr (s2 z)⟩
        · dsimp only
          rw [cn2]
          rfl
        · rw [z, e45 _ _ h1] at hp3
          cases hp3
        · rw [upd_same, List.map_append]
        · have ez : zs.take (at' + sz) = zs.take at' ++ (zs.take (at' + sz)).drop at' := by
            have := (List.take_append_drop at' (zs.take (at' + sz))).symm
            rw [List.take_take, Nat.min_eq_left (by omega)] at this
            exact this
          rw [ez]
          exact pm.append pw
    · rintro σ' H' ⟨L', ys, at', u, v, rfl, p1, p2, e3, h1, h2, pm, p3, p4, p5⟩
      rw [show at' = zs.length by omega, List.take_length] at pm
      exact ⟨L', ys, _, _, _, rfl, p1, p2, e3, h1, h2, pm⟩
  · rintro σ' H' ⟨L', ys, u, v, w, rfl, nLU, nL, e3, h1, h2, pm⟩
    refine ⟨fun σ' H' => ∃ (ys : List Str) (u v w : Option V), σ' = [some (.ref a), some (.int (n : Nat)), some (.ref U), some (.ref L'), w, some (.bl (decide ((0 : Int) < r))), u, v] ∧ Ext H H' ∧ H' U = some (.lst (zs.map V.str)) ∧ H' L' = some (.lst (ys.map V.str)) ∧ ys.Perm zs, ?_, ?_⟩
    · refine ⟨_, rfl, a, 4, rfl, e3 _ _ ha, by decide, by unfold Sz; decide, fun r r0 r1 => ?_⟩
      refine ⟨rfl, _, rfl, ite2 (fun c => ?_) (fun c => ?_)⟩
      · refine ⟨_, rfl, U, _, rfl, .inl (SqL.of h1), _, _, rfl, rfl, _, rfl, ite2 (fun c2 => ?_) (fun c2 => ?_)⟩
        · have c3 : 1 < zs.length := by
            have := of_decide_eq_true c2
            rw [List.length_map] at this
            omega
          refine ⟨_, rfl, _, rfl, U, _, rfl, .inl (SqL.of h1), _, _, rfl, rfl, a, _, rfl, e3 _ _ ha, by rw [List.length_map]; omega, Sz.mono (n := 10) (by unfold Sz; rw [List.length_map]; omega) (by decide), fun r3 r30 r31 => ?_⟩
          rw [List.length_map] at r31
          obtain ⟨m, rfl⟩ := Int.eq_ofNat_of_zero_le r30
          have cm : ((m : Nat) : Int) + 1 = ((m + 1 : Nat) : Int) := by omega
          have g1 : (zs.map V.str)[m + 1]? = some (.str (zs[m + 1]'(by omega))) := by rw [List.getElem?_map, List.getElem?_eq_getElem (by omega)]; rfl
          have g0 : (zs.map V.str)[m]? = some (.str (zs[m]'(by omega))) := by rw [List.getElem?_map, List.getElem?_eq_getElem (by omega)]; rfl
          have m1 : zs[m + 1]'(by omega) ∈ ys := pm.mem_iff.mpr (List.getElem_mem _)
          have m0 : zs[m]'(by omega) ∈ ys := pm.mem_iff.mpr (List.getElem_mem _)
          have ne : zs[m]'(by omega) ≠ zs[m + 1]'(by omega) := (List.pairwise_iff_getElem.mp (List.nodup_iff_pairwise_ne.mp nd)) m (m + 1) (by omega) (by omega) (by omega)
          have ly := pm.length_eq
          have pl := pos_lt m1
          have pg := pos_get m1
          have a1 : atI (zs.map V.str) (((m : Nat) : Int) + 1) = some (.str (zs[m + 1]'(by omega))) := by rw [cm]; exact atI_nat g1
          refine ⟨_, rfl, .inl ⟨rfl, _, SqL.of h2⟩, _, rfl, _, rfl, _, _, rfl, rfl, _, _, _, _, rfl, rfl, SqL.of h1, a1, L', ys, _, pos ys (zs[m + 1]'(by omega)), rfl, rfl, h2, pg, fun m' hm' e => pos_no hm' e rfl, ?_⟩
          have ep := erase_perm pl
          have eg : ys[pos ys (zs[m + 1]'(by omega))] = zs[m + 1]'(by omega) := by
            rw [List.getElem?_eq_getElem pl] at pg
            exact Option.some.inj pg
          rw [eg] at ep
          generalize hes : ys.eraseIdx (pos ys (zs[m + 1]'(by omega))) = es at ep
          have e4 : Ext H (upd H' L' (.lst (es.map V.str))) := ext_mut e3 nL
          have h1' : upd H' L' (.lst (es.map V.str)) U = some (.lst (zs.map V.str)) := by rw [upd_ne nLU.symm]; exact h1
          have h2' : upd H' L' (.lst (es.map V.str)) L' = some (.lst (es.map V.str)) := upd_same
          generalize upd H' L' (.lst (es.map V.str)) = H4 at e4 h1' h2' ⊢
          have m2 : zs[m]'(by omega) ∈ es := by
            rcases List.mem_cons.mp (ep.mem_iff.mpr m0) with z | z
            · exact absurd z ne
            · exact z
          have le : es.length + 1 = ys.length := by have := ep.length_eq; rw [List.length_cons] at this; exact this
          have pl2 := pos_lt m2
          refine ⟨_, rfl, .inl ⟨rfl, _, SqL.of h2'⟩, _, rfl, .inl ⟨rfl, _, SqL.of h2'⟩, _, rfl, _, rfl, _, _, _, _, rfl, rfl, SqL.of h1', atI_nat g0, ?_⟩
          dsimp only [tNil]
          refine idx_use (SqL.of h2') m2 ?_
          refine ⟨_, _, rfl, rfl, _, rfl, _, rfl, _, _, rfl, rfl, _, _, _, _, rfl, rfl, SqL.of h1', a1, L', _, _, _, rfl, rfl, h2', ?_, ?_, ?_, ?_⟩
          · rw [List.length_map]
            exact len_lt (by omega)
          · omega
          · omega
          · have en : (((pos es (zs[m]'(by omega)) : Nat) : Int) + 1).toNat = pos es (zs[m]'(by omega)) + 1 := by omega
            rw [en]
            refine ⟨es.take (pos es (zs[m]'(by omega)) + 1) ++ [zs[m + 1]'(by omega)] ++ es.drop (pos es (zs[m]'(by omega)) + 1), _, _, _, rfl, ext_mut e4 nL, by rw [upd_ne nLU.symm]; exact h1', ?_, ?_⟩
            · rw [upd_same, List.map_append, List.map_append, List.map_take, List.map_drop]
              rfl
            · rw [List.append_assoc]
              refine (List.perm_middle).trans ?_
              have et : es.take (pos es (zs[m]'(by omega)) + 1) ++ ([] ++ es.drop (pos es (zs[m]'(by omega)) + 1)) = es := by rw [List.nil_append, List.take_append_drop]
              have eq : (zs[m + 1]'(by omega) :: (es.take (pos es (zs[m]'(by omega)) + 1) ++ ([] ++ es.drop (pos es (zs[m]'(by omega)) + 1)))).Perm zs := by
                rw [et]
                exact ep.trans pm
              exact eq
        · exact ⟨ys, _, _, _, rfl, e3, h1, h2, pm⟩
      · exact ⟨ys, _, _, _, rfl, e3, h1, h2, pm⟩
    · rintro σ' H' ⟨ys, u, v, w, rfl, e3, h1, h2, pm⟩
      refine ⟨_, rfl, _, rfl, len_ok (Nat.le_of_ble_eq_true rfl), fun t ht => ?_⟩
      have x := ext_new (o := HO.tup [V.ref U, V.ref L']) (ext_refl H') ht
      exact k t U L' _ zs ys (e3.trans x) upd_same (x _ _ h1) (x _ _ h2) ⟨fun z hz => ten_nm z (nm z hz), nd, pm, by omega, by omega⟩ (by omega) nm
end
end My
namespace My
open PySem PySem.Spec PyProof.Rows L2
local macro_rules | `(tactic| walk_at "side") => `(tactic| first | assumption | decide | exact Or.inl ⟨by decide, by decide⟩ | exact Or.inr ⟨by decide, by decide⟩ | exact ⟨by decide, by decide, by decide⟩ | omega | (unfold CMulW; decide +kernel) | (dsimp only; first | assumption | omega | decide +kernel) | exact len_ok (Nat.le_of_ble_eq_true rfl) | fail "side")
local macro_rules | `(tactic| walk_at "rd") => `(tactic| first
  | refine ⟨_, _, _, _, rfl, rfl, SqL.of upd_same, atI_nat (j := 0) rfl, ?_⟩ | refine ⟨_, _, _, _, rfl, rfl, SqL.of upd_same, atI_nat (j := 1) rfl, ?_⟩ | refine ⟨_, _, _, _, rfl, rfl, SqL.of upd_same, atI_nat (j := 2) rfl, ?_⟩
  | refine ⟨_, _, _, _, rfl, rfl, upd_same, rfl, ?_⟩
  | refine ⟨_, _, rfl, rfl, ?_⟩ | refine ⟨_, rfl, ?_⟩ | refine ⟨_, _, rfl, ?_⟩ | refine Or.inl ⟨_, rfl, ?_⟩ | refine Or.inr ⟨_, rfl, ?_⟩ | refine ⟨(by walk_at "side"), ?_⟩ | fail "rd")

abbrev s_bends : Stmt := top 16
theorem sc_bends : FnScope ["places", "ends", "furthest", "index", "place"] ["places"] (defScope s_bends) := ⟨rfl, rfl, rfl, by decide +kernel, rfl, by decide +kernel, by decide +kernel⟩
/-- the ends of the blocks, from the index i on, f the furthest place so far -/
def mx (i j : Int) : Int := if j > i then j else i
def bend : Int → Int → List Int → List Int
  | _, _, [] => []
  | i, f, p :: r => if mx f p = i then (i + 1) :: bend (i + 1) (mx f p) r else bend (i + 1) (mx f p) r
def spBend (K : PySem.W.Frag) : Sp := fun vs H Q _ => ∃ (a : Addr) (ps : List Int), vs = [.ref a] ∧ SqT K H a (ps.map V.int) ∧ ps.length ≤ 1000 ∧ ∀ D H', Ext H H' → H' D = some (.lst ((bend 0 0 ps).map V.int)) → Q (.ref D) H'
section
variable {P : Program} {w : World} {K : PySem.W.Frag} {mg : Str → Option Value} {base : Heap} {C : Addr}
theorem ok_bends (T : Bn mg) (D : DefAt K mg "block_ends" s_bends) : FnAt P w K mg base 1 "block_ends" ["places"] (spBend K) := by
  refine fnAt D sc_bends (fun _ _ _ _ _ _ us hl => match us, hl with | [_], _ => rfl) (fun vs H Q E h => ?_) fun f cdv A outer s H vs Q E hr h => ?_
  · obtain ⟨a, ps, rfl, _⟩ := h
    rfl
  obtain ⟨a, ps, rfl, ha, hz, k⟩ := h
  refine ⟨_, (pss_cons (ps_set (i := 1) sc_bends.nd rfl (Or.inl rfl) (pe_lst pa_nil))
    (pss_cons (ps_set (i := 2) sc_bends.nd rfl (Or.inl rfl) pe_int)
    (pss_cons (ps_for PassesOwn.never rfl (pi_enumT (by rfl) T.b_enumerate (pa_cons (pv 0) pa_nil)) (pg_tup rfl (pgs_cons (pg_name (i := 3) sc_bends.nd rfl (Or.inl rfl)) (pgs_cons (pg_name (i := 4) sc_bends.nd rfl (Or.inl rfl)) pgs_nil)))
      (pss_cons (ps_set (i := 2) sc_bends.nd rfl (Or.inl rfl) (pe_callB (call_max2 rfl) (by rfl) T.b_max (by decide +kernel) (pa_cons (pv 2) (pa_cons (pv 4) pa_nil))))
    (pss_one (ps_if (pt_cmpR op_eq (pv 2) (pv 3) (nomark _)) (pss_one (ps_expr (pe_bm PySem.F.plainAttrs_list PySem.F.slot_list_append PySem.F.type_list_append mt_append (pv 1) (pa_cons (pe_op op_add (pv 3) pe_int) pa_nil)))) pss_nil))))
    (pss_one (ps_ret (pv 1)))))), ?_⟩
  refine ⟨len_ok (Nat.le_of_ble_eq_true rfl), fun D hD => ?_⟩
  have wk : Walk (Iet K a) ps.length (fun H => SqT K H a (ps.map V.int)) (YPair (fun i => some (.int (i : Nat))) (fun i => (ps.map V.int)[i]?)) := by
    have z := walk_enumT (K := K) (a := a) (xs := ps.map V.int)
    rwa [List.length_map] at z
  have x1 := ext_new (o := HO.lst []) (ext_refl H) hD
  refine ⟨_, rfl, a, _, rfl, ha.ext x1, for_it wk (fun i σ' H' => ∃ (acc : List Int) (f : Int) (u v : Option V), σ' = [some (.ref a), some (.ref D), some (.int f), u, v] ∧ Ext H H' ∧ H' D = some (.lst (acc.map V.int)) ∧ acc.length ≤ i ∧ acc ++ bend i f (ps.drop i) = bend 0 0 ps)
    ⟨[], 0, none, none, rfl, x1, upd_same, Nat.le_refl _, rfl⟩ (fun i σ' H' _ p => ?_) (fun i x σ' H1 H' hi p y => ?_) fun σ' H' p => ?_⟩
  · obtain ⟨acc, f, u, v, _, e, _⟩ := p
    exact ha.ext e
  · obtain ⟨T, u1, v1, rfl, hT, rfl, hu, hv⟩ := y
    obtain ⟨acc, f, u, v, rfl, p2, p3, p4, p5⟩ := p
    cases hu
    replace hv : (ps.map V.int)[i]? = some v1 := hv
    rw [List.getElem?_map, List.getElem?_eq_getElem hi] at hv
    cases hv
    have eT := ext_new (o := HO.tup [V.int (i : Nat), .int ps[i]]) (ext_refl H1) hT
    rw [List.drop_eq_getElem_cons hi, bend] at p5
    refine ⟨T, _, rfl, SqT.of upd_same, rfl, _, _, rfl, _, _, rfl, rfl, ?_⟩
    refine ⟨_, rfl, _, rfl, _, _, rfl, _, rfl, _, rfl, rfl, _, rfl, ?_⟩
    have e1 : decide (V.int (if ps[i] > f then ps[i] else f) = .int (i : Nat)) = decide (mx f ps[i] = (i : Int)) := by
      rw [dec_int]
      rfl
    rw [e1]
    have p3' := eT _ _ p3
    have nD : D ≠ T := ne_of_none p3 hT
    refine ite2 (fun c => ?_) (fun c => ?_)
    · have c' := of_decide_eq_true c
      rw [if_pos c'] at p5
      refine ⟨_, rfl, .inl ⟨rfl, _, SqL.of p3'⟩, _, rfl, _, _, rfl, rfl, D, _, _, rfl, rfl, p3', ?_, ?_⟩
      · rw [List.length_map]
        exact len_lt (by omega)
      · refine ⟨acc ++ [(i : Int) + 1], mx f ps[i], _, _, rfl, ext_mut (p2.trans eT) hD, ?_, ?_, ?_⟩
        · rw [upd_same, List.map_append]
          rfl
        · rw [List.length_append]
          exact Nat.succ_le_succ p4
        · rw [List.append_assoc, ← p5]
          rfl
    · have c' : ¬ mx f ps[i] = (i : Int) := fun z => c (decide_eq_true z)
      rw [if_neg c'] at p5
      exact ⟨acc, mx f ps[i], _, _, rfl, p2.trans eT, p3', by omega, p5⟩
  · obtain ⟨acc, f, u, v, rfl, p2, p3, p4, p5⟩ := p
    rw [List.drop_length, bend, List.append_nil] at p5
    rw [p5] at p3
    exact ⟨_, rfl, k D H' p2 p3⟩
end
end My
namespace My
open PySem PySem.Spec PyProof.Rows L2
local macro_rules | `(tactic| walk_at "side") => `(tactic| first | assumption | decide | exact Or.inl ⟨by decide, by decide⟩ | exact Or.inr ⟨by decide, by decide⟩ | exact ⟨by decide, by decide, by decide⟩ | omega | (unfold CMulW; decide +kernel) | (dsimp only; first | assumption | omega | decide +kernel) | exact len_ok (Nat.le_of_ble_eq_true rfl) | fail "side")
local macro_rules | `(tactic| walk_at "rd") => `(tactic| first
  | refine ⟨_, _, _, _, rfl, rfl, SqL.of upd_same, atI_nat (j := 0) rfl, ?_⟩ | refine ⟨_, _, _, _, rfl, rfl, SqL.of upd_same, atI_nat (j := 1) rfl, ?_⟩ | refine ⟨_, _, _, _, rfl, rfl, SqL.of upd_same, atI_nat (j := 2) rfl, ?_⟩
  | refine ⟨_, _, _, _, rfl, rfl, upd_same, rfl, ?_⟩
  | refine ⟨_, _, rfl, rfl, ?_⟩ | refine ⟨_, rfl, ?_⟩ | refine ⟨_, _, rfl, ?_⟩ | refine Or.inl ⟨_, rfl, ?_⟩ | refine Or.inr ⟨_, rfl, ?_⟩ | refine ⟨(by walk_at "side"), ?_⟩ | fail "rd")

abbrev s_owhole : Stmt := inClass (top 12) 7
theorem sc_owhole : FnScope ["self"] ["self"] (defScope s_owhole) := ⟨rfl, rfl, rfl, by decide +kernel, rfl, by decide +kernel, by decide +kernel⟩
def wholeB (zs ys : List Str) : Bool := decide (2 ≤ zs.length) && decide ((bend 0 0 (plc zs ys)).length = 1)
def spWhole (K : PySem.W.Frag) (C : Addr) : Sp := fun vs H Q _ => ∃ o zs ys, vs = [.ref o] ∧ OrdAt K C H o zs ys ∧ ∀ H', Ext H H' → Q (.bl (wholeB zs ys)) H'
section
variable {P : Program} {w : World} {K : PySem.W.Frag} {mg : Str → Option Value} {base : Heap} {C : Addr}
theorem ok_owhole (T : Bn mg) (D : PropT K C "is_whole" "Order.is_whole" s_owhole) (OT : OrdT K mg C) (F_block_ends : FnAt P w K mg base 1 "block_ends" ["places"] (spBend K)) : PropAt P w K mg base 2 C "is_whole" (spWhole K C) := by
  refine propAt D sc_owhole (fun _ _ _ _ _ _ us hl => match us, hl with | [_], _ => rfl) (fun vs H Q E h => ?_) fun f cdv A outer s H vs Q E hr h => ?_
  · obtain ⟨o, zs, ys, rfl, _⟩ := h
    rfl
  obtain ⟨o, zs, ys, rfl, ⟨dx, a, b, c, e, ha, hb, hc, ro⟩, k⟩ := h
  have l1 := ro.le
  refine ⟨_, (pss_one (ps_ret (pe_and (pe_cmpR op_ge (pe_callB call_len_seq (by rfl) T.b_len (by decide +kernel) (pa_cons (pe_fld (pv 0) rfl) pa_nil)) pe_int (nomark _)) (pe_one (pe_cmpR op_eq (pe_callB call_len_seq (by rfl) T.b_len (by decide +kernel) (pa_cons (callA F_block_ends (hr.mono (by decide)) rfl (pa_cons (pe_fld (pv 0) rfl) pa_nil)) pa_nil)) pe_int (nomark _)))))), _, rfl, o, C, dx, _, _, rfl, e, OT.cl, OT.nA, ofs_a a b c, a, _, rfl, .inr ha, _, _, rfl, rfl, _, rfl, ?_⟩
  rw [List.length_map]
  by_cases h2 : 2 ≤ zs.length
  · rw [if_pos (decide_eq_true (show ((zs.length : Nat) : Int) ≥ 2 by omega))]
    refine ⟨_, rfl, o, C, dx, _, _, rfl, e, OT.cl, OT.nP, ofs_p a b c, c, plc zs ys, rfl, hc, ?_, fun D H' e' hD => ?_⟩
    · unfold plc
      rw [List.length_map]
      omega
    · refine ⟨D, _, rfl, .inl (SqL.of hD), rfl, ?_⟩
      have e2 : decide (V.int (((bend 0 0 (plc zs ys)).map V.int).length : Nat) = .int 1) = wholeB zs ys := by
        unfold wholeB
        rw [decide_eq_true h2, Bool.true_and, List.length_map, dec_int, Bool.eq_iff_iff, beq_iff_eq, decide_eq_true_iff]
        omega
      rw [e2]
      exact k H' e'
  · rw [if_neg (by rw [decide_eq_true_iff]; omega)]
    have e2 : wholeB zs ys = false := by
      unfold wholeB
      rw [decide_eq_false h2, Bool.false_and]
    rw [← e2]
    exact k H (ext_refl H)
end
end My
/-! mathematics of blocks -/
namespace My
open PySem PySem.Spec L2
def fm (ps : List Int) (i : Nat) : Int := (ps.take i).foldl mx 0
theorem mx_le {f p b : Int} (h : f ≤ b) (g : p ≤ b) : mx f p ≤ b := by
  unfold mx
  split <;> assumption
theorem le_mx {f p : Int} : f ≤ mx f p ∧ p ≤ mx f p := by
  unfold mx
  split <;> omega
theorem fm_succ {ps : List Int} {i : Nat} (h : i < ps.length) : fm ps (i + 1) = mx (fm ps i) ps[i] := by
  unfold fm
  rw [List.take_succ, List.getElem?_eq_getElem h, List.foldl_append]
  rfl
theorem fm_le {ps : List Int} {b : Int} (h0 : 0 ≤ b) : ∀ i, i ≤ ps.length → (∀ j (hj : j < ps.length), j < i → ps[j] ≤ b) → fm ps i ≤ b
  | 0, _, _ => h0
  | i + 1, hi, h => by
    rw [fm_succ (by omega)]
    exact mx_le (fm_le h0 i (by omega) fun j hj hji => h j hj (by omega)) (h i (by omega) (by omega))
theorem fm_ge {ps : List Int} : ∀ i, i ≤ ps.length → ∀ j (hj : j < ps.length), j < i → ps[j] ≤ fm ps i
  | 0, _, j, _, h => by omega
  | i + 1, hi, j, hj, h => by
    rw [fm_succ (by omega)]
    by_cases e : j = i
    · subst e
      exact le_mx.2
    · exact Int.le_trans (fm_ge i (by omega) j hj (by omega)) le_mx.1
theorem pos_at {l : List Str} (nd : l.Nodup) {m : Nat} (h : m < l.length) : pos l l[m] = m := by
  have mem : l[m] ∈ l := List.getElem_mem h
  have pl := pos_lt mem
  have g := pos_get mem
  rw [List.getElem?_eq_getElem pl] at g
  have e : l[pos l l[m]] = l[m] := Option.some.inj g
  have pw := List.pairwise_iff_getElem.mp (List.nodup_iff_pairwise_ne.mp nd)
  rcases Nat.lt_trichotomy (pos l l[m]) m with a | a | a
  · exact absurd e (pw _ _ pl h a)
  · exact a
  · exact absurd e.symm (pw _ _ h pl a)
theorem plc_len (zs ys : List Str) : (plc zs ys).length = zs.length := by unfold plc; rw [List.length_map]
theorem plc_at {zs ys : List Str} {j : Nat} (h : j < (plc zs ys).length) : (plc zs ys)[j] = ((pos ys (zs[j]'(by rw [plc_len] at h; exact h)) : Nat) : Int) := List.getElem_map ..
theorem RowsOk.top {us ls : List Str} (h : RowsOk us ls) : fm (plc us ls) us.length = (us.length : Int) - 1 := by
  have len := plc_len us ls
  have n1 := h.ne
  have hl := h.len
  refine Int.le_antisymm (fm_le (by omega) _ (by omega) fun j hj _ => ?_) ?_
  · rw [plc_at hj]
    have mem : us[j]'(by omega) ∈ ls := h.pm.mem_iff.mpr (List.getElem_mem _)
    have := pos_lt mem
    omega
  · have mem : ls[us.length - 1]'(by omega) ∈ us := h.pm.mem_iff.mp (List.getElem_mem _)
    obtain ⟨j, hj, e⟩ := List.getElem_of_mem mem
    have ge := fm_ge (ps := plc us ls) us.length (by omega) j (by omega) hj
    rw [plc_at (by omega), e, pos_at h.symm.nd (by omega)] at ge
    omega

/-- the first e names of both rows are the same -/
def pre (zs ys : List Str) (e : Nat) : Bool := (zs.take e).all fun x => decide (x ∈ ys.take e)
def cutsN (zs ys : List Str) : Nat → Nat → List Nat
  | _, 0 => []
  | i, d + 1 => if pre zs ys (i + 1) = true then (i + 1) :: cutsN zs ys (i + 1) d else cutsN zs ys (i + 1) d
theorem pre_iff {zs ys : List Str} {e : Nat} : pre zs ys e = true ↔ ∀ x ∈ zs.take e, x ∈ ys.take e := by
  unfold pre
  rw [List.all_eq_true]
  exact ⟨fun h x hx => of_decide_eq_true (h x hx), fun h x hx => decide_eq_true (h x hx)⟩
theorem nd_take {zs : List Str} (h : zs.Nodup) (e : Nat) : (zs.take e).Nodup := List.nodup_iff_pairwise_ne.mpr ((List.nodup_iff_pairwise_ne.mp h).sublist (List.take_sublist _ _))
theorem pre_back {zs ys : List Str} (ro : RowsOk zs ys) {e : Nat} (h : pre zs ys e = true) : ∀ x ∈ ys.take e, x ∈ zs.take e :=
  perm_len (nd_take ro.nd e) (pre_iff.mp h) (by rw [List.length_take, List.length_take, ro.len])
theorem pre_fm {zs ys : List Str} (ro : RowsOk zs ys) {i : Nat} (hi : i < zs.length) : fm (plc zs ys) (i + 1) = (i : Int) ↔ pre zs ys (i + 1) = true := by
  have len := plc_len zs ys
  constructor
  · intro e
    refine pre_iff.mpr fun x hx => ?_
    obtain ⟨j, hj, ej⟩ := List.getElem_of_mem hx
    rw [List.length_take] at hj
    rw [List.getElem_take] at ej
    have ge := fm_ge (ps := plc zs ys) (i + 1) (by omega) j (by omega) (by omega)
    rw [e, plc_at (by omega), ej] at ge
    have mem : x ∈ ys := ro.pm.mem_iff.mpr (List.mem_of_mem_take hx)
    refine List.mem_of_getElem? (i := pos ys x) ?_
    rw [List.getElem?_take_of_lt (by omega)]
    exact pos_get mem
  · intro p
    have hl := ro.len
    refine Int.le_antisymm (fm_le (by omega) _ (by omega) fun j hj hji => ?_) ?_
    · rw [plc_at hj]
      have m1 : zs[j]'(by omega) ∈ ys.take (i + 1) := pre_iff.mp p _ (List.mem_of_getElem? (i := j) (by rw [List.getElem?_take_of_lt hji, List.getElem?_eq_getElem (by omega)]))
      obtain ⟨m, hm, em⟩ := List.getElem_of_mem m1
      rw [List.length_take] at hm
      rw [List.getElem_take] at em
      rw [← em, pos_at ro.symm.nd (by omega)]
      omega
    · have m1 : ys[i]'(by omega) ∈ zs.take (i + 1) := pre_back ro p _ (List.mem_of_getElem? (i := i) (by rw [List.getElem?_take_of_lt (by omega), List.getElem?_eq_getElem (by omega)]))
      obtain ⟨j, hj, ej⟩ := List.getElem_of_mem m1
      rw [List.length_take] at hj
      rw [List.getElem_take] at ej
      have ge := fm_ge (ps := plc zs ys) (i + 1) (by omega) j (by omega) (by omega)
      rw [plc_at (by omega), ej, pos_at ro.symm.nd (by omega)] at ge
      exact ge
theorem bend_cuts {zs ys : List Str} (ro : RowsOk zs ys) : ∀ (d i : Nat), i + d = zs.length → bend (i : Nat) (fm (plc zs ys) i) ((plc zs ys).drop i) = (cutsN zs ys i d).map fun e => ((e : Nat) : Int)
  | 0, i, h => by
    rw [List.drop_eq_nil_of_le (by rw [plc_len]; omega), bend, cutsN]
    rfl
  | d + 1, i, h => by
    have len := plc_len zs ys
    have hp : i < (plc zs ys).length := by omega
    rw [List.drop_eq_getElem_cons hp, bend, ← fm_succ hp, cutsN]
    have ih := bend_cuts ro d (i + 1) (by omega)
    have ec : ((i : Nat) : Int) + 1 = ((i + 1 : Nat) : Int) := by omega
    rw [ec, ih]
    by_cases e : pre zs ys (i + 1) = true
    · rw [if_pos e, if_pos ((pre_fm ro (by omega)).mpr e)]
      rfl
    · rw [if_neg e, if_neg fun z => e ((pre_fm ro (by omega)).mp z)]
/-- where the blocks end -/
def cuts (zs ys : List Str) : List Nat := cutsN zs ys 0 zs.length
theorem bend_eq {zs ys : List Str} (ro : RowsOk zs ys) : bend 0 0 (plc zs ys) = (cuts zs ys).map fun e => ((e : Nat) : Int) := bend_cuts ro zs.length 0 (by omega)
theorem cutsN_len (zs ys : List Str) : ∀ d i, (cutsN zs ys i d).length ≤ d
  | 0, _ => Nat.le_refl _
  | d + 1, i => by
    have := cutsN_len zs ys d (i + 1)
    rw [cutsN]
    split
    · rw [List.length_cons]; omega
    · omega
/-- a block's rows -/
def cutP (zs ys : List Str) (p : Nat × Nat) : List Str × List Str := ((zs.take p.2).drop p.1, (ys.take p.2).drop p.1)
def blks (zs ys : List Str) : List (List Str × List Str) := ((0 :: cuts zs ys).zip (cuts zs ys)).map (cutP zs ys)
/-- cuts ascend, and all are such places -/
theorem cutsN_ok (zs ys : List Str) : ∀ d i, ∀ b, b ≤ i → pre zs ys b = true → ∀ p ∈ (b :: cutsN zs ys i d).zip (cutsN zs ys i d), p.1 < p.2 ∧ p.2 ≤ i + d ∧ pre zs ys p.1 = true ∧ pre zs ys p.2 = true
  | 0, i, b, _, _, p, hp => by rw [cutsN] at hp; simp at hp
  | d + 1, i, b, hb, pb, p, hp => by
    rw [cutsN] at hp
    split at hp
    · rename_i c
      rw [List.zip_cons_cons] at hp
      rcases List.mem_cons.mp hp with e | e
      · subst e
        exact ⟨by show b < i + 1; omega, by show i + 1 ≤ _; omega, pb, c⟩
      · have := cutsN_ok zs ys d (i + 1) (i + 1) (Nat.le_refl _) c p e
        exact ⟨this.1, by omega, this.2.2⟩
    · have := cutsN_ok zs ys d (i + 1) b (by omega) pb p hp
      exact ⟨this.1, by omega, this.2.2⟩
theorem cut_pair {zs ys : List Str} {p : Nat × Nat} (h : p ∈ (0 :: cuts zs ys).zip (cuts zs ys)) : p.1 < p.2 ∧ p.2 ≤ zs.length ∧ pre zs ys p.1 = true ∧ pre zs ys p.2 = true := by
  have := cutsN_ok zs ys zs.length 0 0 (Nat.le_refl _) rfl p h
  exact ⟨this.1, by omega, this.2.2⟩
theorem pre_perm {zs ys : List Str} (ro : RowsOk zs ys) {e : Nat} (h : pre zs ys e = true) : (ys.take e).Perm (zs.take e) := by
  refine (List.perm_ext_iff_of_nodup (nd_take ro.symm.nd e) (nd_take ro.nd e)).mpr fun x => ⟨pre_back ro h x, pre_iff.mp h x⟩
theorem cut_rows {zs ys : List Str} (ro : RowsOk zs ys) {p : Nat × Nat} (h : p.1 < p.2 ∧ p.2 ≤ zs.length ∧ pre zs ys p.1 = true ∧ pre zs ys p.2 = true) : RowsOk (cutP zs ys p).1 (cutP zs ys p).2 := by
  obtain ⟨h1, h2, h3, h4⟩ := h
  have sub : List.Sublist ((zs.take p.2).drop p.1) zs := (List.drop_sublist _ _).trans (List.take_sublist _ _)
  have hl : ((zs.take p.2).drop p.1).length = p.2 - p.1 := by rw [List.length_drop, List.length_take]; omega
  have l40 := ro.le
  refine ⟨fun z hz => ro.nm z (sub.subset hz), List.nodup_iff_pairwise_ne.mpr ((List.nodup_iff_pairwise_ne.mp ro.nd).sublist sub), ?_, ?_, ?_⟩
  · have q := pre_perm ro h4
    have r := pre_perm ro h3
    have ez : zs.take p.2 = zs.take p.1 ++ (zs.take p.2).drop p.1 := by
      have := (List.take_append_drop p.1 (zs.take p.2)).symm
      rw [List.take_take, Nat.min_eq_left (by omega)] at this
      exact this
    have ey : ys.take p.2 = ys.take p.1 ++ (ys.take p.2).drop p.1 := by
      have := (List.take_append_drop p.1 (ys.take p.2)).symm
      rw [List.take_take, Nat.min_eq_left (by omega)] at this
      exact this
    rw [ez, ey] at q
    have q2 := q.trans (r.symm.append_right ((zs.take p.2).drop p.1))
    exact (List.perm_append_left_iff _).mp q2
  · show 1 ≤ ((zs.take p.2).drop p.1).length
    omega
  · show ((zs.take p.2).drop p.1).length ≤ 40
    omega
end My
/-! plain data (nothing, ints, texts, lists, tuples), compared -/
namespace My
open PySem PySem.Spec PyProof.Rows L2
def pl : Nat → PyData → Bool
  | _, .none => true
  | _, .int _ => true
  | _, .str x => PyData.strOk x
  | n + 1, .list xs => xs.all (pl n)
  | n + 1, .tuple xs => xs.all (pl n)
  | _, _ => false
theorem pl_all {n : Nat} (f : ∀ d, pl n d = true → d.canLay0 = true ∧ d.depth ≤ n) : ∀ xs : List PyData, xs.all (pl n) = true → PyData.canLayAll0 xs = true ∧ PyData.depthAll xs ≤ n
  | [], _ => ⟨rfl, Nat.zero_le _⟩
  | x :: xs, h => by
    rw [List.all_cons, Bool.and_eq_true] at h
    obtain ⟨a, b⟩ := pl_all f xs h.2
    obtain ⟨c, d⟩ := f x h.1
    rw [PyData.canLayAll0, PyData.depthAll, a, c]
    exact ⟨rfl, Nat.max_le.mpr ⟨d, b⟩⟩
theorem pl_ok : ∀ n d, pl n d = true → d.canLay0 = true ∧ d.depth ≤ n
  | n, .none, _ => by rw [PyData.canLay0, PyData.depth]; exact ⟨rfl, Nat.zero_le _⟩
  | n, .int _, _ => by rw [PyData.canLay0, PyData.depth]; exact ⟨rfl, Nat.zero_le _⟩
  | n, .str x, h => by
    have h' : PyData.strOk x = true := by cases n <;> exact h
    rw [PyData.canLay0, PyData.depth]
    exact ⟨h', Nat.zero_le _⟩
  | 0, .list xs, h => by cases h
  | 0, .tuple xs, h => by cases h
  | n + 1, .list xs, h => by
    obtain ⟨a, b⟩ := pl_all (pl_ok n) xs h
    rw [PyData.canLay0, PyData.depth]
    exact ⟨a, Nat.succ_le_succ b⟩
  | n + 1, .tuple xs, h => by
    obtain ⟨a, b⟩ := pl_all (pl_ok n) xs h
    rw [PyData.canLay0, PyData.depth]
    exact ⟨a, Nat.succ_le_succ b⟩
  | 0, .bool _, h => by cases h
  | n + 1, .bool _, h => by cases h
  | 0, .dict _, h => by cases h
  | n + 1, .dict _, h => by cases h
theorem pl_shaped {n : Nat} {d : PyData} (hn : n ≤ 64) (h : pl n d = true) : SeqAt.shaped d = true := by
  obtain ⟨a, b⟩ := pl_ok n d h
  unfold SeqAt.shaped
  rw [a, decide_eq_true (Nat.le_trans b hn)]
  rfl
theorem eqv_all {n : Nat} (f : ∀ d e, pl n d = true → pl n e = true → (PyData.eqv d e = true ↔ d = e)) : ∀ xs ys : List PyData, xs.all (pl n) = true → ys.all (pl n) = true → (PyData.eqvAll xs ys = true ↔ xs = ys)
  | [], [], _, _ => by rw [PyData.eqvAll]; simp
  | [], _ :: _, _, _ => by rw [PyData.eqvAll]; simp
  | _ :: _, [], _, _ => by rw [PyData.eqvAll]; simp
  | x :: xs, y :: ys, h, g => by
    rw [List.all_cons, Bool.and_eq_true] at h g
    rw [PyData.eqvAll, Bool.and_eq_true, f x y h.1 g.1, eqv_all f xs ys h.2 g.2, List.cons.injEq]
theorem eqv_pl : ∀ n d e, pl n d = true → pl n e = true → (PyData.eqv d e = true ↔ d = e) := by
  intro n
  induction n with
  | zero =>
    intro d e h g
    cases d <;> cases e <;> first | (cases h; done) | (cases g; done) | (rw [PyData.eqv]; simp)
  | succ n ih =>
    intro d e h g
    cases d with
    | list xs =>
      cases e with
      | list ys => rw [PyData.eqv, eqv_all ih xs ys h g, PyData.list.injEq]
      | _ => rw [PyData.eqv]; simp
    | tuple xs =>
      cases e with
      | tuple ys => rw [PyData.eqv, eqv_all ih xs ys h g, PyData.tuple.injEq]
      | _ => rw [PyData.eqv]; simp
    | bool b => cases h
    | dict k => cases h
    | none => cases e <;> first | (cases g; done) | (rw [PyData.eqv]; simp)
    | int i => cases e <;> first | (cases g; done) | (rw [PyData.eqv]; simp)
    | str x => cases e <;> first | (cases g; done) | (rw [PyData.eqv]; simp)
/-- d == e, d != e -/
theorem eqD_use {K : PySem.W.Frag} {H : Hp} {x y : V} {d e : PyData} {Q : VK} (n : Nat) (hn : n ≤ 64) (hx : Dp K H x d) (hy : Dp K H y e) (px : pl n d = true) (py : pl n e = true) (q : ∀ b : Bool, (b = true ↔ d = e) → Q (.bl b) H) : rEqD K x y H Q :=
  ⟨d, e, hx, hy, pl_shaped hn px, pl_shaped hn py, q _ (eqv_pl n d e px py)⟩
theorem neD_use {K : PySem.W.Frag} {H : Hp} {x y : V} {d e : PyData} {Q : VK} (n : Nat) (hn : n ≤ 64) (hx : Dp K H x d) (hy : Dp K H y e) (px : pl n d = true) (py : pl n e = true) (q : ∀ b : Bool, (b = true ↔ d = e) → Q (.bl (!b)) H) : rNeD K x y H Q :=
  ⟨d, e, hx, hy, pl_shaped hn px, pl_shaped hn py, q _ (eqv_pl n d e px py)⟩
theorem pl_ints (n : Nat) (ns : List Int) : (ns.map PyData.int).all (pl n) = true := by
  rw [List.all_map]
  exact List.all_eq_true.mpr fun _ _ => by cases n <;> rfl
theorem pl_strs {n : Nat} {ss : List Str} (h : ∀ s ∈ ss, PyData.strOk s = true) : (ss.map PyData.str).all (pl n) = true := by
  rw [List.all_map]
  exact List.all_eq_true.mpr fun s hs => by cases n <;> exact h s hs
theorem dp_ints {K : PySem.W.Frag} {H : Hp} : ∀ ns : List Int, DpAll K H (ns.map V.int) (ns.map PyData.int) := by
  intro ns
  induction ns with
  | nil => exact .nil
  | cons x r ih => exact .cons (.int x) ih
theorem int_inj {a b : List Int} : a.map PyData.int = b.map PyData.int ↔ a = b := by
  constructor
  · intro h
    exact (List.map_inj_right (fun _ _ h => PyData.int.inj h)).mp h
  · exact fun h => by rw [h]
theorem str_inj {a b : List Str} : a.map PyData.str = b.map PyData.str ↔ a = b := by
  constructor
  · intro h
    exact (List.map_inj_right (fun _ _ h => PyData.str.inj h)).mp h
  · exact fun h => by rw [h]
end My
namespace My
open PySem PySem.Spec PyProof.Rows L2
local macro_rules | `(tactic| walk_at "side") => `(tactic| first | assumption | decide | exact Or.inl ⟨by decide, by decide⟩ | exact Or.inr ⟨by decide, by decide⟩ | exact ⟨by decide, by decide, by decide⟩ | omega | (unfold CMulW; decide +kernel) | (dsimp only; first | assumption | omega | decide +kernel) | exact len_ok (Nat.le_of_ble_eq_true rfl) | fail "side")
local macro_rules | `(tactic| walk_at "rd") => `(tactic| first
  | refine ⟨_, _, _, _, rfl, rfl, SqL.of upd_same, atI_nat (j := 0) rfl, ?_⟩ | refine ⟨_, _, _, _, rfl, rfl, SqL.of upd_same, atI_nat (j := 1) rfl, ?_⟩ | refine ⟨_, _, _, _, rfl, rfl, SqL.of upd_same, atI_nat (j := 2) rfl, ?_⟩
  | refine ⟨_, _, _, _, rfl, rfl, upd_same, rfl, ?_⟩
  | refine ⟨_, _, rfl, rfl, ?_⟩ | refine ⟨_, rfl, ?_⟩ | refine ⟨_, _, rfl, ?_⟩ | refine Or.inl ⟨_, rfl, ?_⟩ | refine Or.inr ⟨_, rfl, ?_⟩ | refine ⟨(by walk_at "side"), ?_⟩ | fail "rd")

abbrev s_lblk : Stmt := top 23
theorem sc_lblk : FnScope ["_law_upper", "_law_lower", "_law_found", "_law_at", "_law_end"] ["_law_upper", "_law_lower"] (defScope s_lblk) := ⟨rfl, rfl, rfl, by decide +kernel, rfl, by decide +kernel, by decide +kernel⟩
theorem hu0 {A : Around} {k : Nat} (hr : Room k A) : A.units < cLine := by
  have := hr.units
  omega
/-- a row of pairs of rows -/
def RwL (K : PySem.W.Frag) (H : Hp) (acc : List V) (l : List (List Str × List Str)) : Prop := acc.length = l.length ∧ ∀ (i : Nat) (v : V), acc[i]? = some v → ∃ (q a b : Addr) (r : List Str × List Str), v = V.ref q ∧ l[i]? = some r ∧ SqT K H q [.ref a, .ref b] ∧ SqT K H a (r.1.map V.str) ∧ SqT K H b (r.2.map V.str)
theorem sqt_mut {K : PySem.W.Frag} {H : Hp} {a D : Addr} {xs vs : List V} {o : HO} (h : SqT K H a xs) (hD : H D = some (.lst vs)) : SqT K (upd H D o) a xs := by
  rcases h with (q | ⟨ob, q⟩) | r
  · exact .inl (.inl (by rw [upd_ne fun z => by rw [z, hD] at q; cases q]; exact q))
  · exact .inl (.inr ⟨ob, by rw [upd_ne fun z => by rw [z, hD] at q; cases q]; exact q⟩)
  · exact .inr r
theorem RwL.ext {K : PySem.W.Frag} {H H' : Hp} {acc : List V} {l : List (List Str × List Str)} (h : RwL K H acc l) (e : Ext H H') : RwL K H' acc l := ⟨h.1, fun i v hi => let ⟨q, a, b, r, e1, e2, e3, e4, e5⟩ := h.2 i v hi; ⟨q, a, b, r, e1, e2, e3.ext e, e4.ext e, e5.ext e⟩⟩
theorem RwL.mut {K : PySem.W.Frag} {H : Hp} {acc xs : List V} {l : List (List Str × List Str)} {D : Addr} {o : HO} (h : RwL K H acc l) (hD : H D = some (.lst xs)) : RwL K (upd H D o) acc l :=
  ⟨h.1, fun i v hi => let ⟨q, a, b, r, e1, e2, e3, e4, e5⟩ := h.2 i v hi; ⟨q, a, b, r, e1, e2, sqt_mut e3 hD, sqt_mut e4 hD, sqt_mut e5 hD⟩⟩
theorem RwL.snoc {K : PySem.W.Frag} {H : Hp} {acc : List V} {l : List (List Str × List Str)} {q a b : Addr} {r : List Str × List Str} (h : RwL K H acc l) (hq : SqT K H q [.ref a, .ref b]) (ha : SqT K H a (r.1.map V.str)) (hb : SqT K H b (r.2.map V.str)) : RwL K H (acc ++ [.ref q]) (l ++ [r]) :=
  ⟨by rw [List.length_append, List.length_append, h.1]; rfl, fun i v hi => by
    by_cases hl : i < acc.length
    · rw [List.getElem?_append_left hl] at hi
      obtain ⟨q', a', b', r', e1, e2, e3⟩ := h.2 i v hi
      exact ⟨q', a', b', r', e1, by rw [List.getElem?_append_left (by rw [← h.1]; exact hl)]; exact e2, e3⟩
    · rw [List.getElem?_append_right (by omega)] at hi
      have e : i - acc.length = 0 := by
        have := (List.getElem?_eq_some_iff.mp hi).1
        simp at this
        omega
      rw [e] at hi
      cases hi
      exact ⟨q, a, b, r, rfl, by rw [List.getElem?_append_right (by rw [← h.1]; omega), ← h.1, e]; rfl, hq, ha, hb⟩⟩
def rwD (r : List Str × List Str) : PyData := .tuple [.tuple (r.1.map .str), .tuple (r.2.map .str)]
theorem RwL.dp {K : PySem.W.Frag} {H : Hp} : ∀ {acc : List V} {l : List (List Str × List Str)}, RwL K H acc l → DpAll K H acc (l.map rwD)
  | [], [], _ => .nil
  | [], _ :: _, h => by have := h.1; simp at this
  | _ :: _, [], h => by have := h.1; simp at this
  | v :: acc, u :: l, h => by
    obtain ⟨q, a, b, r, e1, e2, e3, e4, e5⟩ := h.2 0 v rfl
    cases e2
    subst e1
    refine .cons (.tup e3 (.cons (.tup e4 (dp_strs _)) (.cons (.tup e5 (dp_strs _)) .nil))) (RwL.dp ⟨by have := h.1; simp at this; exact this, fun i v hi => h.2 (i + 1) v hi⟩)
theorem pl_rwD {r : List Str × List Str} (h1 : ∀ z ∈ r.1, PyData.strOk z = true) (h2 : ∀ z ∈ r.2, PyData.strOk z = true) : pl 3 (rwD r) = true := by
  have okz : (r.1.map PyData.str).all (pl 1) = true := pl_strs h1
  have oky : (r.2.map PyData.str).all (pl 1) = true := pl_strs h2
  show ((r.1.map PyData.str).all (pl 1) && ((r.2.map PyData.str).all (pl 1) && true)) = true
  rw [okz, oky]
  rfl
theorem RwL.keep {K : PySem.W.Frag} {H H' : Hp} {acc xs : List V} {l : List (List Str × List Str)} {D : Addr} (h : RwL K H acc l) (hD : H D = some (.lst xs)) (kk : ∀ a u, H a = some u → a ≠ D → H' a = some u) : RwL K H' acc l := by
  have et : ∀ {a : Addr} {ys : List V}, SqT K H a ys → SqT K H' a ys := fun h => by
    rcases h with (q | ⟨o, q⟩) | r
    · exact .inl (.inl (kk _ _ q fun z => by rw [z, hD] at q; cases q))
    · exact .inl (.inr ⟨o, kk _ _ q fun z => by rw [z, hD] at q; cases q⟩)
    · exact .inr r
  exact ⟨h.1, fun i v hi => let ⟨q, a, b, r, e1, e2, e3, e4, e5⟩ := h.2 i v hi; ⟨q, a, b, r, e1, e2, et e3, et e4, et e5⟩⟩
theorem zip_snoc : ∀ (es : List Nat) (b e : Nat), (b :: (es ++ [e])).zip (es ++ [e]) = ((b :: es).zip es) ++ [(es.getLastD b, e)]
  | [], b, e => rfl
  | x :: es, b, e => by
    show (b, x) :: (x :: (es ++ [e])).zip (es ++ [e]) = (b, x) :: ((x :: es).zip es) ++ [((x :: es).getLastD b, e)]
    rw [zip_snoc es x e, List.getLastD_cons]
    rfl
theorem pre_cut {zs ys : List Str} (ro : RowsOk zs ys) {b e : Nat} (h : b < e) (h2 : e ≤ zs.length) (pb : pre zs ys b = true) : (∀ x, x ∈ (zs.take e).drop b ↔ x ∈ (ys.take e).drop b) ↔ pre zs ys e = true := by
  have sp : ∀ l : List Str, l.take e = l.take b ++ (l.take e).drop b := fun l => by
    have := (List.take_append_drop b (l.take e)).symm
    rw [List.take_take, Nat.min_eq_left (by omega)] at this
    exact this
  have dis : ∀ l : List Str, l.Nodup → ∀ x, x ∈ l.take b → x ∈ (l.take e).drop b → False := fun l nd x hx hy => by
    have nt := nd_take nd e
    rw [sp l] at nt
    have := (List.nodup_append.mp nt).2.2
    exact this x hx x hy rfl
  constructor
  · intro q
    refine pre_iff.mpr fun x hx => ?_
    rw [sp zs] at hx
    rw [sp ys]
    rcases List.mem_append.mp hx with hx | hx
    · exact List.mem_append.mpr (.inl (pre_iff.mp pb x hx))
    · exact List.mem_append.mpr (.inr ((q x).mp hx))
  · intro pe x
    constructor
    · intro hx
      have m := pre_iff.mp pe x (by rw [sp zs]; exact List.mem_append.mpr (.inr hx))
      rw [sp ys] at m
      rcases List.mem_append.mp m with m | m
      · exact absurd hx fun hx => dis zs ro.nd x (pre_back ro pb x m) hx
      · exact m
    · intro hx
      have m := pre_back ro pe x (by rw [sp ys]; exact List.mem_append.mpr (.inr hx))
      rw [sp zs] at m
      rcases List.mem_append.mp m with m | m
      · exact absurd hx fun hx => dis ys ro.symm.nd x (pre_iff.mp pb x m) hx
      · exact m
def spLBlk (K : PySem.W.Frag) : Sp := fun vs H Q _ => ∃ (a b : Addr) (zs ys : List Str), vs = [.ref a, .ref b] ∧ SqL K H a (zs.map V.str) ∧ SqL K H b (ys.map V.str) ∧ RowsOk zs ys ∧ ∀ D acc H', Ext H H' → H' D = some (.lst acc) → RwL K H' acc (blks zs ys) → Q (.ref D) H'
section
variable {P : Program} {w : World} {K : PySem.W.Frag} {mg : Str → Option Value} {base : Heap}
theorem ok_lblk (T : Bn mg) (D : DefAt K mg "_law_blocks" s_lblk) : FnAt P w K mg base 1 "_law_blocks" ["_law_upper", "_law_lower"] (spLBlk K) := by
  refine fnAt D sc_lblk (fun _ _ _ _ _ _ us hl => match us, hl with | [_, _], _ => rfl) (fun vs H Q E h => ?_) fun f cdv A outer s H vs Q E hr h => ?_
  · obtain ⟨a, b, us, ls, rfl, _⟩ := h
    rfl
  obtain ⟨a, b, zs, ys, rfl, ha, hb, ro, k⟩ := h
  have l1 := ro.le
  have l2 := ro.len
  have l3 := ro.ne
  refine ⟨_, (pss_cons (ps_par (i := 2) (j := 3) rfl sc_lblk.nd rfl rfl (by decide) rfl rfl (pa_cons (pe_lst pa_nil) (pa_cons pe_int pa_nil)) (by rfl))
    (pss_cons (ps_for PassesOwn.never rfl (pi_range2 (by rfl) T.b_range (pa_cons pe_int (pa_cons (pe_op op_add (pe_callB call_len_seq (by rfl) T.b_len (by decide +kernel) (pa_cons (pv 0) pa_nil)) pe_int) pa_nil))) (pg_name (i := 4) sc_lblk.nd rfl (Or.inl rfl))
      (pss_one (ps_if (pt_cmpR (show OpR _ _ (rEqT P w) from op_eqT (hu0 hr)) (pe_callTy (show CallR _ _ (rSetT P w K) from cr_setT rfl) (by rfl) T.b_set (by decide +kernel) (pa_cons (pe_slice sl_list (pv 0) (po_some (pv 3)) (po_some (pv 4))) pa_nil)) (pe_callTy (show CallR _ _ (rSetT P w K) from cr_setT rfl) (by rfl) T.b_set (by decide +kernel) (pa_cons (pe_slice sl_list (pv 1) (po_some (pv 3)) (po_some (pv 4))) pa_nil)) (nomark _)) (pss_cons (ps_expr (pe_bm PySem.F.plainAttrs_list PySem.F.slot_list_append PySem.F.type_list_append mt_append (pv 2) (pa_cons (pe_tup (pa_cons (pe_callTy call_tuple_of (by rfl) T.b_tuple (by decide +kernel) (pa_cons (pe_slice sl_list (pv 0) (po_some (pv 3)) (po_some (pv 4))) pa_nil)) (pa_cons (pe_callTy call_tuple_of (by rfl) T.b_tuple (by decide +kernel) (pa_cons (pe_slice sl_list (pv 1) (po_some (pv 3)) (po_some (pv 4))) pa_nil)) pa_nil))) pa_nil)))
    (pss_one (ps_set (i := 3) sc_lblk.nd rfl (Or.inl rfl) (pv 4)))) pss_nil)))
    (pss_one (ps_ret (pv 2))))), ?_⟩
  refine ⟨len_ok (Nat.le_of_ble_eq_true rfl), fun D hD => ⟨_, _, rfl, ?_⟩⟩
  have x0 := ext_new (o := HO.lst []) (ext_refl H) hD
  refine ⟨_, rfl, a, _, rfl, .inl (ha.ext x0), _, _, rfl, rfl, 1, _, rfl, ⟨by decide, by decide, by omega, by rw [List.length_map]; omega⟩, ?_⟩
  have hn : ((((zs.map V.str).length : Nat) : Int) + 1 - 1).toNat = zs.length := by
    rw [List.length_map]
    omega
  rw [hn]
  refine for_it (walk_range (lo := 1) (n := zs.length)) (fun i σ' H' => ∃ (es : List Nat) (acc : List V) (at' : Nat) (u : Option V), σ' = [some (.ref a), some (.ref b), some (.ref D), some (.int (at' : Nat)), u] ∧ Ext H H' ∧ H' D = some (.lst acc) ∧ at' = es.getLastD 0 ∧ at' ≤ i ∧ pre zs ys at' = true ∧ es ++ cutsN zs ys i (zs.length - i) = cuts zs ys ∧ es.length ≤ i ∧ RwL K H' acc (((0 :: es).zip es).map (cutP zs ys)))
    ⟨[], [], 0, none, rfl, x0, upd_same, rfl, Nat.le_refl _, rfl, rfl, Nat.zero_le _, rfl, fun i v hi => by simp at hi⟩ (fun _ _ _ _ _ => trivial) (fun i x σ' H1 H' hi p y => ?_) fun σ' H' p => ?_
  · obtain ⟨rfl, rfl⟩ := y
    obtain ⟨es, acc, at', u, rfl, p1, p2, p3, p4, p5, p6, p7, p8⟩ := p
    dsimp only
    have ei : (1 : Int) + (i : Nat) = ((i + 1 : Nat) : Int) := by omega
    rw [ei]
    have c0 : cutsN zs ys i (zs.length - i) = if pre zs ys (i + 1) = true then (i + 1) :: cutsN zs ys (i + 1) (zs.length - (i + 1)) else cutsN zs ys (i + 1) (zs.length - (i + 1)) := by
      have : zs.length - i = (zs.length - (i + 1)) + 1 := by omega
      rw [this, cutsN]
    have cU := cut_strs (zs := zs) (b := at') (e := i + 1) (by omega) (by omega)
    have cL := cut_strs (zs := ys) (b := at') (e := i + 1) (by omega) (by omega)
    have hA := ha.ext p1
    refine ⟨_, rfl, _, rfl, _, rfl, _, rfl, _, rfl, a, _, rfl, hA, fun q1 hq1 => ?_⟩
    dsimp only [tNil]
    rw [cU]
    have x1 := ext_new (o := HO.lst (((zs.take (i + 1)).drop at').map V.str)) (ext_refl H') hq1
    refine ⟨q1, (zs.take (i + 1)).drop at', rfl, .inl (SqL.of upd_same), by rw [List.length_drop, List.length_take]; omega, fun s1 hs1 => ?_⟩
    have x2 := ext_new (o := SetT P w s1 ((zs.take (i + 1)).drop at')) (ext_refl _) hs1
    have x12 := x1.trans x2
    refine ⟨_, rfl, _, rfl, _, rfl, _, rfl, _, rfl, b, _, rfl, (hb.ext p1).ext x12, fun q2 hq2 => ?_⟩
    dsimp only [tNil]
    rw [cL]
    have x3 := ext_new (o := HO.lst (((ys.take (i + 1)).drop at').map V.str)) (ext_refl _) hq2
    refine ⟨q2, (ys.take (i + 1)).drop at', rfl, .inl (SqL.of upd_same), by rw [List.length_drop, List.length_take]; omega, fun s2 hs2 => ?_⟩
    have x4 := ext_new (o := SetT P w s2 ((ys.take (i + 1)).drop at')) (ext_refl _) hs2
    have x34 := x3.trans x4
    have e4 := x12.trans x34
    refine ⟨s1, s2, _, _, rfl, rfl, x34 _ _ upd_same, upd_same, _, rfl, ite2 (fun c => ?_) (fun c => ?_)⟩
    · have pe := (pre_cut ro (by omega) (by omega) p5).mp ((sameT_iff _ _).mp c)
      rw [c0, if_pos pe] at p6
      generalize upd _ s2 _ = H4 at e4
      have p2' := e4 _ _ p2
      have p8' := p8.ext e4
      have e14 := p1.trans e4
      refine ⟨_, rfl, .inl ⟨rfl, _, SqL.of p2'⟩, ?_⟩
      refine ⟨_, rfl, _, rfl, _, rfl, _, rfl, _, rfl, a, _, rfl, ha.ext e14, fun q3 hq3 => ?_⟩
      dsimp only [tNil]
      rw [cU]
      have x5 := ext_new (o := HO.lst (((zs.take (i + 1)).drop at').map V.str)) (ext_refl H4) hq3
      refine ⟨q3, _, rfl, .inl ⟨SqL.of upd_same, fun t1 ht1 => ?_⟩⟩
      have x6 := ext_new (o := HO.tup (((zs.take (i + 1)).drop at').map V.str)) (ext_refl _) ht1
      have x56 := x5.trans x6
      have ht1' : SqT K (upd (upd H4 q3 (.lst (((zs.take (i + 1)).drop at').map V.str))) t1 (.tup (((zs.take (i + 1)).drop at').map V.str))) t1 (((zs.take (i + 1)).drop at').map V.str) := SqT.of upd_same
      generalize upd (upd H4 q3 (.lst (((zs.take (i + 1)).drop at').map V.str))) t1 (.tup (((zs.take (i + 1)).drop at').map V.str)) = H6 at x56 ht1' ⊢
      refine ⟨_, rfl, _, rfl, _, rfl, _, rfl, _, rfl, b, _, rfl, (hb.ext e14).ext x56, fun q4 hq4 => ?_⟩
      dsimp only [tNil]
      rw [cL]
      have x7 := ext_new (o := HO.lst (((ys.take (i + 1)).drop at').map V.str)) (ext_refl H6) hq4
      refine ⟨q4, _, rfl, .inl ⟨SqL.of upd_same, fun t2 ht2 => ?_⟩⟩
      have x8 := ext_new (o := HO.tup (((ys.take (i + 1)).drop at').map V.str)) (ext_refl _) ht2
      refine ⟨len_ok (Nat.le_of_ble_eq_true rfl), fun q hq => ?_⟩
      have x9 := ext_new (o := HO.tup [V.ref t1, V.ref t2]) (ext_refl _) hq
      have e59 := (x56.trans (x7.trans x8)).trans x9
      have p2'' := e59 _ _ p2'
      have h1 := ht1'.ext ((x7.trans x8).trans x9)
      have h2 : SqT K _ t2 (((ys.take (i + 1)).drop at').map V.str) := (SqT.of (K := K) (upd_same (H := upd H6 q4 (.lst (((ys.take (i + 1)).drop at').map V.str))))).ext x9
      have la : acc.length ≤ 40 := by
        rw [p8.1, List.length_map, List.length_zip]
        omega
      refine ⟨D, acc, _, rfl, rfl, p2'', len_lt (by omega), ?_⟩
      have p9 := ((p8'.ext e59).snoc (q := q) (a := t1) (b := t2) (r := cutP zs ys (at', i + 1)) (SqT.of upd_same) h1 h2).mut (o := .lst (acc ++ [.ref q])) p2''
      refine ⟨_, rfl, es ++ [i + 1], acc ++ [.ref q], i + 1, some (.int ((i + 1 : Nat) : Int)), rfl, ext_mut (e14.trans e59) hD, upd_same, by simp, Nat.le_refl _, pe, ?_, ?_, ?_⟩
      · rw [List.append_assoc]
        exact p6
      · rw [List.length_append]
        exact Nat.succ_le_succ p7
      · rw [zip_snoc, List.map_append, ← p3]
        exact p9
    · have pe : ¬ pre zs ys (i + 1) = true := fun z => c ((sameT_iff _ _).mpr ((pre_cut ro (by omega) (by omega) p5).mpr z))
      rw [c0, if_neg pe] at p6
      exact ⟨es, acc, at', _, rfl, p1.trans e4, e4 _ _ p2, p3, by omega, p5, p6, by omega, p8.ext e4⟩
  · obtain ⟨es, acc, at', u, rfl, p1, p2, p3, p4, p5, p6, p7, p8⟩ := p
    rw [Nat.sub_self, cutsN, List.append_nil] at p6
    subst p6
    exact ⟨_, rfl, k D acc H' p1 p2 p8⟩
end
end My
namespace My
open PySem PySem.Spec PyProof.Rows L2
local macro_rules | `(tactic| walk_at "side") => `(tactic| first | assumption | decide | exact Or.inl ⟨by decide, by decide⟩ | exact Or.inr ⟨by decide, by decide⟩ | exact ⟨by decide, by decide, by decide⟩ | omega | (unfold CMulW; decide +kernel) | (dsimp only; first | assumption | omega | decide +kernel) | exact len_ok (Nat.le_of_ble_eq_true rfl) | fail "side")
local macro_rules | `(tactic| walk_at "rd") => `(tactic| first
  | refine ⟨_, _, _, _, rfl, rfl, SqL.of upd_same, atI_nat (j := 0) rfl, ?_⟩ | refine ⟨_, _, _, _, rfl, rfl, SqL.of upd_same, atI_nat (j := 1) rfl, ?_⟩ | refine ⟨_, _, _, _, rfl, rfl, SqL.of upd_same, atI_nat (j := 2) rfl, ?_⟩
  | refine ⟨_, _, _, _, rfl, rfl, upd_same, rfl, ?_⟩
  | refine ⟨_, _, rfl, rfl, ?_⟩ | refine ⟨_, rfl, ?_⟩ | refine ⟨_, _, rfl, ?_⟩ | refine Or.inl ⟨_, rfl, ?_⟩ | refine Or.inr ⟨_, rfl, ?_⟩ | refine ⟨(by walk_at "side"), ?_⟩ | fail "rd")

abbrev s_oneedless : Stmt := inClass (top 12) 9
theorem sc_oneedless : FnScope ["self", "pairs", "index"] ["self"] (defScope s_oneedless) := ⟨rfl, rfl, rfl, by decide +kernel, rfl, by decide +kernel, by decide +kernel⟩
section
variable {P : Program} {w : World} {K : PySem.W.Frag} {mg : Str → Option Value} {base : Heap} {C : Addr}
/-- the needless pairs among the first names -/
def ndN (zs : List Str) (ps : List Int) : Nat → List (Str × Str)
  | 0 => []
  | k + 1 => if ps.getD (k + 1) 0 = ps.getD k 0 + 1 then ndN zs ps k ++ [(zs.getD k Str.empty, zs.getD (k + 1) Str.empty)] else ndN zs ps k
def ndl (zs ys : List Str) : List (Str × Str) := ndN zs (plc zs ys) (zs.length - 1)
theorem ndN_len (zs : List Str) (ps : List Int) : ∀ k, (ndN zs ps k).length ≤ k
  | 0 => Nat.le_refl _
  | k + 1 => by
    have := ndN_len zs ps k
    rw [ndN]
    split
    · rw [List.length_append]
      exact Nat.succ_le_succ this
    · omega
def prD (u : Str × Str) : PyData := .tuple [.str u.1, .str u.2]
/-- a row of new pairs of texts -/
def PrL (H : Hp) (acc : List V) (l : List (Str × Str)) : Prop := acc.length = l.length ∧ ∀ (i : Nat) (v : V), acc[i]? = some v → ∃ (q : Addr) (u : Str × Str), v = V.ref q ∧ l[i]? = some u ∧ H q = some (.tup [.str u.1, .str u.2])
theorem PrL.nil {H : Hp} : PrL H [] [] := ⟨rfl, fun i v h => by simp at h⟩
theorem PrL.ext {H H' : Hp} {acc : List V} {l : List (Str × Str)} (h : PrL H acc l) (e : Ext H H') : PrL H' acc l := ⟨h.1, fun i v hi => let ⟨q, u, a, b, c⟩ := h.2 i v hi; ⟨q, u, a, b, e _ _ c⟩⟩
theorem PrL.mut {H : Hp} {acc xs : List V} {l : List (Str × Str)} {D : Addr} {o : HO} (h : PrL H acc l) (hD : H D = some (.lst xs)) : PrL (upd H D o) acc l := ⟨h.1, fun i v hi => let ⟨q, u, a, b, c⟩ := h.2 i v hi; ⟨q, u, a, b, by
  rw [upd_ne fun z => by rw [z, hD] at c; cases c]
  exact c⟩⟩
theorem PrL.snoc {H : Hp} {acc : List V} {l : List (Str × Str)} {q : Addr} {u : Str × Str} (h : PrL H acc l) (hq : H q = some (.tup [.str u.1, .str u.2])) : PrL H (acc ++ [.ref q]) (l ++ [u]) :=
  ⟨by rw [List.length_append, List.length_append, h.1]; rfl, fun i v hi => by
    by_cases hl : i < acc.length
    · rw [List.getElem?_append_left hl] at hi
      obtain ⟨q', u', a, b, c⟩ := h.2 i v hi
      exact ⟨q', u', a, by rw [List.getElem?_append_left (by rw [← h.1]; exact hl)]; exact b, c⟩
    · rw [List.getElem?_append_right (by omega)] at hi
      have e : i - acc.length = 0 := by
        have := (List.getElem?_eq_some_iff.mp hi).1
        simp at this
        omega
      rw [e] at hi
      cases hi
      exact ⟨q, u, rfl, by rw [List.getElem?_append_right (by rw [← h.1]; omega), ← h.1, e]; rfl, hq⟩⟩
theorem PrL.dp {K : PySem.W.Frag} {H : Hp} : ∀ {acc : List V} {l : List (Str × Str)}, PrL H acc l → DpAll K H acc (l.map prD)
  | [], [], _ => .nil
  | [], _ :: _, h => by have := h.1; simp at this
  | _ :: _, [], h => by have := h.1; simp at this
  | v :: acc, u :: l, h => by
    obtain ⟨q, u', a, b, c⟩ := h.2 0 v rfl
    cases b
    subst a
    refine .cons (.tup (SqT.of c) (.cons (.str _) (.cons (.str _) .nil))) (PrL.dp ⟨by have := h.1; simp at this; exact this, fun i v hi => h.2 (i + 1) v hi⟩)
def spNeedless (K : PySem.W.Frag) (C : Addr) : Sp := fun vs H Q _ => ∃ o zs ys, vs = [.ref o] ∧ OrdAt K C H o zs ys ∧ ∀ p acc H', Ext H H' → SqT K H' p acc → PrL H' acc (ndl zs ys) → Q (.ref p) H'
theorem ok_oneedless (T : Bn mg) (D : PropT K C "needless" "Order.needless" s_oneedless) (OT : OrdT K mg C) : PropAt P w K mg base 1 C "needless" (spNeedless K C) := by
  refine propAt D sc_oneedless (fun _ _ _ _ _ _ us hl => match us, hl with | [_], _ => rfl) (fun vs H Q E h => ?_) fun f cdv A outer s H vs Q E hr h => ?_
  · obtain ⟨o, zs, ys, rfl, _⟩ := h
    rfl
  obtain ⟨o, zs, ys, rfl, ⟨dx, a, b, c, e, ha, hb, hc, ro⟩, k⟩ := h
  have l1 := ro.le
  refine ⟨_, (pss_cons (ps_set (i := 1) sc_oneedless.nd rfl (Or.inl rfl) (pe_lst pa_nil))
    (pss_cons (ps_for PassesOwn.never rfl (pi_range2 (by rfl) T.b_range (pa_cons pe_int (pa_cons (pe_callB call_len_seq (by rfl) T.b_len (by decide +kernel) (pa_cons (pe_fld (pv 0) rfl) pa_nil)) pa_nil))) (pg_name (i := 2) sc_oneedless.nd rfl (Or.inl rfl))
      (pss_one (ps_if (pt_cmpR op_eq (pe_ix ix_tup (pe_fld (pv 0) rfl) (pv 2) (fun _ _ => rfl)) (pe_op op_add (pe_ix ix_tup (pe_fld (pv 0) rfl) (pe_op op_sub (pv 2) pe_int) (fun _ _ => rfl)) pe_int) (nomark _)) (pss_one (ps_expr (pe_bm PySem.F.plainAttrs_list PySem.F.slot_list_append PySem.F.type_list_append mt_append (pv 1) (pa_cons (pe_tup (pa_cons (pe_ix ix_tup (pe_fld (pv 0) rfl) (pe_op op_sub (pv 2) pe_int) (fun _ _ => rfl)) (pa_cons (pe_ix ix_tup (pe_fld (pv 0) rfl) (pv 2) (fun _ _ => rfl)) pa_nil))) pa_nil)))) pss_nil)))
    (pss_one (ps_ret (pe_callTy call_tuple_of (by rfl) T.b_tuple (by decide +kernel) (pa_cons (pv 1) pa_nil)))))), ?_⟩
  refine ⟨len_ok (Nat.le_of_ble_eq_true rfl), fun D hD => ?_⟩
  have x1 := ext_new (o := HO.lst []) (ext_refl H) hD
  have lp : (plc zs ys).length = zs.length := by unfold plc; rw [List.length_map]
  refine ⟨_, rfl, o, C, dx, _, _, rfl, x1 _ _ e, OT.cl, OT.nA, ofs_a a b c, a, _, rfl, .inr (ha.ext x1), 1, _, rfl, ⟨by decide, by decide, by omega, by rw [List.length_map]; omega⟩, ?_⟩
  have hn : (((zs.map V.str).length : Nat) : Int) - 1 = ((zs.length - 1 : Nat) : Int) := by
    rw [List.length_map]
    have := ro.ne
    omega
  rw [hn, Int.toNat_natCast]
  refine for_it (walk_range (lo := 1) (n := zs.length - 1)) (fun i σ' H' => ∃ (acc : List V) (u : Option V), σ' = [some (.ref o), some (.ref D), u] ∧ Ext H H' ∧ H' D = some (.lst acc) ∧ PrL H' acc (ndN zs (plc zs ys) i))
    ⟨[], none, rfl, x1, upd_same, .nil⟩ (fun _ _ _ _ _ => trivial) (fun i x σ' H1 H' hi p y => ?_) fun σ' H' p => ?_
  · obtain ⟨rfl, rfl⟩ := y
    obtain ⟨acc, u, rfl, p1, p2, p3⟩ := p
    have ei : (1 : Int) + (i : Nat) = ((i + 1 : Nat) : Int) := by omega
    dsimp only
    rw [ei]
    have e' := p1 _ _ e
    have g1 : ((plc zs ys).map V.int)[i + 1]? = some (.int ((plc zs ys).getD (i + 1) 0)) := by
      rw [List.getElem?_map, List.getD_eq_getElem?_getD, List.getElem?_eq_getElem (by omega)]
      rfl
    have g0 : ((plc zs ys).map V.int)[i]? = some (.int ((plc zs ys).getD i 0)) := by
      rw [List.getElem?_map, List.getD_eq_getElem?_getD, List.getElem?_eq_getElem (by omega)]
      rfl
    have a1 : (zs.map V.str)[i + 1]? = some (.str (zs.getD (i + 1) Str.empty)) := by
      rw [List.getElem?_map, List.getD_eq_getElem?_getD, List.getElem?_eq_getElem (by omega)]
      rfl
    have a0 : (zs.map V.str)[i]? = some (.str (zs.getD i Str.empty)) := by
      rw [List.getElem?_map, List.getD_eq_getElem?_getD, List.getElem?_eq_getElem (by omega)]
      rfl
    have em : ((i + 1 : Nat) : Int) - 1 = ((i : Nat) : Int) := by omega
    have h0 : ∀ {l : List V} {v : V}, l[i]? = some v → atI l (((i + 1 : Nat) : Int) - 1) = some v := fun h => by
      rw [em]
      exact atI_nat h
    refine ⟨_, rfl, o, C, dx, _, _, rfl, e', OT.cl, OT.nP, ofs_p a b c, _, rfl, _, _, _, _, rfl, rfl, hc.ext p1, atI_nat g1, ?_⟩
    refine ⟨_, rfl, o, C, dx, _, _, rfl, e', OT.cl, OT.nP, ofs_p a b c, _, rfl, _, _, rfl, rfl, _, _, _, _, rfl, rfl, hc.ext p1, h0 g0, _, _, rfl, rfl, rfl, _, rfl, ?_⟩
    have ec : decide (V.int ((plc zs ys).getD (i + 1) 0) = .int ((plc zs ys).getD i 0 + 1)) = decide ((plc zs ys).getD (i + 1) 0 = (plc zs ys).getD i 0 + 1) := by
      rw [dec_int]
      rfl
    rw [ec]
    refine ite2 (fun c1 => ?_) (fun c1 => ?_)
    · have c' := of_decide_eq_true c1
      refine ⟨_, rfl, .inl ⟨rfl, _, SqL.of p2⟩, ?_⟩
      refine ⟨_, rfl, o, C, dx, _, _, rfl, e', OT.cl, OT.nA, ofs_a a b c, _, rfl, _, _, rfl, rfl, _, _, _, _, rfl, rfl, ha.ext p1, h0 a0, ?_⟩
      refine ⟨_, rfl, o, C, dx, _, _, rfl, e', OT.cl, OT.nA, ofs_a a b c, _, rfl, _, _, _, _, rfl, rfl, ha.ext p1, atI_nat a1, ?_⟩
      refine ⟨len_ok (Nat.le_of_ble_eq_true rfl), fun q hq => ?_⟩
      have x2 := ext_new (o := HO.tup [V.str (zs.getD i Str.empty), V.str (zs.getD (i + 1) Str.empty)]) (ext_refl H') hq
      have p2' := x2 _ _ p2
      have len := ndN_len zs (plc zs ys) i
      refine ⟨D, acc, _, rfl, rfl, p2', ?_, ?_⟩
      · rw [p3.1]
        exact len_lt (by omega)
      · refine ⟨_, _, rfl, ext_mut (p1.trans x2) hD, upd_same, ?_⟩
        rw [ndN, if_pos c']
        exact ((p3.ext x2).snoc (u := (_, _)) upd_same).mut p2'
    · have c' : ¬ (plc zs ys).getD (i + 1) 0 = (plc zs ys).getD i 0 + 1 := fun z => c1 (decide_eq_true z)
      refine ⟨acc, _, rfl, p1, p2, ?_⟩
      rw [ndN, if_neg c']
      exact p3
  · obtain ⟨acc, u, rfl, p1, p2, p3⟩ := p
    refine ⟨_, rfl, D, _, rfl, .inl ⟨SqL.of p2, fun l hl => ?_⟩⟩
    have x2 := ext_new (o := HO.tup acc) (ext_refl H') hl
    exact k l acc _ (p1.trans x2) (SqT.of upd_same) (p3.ext x2)
end
end My
namespace My
open PySem PySem.Spec PyProof.Rows L2
local macro_rules | `(tactic| walk_at "side") => `(tactic| first | assumption | decide | exact Or.inl ⟨by decide, by decide⟩ | exact Or.inr ⟨by decide, by decide⟩ | exact ⟨by decide, by decide, by decide⟩ | omega | (unfold CMulW; decide +kernel) | (dsimp only; first | assumption | omega | decide +kernel) | exact len_ok (Nat.le_of_ble_eq_true rfl) | fail "side")
local macro_rules | `(tactic| walk_at "rd") => `(tactic| first
  | refine ⟨_, _, _, _, rfl, rfl, SqL.of upd_same, atI_nat (j := 0) rfl, ?_⟩ | refine ⟨_, _, _, _, rfl, rfl, SqL.of upd_same, atI_nat (j := 1) rfl, ?_⟩ | refine ⟨_, _, _, _, rfl, rfl, SqL.of upd_same, atI_nat (j := 2) rfl, ?_⟩
  | refine ⟨_, _, _, _, rfl, rfl, upd_same, rfl, ?_⟩
  | refine ⟨_, _, rfl, rfl, ?_⟩ | refine ⟨_, rfl, ?_⟩ | refine ⟨_, _, rfl, ?_⟩ | refine Or.inl ⟨_, rfl, ?_⟩ | refine Or.inr ⟨_, rfl, ?_⟩ | refine ⟨(by walk_at "side"), ?_⟩ | fail "rd")

abbrev s_lndl : Stmt := top 24
theorem sc_lndl : FnScope ["_law_upper", "_law_lower", "_law_pairs", "_law_at"] ["_law_upper", "_law_lower"] (defScope s_lndl) := ⟨rfl, rfl, rfl, by decide +kernel, rfl, by decide +kernel, by decide +kernel⟩
theorem hu65 {A : Around} {k : Nat} (hr : Room k A) : A.units + 65 < cLine := by
  have := hr.un
  omega
def adjN (ys : List Str) (k : Nat) : List (Str × Str) := (List.range k).map fun i => (ys.getD i Str.empty, ys.getD (i + 1) Str.empty)
theorem adj_iff {zs ys : List Str} (ro : RowsOk zs ys) {k : Nat} (h : k + 1 < zs.length) : ((zs.getD k Str.empty, zs.getD (k + 1) Str.empty) ∈ adjN ys (ys.length - 1)) ↔ (plc zs ys).getD (k + 1) 0 = (plc zs ys).getD k 0 + 1 := by
  have hl := ro.len
  have gz : ∀ j (hj : j < zs.length), zs.getD j Str.empty = zs[j] := fun j hj => by rw [List.getD_eq_getElem?_getD, List.getElem?_eq_getElem hj]; rfl
  have gy : ∀ j (hj : j < ys.length), ys.getD j Str.empty = ys[j] := fun j hj => by rw [List.getD_eq_getElem?_getD, List.getElem?_eq_getElem hj]; rfl
  have gp : ∀ j (hj : j < zs.length), (plc zs ys).getD j 0 = ((pos ys zs[j] : Nat) : Int) := fun j hj => by
    rw [List.getD_eq_getElem?_getD, List.getElem?_eq_getElem (by rw [plc_len]; exact hj), plc_at (by rw [plc_len]; exact hj)]
    rfl
  rw [gp _ h, gp k (by omega), gz _ h, gz k (by omega)]
  unfold adjN
  rw [List.mem_map]
  constructor
  · rintro ⟨j, hj, e⟩
    have hj' := List.mem_range.mp hj
    rw [gy j (by omega), gy (j + 1) (by omega)] at e
    have e1 : ys[j]'(by omega) = zs[k]'(by omega) := congrArg Prod.fst e
    have e2 : ys[j + 1]'(by omega) = zs[k + 1] := congrArg Prod.snd e
    rw [← e1, ← e2, pos_at ro.symm.nd (by omega), pos_at ro.symm.nd (by omega)]
    omega
  · intro e
    have m0 : zs[k]'(by omega) ∈ ys := ro.pm.mem_iff.mpr (List.getElem_mem _)
    have m1 : zs[k + 1] ∈ ys := ro.pm.mem_iff.mpr (List.getElem_mem _)
    have p1 := pos_lt m1
    have g0 := pos_get m0
    have g1 := pos_get m1
    have ee : pos ys zs[k + 1] = pos ys (zs[k]'(by omega)) + 1 := by omega
    refine ⟨pos ys (zs[k]'(by omega)), List.mem_range.mpr (by omega), ?_⟩
    rw [gy _ (by omega), gy _ (by omega)]
    rw [List.getElem?_eq_getElem (by omega)] at g0 g1
    have a0 := Option.some.inj g0
    have a1 := Option.some.inj g1
    rw [a0]
    simp only [← ee]
    rw [a1]
theorem any_adj {ys : List Str} {u : Str × Str} {l : List (Str × Str)} (hl : ∀ p ∈ l, PyData.strOk p.1 = true ∧ PyData.strOk p.2 = true) (hu : PyData.strOk u.1 = true ∧ PyData.strOk u.2 = true) : ((l.map prD).any fun z => PyData.eqv z (prD u)) = decide (u ∈ l) := by
  have px : ∀ p : Str × Str, PyData.strOk p.1 = true ∧ PyData.strOk p.2 = true → pl 2 (prD p) = true := fun p h => by
    unfold prD pl
    simp [pl, h.1, h.2]
  rw [Bool.eq_iff_iff, List.any_eq_true, decide_eq_true_iff]
  constructor
  · rintro ⟨d, hd, e⟩
    obtain ⟨p, hp, rfl⟩ := List.mem_map.mp hd
    have := (eqv_pl 2 _ _ (px p (hl p hp)) (px u hu)).mp e
    unfold prD at this
    injection this with this
    injection this with a1 a2
    injection a2 with a2 _
    injection a1 with a1
    injection a2 with a2
    have : p = u := Prod.ext a1 a2
    rw [← this]
    exact hp
  · intro h
    exact ⟨prD u, List.mem_map.mpr ⟨u, h, rfl⟩, (eqv_pl 2 _ _ (px u hu) (px u hu)).mpr rfl⟩
theorem PrL.keep {H H' : Hp} {acc xs : List V} {l : List (Str × Str)} {D : Addr} (h : PrL H acc l) (hD : H D = some (.lst xs)) (kk : ∀ a u, H a = some u → a ≠ D → H' a = some u) : PrL H' acc l := ⟨h.1, fun i v hi => let ⟨q, u, a, b, c⟩ := h.2 i v hi; ⟨q, u, a, b, kk _ _ c fun z => by rw [z, hD] at c; cases c⟩⟩
theorem adjN_succ (ys : List Str) (k : Nat) : adjN ys (k + 1) = adjN ys k ++ [(ys.getD k Str.empty, ys.getD (k + 1) Str.empty)] := by
  unfold adjN
  rw [List.range_succ, List.map_append]
  rfl
theorem adjN_len (ys : List Str) (k : Nat) : (adjN ys k).length = k := by
  unfold adjN
  rw [List.length_map, List.length_range]
def spLNdl (K : PySem.W.Frag) : Sp := fun vs H Q _ => ∃ (a b : Addr) (zs ys : List Str), vs = [.ref a, .ref b] ∧ SqL K H a (zs.map V.str) ∧ SqL K H b (ys.map V.str) ∧ RowsOk zs ys ∧ ∀ D acc H', Ext H H' → H' D = some (.lst acc) → PrL H' acc (ndl zs ys) → Q (.ref D) H'
section
variable {P : Program} {w : World} {K : PySem.W.Frag} {mg : Str → Option Value} {base : Heap}
theorem ok_lndl (T : Bn mg) (D : DefAt K mg "_law_needless" s_lndl) : FnAt P w K mg base 1 "_law_needless" ["_law_upper", "_law_lower"] (spLNdl K) := by
  refine fnAt D sc_lndl (fun _ _ _ _ _ _ us hl => match us, hl with | [_, _], _ => rfl) (fun vs H Q E h => ?_) fun f cdv A outer s H vs Q E hr h => ?_
  · obtain ⟨a, b, us, ls, rfl, _⟩ := h
    rfl
  obtain ⟨a, b, zs, ys, rfl, ha, hb, ro, k⟩ := h
  have l1 := ro.le
  have l2 := ro.len
  have l3 := ro.ne
  refine ⟨_, (pss_cons (ps_set (i := 2) sc_lndl.nd rfl (Or.inr rfl) (pe_lc (own := [("_law_at", 3)]) (g := gName 3) (tt := tYes) rfl sc_lndl.nd (pi_range1 (by rfl) T.b_range (pa_cons (pe_op op_sub (pe_callB call_len_seq (by rfl) T.b_len (by decide +kernel) (pa_cons (pv 1) pa_nil)) pe_int) pa_nil)) (blkOk_by (N := ["_law_upper", "_law_lower", "_law_pairs", "_law_at"]) (sc := defScope s_lndl) (by decide +kernel)) (fun _ _ _ _ _ => pg_name (i := 3) sc_lndl.nd rfl (Or.inl rfl)) (fun _ _ _ _ _ => pts_nil) (fun _ _ _ _ _ => (pe_tup (pa_cons (pe_ix (show IxR _ (rIxL K) from ix_list) (pv 1) (pv 3) (fun _ _ => rfl)) (pa_cons (pe_ix (show IxR _ (rIxL K) from ix_list) (pv 1) (pe_op op_add (pv 3) pe_int) (fun _ _ => rfl)) pa_nil))))))
    (pss_one (ps_ret (pe_lc (own := [("_law_at", 3)]) (g := gName 3) (tt := _) rfl sc_lndl.nd (pi_range1 (by rfl) T.b_range (pa_cons (pe_op op_sub (pe_callB call_len_seq (by rfl) T.b_len (by decide +kernel) (pa_cons (pv 0) pa_nil)) pe_int) pa_nil)) (blkOk_by (N := ["_law_upper", "_law_lower", "_law_pairs", "_law_at"]) (sc := defScope s_lndl) (by decide +kernel)) (fun _ _ _ _ _ => pg_name (i := 3) sc_lndl.nd rfl (Or.inl rfl)) (fun _ _ _ _ _ => pts_one (pt_cmpR (show OpR _ _ (rInD K) from op_inD (hu65 hr)) (pe_tup (pa_cons (pe_ix (show IxR _ (rIxL K) from ix_list) (pv 0) (pv 3) (fun _ _ => rfl)) (pa_cons (pe_ix (show IxR _ (rIxL K) from ix_list) (pv 0) (pe_op op_add (pv 3) pe_int) (fun _ _ => rfl)) pa_nil))) (pv 2) rfl)) (fun _ _ _ _ _ => (pe_tup (pa_cons (pe_ix (show IxR _ (rIxL K) from ix_list) (pv 0) (pv 3) (fun _ _ => rfl)) (pa_cons (pe_ix (show IxR _ (rIxL K) from ix_list) (pv 0) (pe_op op_add (pv 3) pe_int) (fun _ _ => rfl)) pa_nil)))))))), ?_⟩
  refine ⟨_, rfl, b, _, rfl, .inl hb, _, _, rfl, rfl, _, rfl, by rw [List.length_map]; omega, by rw [List.length_map]; omega, fun D1 hD1 => ?_⟩
  have hn : ((((ys.map V.str).length : Nat) : Int) - 1).toNat = ys.length - 1 := by
    rw [List.length_map]
    omega
  dsimp only
  rw [hn]
  have e0 : ∀ j : Nat, (0 : Int) + (j : Nat) = ((j : Nat) : Int) := fun j => by omega
  have e1 : ∀ j : Nat, (0 : Int) + (j : Nat) + 1 = ((j + 1 : Nat) : Int) := fun j => by omega
  have gg : ∀ (l : List Str) (j : Nat), j < l.length → (l.map V.str)[j]? = some (.str (l.getD j Str.empty)) := fun l j hj => by
    rw [List.getElem?_map, List.getD_eq_getElem?_getD, List.getElem?_eq_getElem hj]
    rfl
  refine made_range (n := ys.length - 1) (fun acc H' => PrL H' acc (adjN ys acc.length)) (fun acc Ha Hb p hl kk => let ⟨l, hl'⟩ := hl; p.keep hl' kk) hD1 (by omega) (fun _ => rfl) (fun H' => PrL.nil) (fun i H' acc hi e hl pv Q' k' => ?_) fun H1 acc e hD' hl pv => ?_
  · refine ⟨_, rfl, _, rfl, _, _, _, _, rfl, rfl, hb.ext e, by rw [e0]; exact atI_nat (gg ys i (by omega)), _, rfl, _, rfl, _, _, rfl, rfl, _, _, _, _, rfl, rfl, hb.ext e, by rw [e1]; exact atI_nat (gg ys (i + 1) (by omega)), len_ok (Nat.le_of_ble_eq_true rfl), fun q hq => ?_⟩
    have x2 := ext_new (o := HO.tup [V.str (ys.getD i Str.empty), V.str (ys.getD (i + 1) Str.empty)]) (ext_refl H') hq
    refine k' (.ref q) _ x2 ?_
    rw [List.length_append, hl]
    show PrL _ _ (adjN ys (i + 1))
    rw [adjN_succ]
    rw [hl] at pv
    exact (pv.ext x2).snoc (u := (_, _)) upd_same
  · rw [hl] at pv
    refine ⟨_, rfl, a, _, rfl, .inl (ha.ext e), _, _, rfl, rfl, _, rfl, by rw [List.length_map]; omega, by rw [List.length_map]; omega, fun D2 hD2 => ?_⟩
    have hn2 : ((((zs.map V.str).length : Nat) : Int) - 1).toNat = zs.length - 1 := by
      rw [List.length_map]
      omega
    dsimp only
    rw [hn2]
    have okz : ∀ z ∈ zs, PyData.strOk z = true := fun z hz => nm_ok (ro.nm z hz)
    have gok : ∀ (l : List Str), (∀ z ∈ l, PyData.strOk z = true) → ∀ j, j < l.length → PyData.strOk (l.getD j Str.empty) = true := fun l h j hj => by
      rw [List.getD_eq_getElem?_getD, List.getElem?_eq_getElem hj]
      exact h _ (List.getElem_mem _)
    have oka : ∀ p ∈ adjN ys (ys.length - 1), PyData.strOk p.1 = true ∧ PyData.strOk p.2 = true := fun p hp => by
      unfold adjN at hp
      obtain ⟨j, hj, rfl⟩ := List.mem_map.mp hp
      have hj' := List.mem_range.mp hj
      have oky : ∀ z ∈ ys, PyData.strOk z = true := fun z hz => okz z (ro.pm.mem_iff.mp hz)
      exact ⟨gok ys oky j (by omega), gok ys oky (j + 1) (by omega)⟩
    have plp : ∀ p : Str × Str, PyData.strOk p.1 = true ∧ PyData.strOk p.2 = true → pl 2 (prD p) = true := fun p h => by
      unfold prD pl
      simp [pl, h.1, h.2]
    have pll : pl 3 (.list ((adjN ys (ys.length - 1)).map prD)) = true := by
      show ((adjN ys (ys.length - 1)).map prD).all (pl 2) = true
      rw [List.all_map]
      exact List.all_eq_true.mpr fun p hp => plp p (oka p hp)
    refine lc_it (walk_range (lo := 0) (n := zs.length - 1)) (fun i H' => Ext H1 H' ∧ ∃ acc2 : List V, H' D2 = some (.lst acc2) ∧ PrL H' acc2 (ndN zs (plc zs ys) i))
      ⟨ext_new (ext_refl H1) hD2, [], upd_same, PrL.nil⟩ (fun _ _ _ _ => trivial) (fun i x H2 H' hi p y => ?_) fun H' p => ?_
    · obtain ⟨rfl, rfl⟩ := y
      obtain ⟨p1, acc2, p2, p3⟩ := p
      have ha' := ha.ext (e.trans p1)
      refine ⟨rfl, ?_⟩
      refine ⟨_, rfl, _, rfl, _, _, _, _, rfl, rfl, ha', by rw [e0]; exact atI_nat (gg zs i (by omega)), _, rfl, _, rfl, _, _, rfl, rfl, _, _, _, _, rfl, rfl, ha', by rw [e1]; exact atI_nat (gg zs (i + 1) (by omega)), len_ok (Nat.le_of_ble_eq_true rfl), fun q hq => ?_⟩
      have x2 := ext_new (o := HO.tup [V.str (zs.getD i Str.empty), V.str (zs.getD (i + 1) Str.empty)]) (ext_refl H') hq
      have hu : PyData.strOk (zs.getD i Str.empty) = true ∧ PyData.strOk (zs.getD (i + 1) Str.empty) = true := ⟨gok zs okz i (by omega), gok zs okz (i + 1) (by omega)⟩
      refine ⟨_, rfl, prD (zs.getD i Str.empty, zs.getD (i + 1) Str.empty), _, .tup (SqT.of upd_same) (.cons (.str _) (.cons (.str _) .nil)), .lst (SqL.of ((p1.trans x2) _ _ hD')) (PrL.dp (pv.ext (p1.trans x2))), pl_shaped (by decide) (plp _ hu), pl_shaped (by decide) pll, ?_⟩
      rw [any_adj (ys := ys) oka hu]
      have p2' := x2 _ _ p2
      have p3' := p3.ext x2
      have p12 := p1.trans x2
      generalize upd H' q (HO.tup [V.str (zs.getD i Str.empty), V.str (zs.getD (i + 1) Str.empty)]) = H3 at x2 p2' p3' p12 ⊢
      refine ⟨_, rfl, ite2 (fun c => ?_) (fun c => ?_)⟩
      · have c' := (adj_iff ro (by omega)).mp (of_decide_eq_true c)
        refine ⟨_, rfl, _, rfl, _, _, _, _, rfl, rfl, ha'.ext x2, by rw [e0]; exact atI_nat (gg zs i (by omega)), _, rfl, _, rfl, _, _, rfl, rfl, _, _, _, _, rfl, rfl, ha'.ext x2, by rw [e1]; exact atI_nat (gg zs (i + 1) (by omega)), len_ok (Nat.le_of_ble_eq_true rfl), fun q2 hq2 => ?_⟩
        have x4 := ext_new (o := HO.tup [V.str (zs.getD i Str.empty), V.str (zs.getD (i + 1) Str.empty)]) (ext_refl H3) hq2
        have p2'' := x4 _ _ p2'
        have ln := ndN_len zs (plc zs ys) i
        refine ⟨acc2, p2'', len_lt (by rw [p3.1]; omega), ext_mut (p12.trans x4) hD2, acc2 ++ [.ref q2], upd_same, ?_⟩
        rw [ndN, if_pos c']
        exact ((p3'.ext x4).snoc (u := (_, _)) upd_same).mut p2''
      · have c' : ¬ (plc zs ys).getD (i + 1) 0 = (plc zs ys).getD i 0 + 1 := fun z => c (decide_eq_true ((adj_iff ro (by omega)).mpr z))
        refine ⟨p12, acc2, p2', ?_⟩
        rw [ndN, if_neg c']
        exact p3'
    · obtain ⟨p1, acc2, p2, p3⟩ := p
      exact k D2 acc2 H' (e.trans p1) p2 p3
end
end My
/-! len(x), v in x, v not in x: x of an own class with __len__, __contains__ -/
namespace My
open PySem PySem.Spec PyProof.Rows L2
section
variable {X : Cx} {CX : CXT} {k : Nat} {f C : Addr} {fd : FuncData} {ps : List Str} {sp : Sp} {E : XK}
def rLenOwn (C : Addr) (sp : Sp) (E : XK) : List V → Hp → VK → Prop := fun xs H Q => ∃ a dx fs, xs = [.ref a] ∧ H a = some (.ins C dx fs) ∧ sp [.ref a] H (fun v H' => ∃ n : Nat, v = .int (n : Nat) ∧ n ≤ 1000000 ∧ Q (.int (n : Nat)) H') E
theorem call_lenOwn (hs : PySem.W.findIn X.K (.ref C) "__len__" = some (some (.ref f))) (hf : PySem.W.isFn X.K (.ref f) = true) (F : FnOk X.prog X.w X.K X.mg X.base CX k f fd ps sp) (hr : Room (k + 1) X.A) (hb : Binds X.K fd ps []) (hx : Passes CX X E) : CallR X (.builtin "len") (rLenOwn C sp E) := by
  intro pins s σ H xs us Q I r h
  obtain ⟨a, dx, fs, rfl, ea, hsp⟩ := h
  rw [Vals.ref1 r]
  obtain ⟨mA, O, _⟩ := ins_get I.hok ea
  obtain ⟨od, J, _⟩ := O.look
  obtain ⟨m, hF⟩ := I.fr
  refine PySem.W.len_K hF I.ok.mod.kin J hs hf ?_
  refine wpAny_call ?_
  have hl : ([Value.ref a] : List Value).length = ps.length := F.len _ _ _ _ hsp
  have bd : BindsTo s fd ⟨[.ref a], []⟩ (ps.zip [.ref a]) := by
    have z := hb s [.ref a] I.kIn (by rw [List.append_nil]; exact hl)
    rw [List.append_nil] at z
    exact z
  refine codeAny_mono (F.run X.A.in1 X.stack s H ⟨[.ref a], []⟩ [.ref a] [.ref a] _ E hr.in1 I.env0.in1 bd (.cons rfl .nil) hsp) fun r2 s2 hq => ?_
  match r2, hq with
  | .error er, hq => exact hx pins σ H _ er s2 I hq
  | .ok (.ret u), hq =>
    obtain ⟨z, H', I', rz, n, ez, hn, q⟩ := I.after hq
    subst ez
    obtain ⟨t, rfl⟩ := rz
    exact ⟨⟨by omega, by omega⟩, .int (n : Nat), H', I'.tok _, ⟨_, rfl⟩, q⟩
/-- v in x -/
def rInOwn (C : Addr) (sp : Sp) (E : XK) (g : Bool → Bool) : R2 := fun y x H Q => ∃ a dx fs, x = .ref a ∧ H a = some (.ins C dx fs) ∧ sp [.ref a, y] H (fun v H' => ∃ b, v = .bl b ∧ Q (.bl (g b)) H') E
theorem op_inOwn (hs : PySem.W.findIn X.K (.ref C) "__contains__" = some (some (.ref f))) (hf : PySem.W.isFn X.K (.ref f) = true) (F : FnOk X.prog X.w X.K X.mg X.base CX k f fd ps sp) (hr : Room k X.A) (hb : Binds X.K fd ps []) (hx : Passes CX X E) : OpR X (compareOp .In) (rInOwn C sp E id) := by
  intro pins s σ H y x u v Q I ry rx h
  obtain ⟨a, dx, fs, rfl, ea, hsp⟩ := h
  cases rx
  obtain ⟨mA, O, _⟩ := ins_get I.hok ea
  obtain ⟨od, J, _⟩ := O.look
  obtain ⟨m, hF⟩ := I.fr
  refine PySem.W.in_K hF I.ok.mod.kin J hs hf ?_
  refine thn (run_fn (us := [.ref a, u]) (vs := [.ref a, y]) (dvs := []) (ds := []) F hr hb .nil hx I (.cons rfl (.cons ry .nil)) hsp) fun w s' hw => ?_
  obtain ⟨z, H', I', rz, b, ez, q⟩ := hw
  subst ez
  cases rz
  exact wpAny_truthy_bool ⟨.bl b, H', I', rfl, q⟩
theorem op_notInOwn (hs : PySem.W.findIn X.K (.ref C) "__contains__" = some (some (.ref f))) (hf : PySem.W.isFn X.K (.ref f) = true) (F : FnOk X.prog X.w X.K X.mg X.base CX k f fd ps sp) (hr : Room k X.A) (hb : Binds X.K fd ps []) (hx : Passes CX X E) : OpR X (compareOp .NotIn) (rInOwn C sp E not) := by
  intro pins s σ H y x u v Q I ry rx h
  obtain ⟨a, dx, fs, rfl, ea, hsp⟩ := h
  cases rx
  obtain ⟨mA, O, _⟩ := ins_get I.hok ea
  obtain ⟨od, J, _⟩ := O.look
  obtain ⟨m, hF⟩ := I.fr
  refine PySem.W.notIn_K hF I.ok.mod.kin J hs hf ?_
  refine thn (run_fn (us := [.ref a, u]) (vs := [.ref a, y]) (dvs := []) (ds := []) F hr hb .nil hx I (.cons rfl (.cons ry .nil)) hsp) fun w s' hw => ?_
  obtain ⟨z, H', I', rz, b, ez, q⟩ := hw
  subst ez
  cases rz
  exact wpAny_truthy_bool ⟨.bl (!b), H', I', rfl, q⟩
end
end My
/-! v in a tuple of texts, v of any kind -/
namespace My
open PySem PySem.Spec PyProof.Rows L2
open SeqAt MeetsSeq
open AutoSeq1 (wpAny_loadPart')
section
variable {prog : Program} {w : World} {A : Around} {s : Shared} {E : Value → Shared → Prop}
theorem str_declines_dict (b : Str) (u : Tok) (l : Addr) (es : Array DictEntry) (ep : Nat) (dd : Option Addr) (sl : Array (Option Value)) :
    Meets (Builtin.«str.__eq__» ⟨[.str b u, .ref l], []⟩) (fun _ R s => s.heap.get? l = some { cls := .type "dict", dict := dd, data := .dict es ep, slots := sl } ∧ R (.ok (.ret .notImplemented)) s) :=
  .of_wp fun prog w A R s h => by obtain ⟨hp, g, d, tk, os⟩ := s; obtain ⟨hl, h⟩ := h; wp_walk using wpAny_loadPart' hl, wpAny_load hl; exact ⟨_, rfl, h⟩
theorem rc_str_dict {l : Addr} {b : Str} {u : Tok} {es : Array DictEntry} {ep : Nat} {dd : Option Addr} {sl : Array (Option Value)} {Q : Value → Shared → Prop} (ho : s.heap.get? l = some { cls := .type "dict", dict := dd, data := .dict es ep, slots := sl }) (hu : A.units < cLine) (h : Q (.bool false) s) :
    wpAny (model prog w) A (richCompare .Eq (.str b u) (.ref l)) Q E s := by
  have hT : s.TypeIs (.ref l) "dict" := ⟨_, ho, rfl⟩
  refine SeqAt.rc_eq_decline_or (k := false) (typeIs_str s b u) hT (by decide) PySem.F.sub_dict_str PySem.F.slot_str_eq PySem.F.slot_dict_eq_refl
    (fun _ hq => call_meets PySem.F.slot_str_eq (typeIs_str s b u) PySem.F.entry_str_eq (PySem.F.args_str_eq_2 _ _) (str_declines_dict b u l es ep dd sl) ⟨ho, hq⟩)
    (fun Q' hq => ?_) (fun _ hq => wpAny_of_eq (rfl : isSame (.str b u) (.ref l) = pure false) hq) (.inr hu) h
  refine wpAny_call_entry PySem.F.slot_dict_eq_refl hT PySem.F.entry_dict_eq ?_ (PySem.F.args_dict_eq_2 _ _)
  show wpAny _ _ (Builtin.Dict.dictSlotArgs "__eq__" ⟨[.ref l, .str b u], []⟩ >>= _) _ _ s
  refine wpAny_bind ?_
  unfold Builtin.Dict.dictSlotArgs
  refine wpAny_bind (wpAny_notOrdered_dict hT ?_)
  refine wpAny_pure (wpAny_bind (wpAny_isInstance (T := "str") (typeIs_str s b u) PySem.F.sub_str_dict ?_))
  simp only [Bool.not_false, if_true]
  exact wpAny_bind (wpAny_rule (wpAny_pure ⟨_, rfl, hq⟩))
theorem eq_str_dict {l : Addr} (b : Str) (u : Tok) {es : Array DictEntry} {ep : Nat} {dd : Option Addr} {sl : Array (Option Value)} (ho : s.heap.get? l = some { cls := .type "dict", dict := dd, data := .dict es ep, slots := sl }) (hu : A.units < cLine) : EqAt A s (.str b u) (.ref l) false := fun prog w E Q h => by
  unfold eqBool
  refine wpAny_holding ?_
  refine wpAny_ite_split (fun hab => absurd (eq_of_beq hab) nofun) (fun _ => ?_)
  exact wpAny_bind (rc_str_dict ho hu (wpAny_truthy_bool h))
end
/-- kinds that are no text -/
inductive NoTx (K : PySem.W.Frag) (H : Hp) : V → Prop
  | non : NoTx K H .non
  | bl (b : Bool) : NoTx K H (.bl b)
  | int (i : Int) : NoTx K H (.int i)
  | lst {a : Addr} {xs : List V} (h : SqL K H a xs) : NoTx K H (.ref a)
  | tup {a : Addr} {xs : List V} (h : SqT K H a xs) : NoTx K H (.ref a)
  | dct {a : Addr} {kvs : List (Key × V)} (h : H a = some (.dK kvs)) : NoTx K H (.ref a)
theorem inV_strs (z : Str) : ∀ zs : List Str, inV (.str z) (zs.map V.str) = decide (z ∈ zs)
  | [] => rfl
  | y :: r => by
    unfold inV
    rw [List.map_cons, List.any_cons]
    have ih := inV_strs z r
    unfold inV at ih
    rw [ih, Bool.eq_iff_iff, Bool.or_eq_true, decide_eq_true_iff, decide_eq_true_iff, List.mem_cons]
    have e : eqV (.str y) (.str z) = true ↔ z = y := by
      show (y == z) = true ↔ z = y
      rw [beq_iff_eq]
      exact ⟨fun h => h.symm, fun h => h.symm⟩
    rw [e]
/-- v in a tuple of texts -/
def rInTx (K : PySem.W.Frag) : R2 := fun x y H Q => ∃ (p : Addr) (zs : List Str), y = .ref p ∧ SqT K H p (zs.map V.str) ∧ ((∃ z, x = .str z ∧ Q (.bl (decide (z ∈ zs))) H) ∨ (NoTx K H x ∧ Q (.bl false) H))
section
variable {X : Cx}
theorem op_inTx (hu : X.A.units + 1 < cLine) : OpR X (compareOp .In) (rInTx X.K) := by
  intro pins s σ H x y v u Q I rx ry h
  obtain ⟨p, zs, rfl, hq, h⟩ := h
  cases ry
  obtain ⟨its, r, pl, hz⟩ := I.tuple hq
  have isT : s.heap.IsTuple p its.toArray := by obtain ⟨o, ho, hcl, n, hd⟩ := pl; exact ⟨o, ho, hcl, n, hd⟩
  have tx : ∀ w ∈ its, ∃ z t, w = Value.str z t := fun w hw => by
    obtain ⟨j, hj, e⟩ := List.getElem_of_mem hw
    have hl : j < (zs.map V.str).length := by rw [r.length]; exact hj
    obtain ⟨u', hu', ru⟩ := r.get (i := j) (x := (zs.map V.str)[j]) (List.getElem?_eq_getElem hl)
    rw [List.getElem?_eq_getElem hj] at hu'
    cases hu'
    rw [List.getElem_map] at ru
    obtain ⟨t, et⟩ := ru
    exact ⟨_, t, by rw [← e, et]⟩
  have hu' : X.A.in1.units < cLine := by
    have : X.A.in1.units = X.A.units + 1 ∨ X.A.in1.units = X.A.units := by first | exact .inl rfl | exact .inr rfl
    omega
  rcases h with ⟨z, rfl, q⟩ | ⟨nt, q⟩
  · exact op_in_seq pins s σ H (.str z) (.ref p) _ (.ref p) Q I rx rfl ⟨p, _, rfl, .inr hq, rfl, by rw [List.all_map]; exact List.all_eq_true.mpr fun _ _ => rfl, by rw [inV_strs]; exact q⟩
  · refine SeqAt.in_tupleAt (fun _ => false) isT (fun w hw => ?_) ⟨.bl false, H, I, by rw [show its.toArray.any (fun _ => false) = false by simp]; rfl, q⟩
    obtain ⟨z, t, rfl⟩ := tx w (by simpa using hw)
    cases nt with
    | non => cases rx; exact EqAt.str_none z t
    | bl b => cases rx; exact EqAt.str_bool z t b
    | int i => obtain ⟨t2, rfl⟩ := rx; exact EqAt.str_int z t i t2
    | lst hl => cases rx; obtain ⟨its2, _, pl2, _⟩ := I.list hl; exact EqAt.str_list z t pl2.isList hu'
    | tup hl => cases rx; obtain ⟨its2, _, pl2, _⟩ := I.tuple hl; exact EqAt.str_tuple z t pl2 hu'
    | dct hd =>
      cases rx
      obtain ⟨_, _, vs, _, o, es, ep, ho, hex, hd2, _⟩ := (show ObjOk X.prog X.w H s.heap _ (.dK _) from I.hok _ _ hd)
      obtain ⟨cls, dd, data, sl⟩ := o
      have hc : cls = .type "dict" := hex.1
      have hd' : data = .dict es ep := hd2
      subst hc hd'
      exact eq_str_dict z t ho hu'
end
end My
namespace My
open PySem PySem.Spec PyProof.Rows L2 TL
local macro_rules | `(tactic| walk_at "side") => `(tactic| first | assumption | decide | exact Or.inl ⟨by decide, by decide⟩ | exact Or.inr ⟨by decide, by decide⟩ | exact ⟨by decide, by decide, by decide⟩ | omega | (unfold CMulW; decide +kernel) | (dsimp only; first | assumption | omega | decide +kernel) | exact len_ok (Nat.le_of_ble_eq_true rfl) | fail "side")
local macro_rules | `(tactic| walk_at "rd") => `(tactic| first
  | refine ⟨_, _, _, _, rfl, rfl, SqL.of upd_same, atI_nat (j := 0) rfl, ?_⟩ | refine ⟨_, _, _, _, rfl, rfl, SqL.of upd_same, atI_nat (j := 1) rfl, ?_⟩ | refine ⟨_, _, _, _, rfl, rfl, SqL.of upd_same, atI_nat (j := 2) rfl, ?_⟩
  | refine ⟨_, _, _, _, rfl, rfl, upd_same, rfl, ?_⟩
  | refine ⟨_, _, rfl, rfl, ?_⟩ | refine ⟨_, rfl, ?_⟩ | refine ⟨_, _, rfl, ?_⟩ | refine Or.inl ⟨_, rfl, ?_⟩ | refine Or.inr ⟨_, rfl, ?_⟩ | refine ⟨(by walk_at "side"), ?_⟩ | fail "rd")

abbrev s_oform : Stmt := inClass (top 12) 12
theorem sc_oform : FnScope ["self", "one", "other", "name", "is_ahead_above", "is_ahead_below"] ["self", "one", "other"] (defScope s_oform) := ⟨rfl, rfl, rfl, by decide +kernel, rfl, by decide +kernel, by decide +kernel⟩
def aheadI (zs : List Str) (u v : Str) : Int := if pos zs u < pos zs v then 1 else 0
def frm (zs ys : List Str) (u v : Str) : Int := aheadI zs u v - aheadI ys u v
def spOForm (K : PySem.W.Frag) (C : Addr) : Sp := fun vs H Q _ => ∃ (o a b : Addr) (zs ys : List Str) (u v : Str), vs = [.ref o, .str u, .str v] ∧ OrdAB K C H o a b zs ys ∧ NoD K H a ∧ NoD K H b ∧ u ∈ zs ∧ v ∈ zs ∧ ∀ H', Ext H H' → Q (.int (frm zs ys u v)) H'
section
variable {P : Program} {w : World} {K : PySem.W.Frag} {mg : Str → Option Value} {base : Heap} {C : Addr}
theorem ok_oform (T : Bn mg) (D : MethT K C "form" "Order.form" s_oform) (OT : OrdT K mg C) : MethAt P w K mg base 2 C "form" ["self", "one", "other"] (spOForm K C) := by
  refine methAt D sc_oform (fun _ _ _ _ _ _ us hl => match us, hl with | [_, _, _], _ => rfl) (fun vs H Q E h => ?_) fun f cdv A outer s H vs Q E hr h => ?_
  · obtain ⟨o, a, b, zs, ys, u, v, rfl, _⟩ := h
    rfl
  obtain ⟨o, a, b, zs, ys, u, v, rfl, ⟨dx, c, e, ha, hb, hc, ro⟩, na, nb, hu, hv, k⟩ := h
  refine ⟨_, (pss_cons (ps_for PassesOwn.never rfl (pi_tup (pe_tup (pa_cons (pv 1) (pa_cons (pv 2) pa_nil)))) (pg_name (i := 3) sc_oform.nd rfl (Or.inl rfl))
      (pss_one (ps_if (pt_cmpR op_notIn_seq (pv 3) (pe_fld (pv 0) rfl) rfl) (pss_one ps_never) pss_nil)))
    (pss_cons (ps_set (i := 4) sc_oform.nd rfl (Or.inl rfl) (pe_cmpR op_lt (pe_bmT PySem.F.plainAttrs_tuple PySem.F.slot_tuple_index PySem.F.type_tuple_index mt_tup_indexF (pe_fld (pv 0) rfl) (pa_cons (pv 1) pa_nil)) (pe_bmT PySem.F.plainAttrs_tuple PySem.F.slot_tuple_index PySem.F.type_tuple_index mt_tup_indexF (pe_fld (pv 0) rfl) (pa_cons (pv 2) pa_nil)) (nomark _)))
    (pss_cons (ps_set (i := 5) sc_oform.nd rfl (Or.inl rfl) (pe_cmpR op_lt (pe_bmT PySem.F.plainAttrs_tuple PySem.F.slot_tuple_index PySem.F.type_tuple_index mt_tup_indexF (pe_fld (pv 0) rfl) (pa_cons (pv 1) pa_nil)) (pe_bmT PySem.F.plainAttrs_tuple PySem.F.slot_tuple_index PySem.F.type_tuple_index mt_tup_indexF (pe_fld (pv 0) rfl) (pa_cons (pv 2) pa_nil)) (nomark _)))
    (pss_one (ps_ret (pe_op op_sub (pe_callTy call_int1 (by rfl) T.b_int (by decide +kernel) (pa_cons (pv 4) pa_nil)) (pe_callTy call_int1 (by rfl) T.b_int (by decide +kernel) (pa_cons (pv 5) pa_nil)))))))), ?_⟩
  have flat : (zs.map V.str).all flatV = true := by
    rw [List.all_map]
    exact List.all_eq_true.mpr fun _ _ => rfl
  refine ⟨_, rfl, _, rfl, len_ok (Nat.le_of_ble_eq_true rfl), fun q hq => ?_⟩
  have x1 := ext_new (o := HO.tup [V.str u, .str v]) (ext_refl H) hq
  refine ⟨q, rfl, ⟨_, SqT.of upd_same⟩, ?_⟩
  refine for_it (walk_tup (xs := [V.str u, .str v])) (fun i σ' H' => ∃ z, σ' = [some (.ref o), some (.str u), some (.str v), z, none, none] ∧ H' = upd H q (.tup [V.str u, .str v])) ⟨none, rfl, rfl⟩ (fun i σ' H' _ p => ?_) (fun i x σ' H1 H' hi p y => ?_) fun σ' H' p => ?_
  · obtain ⟨z, _, rfl⟩ := p
    exact SqT.of upd_same
  · obtain ⟨z, rfl, rfl⟩ := p
    obtain ⟨rfl, hx⟩ := y
    have hx' : ∃ n, x = .str n ∧ n ∈ zs := by
      match i, hi, hx with
      | 0, _, hx => cases hx; exact ⟨u, rfl, hu⟩
      | 1, _, hx => cases hx; exact ⟨v, rfl, hv⟩
    obtain ⟨n, rfl, hn⟩ := hx'
    refine ⟨_, rfl, _, rfl, o, C, dx, _, _, rfl, x1 _ _ e, OT.cl, OT.nA, ofs_a a b c, a, _, rfl, .inr (ha.ext x1), rfl, flat, ?_⟩
    rw [if_pos rfl, inV_strs, decide_eq_true hn]
    exact ⟨_, rfl, iteF ⟨_, rfl, rfl⟩⟩
  · obtain ⟨z, rfl, rfl⟩ := p
    have hu2 : u ∈ ys := ro.pm.mem_iff.mpr hu
    have hv2 : v ∈ ys := ro.pm.mem_iff.mpr hv
    have ha1 := ha.ext x1
    have hb1 := hb.ext x1
    have e1 := x1 _ _ e
    refine ⟨_, rfl, o, C, dx, _, _, rfl, e1, OT.cl, OT.nA, ofs_a a b c, ⟨a, _, rfl, ha1, na.ext x1⟩, _, rfl, ?_⟩
    dsimp only [tNil]
    refine idxT_use ha1 hu ?_
    refine ⟨_, rfl, o, C, dx, _, _, rfl, e1, OT.cl, OT.nA, ofs_a a b c, ⟨a, _, rfl, ha1, na.ext x1⟩, _, rfl, ?_⟩
    dsimp only [tNil]
    refine idxT_use ha1 hv ?_
    refine ⟨_, _, rfl, rfl, ?_⟩
    refine ⟨_, rfl, o, C, dx, _, _, rfl, e1, OT.cl, OT.nB, ofs_b a b c, ⟨b, _, rfl, hb1, nb.ext x1⟩, _, rfl, ?_⟩
    dsimp only [tNil]
    refine idxT_use hb1 hu2 ?_
    refine ⟨_, rfl, o, C, dx, _, _, rfl, e1, OT.cl, OT.nB, ofs_b a b c, ⟨b, _, rfl, hb1, nb.ext x1⟩, _, rfl, ?_⟩
    dsimp only [tNil]
    refine idxT_use hb1 hv2 ?_
    refine ⟨_, _, rfl, rfl, ?_⟩
    refine ⟨_, rfl, .inr ⟨_, rfl, _, rfl, .inr ⟨_, rfl, _, _, rfl, rfl, ?_⟩⟩⟩
    have ec : ∀ l : List Str, (if decide (((pos l u : Nat) : Int) < (pos l v : Nat)) = true then (1 : Int) else 0) = aheadI l u v := fun l => by
      unfold aheadI
      by_cases h : pos l u < pos l v
      · rw [if_pos h, if_pos (decide_eq_true (by omega))]
      · rw [if_neg h, if_neg (by rw [decide_eq_true_iff]; omega)]
    rw [ec, ec]
    exact k _ x1
end
end My
namespace My
open PySem PySem.Spec PyProof.Rows L2 Builtin Float
/-! ### {x:+d} -/
def plusText (a : Int) : Str := ⟨((if a < 0 then [45] else [43]) ++ (Nat.toDigits 10 a.natAbs).map Char.toNat).toArray⟩
def plusSpec : Str := Str.ofString "+d"
theorem plusText_len {a : Int} (h : a.natAbs < 10 ^ 1000) : (plusText a).length ≤ 1001 := by
  have h1 := digits10_le (k := 1000) (by decide) h
  unfold plusText Str.length
  simp only [List.size_toArray, List.length_append, List.length_map]
  split <;> simp <;> omega
theorem gives_plus (a : Int) (t u : Tok) (h : a.natAbs.log2 < 1920) : Gives (Builtin.«int.__format__» ⟨[.int a t, .str plusSpec u], []⟩) (.str (plusText a)) := by
  intro prog w A R s hq
  have hp : parseFormatSpec plusSpec.cps.toList "int" 62 = .ok ⟨32, 62, some 43, false, false, none, none, none, some 100⟩ := rfl
  have ne0 : (plusSpec.length == 0) = false := rfl
  have asc : ((plusSpec.cps.toList.drop 1).any (· ≥ 128) || (plusSpec.cps.getD 0 0 ≥ 128 && !([60, 62, 61, 94] : List Nat).contains (plusSpec.cps.getD 1 0))) = false := rfl
  unfold Builtin.«int.__format__»
  simp only [selfAndOne, noKeywords, Int.intOfSelf, asInt?, asStr?, List.isEmpty_nil, if_true, pure_bind, bind_pure, bind_assoc, ne0, asc, Bool.false_eq_true, if_false, show (Value.str plusSpec u == Value.none) = false from rfl]
  refine wpAny_bind (wpAny_typeNameOf (T := "str") (typeIs_str _ _ _) (by decide) fun _ => ?_)
  refine wpAny_bind (wpAny_typeNameOfCut_int ?_)
  simp only [hp]
  rw [if_pos (by decide)]
  show wpAny _ _ (Bind.bind (overDigitLimit? a) _) _ _ _
  rw [PySem.overDigitLimit_small h]
  refine wpAny_bind (wpAny_pure ?_)
  show wpAny _ _ (retStr _) _ _ _
  have go : ∀ z : Str, z = plusText a → (Made.str z).post (fun v s' => R (.ok (.ret v)) s') s := fun z e => e ▸ hq
  refine gives_retStr _ prog w A R s (go _ ?_)
  show Str.mk _ = Str.mk _
  refine congrArg Str.mk ?_
  have nn : ∀ x y : Nat, (-1 - (x : Int) - (y : Int)).toNat = 0 := fun x y => by omega
  have n1 : ∀ y : Nat, (-1 - 1 - (y : Int)).toNat = 0 := fun y => by omega
  have n2 : ∀ y : Nat, (-2 - (y : Int)).toNat = 0 := fun y => by omega
  have n3 : ∀ y : Nat, (-2 - ((y : Int) + 1)).toNat = 0 := fun y => by omega
  by_cases ha : a < 0
  · cases hD : Nat.toDigits 10 a.natAbs <;> simp [ha, nn, n1, n2, n3]
  · cases hD : Nat.toDigits 10 a.natAbs <;> simp [ha, nn, n1, n2, n3]
section
variable {X : Cx}
/-- {x:+d} -/
def tPlus (te : TE) : TE := fun σ H Q => te σ H fun x H1 => ∃ i : Int, x = .int i ∧ i.natAbs.log2 < 1920 ∧ Q (.str (plusText i)) H1
theorem log_pow {i : Int} (h : i.natAbs.log2 < 1920) : i.natAbs < 10 ^ 1000 := by
  have h1 : i.natAbs < 2 ^ 1920 := Nat.lt_of_lt_of_le Nat.lt_log2_self (Nat.pow_le_pow_right (by decide) (by omega))
  exact Nat.lt_trans h1 (by decide +kernel)
theorem pe_plus {e spec : Expr} {te : TE} {pos : Pos} (he : PE X e te) (hs : PE X spec (tC (.str plusSpec))) : PE X (.FormattedValue e (-1) (some spec) pos) (tPlus te) := by
  refine ⟨fun pins s σ H Q I h => ?_⟩
  refine wpAny_FormattedValue_spec (thn (he.run pins s σ H _ I h) fun v s1 hv => ?_)
  obtain ⟨x, H1, I1, r1, i, rfl, hz, q⟩ := hv
  obtain ⟨t, rfl⟩ := r1
  refine thn (hs.run pins s1 σ H1 (fun y H2 => y = .str plusSpec ∧ Q (.str (plusText i)) H2) I1 ⟨rfl, q⟩) fun r s2 hr => ?_
  obtain ⟨y, H2, I2, r2, rfl, q2⟩ := hr
  obtain ⟨t2, rfl⟩ := r2
  exact ⟨plusSpec, t2, rfl, wpAny_formatField_spec rfl (fun s' => typeIs_int s' i t) F.slot_int_format F.entry_int_format F.args_int_format_2 (fun u => gives_plus i t u hz) ⟨.str (plusText i), H2, I2.tok _, ⟨_, rfl⟩, q2⟩ (by decide) (Nat.le_trans (plusText_len (log_pow hz)) (by decide))⟩
variable {CX : CXT} {k : Nat} {f C : Addr} {fd : FuncData} {ps : List Str} {sp : Sp} {E : XK}
/-- str(x), x an instance whose class has a def for it -/
def rStrOwn (C : Addr) (sp : Sp) (E : XK) : List V → Hp → VK → Prop := fun vs H Q => ∃ a dx fs, vs = [.ref a] ∧ H a = some (.ins C dx fs) ∧ sp [.ref a] H (fun v H' => ∃ y, v = .str y ∧ Q (.str y) H') E
theorem call_strOwn (hs : PySem.W.findIn X.K (.ref C) "__str__" = some (some (.ref f))) (hf : PySem.W.isFn X.K (.ref f) = true) (F : FnOk X.prog X.w X.K X.mg X.base CX k f fd ps sp) (hr : Room (k + 2) X.A) (hb : Binds X.K fd ps []) (hx : Passes CX X E) : CallR X (.type "str") (rStrOwn C sp E) := by
  intro pins s σ H vs us Q I r h
  obtain ⟨a, dx, fs, rfl, ea, hsp⟩ := h
  obtain ⟨u, rfl, ru⟩ := vals1 r
  cases ru
  obtain ⟨mA, O, _⟩ := ins_get I.hok ea
  obtain ⟨od, J, _⟩ := O.look
  have r2 : Room k X.A.in1.in1 := hr.in1.in1
  refine PySem.W.kso_call (K := X.K) r2.units0 I.kIn J hs hf ?_
  refine wpAny_call ?_
  have hl : ([Value.ref a] : List Value).length = ps.length := F.len _ _ _ _ hsp
  have bd : BindsTo s fd ⟨[.ref a], []⟩ (ps.zip [.ref a]) := by
    have z := hb s [.ref a] I.kIn (by rw [List.append_nil]; exact hl)
    rw [List.append_nil] at z
    exact z
  refine codeAny_mono (F.run X.A.in1.in1 X.stack s H ⟨[.ref a], []⟩ [.ref a] [.ref a] _ E r2 I.env0.in1.in1 bd (.cons rfl .nil) hsp) fun r2 s2 hq => ?_
  match r2, hq with
  | .error er, hq => exact hx pins σ H _ er s2 I hq
  | .ok (.ret u), hq =>
    obtain ⟨z, H', I', rz, y, ez, q⟩ := I.after hq
    subst ez
    obtain ⟨t, rfl⟩ := rz
    exact ⟨.str y, H', I', ⟨t, rfl⟩, q⟩
end
end My
/-! iter(a tuple); for x in o, o of an own class whose __iter__ gives iter(a tuple) -/
namespace My
open PySem PySem.Spec PyProof.Rows L2
def itT (l : Addr) : Obj := { cls := .type "tuple_iterator", data := .fields #[.ref l, .int 0 0] }
/-- a tuple's iterator that stands at its begin -/
def ItTO (l it : Addr) : HO := .ext fun h => h.get? it = some (itT l)
theorem itTO_ok {P : Program} {w : World} {H : Hp} {h : Heap} {l it : Addr} (e : h.get? it = some (itT l)) : ObjOk P w H h it (ItTO l it) := ⟨e, ⟨_, e⟩, fun h1 h2 q k => k _ q⟩
def rIterT (K : PySem.W.Frag) : List V → Hp → VK → Prop := fun xs H Q => ∃ (l : Addr) (zs : List V), xs = [.ref l] ∧ SqT K H l zs ∧ ∀ it, H it = none → Q (.ref it) (upd H it (ItTO l it))
section
variable {X : Cx}
theorem call_iterT : CallR X (.builtin "iter") (rIterT X.K) := by
  intro pins s σ H xs us Q I r h
  obtain ⟨l, zs, rfl, hq, q⟩ := h
  obtain ⟨u, rfl, ru⟩ := vals1 r
  cases ru
  obtain ⟨its, rv, pl, hz⟩ := I.tuple hq
  have isT : s.heap.IsTuple l its.toArray := by obtain ⟨o, ho, hcl, n, hd⟩ := pl; exact ⟨o, ho, hcl, n, hd⟩
  refine Calls.call_function_entry (by decide +kernel) (by decide +kernel) PySem.W.kdk_entry_iter (PySem.W.kdk_args_iter _) ?_
  unfold Builtin.«iter»
  refine wpAny_bind (m := someArgs "iter" 1 2 _) (wpAny_of_eq (a := [Value.ref l]) (by first | rfl | kernel_rfl!) ?_)
  show wpAny _ _ (pyIter (.ref l) >>= _) _ _ _
  refine wpAny_bind (wpAny_pyIter_tuple isT ?_)
  exact wpAny_pure ⟨_, rfl, ⟨.ref s.heap.objs.size, _, I.laid (t' := s.toks) (fun b u e => Heap.get?_push_of_some _ e) (Nat.le_refl _) (itTO_ok (Heap.get?_push_size _ rfl)), rfl, q _ (I.hok.fresh (Nat.le_refl _))⟩⟩
end
def rIterTN (K : PySem.W.Frag) (n : Nat) : List V → Hp → VK → Prop := fun xs H Q => ∃ (l : Addr) (zs : List V), xs = [.ref l] ∧ SqT K H l zs ∧ ∀ it, H it = none → n ≤ it → Q (.ref it) (upd H it (ItTO l it))
theorem call_iterTN {X : Cx} : CallR X (.builtin "iter") (rIterTN X.K X.s_0.heap.objs.size) := by
  intro pins s σ H xs us Q I r h
  obtain ⟨l, zs, rfl, hq, q⟩ := h
  obtain ⟨u, rfl, ru⟩ := vals1 r
  cases ru
  obtain ⟨its, rv, pl, hz⟩ := I.tuple hq
  have isT : s.heap.IsTuple l its.toArray := by obtain ⟨o, ho, hcl, n, hd⟩ := pl; exact ⟨o, ho, hcl, n, hd⟩
  refine Calls.call_function_entry (by decide +kernel) (by decide +kernel) PySem.W.kdk_entry_iter (PySem.W.kdk_args_iter _) ?_
  unfold Builtin.«iter»
  refine wpAny_bind (m := someArgs "iter" 1 2 _) (wpAny_of_eq (a := [Value.ref l]) (by first | rfl | kernel_rfl!) ?_)
  show wpAny _ _ (pyIter (.ref l) >>= _) _ _ _
  refine wpAny_bind (wpAny_pyIter_tuple isT ?_)
  exact wpAny_pure ⟨_, rfl, ⟨.ref s.heap.objs.size, _, I.laid (t' := s.toks) (fun b u e => Heap.get?_push_of_some _ e) (Nat.le_refl _) (itTO_ok (Heap.get?_push_size _ rfl)), rfl, q _ (I.hok.fresh (Nat.le_refl _)) I.sz⟩⟩
/-- a promise that knows how great the heap is at the call -/
structure FnSz (P : Program) (w : World) (K : PySem.W.Frag) (mg : Str → Option Value) (base : Heap) (CX : CXT) (k : Nat) (f : Addr) (fd : FuncData) (ps : List Str) (sp : Nat → Sp) : Prop where
  run : ∀ (A : Around) (outer : List Env) (s : Shared) (H : Hp) (args : Args) (us : List Value) (vs : List V) (Q : VK) (E : XK), Room k A → Env0 P w K mg base A outer s H → BindsTo s fd args (ps.zip us) → Vals vs us → sp s.heap.objs.size vs H Q E →
    codeAny (model P w) A (.call (.ref f) args) (CR CX outer P w H s Q E) s
theorem fnSz_of {CX : CXT} {P : Program} {w : World} {K : PySem.W.Frag} {mg : Str → Option Value} {base : Heap} {k : Nat} {f : Addr} {name qual : Str} {params : Arguments} {body : List Stmt} {scope : Scope} {dV kV doc pm cdv ct oc : Value} {an od : Option Addr}
    {osl : Array (Option Value)} {N ps : List Str} {sp : Nat → Sp} (lk : K.lookup f = some ⟨oc, od, .func (PySem.W.fnOf name qual params body scope dV kV doc pm an cdv ct), osl⟩) (hcd : PySem.W.codeIn K cdv qual = true) (S : FnScope N ps scope)
    (len : ∀ n vs H Q E, sp n vs H Q E → vs.length = ps.length)
    (hbody : ∀ (A : Around) (outer : List Env) (s : Shared) (H : Hp) (vs : List V) (Q : VK) (E : XK), Room k (A.deeper (envOfC qual scope s.heap.objs.size f cdv)) → sp s.heap.objs.size vs H Q E →
      ∃ t, PSs (cxOf CX P w K mg base N qual scope f cdv A outer s H E) body t ∧ t { nx := fun _ H' => Q .non H', rt := Q } (start N vs) H) :
    FnSz P w K mg base CX (k + 1) f (PySem.W.fnOf name qual params body scope dV kV doc pm an cdv ct) ps sp := by
  refine ⟨fun A outer s H args us vs Q E hr e0 hb r hsp => ?_⟩
  have hl := len _ _ _ _ _ hsp
  have KX : K.In s.heap := e0.mod.kin.keeps fun b o e => (e0.bs b o e).1
  have lim : s.heap.NoLimit := e0.mod.nolimit.keeps fun b o e => (e0.bs b o e).1
  have hkind : ∀ y ∈ ps.zip us, scope.names.lookup y.1 = some .local ∨ (scope.names.lookup y.1 = some .cell ∧ ((cellsFrom (s.heap.objs.size + 1) scope.names []).lookup y.1).isSome = true) := fun ⟨n, v⟩ hy => by
    rcases S.par n (List.of_mem_zip hy).1 with q | q
    · exact .inl q
    · exact .inr ⟨q, PySem.W.cellsFrom_some _ _ _ (.inl q)⟩
  refine codeAny_call_function hr.depth (KX _ _ lk) rfl S.co S.gen rfl (PySem.W.codeRec_of KX hcd) (hb _ _ _ _ ?_)
  refine wpAny_newFunctionEnv_cells S.kind hkind fun env he s1 x => ?_
  subst he
  refine ⟨lim.keeps x.toInCall.keep, codeAny_func ?_⟩
  obtain ⟨t, ht, hq⟩ := hbody A outer s H vs Q E (hr.deeper _) hsp
  have I : Inv (cxOf CX P w K mg base N qual scope f cdv A outer s H E) [] (start N vs) H s1 := inv_start S hr.hd e0 hl r x
  refine wpAny_mono (ht.run [] s1 (start N vs) H _ I hq) (fun fl s' hs => ?_) fun e s' hs => hs
  have fin : ∀ {σ' : L2.St} {H' : Hp} {v : V} {u : Value}, Inv (cxOf CX P w K mg base N qual scope f cdv A outer s H E) [] σ' H' s' → RelV v u → Q v H' → CE outer P w H s Q u s' :=
    fun {σ' H' v u} J rv q => ⟨v, H', J.os, J.bare, J.base, J.hok, rv, q⟩
  cases fl with
  | ret u =>
    obtain ⟨v, σ', H', J, rv, q⟩ := hs
    exact fin J rv q
  | next =>
    obtain ⟨σ', H', J, q⟩ := hs
    exact fin (v := V.non) (u := Value.none) J rfl q
  | brk =>
    obtain ⟨_, _, _, q⟩ := hs
    exact False.elim q
  | cont =>
    obtain ⟨_, _, _, q⟩ := hs
    exact False.elim q
/-- a class with an own __iter__, whose def keeps sp -/
structure ItrAt (P : Program) (w : World) (K : PySem.W.Frag) (mg : Str → Option Value) (base : Heap) (k : Nat) (C : Addr) (sp : Nat → Sp) : Prop where
  ex : ∃ (f : Addr) (fd : FuncData), PySem.W.findIn K (.ref C) "__iter__" = some (some (.ref f)) ∧ PySem.W.isFn K (.ref f) = true ∧ Binds K fd ["self"] [] ∧ FnSz P w K mg base CX0 k f fd ["self"] sp
/-- for x in e, e an instance of such a class: the tuple at l is walked -/
def iOwnT (K : PySem.W.Frag) (C : Addr) (sp : Nat → Sp) (te : TE) : TI := fun σ H R => te σ H fun x H1 => ∃ a dx fs, x = .ref a ∧ H1 a = some (.ins C dx fs) ∧
  ∀ n, sp n [.ref a] H1 (fun v H2 => ∃ it l, v = .ref it ∧ n ≤ it ∧ H2 it = some (ItTO l it) ∧ R (Itt K l) (ItX.dropH H2 it)) E0
section
variable {X : Cx} {k : Nat} {C : Addr} {sp : Nat → Sp} {e tg : Expr} {te : TE}
theorem pi_ownT (F : ItrAt X.prog X.w X.K X.mg X.base k C sp) (hr : Room k X.A) (he : PE X e te) : PI X tg e (iOwnT X.K C sp te) := by
  obtain ⟨f, fd, hs, hf, hb, G⟩ := F.ex
  refine ⟨fun pins s σ H R I h => ?_⟩
  refine thn (he.run pins s σ H _ I h) fun u s1 ⟨x, H1, I1, rx, a, dx, fs, ex, ea, hsp⟩ => ?_
  subst ex
  cases rx
  obtain ⟨mA, O, _⟩ := ins_get I1.hok ea
  obtain ⟨od, J, _⟩ := O.look
  obtain ⟨m, hF⟩ := I1.fr
  refine PySem.W.owit_iter hF I1.ok.mod.kin J hs hf ?_
  have hl : ([Value.ref a] : List Value).length = (["self"] : List Str).length := rfl
  have bd : BindsTo s1 fd ⟨[.ref a], []⟩ ((["self"] : List Str).zip [.ref a]) := by
    have z := hb s1 [.ref a] I1.kIn (by rw [List.append_nil]; exact hl)
    rw [List.append_nil] at z
    exact z
  refine wpAny_call (codeAny_mono (G.run X.A X.stack s1 H1 ⟨[.ref a], []⟩ [.ref a] [.ref a] _ E0 hr I1.env0 bd (.cons rfl .nil) (hsp s1.heap.objs.size)) fun r2 s2 hq => ?_)
  match r2, hq with
  | .error er, hq => exact pass0 pins σ H1 _ er s2 I1 hq
  | .ok (.ret u2), hq =>
    obtain ⟨v2, H2, I2, r3, it, l, ev, new, hi, q⟩ := I1.after hq
    subst ev
    cases r3
    have eo : s2.heap.get? it = some (itT l) := (I2.hok it _ hi).1
    have st : s2.heap.IsTupleIter it l 0 := ⟨_, eo, rfl, rfl⟩
    unfold PySem.W.OwitIt
    refine wpAny_specialOf (name := Str.ofString "__next__") st.typeIs PySem.F.slot_tuple_iterator_next.lookup ?_
    have hi' := hi
    unfold ItTO at hi'
    refine ⟨it, [it], _, _, ItX.dropH H2 it, rfl, ItX.inv_drop I2 hi', turn_tuple l it, st, fun b hb => ?_, q⟩
    have e : b = it := by simpa using hb
    rw [e]
    exact ItX.inv_fp I2 hi (Nat.le_trans I1.sz new)
end
theorem sqT_drop {K : PySem.W.Frag} {H : Hp} {a l it : Addr} {xs : List V} (h : SqT K H a xs) (n : H it = some (ItTO l it)) : SqT K (ItX.dropH H it) a xs := by
  rcases h with (e | ⟨o, e⟩) | r
  · exact .inl (.inl (by rw [ItX.dropH_ne (fun z => by rw [z, n] at e; cases e)]; exact e))
  · exact .inl (.inr ⟨o, by rw [ItX.dropH_ne (fun z => by rw [z, n] at e; cases e)]; exact e⟩)
  · exact .inr r
end My
/-! list(o): o of an own class whose __iter__ gives a tuple's iterator and whose __len__ gives a number -/
namespace My
open PySem PySem.Spec PyProof.Rows L2
section
variable {X : Cx} {pins : List (Addr × Obj)} {σ : L2.St} {H : Hp} {s s' : Shared}
theorem sqT_upd {K : PySem.W.Frag} {H : Hp} {a q : Addr} {ob : HO} {xs : List V} (h : SqT K H a xs) (n : H q = none) : SqT K (upd H q ob) a xs := by
  rcases h with (e | ⟨o, e⟩) | r
  · exact .inl (.inl (by rw [upd_ne (ne_of_none e n)]; exact e))
  · exact .inl (.inr ⟨o, by rw [upd_ne (ne_of_none e n)]; exact e⟩)
  · exact .inr r
/-- what is known of a thing that turns stays when another tracked thing changes -/
theorem fpOk_upd {q it : Addr} {ob ob' : HO} (h : FpOk X pins (upd H q ob) it) : FpOk X pins (upd H q ob') it := by
  refine ⟨?_, h.2⟩
  have := h.1
  by_cases e : it = q
  · rw [e, upd_same] at this; cases this
  · rw [upd_ne e] at this ⊢; exact this
theorem ownT_loop {A1 : Around} {q it l : Addr} {zs : List V} {Rs : Result → Shared → Prop} (hh : A1.handled = none) (hT : SqT X.K H l zs) (fr : H q = none) (hz : zs.length ≤ 1000000)
    (hdone : ∀ s, Inv X pins σ (upd H q (.lst zs)) s → Rs (.ok (.ret .none)) s) :
    ∀ (m i : Nat) (s : Shared), i + m = zs.length → Inv X pins σ (upd H q (.lst (zs.take i))) s → s.heap.IsTupleIter it l i → FpOk X pins (upd H q (.lst (zs.take i))) it →
      codeAny (model X.prog X.w) A1 (.builtin "list.extend.loop" ⟨[.ref q, .ref it, .none], []⟩) Rs s := by
  intro m
  induction m with
  | zero =>
    intro i s hm I st hf
    refine codeAny_builtin PySem.F.entry_extend_loop ?_
    rw [Around.under_plainId PySem.F.plain_extend_loop _]
    show wpAny _ A1.in1 (pyNext (.ref it) >>= _) _ _ s
    obtain ⟨its, rv, p, hz'⟩ := I.tuple (sqT_upd (ob := .lst (zs.take i)) hT fr)
    have hl := rv.length
    obtain ⟨f0, f1, f2, f3, f4, f5⟩ := hf
    refine wpAny_bind (wpAny_pyNext_tuple_end (show A1.in1.handled = none from hh) st (show s.heap.IsTuple l its.toArray from p) (by simp; omega) fun h' eb => ?_)
    have I1 : Inv X pins σ (upd H q (.lst (zs.take i))) { s with heap := h' } := I.turned (t' := s.toks) (fun b o hb e => eb b o hb e) f0 f1 f3 f4 f5
    refine wpAny_pure (hdone _ ?_)
    rw [List.take_of_length_le (by omega)] at I1
    exact I1
  | succ m ih =>
    intro i s hm I st hf
    refine codeAny_builtin PySem.F.entry_extend_loop ?_
    rw [Around.under_plainId PySem.F.plain_extend_loop _]
    show wpAny _ A1.in1 (pyNext (.ref it) >>= _) _ _ s
    obtain ⟨its, rv, p, hz'⟩ := I.tuple (sqT_upd (ob := .lst (zs.take i)) hT fr)
    have hi : i < zs.length := by omega
    obtain ⟨u, hu, ru⟩ := rv.get (i := i) (x := zs[i]) (List.getElem?_eq_getElem hi)
    obtain ⟨f0, f1, f2, f3, f4, f5⟩ := id hf
    refine wpAny_bind (wpAny_pyNext_tuple_item st (show s.heap.IsTuple l its.toArray from p) (x := u) (by simpa using hu) fun h' st' sb => ?_)
    have I1 : Inv X pins σ (upd H q (.lst (zs.take i))) { s with heap := h' } := I.turned (t' := s.toks) (fun b o hb e => (sb.2 b hb).trans e) f0 f1 f3 f4 f5
    show wpAny _ A1.in1 (updateSeq q (·.push u) >>= _) _ _ _
    obtain ⟨z, its2, k, r2, hl, e⟩ := I1.lstM upd_same
    have ltk : (zs.take i).length = i := by rw [List.length_take]; omega
    have hs2 : its2.length = i := by have h3 := r2.length; omega
    have big : 1000000 < sizeLine := by rw [sizeLine_eq]; decide
    have hq : it ≠ q := fun e' => by rw [e', upd_same] at f0; cases f0
    refine wpAny_bind (wpAny_updateSeq e rfl (wpAny_pure ⟨plainId_quiet PySem.F.plain_extend_loop _, ?_⟩) (by rw [List.size_toArray]; omega) (by show (its2.toArray.push u).size ≤ sizeLine + 1; rw [Array.size_push, List.size_toArray]; omega))
    have I2 := I1.lset (f := (·.push u)) (its' := its2 ++ [u]) (t' := s.toks) upd_same e (by simp) (r2.append (.cons ru .nil)) (by rw [List.length_append, ltk, List.length_singleton]; omega)
    rw [upd_upd] at I2
    have eT : zs.take i ++ [zs[i]] = zs.take (i + 1) := by rw [List.take_succ_eq_append_getElem hi]
    rw [eT] at I2
    refine ih (i + 1) _ (by omega) I2 ?_ (fpOk_upd hf)
    exact st'.at fun o e' => Heap.get?_update_of_ne _ (Ne.symm hq) e'
/-- the own __len__ is asked -/
theorem ownT_hint {A1 : Around} {k : Nat} {C a : Addr} {spL : Sp} {dx : Addr} {fs : List (Str × V)} {Q : Bool → Shared → Prop} {E : Value → Shared → Prop} (sb : Sub X (k + 1) A1) (FL : SpAt X.prog X.w X.K X.mg X.base k C "__len__" ["self"] spL)
    (I : Inv X pins σ H s) (ha : H a = some (.ins C dx fs)) (hsp : spL [.ref a] H (fun w H3 => ∃ m : Nat, w = .int m ∧ m ≤ 1000000 ∧ H3 = H) E0) (hQ : ∀ b s', Inv X pins σ H s' → Q b s') :
    wpAny (model X.prog X.w) A1 (Builtin.List.listLengthHint (.ref a)) Q E s := by
  obtain ⟨f, fd, hs, hf, hb, F⟩ := FL.ex
  obtain ⟨mA, O, _⟩ := ins_get I.hok ha
  obtain ⟨od, J, _⟩ := O.look
  obtain ⟨m, hF⟩ := I.fr
  unfold Builtin.List.listLengthHint
  refine wpAny_bind (wpAny_bind (J.type.here ((PySem.W.looks_findIn I.kIn hs).here ?_)))
  refine PySem.W.KFB.if_not rfl ?_
  dsimp only
  rw [if_pos (show (some (Value.ref f)).isSome = true from rfl)]
  refine wpAny_bind (wpAny_rule ?_)
  refine wpAny_bind (wpAny_attempt ?_)
  refine PySem.W.len_K hF I.ok.mod.kin J hs hf ?_
  refine wpAny_call ?_
  have hl : ([Value.ref a] : List Value).length = (["self"] : List Str).length := rfl
  have bd : BindsTo s fd ⟨[.ref a], []⟩ ((["self"] : List Str).zip [.ref a]) := by
    have z := hb s [.ref a] I.kIn (by rw [List.append_nil]; exact hl)
    rw [List.append_nil] at z
    exact z
  have e0 : Env0 X.prog X.w X.K X.mg X.base A1.in1 X.stack s H := by
    have e := I.env0
    exact ⟨by rw [sb.in1.fr]; exact e.frames, e.mod, e.bs, e.bsz, e.funs, e.frf, e.hok, e.bare⟩
  refine codeAny_mono (F.run A1.in1 X.stack s H ⟨[.ref a], []⟩ [.ref a] [.ref a] _ E0 sb.in1.room e0 bd (.cons rfl .nil) hsp) fun r2 s2 hq => ?_
  match r2, hq with
  | .error er, hq => exact False.elim hq
  | .ok (.ret u), hq =>
    obtain ⟨z, H', I', rz, n, ez, hn, rfl⟩ := I.after hq
    subst ez
    obtain ⟨t, rfl⟩ := rz
    refine ⟨⟨by omega, by omega⟩, ?_⟩
    dsimp only
    refine wpAny_bind (wpAny_of_eq (a := some ((n : Nat) : Int)) rfl ?_)
    dsimp only
    rw [if_neg (show ¬ Builtin.List.listTooLong ((n : Nat) : Int).toNat = true by
      unfold Builtin.List.listTooLong
      rw [decide_eq_true_iff, sizeLine_eq]
      have : ((n : Nat) : Int).toNat = n := rfl
      have h2 : (1000000 : Nat) < 2 ^ 60 := by decide
      rw [this]
      omega)]
    exact wpAny_pure (hQ _ _ (I'.tok _))
/-- what list(o) asks -/
def rListOwn (K : PySem.W.Frag) (C : Addr) (spI : Nat → Sp) (spL : Sp) : List V → Hp → VK → Prop := fun xs H Q => ∃ a dx fs zs, xs = [.ref a] ∧ H a = some (.ins C dx fs) ∧ zs.length ≤ 1000000 ∧ ∀ q, H q = none →
  (∀ n, spI n [.ref a] (upd H q (.lst [])) (fun v H2 => ∃ it l, v = .ref it ∧ n ≤ it ∧ upd H q (.lst []) it = none ∧ H2 = upd (upd H q (.lst [])) it (ItTO l it) ∧ SqT K H l zs ∧
    spL [.ref a] H2 (fun w H3 => ∃ m : Nat, w = .int m ∧ m ≤ 1000000 ∧ H3 = H2) E0) E0) ∧ Q (.ref q) (upd H q (.lst zs))
theorem ownT_extend {A1 : Around} {n k kI : Nat} {C a q : Addr} {zs : List V} {spI : Nat → Sp} {spL : Sp} {dx : Addr} {fs : List (Str × V)} {Rs : Result → Shared → Prop} (sb : Sub X n A1.in1) (n1 : k + 1 ≤ n) (n2 : kI ≤ n) (hh : A1.in1.handled = none)
    (FI : ItrAt X.prog X.w X.K X.mg X.base kI C spI) (FL : SpAt X.prog X.w X.K X.mg X.base k C "__len__" ["self"] spL) (fr : H q = none) (hz : zs.length ≤ 1000000) (hdone : ∀ s, Inv X pins σ (upd H q (.lst zs)) s → Rs (.ok (.ret .none)) s)
    (I : Inv X pins σ (upd H q (.lst [])) s) (ha : upd H q (.lst []) a = some (.ins C dx fs))
    (hsp : ∀ n, spI n [.ref a] (upd H q (.lst [])) (fun v H2 => ∃ it l, v = .ref it ∧ n ≤ it ∧ upd H q (.lst []) it = none ∧ H2 = upd (upd H q (.lst [])) it (ItTO l it) ∧ SqT X.K H l zs ∧
      spL [.ref a] H2 (fun w H3 => ∃ m : Nat, w = .int m ∧ m ≤ 1000000 ∧ H3 = H2) E0) E0) :
    wpAny (model X.prog X.w) A1.in1 (Builtin.List.listExtendWith (.ref q) (.ref a) .none)
      (fun fin s' => match fin with | .done f => Rs (.ok f) s' | .again c' => c'.quiet = true ∧ codeAny (model X.prog X.w) A1 c' Rs s') (fun e s' => Rs (.error e) s') s := by
  obtain ⟨fi, fdi, his, hif, hib, GI⟩ := FI.ex
  have hne : q ≠ a := ne_of upd_same ha (fun z => nomatch z)
  obtain ⟨mA, J, _⟩ := ins_get I.hok ha
  obtain ⟨od, J, _⟩ := J.look
  obtain ⟨m0, hF⟩ := I.fr
  unfold Builtin.List.listExtendWith
  refine wpAny_bind (J.type.here ?_)
  have h1 : Builtin.List.listSameRef (.ref q) (.ref a) = false := by simp [Builtin.List.listSameRef, hne]
  have h2 : (Value.ref C == Value.type "list") = false := rfl
  have h3 : (Value.ref C == Value.type "tuple") = false := rfl
  simp only [h1, h2, h3, Bool.or_false, Bool.false_eq_true, if_false]
  refine wpAny_bind (PySem.W.owit_iter hF I.ok.mod.kin J his hif ?_)
  have e0 : Env0 X.prog X.w X.K X.mg X.base A1.in1 X.stack s (upd H q (.lst [])) := by
    have e := I.env0
    exact ⟨by rw [sb.fr]; exact e.frames, e.mod, e.bs, e.bsz, e.funs, e.frf, e.hok, e.bare⟩
  have hl : ([Value.ref a] : List Value).length = (["self"] : List Str).length := rfl
  have bd : BindsTo s fdi ⟨[.ref a], []⟩ ((["self"] : List Str).zip [.ref a]) := by
    have z := hib s [.ref a] I.kIn (by rw [List.append_nil]; exact hl)
    rw [List.append_nil] at z
    exact z
  refine wpAny_call (codeAny_mono (GI.run A1.in1 X.stack s _ ⟨[.ref a], []⟩ [.ref a] [.ref a] _ E0 (sb.room.mono n2) e0 bd (.cons rfl .nil) (hsp s.heap.objs.size)) fun r s' hq' => ?_)
  match r, hq' with
  | .error er, hq' => exact False.elim hq'
  | .ok (.ret u), hq' =>
    obtain ⟨v, H', I', rv, it, l, rfl, hn, hno, rfl, hT, hspL⟩ := I.after hq'
    cases rv
    have eo : s'.heap.get? it = some (itT l) := (I'.hok it _ upd_same).1
    have st : s'.heap.IsTupleIter it l 0 := ⟨_, eo, rfl, rfl⟩
    have hai : upd (upd H q (.lst [])) it (ItTO l it) a = some (.ins C dx fs) := by rw [upd_ne (ne_of_none ha hno)]; exact ha
    unfold PySem.W.OwitIt
    refine wpAny_specialOf (name := Str.ofString "__next__") st.typeIs PySem.F.slot_tuple_iterator_next.lookup ?_
    dsimp only
    refine wpAny_bind (wpAny_holding (ownT_hint ⟨sb.room.mono n1, sb.fr⟩ FL I' hai hspL fun b s2 I2 => ?_))
    have eo2 : s2.heap.get? it = some (itT l) := (I2.hok it _ upd_same).1
    have st2 : s2.heap.IsTupleIter it l 0 := ⟨_, eo2, rfl, rfl⟩
    have dr : ItX.dropH (upd (upd H q (.lst [])) it (ItTO l it)) it = upd H q (.lst []) := ItX.dropH_upd hno
    have hi' : (upd (upd H q (.lst [])) it (ItTO l it)) it = some (ItTO l it) := upd_same
    unfold ItTO at hi'
    have fp := ItX.inv_fp I2 hi' (Nat.le_trans I.sz hn)
    have I3 := ItX.inv_drop I2 hi'
    rw [dr] at fp I3
    have last : ∀ s3 : Shared, Inv X pins σ (upd H q (.lst [])) s3 → s3.heap.IsTupleIter it l 0 → codeAny (model X.prog X.w) A1 (.builtin "list.extend.loop" ⟨[.ref q, .ref it, .none], []⟩) Rs s3 := fun s3 I4 st4 =>
      ownT_loop (A1 := A1) (zs := zs) (show A1.handled = none from hh) hT fr hz hdone zs.length 0 s3 (by omega) I4 st4 fp
    have hq2 : upd H q (.lst []) q = some (.lst []) := upd_same
    obtain ⟨z, its, k3, r3, hl3, e3⟩ := I3.lstM hq2
    cases r3
    have nq : q ≠ it := ne_of_none upd_same hno
    refine wpAny_ite_split (fun _ => ?_) (fun _ => wpAny_pure ⟨plainId_quiet PySem.F.plain_extend_loop _, last s2 I3 st2⟩)
    refine wpAny_bind (wpAny_rule ?_)
    refine wpAny_bind ?_
    show wpAny _ _ (updateSeq q (·.push .none) >>= fun _ => updateSeq q (·.pop)) _ _ _
    refine wpAny_bind (wpAny_updateSeq e3 rfl ?_)
    have I4 := I3.lset (f := (·.push Value.none)) (its' := [Value.none]) (ys := [.non]) (t' := s2.toks) hq2 e3 (by simp) (.cons rfl .nil) (by rw [List.length_singleton, sizeLine_eq]; decide)
    obtain ⟨z4, its4, k4, r4, hl4, e4⟩ := I4.lstM upd_same
    obtain ⟨u4, rfl, ru4⟩ := r4.one
    refine wpAny_updateSeq e4 rfl ?_ (by show 1 ≤ sizeLine; rw [sizeLine_eq]; decide) (by show 0 ≤ sizeLine + 1; exact Nat.zero_le _)
    have I5 := I4.lset (f := (·.pop)) (its := [u4]) (its' := []) (ys := []) (t' := s2.toks) upd_same e4 (by rfl) .nil (Nat.zero_le _)
    rw [upd_upd, upd_upd] at I5
    exact wpAny_pure ⟨plainId_quiet PySem.F.plain_extend_loop _, last _ I5 ((st2.at fun o e' => Heap.get?_update_of_ne _ nq e').at fun o e' => Heap.get?_update_of_ne _ nq e')⟩
theorem call_listOwnT {n k kI : Nat} {C : Addr} {spI : Nat → Sp} {spL : Sp} (hc : X.calm = true) (n1 : k + 1 ≤ n) (n2 : kI ≤ n) (FI : ItrAt X.prog X.w X.K X.mg X.base kI C spI) (FL : SpAt X.prog X.w X.K X.mg X.base k C "__len__" ["self"] spL) (hr : Room (n + 2) X.A) : CallR X (.type "list") (rListOwn X.K C spI spL) := by
  intro pins s σ H xs us Q I rv h
  obtain ⟨a, dx, fs, zs, rfl, ha, hz, hq⟩ := h
  obtain ⟨u, rfl, ru⟩ := rv.one
  cases ru
  have sb : Sub X n X.A.in1.in1 := (Sub.in1 (Sub.in1 (⟨hr, rfl⟩ : Sub X (n + 2) X.A)))
  refine callType_codes (Q₁ := fun obj s₁ => obj = .ref s.heap.objs.size ∧ s₁ = { s with heap := s.heap.push { cls := .type "list", data := .seq #[] } }) PySem.F.called_list (PySem.F.typeCall_list_1 _) PySem.F.entry_list_init
    (code_list_new _ ⟨rfl, rfl⟩) fun obj s₁ h₁ => ?_
  obtain ⟨rfl, rfl⟩ := h₁
  have hS : (s.heap.push { cls := .type "list", data := .seq #[] }).get? s.heap.objs.size = some { cls := .type "list", data := .seq #[] } := Heap.get?_push_size _ rfl
  refine ⟨⟨_, hS, rfl⟩, PySem.F.args_list_init_2 _ _, ?_⟩
  have fr : H s.heap.objs.size = none := I.hok.fresh (Nat.le_refl _)
  obtain ⟨hsp, hQ⟩ := hq _ fr
  have I1 : Inv X pins σ (upd H s.heap.objs.size (.lst [])) { s with heap := s.heap.push { cls := .type "list", data := .seq #[] } } := I.lnew (its := []) (t' := s.toks) .nil (Nat.zero_le _)
  show wpAny _ _ (do let old ← Builtin.List.listItems (.ref s.heap.objs.size); Builtin.List.listUpdate (.ref s.heap.objs.size) (fun _ => #[]); letGo old.toList.reverse; Builtin.List.listExtendWith (.ref s.heap.objs.size) (.ref a) .none) _ _ _
  refine wpAny_bind ?_
  unfold Builtin.List.listItems
  refine wpAny_bind (wpAny_seqItems hS rfl (wpAny_pure ?_))
  show wpAny _ _ (updateSeq s.heap.objs.size (fun _ => #[]) >>= fun _ => letGo (#[] : Array Value).toList.reverse >>= fun _ => Builtin.List.listExtendWith (.ref s.heap.objs.size) (.ref a) .none) _ _ _
  refine wpAny_bind (wpAny_updateSeq hS rfl ?_)
  have I2 := I1.lset (f := fun _ => #[]) (its := []) (its' := []) (ys := []) (t' := s.toks) upd_same hS rfl .nil (Nat.zero_le _)
  rw [upd_upd] at I2
  refine wpAny_bind (wpAny_letGo ?_)
  have ha2 : upd H s.heap.objs.size (.lst []) a = some (.ins C dx fs) := by rw [upd_ne (ne_of_none ha fr)]; exact ha
  exact ownT_extend (A1 := X.A.in1) (Rs := wants (fun r s₂ => r = .none ∧ EP X pins σ Q (.ref s.heap.objs.size) s₂) X.xe) sb n1 n2 (show X.A.handled = none from I.ok.hd hc) FI FL fr hz
    (fun s' I' => ⟨rfl, .ref s.heap.objs.size, _, I', rfl, hQ⟩) I2 ha2 hsp
theorem sqT_down {K : PySem.W.Frag} {H : Hp} {a q : Addr} {vs xs : List V} (h : SqT K (upd H q (.lst vs)) a xs) : SqT K H a xs := by
  rcases h with (e | ⟨o, e⟩) | r
  · refine .inl (.inl ?_)
    by_cases z : a = q
    · rw [z, upd_same] at e; cases e
    · rw [upd_ne z] at e; exact e
  · refine .inl (.inr ⟨o, ?_⟩)
    by_cases z : a = q
    · rw [z, upd_same] at e; cases e
    · rw [upd_ne z] at e; exact e
  · exact .inr r
end
end My
/-! own != by an own ==, == with other kinds -/
namespace My
open PySem PySem.Spec PyProof.Rows L2
structure NeAt (P : Program) (w : World) (K : PySem.W.Frag) (mg : Str → Option Value) (base : Heap) (k : Nat) (C : Addr) (sp : Sp) : Prop where
  ex : ∃ (f : Addr) (fd : FuncData), NeK K C f ∧ Binds K fd ["self", "other"] [] ∧ FnOk P w K mg base CX0 k f fd ["self", "other"] sp
section
variable {X : Cx} {k : Nat} {C : Addr} {sp : Sp}
theorem neA (F : NeAt X.prog X.w X.K X.mg X.base k C sp) (hr : Room (k + 1) X.A) : OpR X (compareOp .NotEq) (rOwnNe C sp E0) := by
  obtain ⟨f, fd, T, hb, G⟩ := F.ex
  exact op_ownNe T G hr hb pass0
theorem eqAA (F : SpAt X.prog X.w X.K X.mg X.base k C "__eq__" ["self", "other"] sp) (hr : Room k X.A) : OpR X (compareOp .Eq) (rOwnEqA X.K C sp E0) := by
  obtain ⟨f, fd, hs, hf, hb, G⟩ := F.ex
  exact op_ownEqA hs hf G hr hb pass0
end
/-- the class has an own == and no own != -/
structure NEqT (K : PySem.W.Frag) (C : Addr) : Prop where
  ex : ∃ f, NeK K C f ∧ PySem.W.findIn K (.ref C) "__eq__" = some (some (.ref f))
/-- what == with another kind asks first -/
structure OrdF (K : PySem.W.Frag) (C : Addr) : Prop where
  f4 : PySem.W.notFirst K C (.type "tuple") = true
  k4 : PySem.W.kitOne K (.type "tuple") (.ref C) = some false
section
variable {P : Program} {w : World} {K : PySem.W.Frag} {mg : Str → Option Value} {base : Heap} {C : Addr}
theorem ok_one (NE : NEqT K C) (S_eq : SpAt P w K mg base 1 C "__eq__" ["self", "other"] (spOEq K C)) : NeAt P w K mg base 1 C (spOEq K C) := by
  obtain ⟨f1, nk, e1⟩ := NE.ex
  obtain ⟨f2, fd2, hs, hf, hb, Gk⟩ := S_eq.ex
  have e := hs.symm.trans e1
  cases e
  exact ⟨f1, fd2, nk, hb, Gk⟩
end
theorem mk_useR {K : PySem.W.Frag} {C a b : Addr} {zs ys : List Str} {H : Hp} {R : Addr → Hp → Prop} {E : XK} (ha : SqT K H a (zs.map V.str)) (hb : SqT K H b (ys.map V.str)) (ro : RowsOk zs ys) (k : ∀ x H', Ext H H' → OrdAt K C H' x zs ys → R x H') :
    ∀ x dx, H x = none → H dx = none → dx ≠ x → spOInit K C (.ref x :: ([.ref a, .ref b] ++ [])) (upd (upd H dx (.own x)) x (.ins C dx [])) (fun v H2 => v = .non ∧ R x H2) E := fun x dx hx hd ne => by
  have e1 : Ext H (upd (upd H dx (.own x)) x (.ins C dx [])) := ext_mut (ext_new (ext_refl H) hd) hx
  exact ⟨x, dx, a, b, zs, ys, rfl, upd_same, ha.ext e1, hb.ext e1, ro, fun H' kp oa => ⟨rfl, k x H' (fun c o q => kp c o (e1 c o q) (ne_of_none q hx)) oa.at⟩⟩
section
variable {X : Cx} {k : Nat} {C : Addr} {x : Str} {ps : List Str} {sp : Sp} {p pos apos : Pos} {e o : Expr} {es : List Expr} {t : TA} {to : TE}
theorem methA {pl : Sem Bool} (F : MethAt X.prog X.w X.K X.mg X.base k C x ps sp) (c : Cls X.K C) (hr : Room k X.A) (he : PE X o to) (ha : PA X (e :: es) t)
    (hst : starEach (e :: es) X.env = (false, eval e X.env) :: starEach es X.env := by rfl) (hpl : (backTo pos (starEach es X.env)).any (·.1) = false := by rfl)
    (ht : eval (.Call (.Attribute o x apos) (e :: es) [] pos) X.env = (do
      let ov ← eval o X.env
      standAt apos.atName
      let (f, first) ← holding [ov] (getMethod ov x pl)
      callWith pos f first (backTo pos (starEach (e :: es) X.env)) (backToKw pos (keywordEach [] X.env))) := by rfl) : PE X (.Call (.Attribute o x apos) (e :: es) [] pos) (tMeth C x sp [] E0 to t) := by
  obtain ⟨f, fd, M, hb, G⟩ := F.ex
  exact pe_meth he c M G hr hb .nil pass0 ha hst hpl ht
theorem meth0A {pl : Sem Bool} (F : MethAt X.prog X.w X.K X.mg X.base k C x ps sp) (c : Cls X.K C) (hr : Room k X.A) (he : PE X o to)
    (ht : eval (.Call (.Attribute o x apos) [] [] pos) X.env = (do
      let ov ← eval o X.env
      standAt apos.atName
      let (f, first) ← holding [ov] (getMethod ov x pl)
      callWith pos f first (backTo pos (starEach [] X.env)) (backToKw pos (keywordEach [] X.env))) := by rfl) : PE X (.Call (.Attribute o x apos) [] [] pos) (tMeth C x sp [] E0 to tNil) := by
  obtain ⟨f, fd, M, hb, G⟩ := F.ex
  exact pe_meth0 he c M G hr hb .nil pass0 ht
theorem strA (F : SpAt X.prog X.w X.K X.mg X.base k C "__str__" ["self"] sp) (hr : Room (k + 2) X.A) : CallR X (.type "str") (rStrOwn C sp E0) := by
  obtain ⟨f, fd, hs, hf, hb, G⟩ := F.ex
  exact call_strOwn hs hf G hr hb pass0
theorem lenA (F : SpAt X.prog X.w X.K X.mg X.base k C "__len__" ["self"] sp) (hr : Room (k + 1) X.A) : CallR X (.builtin "len") (rLenOwn C sp E0) := by
  obtain ⟨f, fd, hs, hf, hb, G⟩ := F.ex
  exact call_lenOwn hs hf G hr hb pass0
theorem inA (F : SpAt X.prog X.w X.K X.mg X.base k C "__contains__" ["self", "value"] sp) (hr : Room k X.A) : OpR X (compareOp .In) (rInOwn C sp E0 id) := by
  obtain ⟨f, fd, hs, hf, hb, G⟩ := F.ex
  exact op_inOwn hs hf G hr hb pass0
end
theorem mk_useB {K : PySem.W.Frag} {C a b : Addr} {zs ys : List Str} {H : Hp} {R : Addr → Hp → Prop} {E : XK} (ha : SqT K H a (zs.map V.str)) (hb : SqT K H b (ys.map V.str)) (ro : RowsOk zs ys) (k : ∀ x H', Ext H H' → OrdAB K C H' x a b zs ys → R x H') :
    ∀ x dx, H x = none → H dx = none → dx ≠ x → spOInit K C (.ref x :: ([.ref a, .ref b] ++ [])) (upd (upd H dx (.own x)) x (.ins C dx [])) (fun v H2 => v = .non ∧ R x H2) E := fun x dx hx hd ne => by
  have e1 : Ext H (upd (upd H dx (.own x)) x (.ins C dx [])) := ext_mut (ext_new (ext_refl H) hd) hx
  exact ⟨x, dx, a, b, zs, ys, rfl, upd_same, ha.ext e1, hb.ext e1, ro, fun H' kp oa => ⟨rfl, k x H' (fun c o q => kp c o (e1 c o q) (ne_of_none q hx)) oa⟩⟩
/-- a and b, b told whatever is asked of it -/
theorem and_read {c : Bool} {tb : TE} {σ : L2.St} {H : Hp} {Q : VK} (d : Bool) (h : c = true → ∀ R : VK, R (.bl d) H → tb σ H R) (q : Q (.bl (c && d)) H) : if c = true then tb σ H Q else Q (.bl false) H := by
  cases c
  · exact q
  · exact h rfl Q q
end My
/-! sorted(a tuple of ints); slices -/
namespace My
open PySem PySem.Spec PyProof.Rows L2
section
variable {prog : Program} {w : World} {A : Around} {E : Value → Shared → Prop} {s : Shared}
theorem sorted_tupI {l : Addr} {vs : List Value} {ns : List Int} {Q : Value → Shared → Prop} (at_ : s.heap.IsTuple l vs.toArray) (hI : IntsAre vs ns) (few : vs.length < 64)
    (go : ∀ (out : Array Value) (ns' : List Int), IntsAre out.toList ns' → ns'.Perm ns → ns'.Pairwise (· ≤ ·) → Q (.ref (s.heap.objs.size + 1)) { s with heap := sortedAll s.heap vs out }) :
    wpAny (model prog w) A (call (.builtin "sorted") [.ref l]) Q E s := by
  refine Calls.call_function_entry kind_sorted plain_sorted entry_sorted (args_sorted1 _) (?_)
  unfold Builtin.«sorted»
  refine wpAny_bind (m := checkCount "sorted" 1 1 _) (wpAny_pure (wpAny_bind (collect_tup at_ (by rw [sizeLine_eq]; omega) (wpAny_bind (wpAny_newList (?_))))))
  have sz : ((s.heap.push (seqObj "list" #[] 0)).update s.heap.objs.size (Obj.mapSeq (· ++ vs.toArray))).objs.size = s.heap.objs.size + 1 := by rw [Heap.size_update, size_push']
  have at2 : (((s.heap.push (seqObj "list" #[] 0)).update s.heap.objs.size (Obj.mapSeq (· ++ vs.toArray))).push (seqObj "list" vs.toArray 0)).get? (s.heap.objs.size + 1) = some (seqObj "list" vs.toArray 0) := by
    rw [← sz]
    exact Heap.get?_push_size _ rfl
  show wpAny _ _ _ _ _ { s with heap := ((s.heap.push (seqObj "list" #[] 0)).update s.heap.objs.size (Obj.mapSeq (· ++ vs.toArray))).push (seqObj "list" vs.toArray 0) }
  rw [sz]
  refine wpAny_bind (wpAny_holding (wpAny_call_entry slot_list_sort ⟨_, at2, rfl⟩ entry_list_sort (list_sort_tree at2 hI few fun out ns' a1 a2 a3 => ⟨_, rfl, ?_⟩) (args_list_sort _)))
  exact wpAny_pure ⟨_, rfl, go out ns' a1 a2 a3⟩
end
/-- sorted(ints), a list's or a tuple's -/
def rSortedBI (K : PySem.W.Frag) : List V → Hp → VK → Prop := fun vs H Q => ∃ (a : Addr) (xs : List Int), vs = [.ref a] ∧ (SqL K H a (xs.map V.int) ∨ SqT K H a (xs.map V.int)) ∧ xs.length < 64 ∧ ∀ (ys : List Int) (p : Addr), ys.Perm xs → ys.Pairwise (· ≤ ·) → H p = none → Q (.ref p) (upd H p (.lst (ys.map V.int)))
theorem cr_sortedBI {X : Cx} : CallR X (.builtin "sorted") (rSortedBI X.K) := by
  intro pins s σ H vs us Q I r h
  obtain ⟨a, xs, rfl, hs, h64, q⟩ := h
  rcases hs with hs | hs
  · exact cr_sorted pins s σ H _ us Q I r ⟨a, xs, rfl, hs, h64, q⟩
  · obtain ⟨its, rv, pl, _⟩ := I.tuple hs
    rw [Vals.ref1 r]
    have l0 := rv.length
    rw [List.length_map] at l0
    refine sorted_tupI (vs := its) (by obtain ⟨o, ho, hcl, n, hd⟩ := pl; exact ⟨o, ho, hcl, n, hd⟩) rv.ints (by rw [← l0]; exact h64) fun out ys h1 h2 h3 => ?_
    obtain ⟨ep, he'⟩ := PyProof.Rows.sortedAll_at s.heap its out
    have len : (ys.map V.int).length ≤ sizeLine := by rw [List.length_map, h2.length_eq]; exact small64 h64
    exact ⟨.ref _, upd H (s.heap.objs.size + 1) (.lst (ys.map V.int)), I.laid (t' := s.toks) (fun _ _ => PyProof.Rows.sortedAll_old) (Nat.le_succ _) ⟨len, out.toList, ep, vals_of_ints h1, he'⟩, rfl, q ys _ h2 h3 (I.hok.fresh (Nat.le_succ _))⟩
theorem cutV_whole {xs : List V} {lo hi : Option Int} (h : HT.sIx xs.length 0 lo = 0 ∧ HT.sIx xs.length xs.length hi = xs.length) : cutV xs lo hi = xs := by
  unfold cutV
  rw [h.1, h.2, Nat.sub_zero, List.drop_zero, List.take_of_length_le (Nat.le_refl _)]
/-- a slice of a tuple, whole or not -/
theorem slA_use {K : PySem.W.Frag} {H : Hp} {c : Addr} {xs : List V} {lo hi : Option Int} {Q : VK} (hc : SqT K H c xs) (k : ∀ p H', Ext H H' → SqT K H' p (cutV xs lo hi) → Q (.ref p) H') : rSlA K (.ref c) lo hi H Q := by
  refine ⟨c, _, rfl, hc, fun w => k c H (ext_refl H) (by rw [cutV_whole w]; exact hc), fun _ p hp => ?_⟩
  exact k p _ (ext_new (ext_refl H) hp) (SqT.of upd_same)
/-- t + u, empty ones, too -/
theorem catA_use {K : PySem.W.Frag} {H : Hp} {a b : Addr} {xs ys : List V} {Q : VK} (ha : SqT K H a xs) (hb : SqT K H b ys) (l : xs.length + ys.length ≤ 1000) (k : ∀ p H', Ext H H' → SqT K H' p (xs ++ ys) → Q (.ref p) H') : rCatA K (.ref a) (.ref b) H Q := by
  refine ⟨a, b, _, _, rfl, rfl, ha, hb, len_ok l, fun e => ?_, fun _ e => ?_, fun _ _ p hp => ?_⟩
  · subst e
    exact k b H (ext_refl H) hb
  · subst e
    exact k a H (ext_refl H) (by rw [List.append_nil]; exact ha)
  · exact k p _ (ext_new (ext_refl H) hp) (SqT.of upd_same)
theorem cut_mid {xs : List V} {i : Nat} (h : i + 1 ≤ xs.length) : cutV xs (some (i : Int)) (some (-1)) = xs.dropLast.drop i := by
  unfold cutV
  have e1 : HT.sIx xs.length xs.length (some (-1)) = xs.length - 1 := by
    unfold HT.sIx
    simp
    omega
  rw [HT.sIx_nat, e1, Nat.min_eq_left (by omega), List.dropLast_eq_take, List.drop_take]
theorem cut_init {xs : List V} (h : 1 ≤ xs.length) : cutV xs none (some (-1)) = xs.dropLast := by
  unfold cutV
  have e1 : HT.sIx xs.length xs.length (some (-1)) = xs.length - 1 := by
    unfold HT.sIx
    simp
    omega
  rw [HT.sIx_none, e1, List.dropLast_eq_take, Nat.sub_zero, List.drop_zero]
end My
namespace My
open PySem PySem.Spec PyProof.Rows L2
local macro_rules | `(tactic| walk_at "side") => `(tactic| first | assumption | decide | exact Or.inl ⟨by decide, by decide⟩ | exact Or.inr ⟨by decide, by decide⟩ | exact ⟨by decide, by decide, by decide⟩ | omega | (unfold CMulW; decide +kernel) | (dsimp only; first | assumption | omega | decide +kernel) | exact len_ok (Nat.le_of_ble_eq_true rfl) | fail "side")
local macro_rules | `(tactic| walk_at "rd") => `(tactic| first
  | refine ⟨_, _, _, _, rfl, rfl, SqL.of upd_same, atI_nat (j := 0) rfl, ?_⟩ | refine ⟨_, _, _, _, rfl, rfl, SqL.of upd_same, atI_nat (j := 1) rfl, ?_⟩ | refine ⟨_, _, _, _, rfl, rfl, SqL.of upd_same, atI_nat (j := 2) rfl, ?_⟩
  | refine ⟨_, _, _, _, rfl, rfl, upd_same, rfl, ?_⟩
  | refine ⟨_, _, rfl, rfl, ?_⟩ | refine ⟨_, rfl, ?_⟩ | refine ⟨_, _, rfl, ?_⟩ | refine Or.inl ⟨_, rfl, ?_⟩ | refine Or.inr ⟨_, rfl, ?_⟩ | refine ⟨(by walk_at "side"), ?_⟩ | fail "rd")

abbrev s_lform : Stmt := top 25
theorem sc_lform : FnScope ["_law_upper", "_law_lower", "_law_one", "_law_other", "_law_ahead", "_law_below"] ["_law_upper", "_law_lower", "_law_one", "_law_other"] (defScope s_lform) := ⟨rfl, rfl, rfl, by decide +kernel, rfl, by decide +kernel, by decide +kernel⟩
abbrev s_lhas : Stmt := top 26
theorem sc_lhas : FnScope ["_law_order", "_law_upper", "_law_lower"] ["_law_order", "_law_upper", "_law_lower"] (defScope s_lhas) := ⟨rfl, rfl, rfl, by decide +kernel, rfl, by decide +kernel, by decide +kernel⟩
def spLForm (K : PySem.W.Frag) : Sp := fun vs H Q _ => ∃ (a b : Addr) (zs ys : List Str) (u v : Str), vs = [.ref a, .ref b, .str u, .str v] ∧ SqL K H a (zs.map V.str) ∧ SqL K H b (ys.map V.str) ∧ RowsOk zs ys ∧ u ∈ zs ∧ v ∈ zs ∧ Q (.int (frm zs ys u v)) H
def spLHas (K : PySem.W.Frag) (C : Addr) : Sp := fun vs H Q _ => ∃ (o a b : Addr) (zs ys : List Str), vs = [.ref o, .ref a, .ref b] ∧ OrdAt K C H o zs ys ∧ SqL K H a (zs.map V.str) ∧ SqL K H b (ys.map V.str) ∧ ("none" : Str) ∉ zs ∧ zs.length ≤ 30 ∧ ∀ H', Ext H H' → Q (.bl true) H'
section
variable {P : Program} {w : World} {K : PySem.W.Frag} {mg : Str → Option Value} {base : Heap} {C : Addr}
theorem ok_lform (T : Bn mg) (D : DefAt K mg "_law_form" s_lform) : FnAt P w K mg base 1 "_law_form" ["_law_upper", "_law_lower", "_law_one", "_law_other"] (spLForm K) := by
  refine fnAt D sc_lform (fun _ _ _ _ _ _ us hl => match us, hl with | [_, _, _, _], _ => rfl) (fun vs H Q E h => ?_) fun f cdv A outer s H vs Q E hr h => ?_
  · obtain ⟨a, b, us, ls, u, v, rfl, _⟩ := h
    rfl
  obtain ⟨a, b, zs, ys, u, v, rfl, ha, hb, ro, hu, hv, k⟩ := h
  refine ⟨_, (pss_cons (ps_set (i := 4) sc_lform.nd rfl (Or.inl rfl) (pe_ifExp (pt_cmpR op_lt (pe_bm PySem.F.plainAttrs_list PySem.F.slot_list_index PySem.F.type_list_index mt_index (pv 0) (pa_cons (pv 2) pa_nil)) (pe_bm PySem.F.plainAttrs_list PySem.F.slot_list_index PySem.F.type_list_index mt_index (pv 0) (pa_cons (pv 3) pa_nil)) (nomark _)) pe_int (pe_un un_neg pe_int)))
    (pss_cons (ps_set (i := 5) sc_lform.nd rfl (Or.inl rfl) (pe_ifExp (pt_cmpR op_lt (pe_bm PySem.F.plainAttrs_list PySem.F.slot_list_index PySem.F.type_list_index mt_index (pv 1) (pa_cons (pv 2) pa_nil)) (pe_bm PySem.F.plainAttrs_list PySem.F.slot_list_index PySem.F.type_list_index mt_index (pv 1) (pa_cons (pv 3) pa_nil)) (nomark _)) pe_int (pe_un un_neg pe_int)))
    (pss_one (ps_ret (pe_ifExp (PW.pt (pw_and (pt_cmpR op_ne (pv 4) (pv 5) (nomark _)) (pw_and1 (pt_cmpR op_ne (pv 2) (pv 3) (nomark _))))) (pv 4) pe_int))))), ?_⟩
  have hu2 : u ∈ ys := ro.pm.mem_iff.mpr hu
  have hv2 : v ∈ ys := ro.pm.mem_iff.mpr hv
  have ea : ∀ l : List Str, aheadI l u v = if pos l u < pos l v then 1 else 0 := fun l => rfl
  unfold frm at k
  rw [ea, ea] at k
  have tz : ∀ l : List Str, decide (((pos l u : Nat) : Int) < (pos l v : Nat)) = decide (pos l u < pos l v) := fun l => by
    rw [Bool.eq_iff_iff, decide_eq_true_iff, decide_eq_true_iff]
    omega
  have nuv : ∀ l : List Str, (pos l u < pos l v) → (!decide (V.str u = V.str v)) = true := fun l h => by
    rw [Bool.not_eq_true', decide_eq_false_iff_not]
    intro z
    cases z
    omega
  have nuv2 : ¬ (pos ys u < pos ys v ↔ pos zs u < pos zs v) → (!decide (V.str u = V.str v)) = true := fun h => by
    rw [Bool.not_eq_true', decide_eq_false_iff_not]
    intro z
    cases z
    exact h (by omega)
  have same : ∀ x : V, (!decide (x = x)) = false := fun x => by
    rw [decide_eq_true rfl]
    rfl
  have d1 : (!decide (V.int 1 = V.int (-1))) = true := by
    rw [Bool.not_eq_true', decide_eq_false_iff_not]
    intro z
    cases z
  have d2 : (!decide (V.int (-1) = V.int 1)) = true := by
    rw [Bool.not_eq_true', decide_eq_false_iff_not]
    intro z
    cases z
  refine ⟨_, rfl, .inl ⟨rfl, _, ha⟩, _, rfl, ?_⟩
  dsimp only [tNil]
  refine idx_use ha hu ?_
  refine ⟨_, rfl, .inl ⟨rfl, _, ha⟩, _, rfl, ?_⟩
  dsimp only [tNil]
  refine idx_use ha hv ?_
  refine ⟨_, _, rfl, rfl, _, rfl, ?_⟩
  rw [tz]
  refine ite2 (fun c => ?_) (fun c => ?_)
  · rw [if_pos (of_decide_eq_true c)] at k
    refine ⟨_, rfl, .inl ⟨rfl, _, hb⟩, _, rfl, ?_⟩
    dsimp only [tNil]
    refine idx_use hb hu2 ?_
    refine ⟨_, rfl, .inl ⟨rfl, _, hb⟩, _, rfl, ?_⟩
    dsimp only [tNil]
    refine idx_use hb hv2 ?_
    refine ⟨_, _, rfl, rfl, _, rfl, ?_⟩
    rw [tz]
    refine ite2 (fun c2 => ?_) (fun c2 => ?_)
    · rw [if_pos (of_decide_eq_true c2)] at k
      refine ⟨_, rfl, _, rfl, rfl, _, rfl, ?_⟩
      rw [same]
      exact k
    · rw [if_neg fun z => c2 (decide_eq_true z)] at k
      refine ⟨_, rfl, _, rfl, _, rfl, rfl, _, rfl, ?_⟩
      rw [show (!decide (V.int 1 = (fun i => V.int (-i)) 1)) = true from d1]
      refine ⟨_, rfl, _, rfl, rfl, _, rfl, ?_⟩
      rw [nuv zs (of_decide_eq_true c)]
      exact ⟨_, rfl, k⟩
  · rw [if_neg fun z => c (decide_eq_true z)] at k
    refine ⟨_, rfl, _, rfl, .inl ⟨rfl, _, hb⟩, _, rfl, ?_⟩
    dsimp only [tNil]
    refine idx_use hb hu2 ?_
    refine ⟨_, rfl, .inl ⟨rfl, _, hb⟩, _, rfl, ?_⟩
    dsimp only [tNil]
    refine idx_use hb hv2 ?_
    refine ⟨_, _, rfl, rfl, _, rfl, ?_⟩
    rw [tz]
    refine ite2 (fun c2 => ?_) (fun c2 => ?_)
    · rw [if_pos (of_decide_eq_true c2)] at k
      refine ⟨_, rfl, _, rfl, rfl, _, rfl, ?_⟩
      rw [show (!decide ((fun i => V.int (-i)) 1 = V.int 1)) = true from d2]
      refine ⟨_, rfl, _, rfl, rfl, _, rfl, ?_⟩
      rw [nuv ys (of_decide_eq_true c2)]
      exact ⟨_, rfl, k⟩
    · rw [if_neg fun z => c2 (decide_eq_true z)] at k
      refine ⟨_, rfl, _, rfl, _, rfl, rfl, _, rfl, ?_⟩
      rw [same]
      exact k
theorem ok_lhas (T : Bn mg) (OT : OrdT K mg C) (OF : OrdF K C) (D : DefAt K mg "_law_has" s_lhas) (F_init : OInitAt P w K mg base 5 C (spOInit K C)) (P_above : PropAt P w K mg base 1 C "above" (spGetT K C fun zs _ => zs.map V.str)) (P_below : PropAt P w K mg base 1 C "below" (spGetT K C fun _ ys => ys.map V.str))
    (S_eq : SpAt P w K mg base 1 C "__eq__" ["self", "other"] (spOEq K C)) (S_ne : NeAt P w K mg base 1 C (spOEq K C)) : FnAt P w K mg base 8 "_law_has" ["_law_order", "_law_upper", "_law_lower"] (spLHas K C) := by
  refine fnAt D sc_lhas (fun _ _ _ _ _ _ us hl => match us, hl with | [_, _, _], _ => rfl) (fun vs H Q E h => ?_) fun f cdv A outer s H vs Q E hr h => ?_
  · obtain ⟨o, a, b, zs, ys, rfl, _⟩ := h
    rfl
  obtain ⟨o, a, b, zs, ys, rfl, oa, ha, hb, nn, l30, k⟩ := h
  refine ⟨_, (pss_cons (ps_par (i := 1) (j := 2) rfl sc_lhas.nd rfl rfl (by decide) rfl rfl (pa_cons (pe_callTy call_tuple_of (by rfl) T.b_tuple (by decide +kernel) (pa_cons (pv 1) pa_nil)) (pa_cons (pe_callTy call_tuple_of (by rfl) T.b_tuple (by decide +kernel) (pa_cons (pv 2) pa_nil)) pa_nil)) (by rfl))
    (pss_cons (ps_if (PW.pt (pw_or (pt_cmpR (op_neD (hu64 hr)) (pe_lst (pa_cons (propA P_above OT.cl (hr.mono (by decide)) (pv 0)) (pa_cons (propA P_below OT.cl (hr.mono (by decide)) (pv 0)) pa_nil))) (pe_lst (pa_cons (pv 1) (pa_cons (pv 2) pa_nil))) (nomark _)) (pw_or1 (pt_cmpR (neA S_ne (hr.mono (by decide))) (pv 0) (mkO F_init OT (hr.mono (by decide)) (pa_cons (pv 1) (pa_cons (pv 2) pa_nil))) (nomark _))))) (pss_one (ps_ret pe_bl)) pss_nil)
    (pss_one (ps_ret (pe_and (pe_not (pe_cmpR (eqAA S_eq (hr.mono (by decide))) (pv 0) (pe_tup (pa_cons (pv 1) (pa_cons (pv 2) pa_nil))) (nomark _))) (pe_one (pe_not (pe_cmpR (eqA S_eq (hr.mono (by decide))) (pv 0) (mkO F_init OT (hr.mono (by decide)) (pa_cons (pe_op op_catA (pe_revT (pv 1)) (pe_tup (pa_cons pe_str pa_nil))) (pa_cons (pe_op op_catA (pv 2) (pe_tup (pa_cons pe_str pa_nil))) pa_nil))) (nomark _))))))))), ?_⟩
  obtain ⟨dx, a0, b0, c0, e, ha0, hb0, hc0, ro⟩ := id oa
  have l2 := ro.len
  refine ⟨_, rfl, a, _, rfl, .inl ⟨ha, fun p hp => ?_⟩⟩
  have x1 := ext_new (o := HO.tup (zs.map V.str)) (ext_refl H) hp
  refine ⟨_, rfl, b, _, rfl, .inl ⟨hb.ext x1, fun q hq => ⟨_, _, rfl, ?_⟩⟩⟩
  have x2 := ext_new (o := HO.tup (ys.map V.str)) (ext_refl _) hq
  have e12 := x1.trans x2
  have hp2 : SqT K (upd (upd H p (.tup (zs.map V.str))) q (.tup (ys.map V.str))) p (zs.map V.str) := SqT.of (x2 _ _ upd_same)
  have hq2 : SqT K (upd (upd H p (.tup (zs.map V.str))) q (.tup (ys.map V.str))) q (ys.map V.str) := SqT.of upd_same
  generalize upd (upd H p (.tup (zs.map V.str))) q (.tup (ys.map V.str)) = H2 at e12 hp2 hq2 ⊢
  have oa2 := oa.ext e12
  have e2 := e12 _ _ e
  have okz : (zs.map PyData.str).all (pl 2) = true := pl_strs fun z hz => nm_ok (ro.nm z hz)
  have oky : (ys.map PyData.str).all (pl 2) = true := pl_strs fun z hz => nm_ok (ro.symm.nm z hz)
  have pp : pl 4 (.list [.tuple (zs.map .str), .tuple (ys.map .str)]) = true := by
    show ((zs.map PyData.str).all (pl 2) && ((ys.map PyData.str).all (pl 2) && true)) = true
    rw [okz, oky]
    rfl
  refine ⟨_, rfl, o, dx, _, rfl, e2, o, zs, ys, rfl, oa2, fun A1 hA1 => ⟨_, rfl, o, dx, _, rfl, e2, o, zs, ys, rfl, oa2, fun B1 hB1 => ⟨len_ok (Nat.le_of_ble_eq_true rfl), fun L1 hL1 => ?_⟩⟩⟩
  have x3 := ext_new (o := HO.lst [V.ref A1, V.ref B1]) (ext_refl H2) hL1
  refine ⟨_, rfl, _, rfl, len_ok (Nat.le_of_ble_eq_true rfl), fun L2 hL2 => ?_⟩
  have x4 := ext_new (o := HO.lst [V.ref p, V.ref q]) (ext_refl _) hL2
  have x34 := x3.trans x4
  refine neD_use (d := .list [.tuple (zs.map .str), .tuple (ys.map .str)]) (e := .list [.tuple (zs.map .str), .tuple (ys.map .str)]) 4 (by decide) (.lst (SqL.of (x4 _ _ upd_same)) (.cons (.tup (hA1.ext x34) (dp_strs zs)) (.cons (.tup (hB1.ext x34) (dp_strs ys)) .nil))) (.lst (SqL.of upd_same) (.cons (.tup (hp2.ext x34) (dp_strs zs)) (.cons (.tup (hq2.ext x34) (dp_strs ys)) .nil))) pp pp fun bb hbb => ?_
  have hb1 : bb = true := hbb.mpr rfl
  subst hb1
  refine ⟨_, rfl, ?_⟩
  have e4 := e12.trans x34
  have hp4 := hp2.ext x34
  have hq4 := hq2.ext x34
  generalize upd (upd H2 L1 (.lst [V.ref A1, V.ref B1])) L2 (.lst [V.ref p, V.ref q]) = H4 at e4 hp4 hq4 ⊢
  refine iteF ?_
  refine ⟨_, rfl, _, rfl, _, rfl, ?_⟩
  dsimp only [tNil]
  refine mk_useR (K := K) (C := C) hp4 hq4 ro fun x H5 e5 oax => ?_
  have e15 := e4.trans e5
  have oa5 := oa.ext e15
  obtain ⟨dx5, a5, b5, c5, ex5, _⟩ := id oax
  refine ⟨o, dx, _, x, dx5, _, rfl, e15 _ _ e, rfl, ex5, o, .ref x, zs, ys, rfl, oa5, .inl ⟨x, zs, ys, rfl, oax, _, rfl, ?_⟩⟩
  rw [decide_eq_true rfl, decide_eq_true rfl]
  refine ⟨_, rfl, iteF ?_⟩
  have hp5 := hp4.ext e5
  have hq5 := hq4.ext e5
  refine ⟨_, rfl, _, rfl, _, rfl, len_ok (Nat.le_of_ble_eq_true rfl), fun t ht => ?_⟩
  have x6 := ext_new (o := HO.tup [V.ref p, V.ref q]) (ext_refl H5) ht
  have e16 := e15.trans x6
  refine ⟨o, dx, _, .type "tuple", rfl, e16 _ _ e, .base (.tup upd_same), OF.f4, o, .ref t, zs, ys, rfl, oa.ext e16, .inr ⟨.type "tuple", .base (.tup upd_same), OF.k4, _, rfl, _, rfl, ?_⟩⟩
  rw [if_pos (show (!false) = true from rfl)]
  have hp6 := hp5.ext x6
  have hq6 := hq5.ext x6
  generalize upd H5 t (.tup [V.ref p, V.ref q]) = H6 at e16 hp6 hq6 ⊢
  refine ⟨_, rfl, _, rfl, p, _, rfl, hp6, fun r hr => ?_⟩
  have x7 := ext_new (o := HO.tup (zs.map V.str).reverse) (ext_refl H6) hr
  refine ⟨len_ok (Nat.le_of_ble_eq_true rfl), fun n hn => ?_⟩
  have x8 := ext_new (o := HO.tup [V.str "none"]) (ext_refl _) hn
  have l40 := ro.le
  refine catA_use (SqT.of (x8 _ _ upd_same)) (SqT.of upd_same) (by rw [List.length_reverse, List.length_map, List.length_singleton]; omega) fun p7 H7 e7 hp7 => ?_
  have e67 := (x7.trans x8).trans e7
  refine ⟨_, rfl, len_ok (Nat.le_of_ble_eq_true rfl), fun n2 hn2 => ?_⟩
  have x9 := ext_new (o := HO.tup [V.str "none"]) (ext_refl H7) hn2
  refine catA_use ((hq6.ext e67).ext x9) (SqT.of upd_same) (by rw [List.length_map, List.length_singleton]; omega) fun p8 H8 e8 hp8 => ?_
  have e78 := x9.trans e8
  have n1 : (zs.map V.str).reverse ++ [V.str "none"] = (zs.reverse ++ [("none" : Str)]).map V.str := by
    rw [List.map_append, List.map_reverse]
    rfl
  have n2' : ys.map V.str ++ [V.str "none"] = (ys ++ [("none" : Str)]).map V.str := by
    rw [List.map_append]
    rfl
  rw [n1] at hp7
  rw [n2'] at hp8
  have ron : RowsOk (zs.reverse ++ [("none" : Str)]) (ys ++ [("none" : Str)]) := by
    refine ⟨fun z hz => ?_, ?_, ?_, by rw [List.length_append]; exact Nat.le_add_left _ _, by rw [List.length_append, List.length_reverse, List.length_singleton]; omega⟩
    · rcases List.mem_append.mp hz with hz | hz
      · exact ro.nm z (List.mem_reverse.mp hz)
      · rw [List.mem_singleton.mp hz]
        decide +kernel
    · refine List.nodup_append.mpr ⟨List.nodup_iff_pairwise_ne.mpr (List.pairwise_reverse.mpr ((List.nodup_iff_pairwise_ne.mp ro.nd).imp fun q => q.symm)), by simp, fun x hx y hy z => ?_⟩
      rw [List.mem_singleton.mp hy] at z
      rw [z] at hx
      exact nn (List.mem_reverse.mp hx)
    · exact (ro.pm.trans (List.reverse_perm zs).symm).append_right _
  dsimp only [tNil]
  refine mk_useR (K := K) (C := C) (hp7.ext e78) hp8 ron fun x2 H9 e9 oax2 => ?_
  have e19 := ((e16.trans e67).trans e78).trans e9
  obtain ⟨dx9, a9, b9, c9, ex9, _⟩ := id oax2
  refine ⟨o, dx, _, x2, dx9, _, rfl, e19 _ _ e, rfl, ex9, o, .ref x2, zs, ys, rfl, oa.ext e19, .inl ⟨x2, _, _, rfl, oax2, _, rfl, ?_⟩⟩
  have ne : decide (zs = zs.reverse ++ [("none" : Str)]) = false := decide_eq_false fun z => by
    have := congrArg List.length z
    rw [List.length_append, List.length_reverse, List.length_singleton] at this
    omega
  rw [ne]
  exact k H9 e19
end
end My
namespace My
open PySem PySem.Spec PyProof.Rows L2
local macro_rules | `(tactic| walk_at "side") => `(tactic| first | assumption | decide | exact Or.inl ⟨by decide, by decide⟩ | exact Or.inr ⟨by decide, by decide⟩ | exact ⟨by decide, by decide, by decide⟩ | omega | (unfold CMulW; decide +kernel) | (dsimp only; first | assumption | omega | decide +kernel) | exact len_ok (Nat.le_of_ble_eq_true rfl) | fail "side")
local macro_rules | `(tactic| walk_at "rd") => `(tactic| first
  | refine ⟨_, _, _, _, rfl, rfl, SqL.of upd_same, atI_nat (j := 0) rfl, ?_⟩ | refine ⟨_, _, _, _, rfl, rfl, SqL.of upd_same, atI_nat (j := 1) rfl, ?_⟩ | refine ⟨_, _, _, _, rfl, rfl, SqL.of upd_same, atI_nat (j := 2) rfl, ?_⟩
  | refine ⟨_, _, _, _, rfl, rfl, upd_same, rfl, ?_⟩
  | refine ⟨_, _, rfl, rfl, ?_⟩ | refine ⟨_, rfl, ?_⟩ | refine ⟨_, _, rfl, ?_⟩ | refine Or.inl ⟨_, rfl, ?_⟩ | refine Or.inr ⟨_, rfl, ?_⟩ | refine ⟨(by walk_at "side"), ?_⟩ | fail "rd")

abbrev s_ocont : Stmt := inClass (top 12) 17
theorem sc_ocont : FnScope ["self", "value"] ["self", "value"] (defScope s_ocont) := ⟨rfl, rfl, rfl, by decide +kernel, rfl, by decide +kernel, by decide +kernel⟩
def spOCont (K : PySem.W.Frag) (C : Addr) : Sp := fun vs H Q _ => ∃ (o : Addr) (y : V) (zs ys : List Str), vs = [.ref o, y] ∧ OrdAt K C H o zs ys ∧ ((∃ z, y = .str z ∧ Q (.bl (decide (z ∈ zs))) H) ∨ (NoTx K H y ∧ Q (.bl false) H))
section
variable {P : Program} {w : World} {K : PySem.W.Frag} {mg : Str → Option Value} {base : Heap} {C : Addr}
theorem ok_ocont (D : SpT K C "__contains__" "Order.__contains__" s_ocont) (OT : OrdT K mg C) : SpAt P w K mg base 2 C "__contains__" ["self", "value"] (spOCont K C) := by
  refine spAt D sc_ocont (fun _ _ _ _ _ _ us hl => match us, hl with | [_, _], _ => rfl) (fun vs H Q E h => ?_) fun f cdv A outer s H vs Q E hr h => ?_
  · obtain ⟨o, y, zs, ys, rfl, _⟩ := h
    rfl
  obtain ⟨o, y, zs, ys, rfl, ⟨dx, a, b, c, e, ha, hb, hc, ro⟩, k⟩ := h
  refine ⟨_, (pss_one (ps_ret (pe_cmpR (op_inTx (hu1 hr)) (pv 1) (pe_fld (pv 0) rfl) rfl))), ?_⟩
  refine ⟨_, rfl, _, rfl, o, C, dx, _, _, rfl, e, OT.cl, OT.nA, ofs_a a b c, a, zs, rfl, ha, ?_⟩
  exact k
end
end My
namespace My
open PySem PySem.Spec PyProof.Rows L2 TL
local macro_rules | `(tactic| walk_at "side") => `(tactic| first | assumption | decide | exact Or.inl ⟨by decide, by decide⟩ | exact Or.inr ⟨by decide, by decide⟩ | exact ⟨by decide, by decide, by decide⟩ | omega | (unfold CMulW; decide +kernel) | (dsimp only; first | assumption | omega | decide +kernel) | exact len_ok (Nat.le_of_ble_eq_true rfl) | fail "side")
local macro_rules | `(tactic| walk_at "rd") => `(tactic| first
  | refine ⟨_, _, _, _, rfl, rfl, SqL.of upd_same, atI_nat (j := 0) rfl, ?_⟩ | refine ⟨_, _, _, _, rfl, rfl, SqL.of upd_same, atI_nat (j := 1) rfl, ?_⟩ | refine ⟨_, _, _, _, rfl, rfl, SqL.of upd_same, atI_nat (j := 2) rfl, ?_⟩
  | refine ⟨_, _, _, _, rfl, rfl, upd_same, rfl, ?_⟩
  | refine ⟨_, _, rfl, rfl, ?_⟩ | refine ⟨_, rfl, ?_⟩ | refine ⟨_, _, rfl, ?_⟩ | refine Or.inl ⟨_, rfl, ?_⟩ | refine Or.inr ⟨_, rfl, ?_⟩ | refine ⟨(by walk_at "side"), ?_⟩ | fail "rd")

abbrev s_ostr : Stmt := inClass (top 12) 19
theorem sc_ostr : FnScope ["self", "told", "name"] ["self"] (defScope s_ostr) := ⟨rfl, rfl, rfl, by decide +kernel, rfl, by decide +kernel, by decide +kernel⟩
/-! ### the text of an order -/
def upS (t z : Str) : Str := Str.empty ++ t ++ z ++ " "
def loS (t z : Str) : Str := Str.empty ++ t ++ " " ++ z
def otext (zs ys : List Str) : Str := ys.foldl loS (Str.empty ++ zs.foldl upS "" ++ "/")
theorem tl_empty : tl Str.empty = [] := rfl
theorem tl_upS (t z : Str) : tl (upS t z) = tl t ++ (tl z ++ tl " ") := by
  unfold upS
  rw [tl_append, tl_append, tl_append, tl_empty, List.nil_append, List.append_assoc]
theorem tl_loS (t z : Str) : tl (loS t z) = tl t ++ (tl " " ++ tl z) := by
  unfold loS
  rw [tl_append, tl_append, tl_append, tl_empty, List.nil_append, List.append_assoc]
theorem tl_ups : ∀ (zs : List Str) (t : Str), zs ≠ [] → tl (zs.foldl upS t) = tl t ++ (joinL (tl " ") (zs.map tl) ++ tl " ")
  | [], _, h => absurd rfl h
  | [z], t, _ => by
    rw [List.foldl_cons, List.foldl_nil, tl_upS]
    rfl
  | z :: y :: r, t, _ => by
    rw [List.foldl_cons, tl_ups (y :: r) _ (by simp), tl_upS]
    show _ = tl t ++ ((tl z ++ (tl " " ++ joinL (tl " ") ((y :: r).map tl))) ++ tl " ")
    simp only [List.append_assoc]
theorem tl_los : ∀ (zs : List Str) (t : Str), zs ≠ [] → tl (zs.foldl loS t) = tl t ++ (tl " " ++ joinL (tl " ") (zs.map tl))
  | [], _, h => absurd rfl h
  | [z], t, _ => by
    rw [List.foldl_cons, List.foldl_nil, tl_loS]
    rfl
  | z :: y :: r, t, _ => by
    rw [List.foldl_cons, tl_los (y :: r) _ (by simp), tl_loS]
    show _ = tl t ++ (tl " " ++ (tl z ++ (tl " " ++ joinL (tl " ") ((y :: r).map tl))))
    simp only [List.append_assoc]
/-- the law's words of it -/
theorem otext_eq {zs ys : List Str} (hz : zs ≠ []) (hy : ys ≠ []) : otext zs ys = Txt.join " " zs ++ " / " ++ Txt.join " " ys := by
  refine ext_tl ?_
  unfold otext
  rw [tl_los _ _ hy, tl_append, tl_append, tl_ups _ _ hz, tl_append, tl_append, join_eq, join_eq, tl_join, tl_join, tl_empty]
  have e : tl " / " = tl " " ++ (tl "/" ++ tl " ") := by decide +kernel
  have e0 : tl "" = [] := by decide +kernel
  rw [e, e0]
  simp only [List.append_assoc, List.nil_append]
theorem upS_len (t z : Str) : (upS t z).length = t.length + z.length + 1 := by
  unfold upS
  rw [Str.length_append, Str.length_append, Str.length_append]
  have : Str.empty.length = 0 := rfl
  have : (" " : Str).length = 1 := by decide +kernel
  omega
theorem loS_len (t z : Str) : (loS t z).length = t.length + z.length + 1 := by
  unfold loS
  rw [Str.length_append, Str.length_append, Str.length_append]
  have : Str.empty.length = 0 := rfl
  have : (" " : Str).length = 1 := by decide +kernel
  omega
def spOStr (K : PySem.W.Frag) (C : Addr) : Sp := fun vs H Q _ => ∃ (o : Addr) (zs ys : List Str), vs = [.ref o] ∧ OrdAt K C H o zs ys ∧ Q (.str (otext zs ys)) H
section
variable {P : Program} {w : World} {K : PySem.W.Frag} {mg : Str → Option Value} {base : Heap} {C : Addr}
theorem ok_ostr (D : SpT K C "__str__" "Order.__str__" s_ostr) (OT : OrdT K mg C) : SpAt P w K mg base 2 C "__str__" ["self"] (spOStr K C) := by
  refine spAt D sc_ostr (fun _ _ _ _ _ _ us hl => match us, hl with | [_], _ => rfl) (fun vs H Q E h => ?_) fun f cdv A outer s H vs Q E hr h => ?_
  · obtain ⟨o, zs, ys, rfl, _⟩ := h
    rfl
  obtain ⟨o, zs, ys, rfl, ⟨dx, a, b, c, e, ha, hb, hc, ro⟩, k⟩ := h
  have l1 := ro.le
  have l2 := ro.len
  have big : (1000000 : Nat) < sizeLine := by rw [sizeLine_eq]; decide
  refine ⟨_, (pss_cons (ps_set (i := 1) sc_ostr.nd rfl (Or.inl rfl) pe_str)
    (pss_cons (ps_for PassesOwn.never rfl (pi_tup (pe_fld (pv 0) rfl)) (pg_name (i := 2) sc_ostr.nd rfl (Or.inl rfl))
      (pss_one (ps_set (i := 1) sc_ostr.nd rfl (Or.inl rfl) (pe_joined (.cons (pe_fmt (pv 1)) (.cons (pe_fmt (pv 2)) (.cons pe_str .nil)))))))
    (pss_cons (ps_set (i := 1) sc_ostr.nd rfl (Or.inl rfl) (pe_joined (.cons (pe_fmt (pv 1)) (.cons pe_str .nil))))
    (pss_cons (ps_for PassesOwn.never rfl (pi_tup (pe_fld (pv 0) rfl)) (pg_name (i := 2) sc_ostr.nd rfl (Or.inl rfl))
      (pss_one (ps_set (i := 1) sc_ostr.nd rfl (Or.inl rfl) (pe_joined (.cons (pe_fmt (pv 1)) (.cons pe_str (.cons (pe_fmt (pv 2)) .nil)))))))
    (pss_one (ps_ret (pe_joined1 (pe_fmt (pv 1))))))))), ?_⟩
  have e0 : Str.empty.length = 0 := rfl
  have e1 : (" " : Str).length = 1 := by decide +kernel
  have e2 : ("/" : Str).length = 1 := by decide +kernel
  have e3 : ("" : Str).length = 0 := by decide +kernel
  refine ⟨_, rfl, o, C, dx, _, _, rfl, e, OT.cl, OT.nA, ofs_a a b c, a, rfl, ⟨_, ha⟩, ?_⟩
  refine for_it (walk_tup (xs := zs.map V.str)) (fun i σ' H' => ∃ u, σ' = [some (.ref o), some (.str ((zs.take i).foldl upS "")), u] ∧ H = H' ∧ ((zs.take i).foldl upS "").length ≤ 9 * i) ⟨none, rfl, rfl, by rw [List.take_zero, List.foldl_nil, e3]; exact Nat.zero_le _⟩ (fun i σ' H' _ p => ?_) (fun i x σ' H1 H' hi p y => ?_) fun σ' H' p => ?_
  · obtain ⟨u, _, rfl, _⟩ := p
    exact ha
  · obtain ⟨u, rfl, rfl, p3⟩ := p
    obtain ⟨rfl, hx⟩ := y
    rw [List.length_map] at hi
    rw [List.getElem?_map, List.getElem?_eq_getElem hi] at hx
    cases hx
    have ln := nm_len (ro.nm zs[i] (List.getElem_mem hi))
    have es : upS ((zs.take i).foldl upS "") zs[i] = (zs.take (i + 1)).foldl upS "" := by
      rw [List.take_succ_eq_append_getElem hi, List.foldl_append]
      rfl
    have el := upS_len ((zs.take i).foldl upS "") zs[i]
    rw [es] at el
    have elen : ∀ t z : Str, (Str.empty ++ t ++ z).length = t.length + z.length := fun t z => by
      rw [Str.length_append, Str.length_append, e0, Nat.zero_add]
    have hz' : (zs[i]).length ≤ 8 := ln
    refine ⟨_, rfl, .inl ⟨_, rfl, by omega, _, rfl, by rw [Str.length_append]; omega, ?_⟩⟩
    refine ⟨_, rfl, .inl ⟨_, rfl, by omega, _, rfl, by rw [elen]; omega, ?_⟩⟩
    refine ⟨_, rfl, by rw [Str.length_append, elen]; omega, ?_⟩
    refine ⟨some (.str zs[i]), ?_, rfl, ?_⟩
    · rw [← es]
      rfl
    · omega
  · obtain ⟨u, rfl, eH, p3⟩ := p
    subst eH
    rw [List.length_map, List.take_length] at p3 ⊢
    have elen : ∀ t z : Str, (Str.empty ++ t ++ z).length = t.length + z.length := fun t z => by
      rw [Str.length_append, Str.length_append, e0, Nat.zero_add]
    refine ⟨_, rfl, .inl ⟨_, rfl, by omega, _, rfl, by rw [Str.length_append]; omega, ?_⟩⟩
    refine ⟨_, rfl, by rw [elen]; omega, ?_⟩
    have lt0 : (Str.empty ++ zs.foldl upS "" ++ "/").length ≤ 9 * zs.length + 1 := by rw [elen]; omega
    refine ⟨_, rfl, o, C, dx, _, _, rfl, e, OT.cl, OT.nB, ofs_b a b c, b, rfl, ⟨_, hb⟩, ?_⟩
    refine for_it (walk_tup (xs := ys.map V.str)) (fun i σ' H' => ∃ u, σ' = [some (.ref o), some (.str ((ys.take i).foldl loS (Str.empty ++ zs.foldl upS "" ++ "/"))), u] ∧ H = H' ∧ ((ys.take i).foldl loS (Str.empty ++ zs.foldl upS "" ++ "/")).length ≤ 9 * zs.length + 1 + 9 * i) ⟨u, rfl, rfl, by rw [List.take_zero, List.foldl_nil]; exact lt0⟩ (fun i σ' H' _ p => ?_) (fun i x σ' H1 H' hi p y => ?_) fun σ' H' p => ?_
    · obtain ⟨u, _, rfl, _⟩ := p
      exact hb
    · obtain ⟨u, rfl, rfl, p3⟩ := p
      obtain ⟨rfl, hx⟩ := y
      rw [List.length_map] at hi
      rw [List.getElem?_map, List.getElem?_eq_getElem hi] at hx
      cases hx
      have ln := nm_len (ro.nm ys[i] (ro.pm.mem_iff.mp (List.getElem_mem hi)))
      have es : loS ((ys.take i).foldl loS (Str.empty ++ zs.foldl upS "" ++ "/")) ys[i] = (ys.take (i + 1)).foldl loS (Str.empty ++ zs.foldl upS "" ++ "/") := by
        rw [List.take_succ_eq_append_getElem hi, List.foldl_append]
        rfl
      have el := loS_len ((ys.take i).foldl loS (Str.empty ++ zs.foldl upS "" ++ "/")) ys[i]
      rw [es] at el
      refine ⟨_, rfl, .inl ⟨_, rfl, by omega, _, rfl, by rw [Str.length_append]; omega, ?_⟩⟩
      refine ⟨_, rfl, by rw [elen]; omega, ?_⟩
      refine ⟨_, rfl, .inl ⟨_, rfl, by omega, _, rfl, by rw [Str.length_append, elen]; omega, ?_⟩⟩
      refine ⟨some (.str ys[i]), ?_, rfl, ?_⟩
      · rw [← es]
        rfl
      · omega
    · obtain ⟨u, rfl, rfl, p3⟩ := p
      rw [List.length_map, List.take_length] at p3 ⊢
      exact ⟨_, rfl, .inl ⟨_, rfl, by omega, k⟩⟩
end
end My
/-! [.. for x, y in zip(l, m)] -/
namespace My
open PySem PySem.Spec PyProof.Rows L2
theorem made_zip {K : PySem.W.Frag} {a b D : Addr} {xs ys : List V} {te : TE} {vs : List Nat} {σ : L2.St} {H1 : Hp} {j1 j2 n : Nat} {Qd : Hp → Prop} (hn : n = min xs.length ys.length) (Pv : List V → Hp → Prop) (kp : Keeps D Pv) (hx : SqL K H1 a xs) (hy : SqL K H1 b ys) (hD : H1 D = none) (hz : n ≤ 1000000)
    (hw : ∀ x y, wipe (((wipe σ vs).set j1 (some x)).set j2 (some y)) vs = wipe σ vs) (h0 : ∀ H, Pv [] H)
    (he : ∀ i x y H' acc, xs[i]? = some x → ys[i]? = some y → Ext H1 H' → acc.length = i → Pv acc H' → ∀ Q' : VK, (∀ z H'', Ext H' H'' → Pv (acc ++ [z]) H'' → Q' z H'') → te (((wipe σ vs).set j1 (some x)).set j2 (some y)) H' Q')
    (hd : ∀ H' acc, Ext H1 H' → H' D = some (.lst acc) → acc.length = n → Pv acc H' → Qd H') :
    Block (Itz K a b) (gTup K 2 (gCons (gName j1) (gCons (gName j2) gNil))) tYes te vs σ H1 D Qd := by
  refine lc_it (walk_zip (xs := xs) (ys := ys) hn) (MadeP H1 D Pv) ⟨hD, ext_new (ext_refl H1) hD, [], upd_same, rfl, h0 _⟩ (fun i H' _ p => ⟨hx.ext p.2.1, hy.ext p.2.1⟩) (fun i v H H' hi p y => ?_) fun H' ⟨_, e, acc, q, hl, pv⟩ => hd H' acc e q hl pv
  obtain ⟨T, x, y, rfl, hT, rfl, h1, h2⟩ := y
  obtain ⟨_, e, acc, q, hl, pv⟩ := p
  have eT := ext_new (o := HO.tup [x, y]) (ext_refl H) hT
  have p2 : MadeP H1 D Pv i (upd H T (.tup [x, y])) := ⟨hD, e.trans eT, acc, eT _ _ q, hl, kp _ _ _ pv ⟨_, q⟩ fun c u hu _ => eT _ _ hu⟩
  refine ⟨T, _, rfl, SqT.of upd_same, rfl, _, _, rfl, _, _, rfl, rfl, hw x y, ?_⟩
  exact madeP_turn (by omega) kp p2 fun acc hl pv e' Q' k => he i x y _ acc h1 h2 e' hl pv Q' k
theorem made_tup {K : PySem.W.Frag} {a D : Addr} {xs : List V} {te : TE} {vs : List Nat} {σ : L2.St} {H1 : Hp} {j : Nat} {Qd : Hp → Prop} (Pv : List V → Hp → Prop) (kp : Keeps D Pv) (hx : SqT K H1 a xs) (hD : H1 D = none) (hz : xs.length ≤ 1000000) (hw : ∀ x, wipe ((wipe σ vs).set j (some x)) vs = wipe σ vs) (h0 : ∀ H, Pv [] H)
    (he : ∀ i x H' acc, xs[i]? = some x → Ext H1 H' → acc.length = i → Pv acc H' → ∀ Q' : VK, (∀ y H'', Ext H' H'' → Pv (acc ++ [y]) H'' → Q' y H'') → te ((wipe σ vs).set j (some x)) H' Q')
    (hd : ∀ H' acc, Ext H1 H' → H' D = some (.lst acc) → acc.length = xs.length → Pv acc H' → Qd H') :
    Block (Itt K a) (gName j) tYes te vs σ H1 D Qd := by
  refine lc_it (walk_tup (xs := xs)) (MadeP H1 D Pv) ⟨hD, ext_new (ext_refl H1) hD, [], upd_same, rfl, h0 _⟩ (fun i H' _ p => hx.ext p.2.1) (fun i x H H' hi p y => ?_) fun H' ⟨_, e, acc, q, hl, pv⟩ => hd H' acc e q hl pv
  obtain ⟨rfl, hx'⟩ := y
  exact ⟨hw x, madeP_turn (by omega) kp p fun acc hl pv e' Q' k => he i x _ acc hx' e' hl pv Q' k⟩
end My
namespace My
open PySem PySem.Spec PyProof.Rows L2 TL
local macro_rules | `(tactic| walk_at "side") => `(tactic| first | assumption | decide | exact Or.inl ⟨by decide, by decide⟩ | exact Or.inr ⟨by decide, by decide⟩ | exact ⟨by decide, by decide, by decide⟩ | omega | (unfold CMulW; decide +kernel) | (dsimp only; first | assumption | omega | decide +kernel) | exact len_ok (Nat.le_of_ble_eq_true rfl) | fail "side")
local macro_rules | `(tactic| walk_at "rd") => `(tactic| first
  | refine ⟨_, _, _, _, rfl, rfl, SqL.of upd_same, atI_nat (j := 0) rfl, ?_⟩ | refine ⟨_, _, _, _, rfl, rfl, SqL.of upd_same, atI_nat (j := 1) rfl, ?_⟩ | refine ⟨_, _, _, _, rfl, rfl, SqL.of upd_same, atI_nat (j := 2) rfl, ?_⟩
  | refine ⟨_, _, _, _, rfl, rfl, upd_same, rfl, ?_⟩
  | refine ⟨_, _, rfl, rfl, ?_⟩ | refine ⟨_, rfl, ?_⟩ | refine ⟨_, _, rfl, ?_⟩ | refine Or.inl ⟨_, rfl, ?_⟩ | refine Or.inr ⟨_, rfl, ?_⟩ | refine ⟨(by walk_at "side"), ?_⟩ | fail "rd")

abbrev s_oblocks : Stmt := inClass (top 12) 8
theorem sc_oblocks : FnScope ["self", "ends", "begins", "begin", "end"] ["self"] (defScope s_oblocks) := ⟨rfl, rfl, rfl, by decide +kernel, rfl, by decide +kernel, by decide +kernel⟩
/-- a row of orders, by their rows -/
def OrdL (K : PySem.W.Frag) (C : Addr) (H : Hp) (acc : List V) (l : List (List Str × List Str)) : Prop := acc.length ≤ l.length ∧ ∀ (i : Nat) (v : V), acc[i]? = some v → ∃ (q : Addr) (r : List Str × List Str), v = V.ref q ∧ l[i]? = some r ∧ OrdAt K C H q r.1 r.2
theorem OrdL.ext {K : PySem.W.Frag} {C : Addr} {H H' : Hp} {acc : List V} {l : List (List Str × List Str)} (h : OrdL K C H acc l) (e : Ext H H') : OrdL K C H' acc l := ⟨h.1, fun i v hi => let ⟨q, r, a, b, c⟩ := h.2 i v hi; ⟨q, r, a, b, c.ext e⟩⟩
theorem ordAt_keep {K : PySem.W.Frag} {C D : Addr} {H H' : Hp} {q : Addr} {zs ys l : List Str} {vs : List V} (h : OrdAt K C H q zs ys) (hD : H D = some (.lst vs)) (k : ∀ a u, H a = some u → a ≠ D → H' a = some u) : OrdAt K C H' q zs ys := by
  have e : ∀ a u, H a = some u → (∀ vs, u ≠ .lst vs) → H' a = some u := fun a u q n => k a u q fun z => by rw [z, hD] at q; exact n vs (Option.some.inj q).symm
  have et : ∀ {a : Addr} {xs : List V}, SqT K H a xs → SqT K H' a xs := fun h => by
    rcases h with (q | ⟨o, q⟩) | r
    · exact .inl (.inl (e _ _ q fun _ z => nomatch z))
    · exact .inl (.inr ⟨o, e _ _ q fun _ z => nomatch z⟩)
    · exact .inr r
  obtain ⟨dx, a, b, c, q1, q2, q3, q4, q5⟩ := h
  exact ⟨dx, a, b, c, e _ _ q1 (fun _ z => nomatch z), et q2, et q3, et q4, q5⟩
def spOBlk (K : PySem.W.Frag) (C : Addr) : Sp := fun vs H Q _ => ∃ (o : Addr) (zs ys : List Str), vs = [.ref o] ∧ OrdAt K C H o zs ys ∧ ∀ p acc H', Ext H H' → SqT K H' p acc → acc.length = (blks zs ys).length → OrdL K C H' acc (blks zs ys) → Q (.ref p) H'
section
variable {P : Program} {w : World} {K : PySem.W.Frag} {mg : Str → Option Value} {base : Heap} {C : Addr}
theorem ok_oblocks (T : Bn mg) (D : MethT K C "blocks" "Order.blocks" s_oblocks) (OT : OrdT K mg C) (F_init : OInitAt P w K mg base 5 C (spOInit K C)) (F_block_ends : FnAt P w K mg base 1 "block_ends" ["places"] (spBend K)) : MethAt P w K mg base 7 C "blocks" ["self"] (spOBlk K C) := by
  refine methAt D sc_oblocks (fun _ _ _ _ _ _ us hl => match us, hl with | [_], _ => rfl) (fun vs H Q E h => ?_) fun f cdv A outer s H vs Q E hr h => ?_
  · obtain ⟨o, zs, ys, rfl, _⟩ := h
    rfl
  obtain ⟨o, zs, ys, rfl, ⟨dx, a, b, c, e, ha, hb', hc, ro⟩, k⟩ := h
  have l1 := ro.le
  have l2 := ro.len
  refine ⟨_, (pss_cons (ps_set (i := 1) sc_oblocks.nd rfl (Or.inl rfl) (callA F_block_ends (hr.mono (by decide)) rfl (pa_cons (pe_fld (pv 0) rfl) pa_nil)))
    (pss_cons (ps_set (i := 2) sc_oblocks.nd rfl (Or.inl rfl) (pe_lst (pa_cons pe_int (StX.pa_star (pv 1) pa_nil))))
    (pss_one (ps_ret (pe_callTy call_tuple_of (by rfl) T.b_tuple (by decide +kernel) (pa_cons (pe_lc (own := [("begin", 3), ("end", 4)]) (g := gTup K 2 (gCons (gName 3) (gCons (gName 4) gNil))) (tt := tYes) rfl sc_oblocks.nd (pi_zip (by rfl) T.b_zip (pa_cons (pv 2) (pa_cons (pv 1) pa_nil))) (blkOk_by (N := ["self", "ends", "begins", "begin", "end"]) (sc := defScope s_oblocks) (by decide +kernel)) (fun _ _ _ _ _ => pg_tup rfl (pgs_cons (pg_name (i := 3) sc_oblocks.nd rfl (Or.inl rfl)) (pgs_cons (pg_name (i := 4) sc_oblocks.nd rfl (Or.inl rfl)) pgs_nil))) (fun _ _ _ _ _ => pts_nil) (fun _ _ _ _ _ => ((show PE _ _ (tMake C (spOInit K C) [] E0 _) from mkO F_init OT (hr.mono (by decide)) (pa_cons (pe_slice (show SlR _ (rSlA K) from sl_tupA) (show PE _ _ (tFld K _ "_above") from pe_fld (pv 0) rfl) (po_some (pv 3)) (po_some (pv 4))) (pa_cons (pe_slice (show SlR _ (rSlA K) from sl_tupA) (show PE _ _ (tFld K _ "_below") from pe_fld (pv 0) rfl) (po_some (pv 3)) (po_some (pv 4))) pa_nil)))))) pa_nil)))))), ?_⟩
  refine ⟨_, rfl, o, C, dx, _, _, rfl, e, OT.cl, OT.nP, ofs_p a b c, c, plc zs ys, rfl, hc, by rw [plc_len]; omega, fun D1 H1 e1 hD1 => ?_⟩
  rw [bend_eq ro, List.map_map] at hD1
  have lc := cutsN_len zs ys zs.length 0
  have lcc : (cuts zs ys).length ≤ 40 := by unfold cuts; omega
  refine ⟨_, rfl, D1, _, rfl, .inr (SqL.of hD1), ?_⟩
  dsimp only [tNil]
  refine ⟨len_ok (by simp only [List.append_nil, List.length_append, List.length_map, List.length_cons, List.length_nil]; omega), fun D2 hD2 => ?_⟩
  rw [List.append_nil]
  have x2 := ext_new (o := HO.lst (V.int 0 :: (cuts zs ys).map (V.int ∘ fun e => ((e : Nat) : Int)))) (ext_refl H1) hD2
  have e2 := e1.trans x2
  have eb : (V.int 0 :: (cuts zs ys).map (V.int ∘ fun e => ((e : Nat) : Int))) = (0 :: cuts zs ys).map (V.int ∘ fun e => ((e : Nat) : Int)) := rfl
  have hl2 : (upd H1 D2 (HO.lst (V.int 0 :: (cuts zs ys).map (V.int ∘ fun e => ((e : Nat) : Int))))) D2 = some (.lst ((0 :: cuts zs ys).map (V.int ∘ fun e => ((e : Nat) : Int)))) := upd_same
  refine ⟨_, rfl, _, rfl, D2, D1, _, _, rfl, SqL.of hl2, SqL.of (x2 _ _ hD1), fun D3 hD3 => made_zip (n := (cuts zs ys).length) (by rw [List.length_map, List.length_map, List.length_cons]; omega) (fun acc H' => OrdL K C H' acc (blks zs ys)) (fun acc Ha Hb p hl kk => ⟨p.1, fun i v hi => let ⟨q, r, a1, b1, c1⟩ := p.2 i v hi; let ⟨l, hl'⟩ := hl; ⟨q, r, a1, b1, ordAt_keep (l := []) c1 hl' kk⟩⟩) (SqL.of hl2) (SqL.of (x2 _ _ hD1)) hD3 (by omega) (fun _ _ => rfl) (fun H' => ⟨Nat.zero_le _, fun i v hi => by simp at hi⟩) (fun i x y H' acc hx hy e' hl pv Q' k' => ?_) fun H' acc e' hD' hl pv => ?_⟩
  · rw [List.getElem?_map] at hx hy
    obtain ⟨b0, hb0, rfl⟩ := Option.map_eq_some_iff.mp hx
    obtain ⟨e0, he0, rfl⟩ := Option.map_eq_some_iff.mp hy
    have hz : ((0 :: cuts zs ys).zip (cuts zs ys))[i]? = some (b0, e0) := List.getElem?_zip_eq_some.mpr ⟨hb0, he0⟩
    have cp := cut_pair (List.mem_of_getElem? hz)
    have rok := cut_rows ro cp
    have hb : (blks zs ys)[i]? = some (cutP zs ys (b0, e0)) := by
      unfold blks
      rw [List.getElem?_map, hz]
      rfl
    have e3 := e2.trans e'
    refine ⟨_, rfl, o, C, dx, _, _, rfl, e3 _ _ e, OT.cl, OT.nA, ofs_a a b c, _, rfl, _, rfl, _, rfl, _, rfl, slA_use (ha.ext e3) fun p1 H4 e4 hp1 => ?_⟩
    have e5 := e3.trans e4
    refine ⟨_, rfl, o, C, dx, _, _, rfl, e5 _ _ e, OT.cl, OT.nB, ofs_b a b c, _, rfl, _, rfl, _, rfl, _, rfl, slA_use (hb'.ext e5) fun p2 H5 e6 hp2 => ?_⟩
    dsimp only [Function.comp] at hp1 hp2
    rw [cut_strs cp.1 cp.2.1] at hp1
    rw [cut_strs cp.1 (by rw [l2]; exact cp.2.1)] at hp2
    refine mk_useA (hp1.ext e6) hp2 rok fun q H6 e7 oa => k' (.ref q) H6 ((e4.trans e6).trans e7) ⟨?_, fun j v hj => ?_⟩
    · have := (List.getElem?_eq_some_iff.mp hb).1
      rw [List.length_append, hl]
      exact this
    · by_cases c1 : j < acc.length
      · rw [List.getElem?_append_left c1] at hj
        obtain ⟨q', r, a1, b1, o1⟩ := pv.2 j v hj
        exact ⟨q', r, a1, b1, o1.ext ((e4.trans e6).trans e7)⟩
      · rw [List.getElem?_append_right (by omega)] at hj
        have e0' : j - acc.length = 0 := by
          have := (List.getElem?_eq_some_iff.mp hj).1
          simp at this
          omega
        rw [e0'] at hj
        cases hj
        have ej : j = i := by omega
        exact ⟨q, _, rfl, by rw [ej]; exact hb, oa⟩
  · refine ⟨D3, _, rfl, .inl ⟨SqL.of hD', fun l hl' => ?_⟩⟩
    have x9 := ext_new (o := HO.tup acc) (ext_refl H') hl'
    refine k l acc _ ((e2.trans e').trans x9) (SqT.of upd_same) ?_ (pv.ext x9)
    rw [hl]
    unfold blks
    rw [List.length_map, List.length_zip, List.length_cons]
    omega
end
end My
namespace My
open PySem PySem.Spec PyProof.Rows L2
local macro_rules | `(tactic| walk_at "side") => `(tactic| first | assumption | decide | exact Or.inl ⟨by decide, by decide⟩ | exact Or.inr ⟨by decide, by decide⟩ | exact ⟨by decide, by decide, by decide⟩ | omega | (unfold CMulW; decide +kernel) | (dsimp only; first | assumption | omega | decide +kernel) | exact len_ok (Nat.le_of_ble_eq_true rfl) | fail "side")
local macro_rules | `(tactic| walk_at "rd") => `(tactic| first
  | refine ⟨_, _, _, _, rfl, rfl, SqL.of upd_same, atI_nat (j := 0) rfl, ?_⟩ | refine ⟨_, _, _, _, rfl, rfl, SqL.of upd_same, atI_nat (j := 1) rfl, ?_⟩ | refine ⟨_, _, _, _, rfl, rfl, SqL.of upd_same, atI_nat (j := 2) rfl, ?_⟩
  | refine ⟨_, _, _, _, rfl, rfl, upd_same, rfl, ?_⟩
  | refine ⟨_, _, rfl, rfl, ?_⟩ | refine ⟨_, rfl, ?_⟩ | refine ⟨_, _, rfl, ?_⟩ | refine Or.inl ⟨_, rfl, ?_⟩ | refine Or.inr ⟨_, rfl, ?_⟩ | refine ⟨(by walk_at "side"), ?_⟩ | fail "rd")

abbrev s_ojoined : Stmt := inClass (top 12) 14
theorem sc_ojoined : FnScope ["self", "dropped", "pair", "upper", "name", "lower"] ["self"] (defScope s_ojoined) := ⟨rfl, rfl, rfl, by decide +kernel, rfl, by decide +kernel, by decide +kernel⟩
/-- the second names of the needless pairs, and a row without them -/
def drp (zs ys : List Str) : List Str := (ndl zs ys).map Prod.snd
def jnd (zs ys xs : List Str) : List Str := xs.filter fun z => !decide (z ∈ drp zs ys)
theorem mem_ndN (zs : List Str) (ps : List Int) (u : Str × Str) : ∀ k, u ∈ ndN zs ps k → ∃ j, j < k ∧ u = (zs.getD j Str.empty, zs.getD (j + 1) Str.empty)
  | 0, h => by cases h
  | k + 1, h => by
    rw [ndN] at h
    split at h
    · rcases List.mem_append.mp h with h | h
      · obtain ⟨j, a, b⟩ := mem_ndN zs ps u k h
        exact ⟨j, by omega, b⟩
      · exact ⟨k, by omega, List.mem_singleton.mp h⟩
    · obtain ⟨j, a, b⟩ := mem_ndN zs ps u k h
      exact ⟨j, by omega, b⟩
theorem head_kept {zs ys : List Str} (ro : RowsOk zs ys) : zs[0]'(by have := ro.ne; omega) ∉ drp zs ys := fun h => by
  obtain ⟨u, hu, e⟩ := List.mem_map.mp h
  obtain ⟨j, hj, rfl⟩ := mem_ndN _ _ _ _ hu
  have l : j + 1 < zs.length := by omega
  replace e : zs.getD (j + 1) Str.empty = zs[0]'(by have := ro.ne; omega) := e
  rw [List.getD_eq_getElem?_getD, List.getElem?_eq_getElem l] at e
  exact (List.pairwise_iff_getElem.mp (List.nodup_iff_pairwise_ne.mp ro.nd)) 0 (j + 1) (by omega) l (by omega) e.symm
theorem jnd_rows {zs ys : List Str} (ro : RowsOk zs ys) : RowsOk (jnd zs ys zs) (jnd zs ys ys) := by
  refine ⟨fun z hz => ro.nm z (List.mem_filter.mp hz).1, ?_, ro.pm.filter _, ?_, Nat.le_trans (List.length_filter_le _ _) ro.le⟩
  · exact List.nodup_iff_pairwise_ne.mpr ((List.nodup_iff_pairwise_ne.mp ro.nd).sublist List.filter_sublist)
  · have n := ro.ne
    refine List.length_pos_of_mem (a := zs[0]'(by omega)) (List.mem_filter.mpr ⟨List.getElem_mem _, ?_⟩)
    rw [decide_eq_false (head_kept ro)]
    rfl
theorem filt_strs (p : Str → Bool) (zs : List Str) : (zs.map V.str).filter (fun v => p (sOf v)) = (zs.filter p).map V.str := by
  rw [List.filter_map]
  rfl
section
variable {P : Program} {w : World} {K : PySem.W.Frag} {mg : Str → Option Value} {base : Heap} {C : Addr}
theorem ok_ojoined (T : Bn mg) (D : MethT K C "joined" "Order.joined" s_ojoined) (OT : OrdT K mg C) (F_init : OInitAt P w K mg base 5 C (spOInit K C)) (P_needless : PropAt P w K mg base 1 C "needless" (spNeedless K C)) : MethAt P w K mg base 7 C "joined" ["self"] (spOrd K C (fun zs ys => jnd zs ys zs) (fun zs ys => jnd zs ys ys)) := by
  refine methAt D sc_ojoined (fun _ _ _ _ _ _ us hl => match us, hl with | [_], _ => rfl) (fun vs H Q E h => ?_) fun f cdv A outer s H vs Q E hr h => ?_
  · obtain ⟨o, zs, ys, rfl, _⟩ := h
    rfl
  obtain ⟨o, zs, ys, rfl, oa, k⟩ := h
  obtain ⟨dx, a, b, c, e, ha, hb, hc, ro⟩ := id oa
  have l1 := ro.le
  have l2 := ro.len
  refine ⟨_, (pss_cons (ps_set (i := 1) sc_ojoined.nd rfl (Or.inr rfl) (pe_lc (own := [("pair", 2)]) (g := gName 2) (tt := tYes) rfl sc_ojoined.nd (pi_tup (propA P_needless OT.cl (hr.mono (by decide)) (pv 0))) (blkOk_by (N := ["self", "dropped", "pair", "upper", "name", "lower"]) (sc := defScope s_ojoined) (by decide +kernel)) (fun _ _ _ _ _ => pg_name (i := 2) sc_ojoined.nd rfl (Or.inl rfl)) (fun _ _ _ _ _ => pts_nil) (fun _ _ _ _ _ => (pe_ix (show IxR _ (rIxT K) from ix_tup) (pv 2) pe_int (fun _ _ => rfl)))))
    (pss_cons (ps_set (i := 3) sc_ojoined.nd rfl (Or.inl rfl) (pe_callTy call_tuple_of (by rfl) T.b_tuple (by decide +kernel) (pa_cons (pe_lc (own := [("name", 4)]) (g := gName 4) (tt := _) rfl sc_ojoined.nd (pi_tup (pe_fld (pv 0) rfl)) (blkOk_by (N := ["self", "dropped", "pair", "upper", "name", "lower"]) (sc := defScope s_ojoined) (by decide +kernel)) (fun _ _ _ _ _ => pg_name (i := 4) sc_ojoined.nd rfl (Or.inl rfl)) (fun _ _ _ _ _ => pts_one (pt_cmpR (show OpR _ _ (rIn K true) from op_notIn_seq) (pv 4) (pv 1) rfl)) (fun _ _ _ _ _ => (pv 4))) pa_nil)))
    (pss_cons (ps_set (i := 5) sc_ojoined.nd rfl (Or.inl rfl) (pe_callTy call_tuple_of (by rfl) T.b_tuple (by decide +kernel) (pa_cons (pe_lc (own := [("name", 4)]) (g := gName 4) (tt := _) rfl sc_ojoined.nd (pi_tup (pe_fld (pv 0) rfl)) (blkOk_by (N := ["self", "dropped", "pair", "upper", "name", "lower"]) (sc := defScope s_ojoined) (by decide +kernel)) (fun _ _ _ _ _ => pg_name (i := 4) sc_ojoined.nd rfl (Or.inl rfl)) (fun _ _ _ _ _ => pts_one (pt_cmpR (show OpR _ _ (rIn K true) from op_notIn_seq) (pv 4) (pv 1) rfl)) (fun _ _ _ _ _ => (pv 4))) pa_nil)))
    (pss_one (ps_ret (mkO F_init OT (hr.mono (by decide)) (pa_cons (pv 3) (pa_cons (pv 5) pa_nil)))))))), ?_⟩
  refine ⟨_, rfl, o, dx, _, rfl, e, o, zs, ys, rfl, oa, fun p acc H1 e1 hp pr => ?_⟩
  have len : acc.length ≤ 1000 := by
    have := ndN_len zs (plc zs ys) (zs.length - 1)
    rw [pr.1]
    unfold ndl
    omega
  refine ⟨p, rfl, ⟨_, hp⟩, fun D hD => map_tup (xs := acc) (fun i _ => .str (((ndl zs ys).getD i (Str.empty, Str.empty)).2)) hp hD (by omega) (fun _ => rfl) (fun i v H' hi e' Q' k' => ?_) fun H2 e2 hl => ?_⟩
  · obtain ⟨q, u, rfl, hu, hq⟩ := (pr.ext e').2 i v hi
    refine ⟨_, rfl, q, _, 1, _, rfl, rfl, SqT.of hq, atI_nat (j := 1) rfl, ?_⟩
    have eu : ((ndl zs ys).getD i (Str.empty, Str.empty)).2 = u.2 := by
      rw [List.getD_eq_getElem?_getD, hu]
      rfl
    rw [eu] at k'
    exact k' H' (ext_refl _)
  have ed : acc.mapIdx (fun i _ => V.str (((ndl zs ys).getD i (Str.empty, Str.empty)).2)) = (drp zs ys).map V.str := by
    unfold drp
    apply List.ext_getElem?
    intro i
    rw [List.getElem?_mapIdx, List.getElem?_map, List.getElem?_map]
    by_cases hi : i < acc.length
    · have hi2 : i < (ndl zs ys).length := by rw [← pr.1]; exact hi
      rw [List.getElem?_eq_getElem hi, List.getElem?_eq_getElem hi2, List.getD_eq_getElem?_getD, List.getElem?_eq_getElem hi2]
      rfl
    · have hi2 : ¬ i < (ndl zs ys).length := by rw [← pr.1]; exact hi
      rw [List.getElem?_eq_none (by omega), List.getElem?_eq_none (by omega)]
      rfl
  rw [ed] at hl
  have e12 := e1.trans e2
  have flat : ((drp zs ys).map V.str).all flatV = true := by
    rw [List.all_map]
    exact List.all_eq_true.mpr fun _ _ => rfl
  have ea := e12 _ _ e
  have ha2 := ha.ext e12
  refine ⟨_, rfl, o, C, dx, _, _, rfl, ea, OT.cl, OT.nA, ofs_a a b c, a, rfl, ⟨_, ha2⟩, fun D2 hD2 => filt_tup (xs := zs.map V.str) (fun v => !decide (sOf v ∈ drp zs ys)) ha2 hD2 (by rw [List.length_map]; omega) (fun _ => rfl) (fun i v H' hi e' Q' k' => ?_) (fun v H' Q' q => ⟨_, rfl, q⟩) fun H3 e3 hl3 => ?_⟩
  · rw [List.getElem?_map] at hi
    obtain ⟨z, hz, rfl⟩ := Option.map_eq_some_iff.mp hi
    refine ⟨_, rfl, _, rfl, D, _, rfl, .inl (SqL.of (e' _ _ hl)), rfl, flat, ?_⟩
    rw [if_pos rfl, inV_strs]
    exact ⟨_, rfl, k' H' (ext_refl _)⟩
  rw [filt_strs (fun z => !decide (z ∈ drp zs ys))] at hl3
  refine ⟨D2, _, rfl, .inl ⟨SqL.of hl3, fun q1 hq1 => ?_⟩⟩
  have x4 := ext_new (o := HO.tup ((jnd zs ys zs).map V.str)) (ext_refl H3) hq1
  have e4 := e3.trans x4
  have hb4 := (hb.ext e12).ext e4
  have hd4 := e4 _ _ hl
  refine ⟨_, rfl, o, C, dx, _, _, rfl, e4 _ _ ea, OT.cl, OT.nB, ofs_b a b c, b, rfl, ⟨_, hb4⟩, fun D3 hD3 => filt_tup (xs := ys.map V.str) (fun v => !decide (sOf v ∈ drp zs ys)) hb4 hD3 (by rw [List.length_map]; omega) (fun _ => rfl) (fun i v H' hi e' Q' k' => ?_) (fun v H' Q' q => ⟨_, rfl, q⟩) fun H5 e5 hl5 => ?_⟩
  · rw [List.getElem?_map] at hi
    obtain ⟨z, hz, rfl⟩ := Option.map_eq_some_iff.mp hi
    refine ⟨_, rfl, _, rfl, D, _, rfl, .inl (SqL.of (e' _ _ hd4)), rfl, flat, ?_⟩
    rw [if_pos rfl, inV_strs]
    exact ⟨_, rfl, k' H' (ext_refl _)⟩
  rw [filt_strs (fun z => !decide (z ∈ drp zs ys))] at hl5
  refine ⟨D3, _, rfl, .inl ⟨SqL.of hl5, fun q2 hq2 => ?_⟩⟩
  have x6 := ext_new (o := HO.tup ((jnd zs ys ys).map V.str)) (ext_refl H5) hq2
  refine ⟨_, rfl, _, rfl, mk_useA (zs := jnd zs ys zs) (ys := jnd zs ys ys) (SqT.of (x6 _ _ (e5 _ _ upd_same))) (SqT.of upd_same) (jnd_rows ro) fun x H' ex oa' => ?_⟩
  exact k x H' ((((e12.trans e4).trans e5).trans x6).trans ex) oa'
end
end My
namespace My
open PySem PySem.Spec PyProof.Rows L2
local macro_rules | `(tactic| walk_at "side") => `(tactic| first | assumption | decide | exact Or.inl ⟨by decide, by decide⟩ | exact Or.inr ⟨by decide, by decide⟩ | exact ⟨by decide, by decide, by decide⟩ | omega | (unfold CMulW; decide +kernel) | (dsimp only; first | assumption | omega | decide +kernel) | exact len_ok (Nat.le_of_ble_eq_true rfl) | fail "side")
local macro_rules | `(tactic| walk_at "rd") => `(tactic| first
  | refine ⟨_, _, _, _, rfl, rfl, SqL.of upd_same, atI_nat (j := 0) rfl, ?_⟩ | refine ⟨_, _, _, _, rfl, rfl, SqL.of upd_same, atI_nat (j := 1) rfl, ?_⟩ | refine ⟨_, _, _, _, rfl, rfl, SqL.of upd_same, atI_nat (j := 2) rfl, ?_⟩
  | refine ⟨_, _, _, _, rfl, rfl, upd_same, rfl, ?_⟩
  | refine ⟨_, _, rfl, rfl, ?_⟩ | refine ⟨_, rfl, ?_⟩ | refine ⟨_, _, rfl, ?_⟩ | refine Or.inl ⟨_, rfl, ?_⟩ | refine Or.inr ⟨_, rfl, ?_⟩ | refine ⟨(by walk_at "side"), ?_⟩ | fail "rd")

abbrev s_oback : Stmt := inClass (top 12) 11
theorem sc_oback : FnScope ["self"] ["self"] (defScope s_oback) := ⟨rfl, rfl, rfl, by decide +kernel, rfl, by decide +kernel, by decide +kernel⟩
section
variable {P : Program} {w : World} {K : PySem.W.Frag} {mg : Str → Option Value} {base : Heap} {C : Addr}
theorem RowsOk.rev {zs ys : List Str} (h : RowsOk zs ys) : RowsOk zs.reverse ys.reverse :=
  ⟨fun z hz => h.nm z (List.mem_reverse.mp hz), (List.nodup_iff_pairwise_ne.mpr (List.pairwise_reverse.mpr ((List.nodup_iff_pairwise_ne.mp h.nd).imp fun q => q.symm))), (List.reverse_perm ys).trans (h.pm.trans (List.reverse_perm zs).symm), by rw [List.length_reverse]; exact h.ne, by rw [List.length_reverse]; exact h.le⟩
theorem ok_oback (D : MethT K C "backwards" "Order.backwards" s_oback) (OT : OrdT K mg C) (F_init : OInitAt P w K mg base 5 C (spOInit K C)) : MethAt P w K mg base 7 C "backwards" ["self"] (spOrd K C (fun zs _ => zs.reverse) (fun _ ys => ys.reverse)) := by
  refine methAt D sc_oback (fun _ _ _ _ _ _ us hl => match us, hl with | [_], _ => rfl) (fun vs H Q E h => ?_) fun f cdv A outer s H vs Q E hr h => ?_
  · obtain ⟨o, zs, ys, rfl, _⟩ := h
    rfl
  obtain ⟨o, zs, ys, rfl, ⟨dx, a, b, c, e, ha, hb, hc, ro⟩, k⟩ := h
  refine ⟨_, (pss_one (ps_ret (mkO F_init OT (hr.mono (by decide)) (pa_cons (pe_revT (pe_fld (pv 0) rfl)) (pa_cons (pe_revT (pe_fld (pv 0) rfl)) pa_nil))))), _, rfl, o, C, dx, _, _, rfl, e, OT.cl, OT.nA, ofs_a a b c, a, _, rfl, ha, fun p hp => ?_⟩
  have x1 := ext_new (o := HO.tup (zs.map V.str).reverse) (ext_refl H) hp
  refine ⟨_, rfl, o, C, dx, _, _, rfl, x1 _ _ e, OT.cl, OT.nB, ofs_b a b c, b, _, rfl, hb.ext x1, fun q hq => ?_⟩
  have x2 := ext_new (o := HO.tup (ys.map V.str).reverse) (ext_refl _) hq
  refine mk_useA (zs := zs.reverse) (ys := ys.reverse) (SqT.of ?_) (SqT.of ?_) ro.rev fun x H' ex oa => k x H' ((x1.trans x2).trans ex) oa
  · rw [List.map_reverse]
    exact x2 _ _ upd_same
  · rw [List.map_reverse]
    exact upd_same
end
end My
namespace My
open PySem PySem.Spec PyProof.Rows L2
local macro_rules | `(tactic| walk_at "side") => `(tactic| first | assumption | decide | exact Or.inl ⟨by decide, by decide⟩ | exact Or.inr ⟨by decide, by decide⟩ | exact ⟨by decide, by decide, by decide⟩ | omega | (unfold CMulW; decide +kernel) | (dsimp only; first | assumption | omega | decide +kernel) | exact len_ok (Nat.le_of_ble_eq_true rfl) | fail "side")
local macro_rules | `(tactic| walk_at "rd") => `(tactic| first
  | refine ⟨_, _, _, _, rfl, rfl, SqL.of upd_same, atI_nat (j := 0) rfl, ?_⟩ | refine ⟨_, _, _, _, rfl, rfl, SqL.of upd_same, atI_nat (j := 1) rfl, ?_⟩ | refine ⟨_, _, _, _, rfl, rfl, SqL.of upd_same, atI_nat (j := 2) rfl, ?_⟩
  | refine ⟨_, _, _, _, rfl, rfl, upd_same, rfl, ?_⟩
  | refine ⟨_, _, rfl, rfl, ?_⟩ | refine ⟨_, rfl, ?_⟩ | refine ⟨_, _, rfl, ?_⟩ | refine Or.inl ⟨_, rfl, ?_⟩ | refine Or.inr ⟨_, rfl, ?_⟩ | refine ⟨(by walk_at "side"), ?_⟩ | fail "rd")

abbrev s_oinverse : Stmt := inClass (top 12) 10
theorem sc_oinverse : FnScope ["self"] ["self"] (defScope s_oinverse) := ⟨rfl, rfl, rfl, by decide +kernel, rfl, by decide +kernel, by decide +kernel⟩
section
variable {P : Program} {w : World} {K : PySem.W.Frag} {mg : Str → Option Value} {base : Heap} {C : Addr}
theorem ok_oinverse (D : MethT K C "inverse" "Order.inverse" s_oinverse) (OT : OrdT K mg C) (F_init : OInitAt P w K mg base 5 C (spOInit K C)) : MethAt P w K mg base 7 C "inverse" ["self"] (spOrd K C (fun _ ys => ys) (fun zs _ => zs)) := by
  refine methAt D sc_oinverse (fun _ _ _ _ _ _ us hl => match us, hl with | [_], _ => rfl) (fun vs H Q E h => ?_) fun f cdv A outer s H vs Q E hr h => ?_
  · obtain ⟨o, zs, ys, rfl, _⟩ := h
    rfl
  obtain ⟨o, zs, ys, rfl, ⟨dx, a, b, c, e, ha, hb, hc, ro⟩, k⟩ := h
  exact ⟨_, (pss_one (ps_ret (mkO F_init OT (hr.mono (by decide)) (pa_cons (pe_fld (pv 0) rfl) (pa_cons (pe_fld (pv 0) rfl) pa_nil))))), _, rfl, o, C, dx, _, _, rfl, e, OT.cl, OT.nB, ofs_b a b c, _, rfl, o, C, dx, _, _, rfl, e, OT.cl, OT.nA, ofs_a a b c, mk_useA hb ha ro.symm k⟩
end
end My
namespace My
open PySem PySem.Spec PyProof.Rows L2
local macro_rules | `(tactic| walk_at "side") => `(tactic| first | assumption | decide | exact Or.inl ⟨by decide, by decide⟩ | exact Or.inr ⟨by decide, by decide⟩ | exact ⟨by decide, by decide, by decide⟩ | omega | (unfold CMulW; decide +kernel) | (dsimp only; first | assumption | omega | decide +kernel) | exact len_ok (Nat.le_of_ble_eq_true rfl) | fail "side")
local macro_rules | `(tactic| walk_at "rd") => `(tactic| first
  | refine ⟨_, _, _, _, rfl, rfl, SqL.of upd_same, atI_nat (j := 0) rfl, ?_⟩ | refine ⟨_, _, _, _, rfl, rfl, SqL.of upd_same, atI_nat (j := 1) rfl, ?_⟩ | refine ⟨_, _, _, _, rfl, rfl, SqL.of upd_same, atI_nat (j := 2) rfl, ?_⟩
  | refine ⟨_, _, _, _, rfl, rfl, upd_same, rfl, ?_⟩
  | refine ⟨_, _, rfl, rfl, ?_⟩ | refine ⟨_, rfl, ?_⟩ | refine ⟨_, _, rfl, ?_⟩ | refine Or.inl ⟨_, rfl, ?_⟩ | refine Or.inr ⟨_, rfl, ?_⟩ | refine ⟨(by walk_at "side"), ?_⟩ | fail "rd")

abbrev s_omany : Stmt := inClass (top 12) 5
theorem sc_omany : FnScope ["self"] ["self"] (defScope s_omany) := ⟨rfl, rfl, rfl, by decide +kernel, rfl, by decide +kernel, by decide +kernel⟩
section
variable {P : Program} {w : World} {K : PySem.W.Frag} {mg : Str → Option Value} {base : Heap} {C : Addr}
theorem ok_omany (T : Bn mg) (D : PropT K C "many" "Order.many" s_omany) (OT : OrdT K mg C) : PropAt P w K mg base 1 C "many" (spGetN K C) := by
  refine propAt D sc_omany (fun _ _ _ _ _ _ us hl => match us, hl with | [_], _ => rfl) (fun vs H Q E h => ?_) fun f cdv A outer s H vs Q E hr h => ?_
  · obtain ⟨o, zs, ys, rfl, _⟩ := h
    rfl
  obtain ⟨o, zs, ys, rfl, ⟨dx, a, b, c, e, ha, hb, hc, ro⟩, k⟩ := h
  refine ⟨_, (pss_one (ps_ret (pe_callB call_len_seq (by rfl) T.b_len (by decide +kernel) (pa_cons (pe_fld (pv 0) rfl) pa_nil)))), _, rfl, o, C, dx, _, _, rfl, e, OT.cl, OT.nA, ofs_a a b c, a, _, rfl, .inr ha, ?_⟩
  rw [List.length_map]
  exact k
end
end My
namespace My
open PySem PySem.Spec PyProof.Rows L2
local macro_rules | `(tactic| walk_at "side") => `(tactic| first | assumption | decide | exact Or.inl ⟨by decide, by decide⟩ | exact Or.inr ⟨by decide, by decide⟩ | exact ⟨by decide, by decide, by decide⟩ | omega | (unfold CMulW; decide +kernel) | (dsimp only; first | assumption | omega | decide +kernel) | exact len_ok (Nat.le_of_ble_eq_true rfl) | fail "side")
local macro_rules | `(tactic| walk_at "rd") => `(tactic| first
  | refine ⟨_, _, _, _, rfl, rfl, SqL.of upd_same, atI_nat (j := 0) rfl, ?_⟩ | refine ⟨_, _, _, _, rfl, rfl, SqL.of upd_same, atI_nat (j := 1) rfl, ?_⟩ | refine ⟨_, _, _, _, rfl, rfl, SqL.of upd_same, atI_nat (j := 2) rfl, ?_⟩
  | refine ⟨_, _, _, _, rfl, rfl, upd_same, rfl, ?_⟩
  | refine ⟨_, _, rfl, rfl, ?_⟩ | refine ⟨_, rfl, ?_⟩ | refine ⟨_, _, rfl, ?_⟩ | refine Or.inl ⟨_, rfl, ?_⟩ | refine Or.inr ⟨_, rfl, ?_⟩ | refine ⟨(by walk_at "side"), ?_⟩ | fail "rd")

abbrev s_olen : Stmt := inClass (top 12) 16
theorem sc_olen : FnScope ["self"] ["self"] (defScope s_olen) := ⟨rfl, rfl, rfl, by decide +kernel, rfl, by decide +kernel, by decide +kernel⟩
section
variable {P : Program} {w : World} {K : PySem.W.Frag} {mg : Str → Option Value} {base : Heap} {C : Addr}
theorem ok_olen (T : Bn mg) (D : SpT K C "__len__" "Order.__len__" s_olen) (OT : OrdT K mg C) : SpAt P w K mg base 1 C "__len__" ["self"] (spGetN K C) := by
  refine spAt D sc_olen (fun _ _ _ _ _ _ us hl => match us, hl with | [_], _ => rfl) (fun vs H Q E h => ?_) fun f cdv A outer s H vs Q E hr h => ?_
  · obtain ⟨o, zs, ys, rfl, _⟩ := h
    rfl
  obtain ⟨o, zs, ys, rfl, ⟨dx, a, b, c, e, ha, hb, hc, ro⟩, k⟩ := h
  refine ⟨_, (pss_one (ps_ret (pe_callB call_len_seq (by rfl) T.b_len (by decide +kernel) (pa_cons (pe_fld (pv 0) rfl) pa_nil)))), _, rfl, o, C, dx, _, _, rfl, e, OT.cl, OT.nA, ofs_a a b c, a, _, rfl, .inr ha, ?_⟩
  rw [List.length_map]
  exact k
end
end My
namespace My
open PySem PySem.Spec PyProof.Rows L2
local macro_rules | `(tactic| walk_at "side") => `(tactic| first | assumption | decide | exact Or.inl ⟨by decide, by decide⟩ | exact Or.inr ⟨by decide, by decide⟩ | exact ⟨by decide, by decide, by decide⟩ | omega | (unfold CMulW; decide +kernel) | (dsimp only; first | assumption | omega | decide +kernel) | exact len_ok (Nat.le_of_ble_eq_true rfl) | fail "side")
local macro_rules | `(tactic| walk_at "rd") => `(tactic| first
  | refine ⟨_, _, _, _, rfl, rfl, SqL.of upd_same, atI_nat (j := 0) rfl, ?_⟩ | refine ⟨_, _, _, _, rfl, rfl, SqL.of upd_same, atI_nat (j := 1) rfl, ?_⟩ | refine ⟨_, _, _, _, rfl, rfl, SqL.of upd_same, atI_nat (j := 2) rfl, ?_⟩
  | refine ⟨_, _, _, _, rfl, rfl, upd_same, rfl, ?_⟩
  | refine ⟨_, _, rfl, rfl, ?_⟩ | refine ⟨_, rfl, ?_⟩ | refine ⟨_, _, rfl, ?_⟩ | refine Or.inl ⟨_, rfl, ?_⟩ | refine Or.inr ⟨_, rfl, ?_⟩ | refine ⟨(by walk_at "side"), ?_⟩ | fail "rd")

abbrev s_oiter : Stmt := inClass (top 12) 18
theorem sc_oiter : FnScope ["self"] ["self"] (defScope s_oiter) := ⟨rfl, rfl, rfl, by decide +kernel, rfl, by decide +kernel, by decide +kernel⟩
def spItr (K : PySem.W.Frag) (C : Addr) : Nat → Sp := fun n vs H Q _ => ∃ o zs ys, vs = [.ref o] ∧ OrdAt K C H o zs ys ∧ ∀ it l, H it = none → n ≤ it → SqT K H l (zs.map V.str) → Q (.ref it) (upd H it (ItTO l it))
section
variable {P : Program} {w : World} {K : PySem.W.Frag} {mg : Str → Option Value} {base : Heap} {C : Addr}
theorem ok_oiter (b_iter : mg "iter" = none) (D : SpT K C "__iter__" "Order.__iter__" s_oiter) (OT : OrdT K mg C) : ItrAt P w K mg base 1 C (spItr K C) := by
  obtain ⟨f, fd, hs, hf, F⟩ := D.ex
  refine ⟨f, fd, hs, hf, F.binds (fun _ _ _ _ _ _ us hl => match us, hl with | [_], _ => rfl), ?_⟩
  obtain ⟨oc, od, kV, doc, pm, an, cdv, ct, osl, rfl, lk, hcd⟩ := F.ex
  refine fnSz_of lk hcd sc_oiter (fun n vs H Q E h => ?_) fun A outer s H vs Q E hr h => ?_
  · obtain ⟨o, zs, ys, rfl, _⟩ := h
    rfl
  obtain ⟨o, zs, ys, rfl, ⟨dx, a, b, c, e, ha, hb, hc, ro⟩, k⟩ := h
  refine ⟨_, PSs.nox (pss_one (ps_ret (pe_callB call_iterTN (by rfl) b_iter (by decide +kernel) (pa_cons (pe_fld (pv 0) rfl) pa_nil)))), ?_⟩
  exact ⟨_, rfl, o, C, dx, _, _, rfl, e, OT.cl, OT.nA, ofs_a a b c, a, _, rfl, ha, fun it h1 h2 => k it a h1 h2 ha⟩
end
/-- an order walked -/
theorem own_use {K : PySem.W.Frag} {C o : Addr} {zs ys : List Str} {H : Hp} {R : It → Hp → Prop} (h : OrdAt K C H o zs ys) (q : ∀ l, SqT K H l (zs.map V.str) → R (Itt K l) H) :
    ∃ a dx fs, V.ref o = .ref a ∧ H a = some (.ins C dx fs) ∧ ∀ n, spItr K C n [.ref a] H (fun v H2 => ∃ it l, v = .ref it ∧ n ≤ it ∧ H2 it = some (ItTO l it) ∧ R (Itt K l) (ItX.dropH H2 it)) E0 := by
  obtain ⟨dx, a, b, c, e, _⟩ := id h
  refine ⟨o, dx, _, rfl, e, fun n => ⟨o, zs, ys, rfl, h, fun it l h1 h2 h3 => ⟨it, l, rfl, h2, upd_same, ?_⟩⟩⟩
  rw [ItX.dropH_upd h1]
  exact q l h3
end My
/-! cls(e, ..), cls a local name that holds an own class -/
namespace My
open PySem PySem.Spec PyProof.Rows L2
def tMakeV (i : Nat) (C : Addr) (sp : Sp) (E : XK) (t : TA) : TE := fun σ H Q => σ[i]? = some (some (.ref C)) ∧ tMake C sp [] E t σ H Q
section
variable {X : Cx} {CX : CXT} {k i : Nat} {f C : Addr} {fd : FuncData} {ps : List Str} {sp : Sp} {E : XK} {x : Str} {e : Expr} {es : List Expr} {t : TA} {p pos : Pos}
theorem pe_makeV (M : Mk X.K C f) (F : FnOk X.prog X.w X.K X.mg X.base CX k f fd ps sp) (hr : Room (k + 1) X.A) (hb : Binds X.K fd ps []) (hx : Passes CX X E) (hN : X.N[i]? = some x) (hv : Vis X.env.scope x) (ha : PA X (e :: es) t)
    (hd : (x == ("__debug__" : Str)) = false := by decide) (hcd : (x == ("__classdict__" : Str)) = false := by decide)
    (he : starEach (e :: es) X.env = (false, eval e X.env) :: starEach es X.env := by rfl) (hpl : (backTo pos (starEach es X.env)).any (·.1) = false := by rfl) : PE X (.Call (.Name x p) (e :: es) [] pos) (tMakeV i C sp E t) := by
  refine ⟨fun pins s σ H Q I h => ?_⟩
  obtain ⟨hs, h⟩ := h
  refine wpAny_Call_Name_kw (thn ((pe_var (pos := p) (i := i) hN hv hd hcd).run pins s σ H (fun v H1 => v = .ref C ∧ H1 = H) I ⟨.ref C, hs, rfl, rfl⟩) fun u s1 ⟨v, H1, I1, r1, ev, eH⟩ => ?_)
  subst ev
  rw [eH] at I1
  cases r1
  refine PySem.W.callWith_K (h₀ := X.base) I.ok.mod.kin M.kp (thn (ha.run pos pins s1 σ H _ I1 h) fun us s2 ⟨vs, H2, I2, r, q⟩ => ⟨I2.kIn, ?_⟩) he hpl
  exact run_make M F hr hb .nil hx I2 r q
end
end My
namespace My
open PySem PySem.Spec PyProof.Rows L2
local macro_rules | `(tactic| walk_at "side") => `(tactic| first | assumption | decide | exact Or.inl ⟨by decide, by decide⟩ | exact Or.inr ⟨by decide, by decide⟩ | exact ⟨by decide, by decide, by decide⟩ | omega | (unfold CMulW; decide +kernel) | (dsimp only; first | assumption | omega | decide +kernel) | exact len_ok (Nat.le_of_ble_eq_true rfl) | fail "side")
local macro_rules | `(tactic| walk_at "rd") => `(tactic| first
  | refine ⟨_, _, _, _, rfl, rfl, SqL.of upd_same, atI_nat (j := 0) rfl, ?_⟩ | refine ⟨_, _, _, _, rfl, rfl, SqL.of upd_same, atI_nat (j := 1) rfl, ?_⟩ | refine ⟨_, _, _, _, rfl, rfl, SqL.of upd_same, atI_nat (j := 2) rfl, ?_⟩
  | refine ⟨_, _, _, _, rfl, rfl, upd_same, rfl, ?_⟩
  | refine ⟨_, _, rfl, rfl, ?_⟩ | refine ⟨_, rfl, ?_⟩ | refine ⟨_, _, rfl, ?_⟩ | refine Or.inl ⟨_, rfl, ?_⟩ | refine Or.inr ⟨_, rfl, ?_⟩ | refine ⟨(by walk_at "side"), ?_⟩ | fail "rd")

abbrev s_oread : Stmt := inClass (top 12) 1
theorem sc_oread : FnScope ["cls", "upper", "lower"] ["cls", "upper", "lower"] (defScope s_oread) := ⟨rfl, rfl, rfl, by decide +kernel, rfl, by decide +kernel, by decide +kernel⟩
section
variable {X : Cx} {k : Nat} {C : Addr} {p pos : Pos} {e : Expr} {es : List Expr} {t : TA}
theorem mkV (F : OInitAt X.prog X.w X.K X.mg X.base k C (spOInit X.K C)) (hr : Room (k + 1) X.A) (ha : PA X (e :: es) t) (hN : X.N[0]? = some ("cls" : Str) := by rfl) (hv : Vis X.env.scope "cls" := by first | exact Or.inl rfl | exact Or.inr (Or.inl rfl) | exact Or.inr (Or.inr rfl))
    (he : starEach (e :: es) X.env = (false, eval e X.env) :: starEach es X.env := by rfl) (hpl : (backTo pos (starEach es X.env)).any (·.1) = false := by rfl) : PE X (.Call (.Name "cls" p) (e :: es) [] pos) (tMakeV 0 C (spOInit X.K C) E0 t) := by
  obtain ⟨f, fd, M, G, hb⟩ := F.ex
  exact pe_makeV M G hr hb pass0 hN hv ha (by decide) (by decide) he hpl
end
/-- the class method as the top has made it, and its promise -/
structure ReadT (K : PySem.W.Frag) (C : Addr) : Prop where
  ex : ∃ (mc : Value) (p g : Addr) (fd : FuncData), ClX.CRead K C mc ∧ ClX.CMet K C mc "read" p g ∧ Fun K "read" "Order.read" s_oread g fd
structure ReadAt (P : Program) (w : World) (K : PySem.W.Frag) (mg : Str → Option Value) (base : Heap) (k : Nat) (C : Addr) (sp : Sp) : Prop where
  ex : ∃ (mc : Value) (p g : Addr), ClX.CRead K C mc ∧ ClX.CMet K C mc "read" p g ∧ FnR P w K mg base CX0 k g sp
def spORead (K : PySem.W.Frag) (C : Addr) : Sp := fun vs H Q _ => ∃ (sa sb : Str), vs = [.ref C, .str sa, .str sb] ∧ sa.length ≤ 1000 ∧ sb.length ≤ 1000 ∧ RowsOk (Txt.split sa " ") (Txt.split sb " ") ∧ ∀ o H', Ext H H' → OrdAt K C H' o (Txt.split sa " ") (Txt.split sb " ") → Q (.ref o) H'
section
variable {X : Cx} {k : Nat} {C : Addr} {sp : Sp} {p pos apos : Pos} {e o : Expr} {es : List Expr} {t : TA} {ta : TE}
theorem readO {pl : Sem Bool} (F : ReadAt X.prog X.w X.K X.mg X.base k C sp) (hr : Room k X.A) (ho : PE X o ta) (ha : PA X (e :: es) t)
    (hst : starEach (e :: es) X.env = (false, eval e X.env) :: starEach es X.env := by rfl) (hpl : (backTo pos (starEach es X.env)).any (·.1) = false := by rfl)
    (ht : eval (.Call (.Attribute o "read" apos) (e :: es) [] pos) X.env = (do
      let ov ← eval o X.env
      standAt apos.atName
      let (f, first) ← holding [ov] (getMethod ov "read" pl)
      callWith pos f first (backTo pos (starEach (e :: es) X.env)) (backToKw pos (keywordEach [] X.env))) := by rfl) : PE X (.Call (.Attribute o "read" apos) (e :: es) [] pos) (ClX.tCMeth C sp E0 ta t) := by
  obtain ⟨mc, q, g, r, c, G⟩ := F.ex
  exact ClX.pe_cmeth ho r c G hr pass0 ha hst hpl ht
end
section
variable {P : Program} {w : World} {K : PySem.W.Frag} {mg : Str → Option Value} {base : Heap} {C : Addr}
theorem ok_oread (T : Bn mg) (D : ReadT K C) (F_init : OInitAt P w K mg base 5 C (spOInit K C)) : ReadAt P w K mg base 7 C (spORead K C) := by
  obtain ⟨mc, p, g, fd, r, c, F⟩ := D.ex
  have G : FnOk P w K mg base CX0 7 g fd ["cls", "upper", "lower"] (spORead K C) := by
    refine F.ok sc_oread (fun vs H Q E h => ?_) fun cdv A outer s H vs Q E hr h => ?_
    · obtain ⟨sa, sb, rfl, _⟩ := h
      rfl
    obtain ⟨sa, sb, rfl, la, lb, ro, k⟩ := h
    refine ⟨_, (pss_cons (ps_if (PW.pt (pw_or (pt_not (pt_val (pe_callB call_isi (by rfl) T.b_isinstance (by decide +kernel) (pa_cons (pv 1) (pa_cons (pe_bltn (v := .ty "str") (by rfl) T.b_str (by decide +kernel) rfl) pa_nil))))) (pw_or1 (pt_not (pt_val (pe_callB call_isi (by rfl) T.b_isinstance (by decide +kernel) (pa_cons (pv 2) (pa_cons (pe_bltn (v := .ty "str") (by rfl) T.b_str (by decide +kernel) rfl) pa_nil)))))))) (pss_one ps_never) pss_nil)
    (pss_one (ps_ret (mkV F_init (hr.mono (by decide)) (pa_cons (pe_callTy call_tuple_of (by rfl) T.b_tuple (by decide +kernel) (pa_cons (pe_split (pv 1) pe_str) pa_nil)) (pa_cons (pe_callTy call_tuple_of (by rfl) T.b_tuple (by decide +kernel) (pa_cons (pe_split (pv 2) pe_str) pa_nil)) pa_nil)))))), ?_⟩
    refine ⟨_, rfl, _, _, _, _, true, rfl, .ty _, .base (.str _), kit_strstr, _, rfl, ?_⟩
    refine iteF ?_
    refine ⟨_, rfl, _, _, _, _, true, rfl, .ty _, .base (.str _), kit_strstr, _, rfl, ?_⟩
    refine iteF ?_
    have sl : ∀ z : Str, z.length ≤ 1000 → z.length + 2 ≤ sizeLine := fun z h => Nat.le_trans (Nat.add_le_add_right h 2) (by decide)
    refine ⟨rfl, _, rfl, ⟨_, rfl⟩, sa, " ", rfl, rfl, by decide +kernel, sl sa la, fun p1 hp1 => ⟨p1, _, rfl, .inl ⟨SqL.of upd_same, fun q1 hq1 => ?_⟩⟩⟩
    have x1 := ext_new (o := HO.lst ((Txt.split sa " ").map V.str)) (ext_refl H) hp1
    have x2 := ext_new (o := HO.tup ((Txt.split sa " ").map V.str)) (ext_refl _) hq1
    refine ⟨_, rfl, ⟨_, rfl⟩, sb, " ", rfl, rfl, by decide +kernel, sl sb lb, fun p2 hp2 => ⟨p2, _, rfl, .inl ⟨SqL.of upd_same, fun q2 hq2 => ?_⟩⟩⟩
    have x3 := ext_new (o := HO.lst ((Txt.split sb " ").map V.str)) (ext_refl _) hp2
    have x4 := ext_new (o := HO.tup ((Txt.split sb " ").map V.str)) (ext_refl _) hq2
    exact mk_useA (SqT.of (x4 _ _ (x3 _ _ upd_same))) (SqT.of upd_same) ro fun o H' e oa => k o H' ((((x1.trans x2).trans x3).trans x4).trans e) oa
  refine ⟨mc, p, g, r, c, ?_⟩
  have R := G.raw (F.binds (fun _ _ _ _ _ _ us hl => match us, hl with | [_, _, _], _ => rfl)) .nil
  exact R.imp fun vs H Q E h => by rw [List.append_nil]; exact h
end
end My
/-! tuple(d.values()) -/
namespace My
open PySem PySem.Spec PyProof.Rows L2
section
variable {prog : Program} {w : World} {A : Around} {E : Value → Shared → Prop} {s : Shared} {T : String} {r d : Addr} {n : Nat} {P : Nat → Value → Prop} {OK : Heap → Prop}
theorem collect_K {Q : List Value → Shared → Prop} (K : PySem.W.KdlSrc prog w T r d n P OK) (hh : A.handled = none) (hok : OK s.heap) (hn : n ≤ sizeLine)
    (hQ : ∀ (h' : Heap) (tk : Nat) (acc : Array Value), (∀ b o, s.heap.get? b = some o → h'.get? b = some o) → ItemsOf P acc n → Q acc.toList { s with heap := h', toks := tk }) :
    wpAny (model prog w) A (collect (.ref r)) Q E s := by
  unfold collect
  refine wpAny_bind (wpAny_runValue (codeAny_builtin F.entry_proto_collect ?_))
  rw [Around.under_plainId F.plain_proto_collect _]
  show wpAny _ A.in1 (newList [] >>= fun l => again (.builtin "list.__iadd__" ⟨[l, .ref r], []⟩)) _ _ s
  refine wpAny_bind (wpAny_newObj_type ?_)
  refine wpAny_pure ⟨plainId_quiet F.plain_list_iadd _, codeAny_builtin F.entry_list_iadd ?_⟩
  rw [Around.under_plainId F.plain_list_iadd _]
  show wpAny _ A.in1 (Builtin.List.listExtendWith (.ref s.heap.objs.size) (.ref r) (.ref s.heap.objs.size)) _ _ _
  have hS : (s.heap.push { cls := .type "list", data := .seq ([] : List Value).toArray }).get? s.heap.objs.size = some { cls := .type "list", data := .seq #[] 0 } := Heap.get?_push_size _ rfl
  have hlt := K.there _ hok
  refine wpAny_mono (PySem.W.kdl_extend (A := A) (R := fun rr s' => rr = .ok (.ret (.ref s.heap.objs.size)) ∧ ∃ (h' : Heap) (tk : Nat) (acc : Array Value) (c' : Nat), s' = { s with heap := h', toks := tk } ∧
      (∀ b o, s.heap.get? b = some o → h'.get? b = some o) ∧ h'.get? s.heap.objs.size = some { cls := .type "list", dict := none, data := .seq acc c', slots := #[] } ∧ ItemsOf P acc n)
    (s := { s with heap := s.heap.push { cls := .type "list", data := .seq ([] : List Value).toArray } }) K hh (K.keep _ _ hok fun b _ o e => Heap.get?_push_of_some _ e) _ (Nat.ne_of_gt hlt.1) (Nat.ne_of_gt hlt.2) _ 0 hS
    (fun h' tk acc c' hk e hi => ⟨rfl, h', tk, acc, c', rfl, fun b o q => hk b o (Nat.ne_of_lt (Heap.lt_size q)) (Heap.get?_push_of_some _ q), e, hi⟩) hn) (fun fin s' h => ?_) (fun e s' h => ?_)
  · cases fin with
    | done f =>
      obtain ⟨e, h', tk, acc, c', rfl, hk, hS', hi⟩ := h
      cases e
      show wpAny _ A (load s.heap.objs.size >>= _) _ _ _
      exact wpAny_bind (wpAny_load hS' (wpAny_pure (hQ h' tk acc hk hi)))
    | again c' =>
      refine ⟨h.1, codeAny_mono h.2 fun rr s'' hr' => ?_⟩
      obtain ⟨rfl, h', tk, acc, c', rfl, hk, hS', hi⟩ := hr'
      show wpAny _ A (load s.heap.objs.size >>= _) _ _ _
      exact wpAny_bind (wpAny_load hS' (wpAny_pure (hQ h' tk acc hk hi)))
  · exact absurd h.1 (by simp)
theorem code_tuple_new_K {Q₁ : Value → Shared → Prop} (K : PySem.W.KdlSrc prog w "dict_values" r d n P OK) (hh : A.handled = none) (hok : OK s.heap) (hn : n ≤ sizeLine)
    (h : ∀ (h' : Heap) (tk : Nat) (acc : Array Value), (∀ b o, s.heap.get? b = some o → h'.get? b = some o) → ItemsOf P acc n →
      Q₁ (.ref h'.objs.size) { s with heap := h'.push { cls := .type "tuple", data := .seq acc }, toks := tk }) :
    codeAny (model prog w) A (.call (.builtin "tuple.__new__") ⟨[.type "tuple", .ref r], []⟩) (wants Q₁ E) s := by
  refine codeAny_of_tree ?_
  show wpAny _ A.in1 (do checkBuiltinCall "tuple.__new__" ⟨[.type "tuple", .ref r], []⟩; again (.builtin "tuple.__new__" ⟨[.type "tuple", .ref r], []⟩)) _ _ s
  refine wpAny_bind (wpAny_of_eq (F.newCall_tuple_1 _) (wpAny_pure ⟨plainId_quiet F.plain_tuple_new _, codeAny_builtin F.entry_tuple_new ?_⟩))
  rw [Around.under_plainId F.plain_tuple_new _]
  have hsub := sub_tuple_self
  have hinit := init_tuple_lookup
  have hmh := madeHere_tuple
  have hTI : s.TypeIs (.ref r) "dict_values" := K.type s hok
  have hh1 : A.in1.handled = none := hh
  wp_walk using wpAny_typeOf hTI, collect_K (A := A.in1) K hh1 hok hn
  intro h' tk acc hk hacc
  show wpAny _ _ (Builtin.Tuple.tupleExact acc.toList.toArray >>= fun v => ret v) _ _ _
  unfold Builtin.Tuple.tupleExact
  refine wpAny_bind (wpAny_newObj_type ?_ (by show acc.toList.toArray.size ≤ sizeLine; simp only [Array.toArray_toList]; rw [hacc.1]; exact hn))
  refine wpAny_pure ?_
  have e : acc.toList.toArray = acc := by simp
  rw [e]
  exact h h' tk acc hk hacc
theorem call_tuple_K {Q : Value → Shared → Prop} (K : PySem.W.KdlSrc prog w "dict_values" r d n P OK) (hh : A.handled = none) (hok : OK s.heap) (hn : n ≤ sizeLine)
    (hQ : ∀ (h' : Heap) (tk : Nat) (acc : Array Value), (∀ b o, s.heap.get? b = some o → h'.get? b = some o) → ItemsOf P acc n →
      Q (.ref h'.objs.size) { s with heap := h'.push { cls := .type "tuple", data := .seq acc }, toks := tk }) :
    wpAny (model prog w) A (call (.type "tuple") [.ref r]) Q E s := by
  refine callType_codes (Q₁ := fun obj s₁ => s₁.TypeIs obj "tuple" ∧ Q obj s₁) F.called_tuple (F.typeCall_tuple_1 _) F.entry_object_init
    (code_tuple_new_K (A := A.in1) K hh hok hn fun h' tk acc hk hacc => ⟨⟨_, Heap.get?_push_size _ rfl, rfl⟩, hQ h' tk acc hk hacc⟩) fun obj s₁ h₁ => ?_
  exact ⟨h₁.1, F.args_object_init_2 obj _, object_init_meets F.called_tuple.init.lookup F.called_tuple.made (by decide) prog w A.in1 _ s₁ ⟨h₁.1, rfl, h₁.2⟩⟩
end
section
variable {X : Cx} {o : Expr} {p pos apos mpos : Pos} {td : TE}
/-- tuple(o.values()), o a dict -/
def tTupVals (td : TE) : TE := fun σ H Q => td σ H fun x H1 => ∃ a kvs, x = V.ref a ∧ H1 a = some (.dK kvs) ∧ ∀ l, NewT l (kvs.map (·.2)) H1 Q
theorem pe_tupVals (hc : X.calm = true) (hg : Gl X "tuple") (hm : X.mg "tuple" = none) (hd : PE X o td) (hbase : attributeBase o "values" X.env (eval o X.env) = eval o X.env := by rfl) (hline : (apos.endLine == mpos.line) = true := by rfl)
    (hse : starEach [Expr.Call (.Attribute o "values" apos) [] [] mpos] X.env = [(false, eval (Expr.Call (.Attribute o "values" apos) [] [] mpos) X.env)] := by rfl) :
    PE X (.Call (.Name "tuple" p) [.Call (.Attribute o "values" apos) [] [] mpos] [] pos) (tTupVals td) := by
  refine ⟨fun pins s σ H Q I h => ?_⟩
  refine Call_ (ld_blt I hg hm boot_tuple (PyProof.Rows.callWith_type1 (args_cons ?_ hse) hse))
  refine wpAny_Call_method0_late hbase hline (thn (hd.run pins s σ H _ I h) fun v s1 ⟨x, H1, I1, r1, a, kvs, ex, ha, q⟩ => ?_)
  subst ex
  obtain rfl : v = Value.ref a := r1
  obtain ⟨hz, hsys, vs, rel, dof⟩ := dk_of I1.hok ha
  obtain ⟨ep, dat⟩ := dof.dictAt
  have dat' := dat
  obtain ⟨ob, es, ho, ex, hdat, hko, hpr, hnd⟩ := dat'
  refine ⟨"dict", "dict.values", F.plainAttrs_dict, F.slot_dict_values, F.type_dict_values, ⟨ob, ho, ex.1⟩, fun b e => ?_, Calls.callWith_builtin rfl (PySem.evalArgs_none ?_)⟩
  · cases e
    exact ⟨ob, ho, ex.2.1⟩
  refine call_meetsIn F.slot_dict_values ⟨ob, ho, ex.1⟩ F.entry_dict_values (F.args_dict_values_1 _) (meets_dict_values (mixKind X.prog X.w) a hsys) ⟨⟨vs, dof⟩, ?_⟩
  have k1 : ∀ b u, s1.heap.get? b = some u → (s1.heap.push { cls := .type "dict_values", data := .fields #[.ref a] }).get? b = some u := fun b u e => Heap.get?_push_of_some _ e
  have dat1 : (s1.heap.push { cls := .type "dict_values", data := .fields #[.ref a] }).DictAt (mixKind X.prog X.w) a vs ep := dat.keep k1
  have hl : kvs.length = vs.length := Paired.length rel
  refine args_nil ?_
  refine call_tuple_K (s := { s1 with heap := s1.heap.push { cls := .type "dict_values", data := .fields #[.ref a] } }) (PySem.W.kdl_values (knd := mixKind X.prog X.w) (d := a) (r := s1.heap.objs.size) (kvs := vs) (ep := ep)) (I.ok.hd hc) ⟨⟨_, Heap.get?_push_size _ rfl, rfl, rfl⟩, dat1⟩ (by rw [← hl]; exact hz) fun h' tk acc hk hacc => ?_
  have I2 : Inv X pins σ H1 { s1 with heap := h', toks := tk } := I1.kept fun b u e => hk b u (k1 b u e)
  have rv : Vals (kvs.map (·.2)) acc.toList := by
    have el : acc.toList.length = vs.length := by rw [Array.length_toList]; exact hacc.1
    refine vals_of_at (by rw [List.length_map, el]; exact hl) fun j x u hx hu => ?_
    rw [Array.getElem?_toList] at hu
    obtain ⟨k, hk2⟩ := hacc.2 j u hu
    obtain ⟨y, h1, h2⟩ := KV.at' rel hk2
    rw [List.getElem?_map, h1] at hx
    cases hx
    exact h2
  have J := laidT (s := { s1 with toks := tk }) (h' := h') (its := acc.toList) I2 rv (by rw [List.length_map]; exact hz)
  rw [Array.toArray_toList] at J
  exact ⟨.ref h'.objs.size, _, J, rfl, q _ _ (I2.hok.fresh (Nat.le_refl _)) rfl⟩
end
end My
namespace My
open PySem PySem.Spec PyProof.Rows L2
local macro_rules | `(tactic| walk_at "side") => `(tactic| first | assumption | decide | exact Or.inl ⟨by decide, by decide⟩ | exact Or.inr ⟨by decide, by decide⟩ | exact ⟨by decide, by decide, by decide⟩ | omega | (unfold CMulW; decide +kernel) | (dsimp only; first | assumption | omega | decide +kernel) | exact len_ok (Nat.le_of_ble_eq_true rfl) | fail "side")
local macro_rules | `(tactic| walk_at "rd") => `(tactic| first
  | refine ⟨_, _, _, _, rfl, rfl, SqL.of upd_same, atI_nat (j := 0) rfl, ?_⟩ | refine ⟨_, _, _, _, rfl, rfl, SqL.of upd_same, atI_nat (j := 1) rfl, ?_⟩ | refine ⟨_, _, _, _, rfl, rfl, SqL.of upd_same, atI_nat (j := 2) rfl, ?_⟩
  | refine ⟨_, _, _, _, rfl, rfl, upd_same, rfl, ?_⟩
  | refine ⟨_, _, rfl, rfl, ?_⟩ | refine ⟨_, rfl, ?_⟩ | refine ⟨_, _, rfl, ?_⟩ | refine Or.inl ⟨_, rfl, ?_⟩ | refine Or.inr ⟨_, rfl, ?_⟩ | refine ⟨(by walk_at "side"), ?_⟩ | fail "rd")

abbrev s_isren : Stmt := top 15
theorem sc_isren : FnScope ["names", "value", "name"] ["names", "value"] (defScope s_isren) := ⟨rfl, rfl, rfl, by decide +kernel, rfl, by decide +kernel, by decide +kernel⟩
abbrev s_oren : Stmt := inClass (top 12) 13
theorem sc_oren : FnScope ["self", "names", "upper", "name", "lower"] ["self", "names"] (defScope s_oren) := ⟨rfl, rfl, rfl, by decide +kernel, rfl, by decide +kernel, by decide +kernel⟩
/-- a dict that takes the names zs to the names g z -/
def RenD (kvs : List (Key × V)) (zs : List Str) (g : Str → Str) : Prop := kvs.length = zs.length ∧ (∀ z ∈ zs, valV kvs (.inr z) = some (.str (g z))) ∧ ∃ ws : List Str, kvs.map (·.2) = ws.map V.str ∧ ws.Nodup ∧ ∀ w ∈ ws, isNm w = true
def spIsRen (K : PySem.W.Frag) : Sp := fun vs H Q _ => ∃ (a d : Addr) (zs : List Str) (kvs : List (Key × V)) (g : Str → Str), vs = [.ref a, .ref d] ∧ SqT K H a (zs.map V.str) ∧ H d = some (.dK kvs) ∧ RenD kvs zs g ∧ zs.length ≤ 40 ∧ ∀ H', Ext H H' → Q (.bl true) H'
def spORen (K : PySem.W.Frag) (C : Addr) : Sp := fun vs H Q _ => ∃ (o d : Addr) (zs ys : List Str) (kvs : List (Key × V)) (g : Str → Str), vs = [.ref o, .ref d] ∧ OrdAt K C H o zs ys ∧ H d = some (.dK kvs) ∧ RenD kvs zs g ∧ RowsOk (zs.map g) (ys.map g) ∧ ∀ x H', Ext H H' → OrdAt K C H' x (zs.map g) (ys.map g) → Q (.ref x) H'
theorem kit_dd {K : PySem.W.Frag} : PySem.W.kitOne K (.type "dict") (.type "dict") = some true := kit_ty (by decide +kernel : kitB "dict" "dict" = some true)
theorem map_strs (l : List Str) (g : Str → Str) : (l.map V.str).mapIdx (fun _ v => .str (g (sOf v))) = (l.map g).map V.str := by
  apply List.ext_getElem?
  intro i
  simp only [List.getElem?_mapIdx, List.getElem?_map, Option.map_map]
  rfl
section
variable {P : Program} {w : World} {K : PySem.W.Frag} {mg : Str → Option Value} {base : Heap} {C : Addr}
theorem ok_isren (T : Bn mg) (D : DefAt K mg "_is_renaming" s_isren) (F__are_different : FnAt P w K mg base 3 "_are_different" ["names"] (spDif K)) : FnAt P w K mg base 4 "_is_renaming" ["names", "value"] (spIsRen K) := by
  refine fnAt D sc_isren (fun _ _ _ _ _ _ us hl => match us, hl with | [_, _], _ => rfl) (fun vs H Q E h => ?_) fun f cdv A outer s H vs Q E hr h => ?_
  · obtain ⟨a, d, zs, kvs, g, rfl, _⟩ := h
    rfl
  obtain ⟨a, d, zs, kvs, g, rfl, ha, hd, rn, hz, k⟩ := h
  obtain ⟨r1, r2, ws, r3, r4, r5⟩ := rn
  refine ⟨_, (pss_cons (ps_if (PW.pt (pw_or (pt_not (pt_val (pe_callB call_isi (by rfl) T.b_isinstance (by decide +kernel) (pa_cons (pv 1) (pa_cons (pe_bltn (v := .ty "dict") (by rfl) T.b_dict (by decide +kernel) rfl) pa_nil))))) (pw_or1 (pt_cmpR op_ne (pe_callB call_lenD (by rfl) T.b_len (by decide +kernel) (pa_cons (pv 1) pa_nil)) (pe_callB call_len_seq (by rfl) T.b_len (by decide +kernel) (pa_cons (pv 0) pa_nil)) (nomark _))))) (pss_one (ps_ret pe_bl)) pss_nil)
    (pss_one (ps_ret (pe_and (pe_callB (cr_all rfl) (by rfl) T.b_all (by decide +kernel) (pa_cons (pe_lc (own := [("name", 2)]) (g := gName 2) (tt := tYes) rfl sc_isren.nd (pi_tup (pv 0)) (blkOk_by (N := ["names", "value", "name"]) (sc := defScope s_isren) (by decide +kernel)) (fun _ _ _ _ _ => pg_name (i := 2) sc_isren.nd rfl (Or.inl rfl)) (fun _ _ _ _ _ => pts_nil) (fun _ _ _ _ _ => (pe_cmp (pc_din (hu1 hr) (pv 2) (pv 1)) rfl))) pa_nil)) (pe_one (callA F__are_different (hr.mono (by decide)) rfl (pa_cons (pe_tupVals rfl (by rfl) T.b_tuple (pv 1)) pa_nil))))))), ?_⟩
  refine ⟨_, rfl, _, _, _, _, true, rfl, .ty _, .base (.dK hd), kit_dd, _, rfl, iteF ?_⟩
  refine ⟨_, rfl, d, _, rfl, hd, _, rfl, a, _, rfl, .inr ha, rfl, _, rfl, ?_⟩
  have el : (!decide (V.int (kvs.length : Nat) = V.int (((zs.map V.str).length : Nat) : Int))) = false := by
    rw [List.length_map, r1, decide_eq_true rfl]
    rfl
  rw [el]
  refine iteF ?_
  refine ⟨_, rfl, a, rfl, ⟨_, ha⟩, fun D hD => map_tup (xs := zs.map V.str) (fun _ _ => .bl true) ha hD (by rw [List.length_map]; omega) (fun _ => rfl) (fun i v H' hi e Q' k' => ?_) fun H1 e1 hl => ?_⟩
  · rw [List.getElem?_map] at hi
    obtain ⟨z, hz', rfl⟩ := Option.map_eq_some_iff.mp hi
    refine ⟨_, rfl, _, rfl, d, _, rfl, DGet.k (k := .inr z) (e _ _ hd), ?_⟩
    rw [r2 z (List.mem_of_getElem? hz')]
    exact k' H' (ext_refl _)
  refine ⟨D, zs.map fun _ => true, rfl, SqL.of ?_, ?_⟩
  · rw [hl]
    congr 2
    apply List.ext_getElem?
    intro i
    simp only [List.getElem?_mapIdx, List.getElem?_map, Option.map_map]
    rfl
  have ea : (zs.map fun _ => true).all id = true := by rw [List.all_map]; exact List.all_eq_true.mpr fun _ _ => rfl
  rw [ea]
  refine ⟨_, rfl, iteT ?_⟩
  refine ⟨_, rfl, d, kvs, rfl, e1 _ _ hd, newT_use (K := K) fun q H2 e2 hq _ => ?_⟩
  rw [r3] at hq
  have lw : ws.length = zs.length := by
    have z := congrArg List.length r3
    rw [List.length_map, List.length_map] at z
    omega
  refine ⟨q, ws, rfl, hq, by omega, r5, fun H3 e3 => ?_⟩
  rw [decide_eq_true r4]
  exact k H3 ((e1.trans e2).trans e3)
theorem ok_oren (T : Bn mg) (OT : OrdT K mg C) (D : MethT K C "renamed" "Order.renamed" s_oren) (F_init : OInitAt P w K mg base 5 C (spOInit K C)) (F__is_renaming : FnAt P w K mg base 4 "_is_renaming" ["names", "value"] (spIsRen K)) : MethAt P w K mg base 7 C "renamed" ["self", "names"] (spORen K C) := by
  refine methAt D sc_oren (fun _ _ _ _ _ _ us hl => match us, hl with | [_, _], _ => rfl) (fun vs H Q E h => ?_) fun f cdv A outer s H vs Q E hr h => ?_
  · obtain ⟨o, d, zs, ys, kvs, g, rfl, _⟩ := h
    rfl
  obtain ⟨o, d, zs, ys, kvs, g, rfl, oa, hd, rn, ro, k⟩ := h
  obtain ⟨dx, a, b, c, e, ha, hb, hc, ro0⟩ := id oa
  refine ⟨_, (pss_cons (ps_if (pt_not (pt_val (callA F__is_renaming (hr.mono (by decide)) rfl (pa_cons (pe_fld (pv 0) rfl) (pa_cons (pv 1) pa_nil))))) (pss_one ps_never) pss_nil)
    (pss_cons (ps_set (i := 2) sc_oren.nd rfl (Or.inl rfl) (pe_callTy call_tuple_of (by rfl) T.b_tuple (by decide +kernel) (pa_cons (pe_lc (own := [("name", 3)]) (g := gName 3) (tt := tYes) rfl sc_oren.nd (pi_tup (pe_fld (pv 0) rfl)) (blkOk_by (N := ["self", "names", "upper", "name", "lower"]) (sc := defScope s_oren) (by decide +kernel)) (fun _ _ _ _ _ => pg_name (i := 3) sc_oren.nd rfl (Or.inl rfl)) (fun _ _ _ _ _ => pts_nil) (fun _ _ _ _ _ => (pe_dget (hu1 hr) (pv 1) (pv 3) (fun _ _ => rfl)))) pa_nil)))
    (pss_cons (ps_set (i := 4) sc_oren.nd rfl (Or.inl rfl) (pe_callTy call_tuple_of (by rfl) T.b_tuple (by decide +kernel) (pa_cons (pe_lc (own := [("name", 3)]) (g := gName 3) (tt := tYes) rfl sc_oren.nd (pi_tup (pe_fld (pv 0) rfl)) (blkOk_by (N := ["self", "names", "upper", "name", "lower"]) (sc := defScope s_oren) (by decide +kernel)) (fun _ _ _ _ _ => pg_name (i := 3) sc_oren.nd rfl (Or.inl rfl)) (fun _ _ _ _ _ => pts_nil) (fun _ _ _ _ _ => (pe_dget (hu1 hr) (pv 1) (pv 3) (fun _ _ => rfl)))) pa_nil)))
    (pss_one (ps_ret (mkO F_init OT (hr.mono (by decide)) (pa_cons (pv 2) (pa_cons (pv 4) pa_nil)))))))), ?_⟩
  obtain ⟨r1, r2, r3⟩ := id rn
  have l40 := ro0.le
  refine ⟨_, rfl, o, C, dx, _, _, rfl, e, OT.cl, OT.nA, ofs_a a b c, _, rfl, a, d, zs, kvs, g, rfl, ha, hd, rn, l40, fun H1 e1 => ⟨_, rfl, iteF ?_⟩⟩
  refine ⟨_, rfl, o, C, dx, _, _, rfl, e1 _ _ e, OT.cl, OT.nA, ofs_a a b c, a, rfl, ⟨_, ha.ext e1⟩, fun D hD => map_tup (xs := zs.map V.str) (fun _ v => .str (g (sOf v))) (ha.ext e1) hD (by rw [List.length_map]; omega) (fun _ => rfl) (fun i v H' hi e' Q' k' => ?_) fun H2 e2 hl => ?_⟩
  · rw [List.getElem?_map] at hi
    obtain ⟨z, hz', rfl⟩ := Option.map_eq_some_iff.mp hi
    exact ⟨_, rfl, _, rfl, d, _, rfl, by show DGet _ d (V.str z) (some (V.str (g z))); rw [← r2 z (List.mem_of_getElem? hz')]; exact DGet.k (k := .inr z) (e' _ _ (e1 _ _ hd)), k' H' (ext_refl _)⟩
  rw [map_strs] at hl
  have e12 := e1.trans e2
  refine ⟨D, _, rfl, .inl ⟨SqL.of hl, fun p hp => ?_⟩⟩
  have x3 := ext_new (o := HO.tup ((zs.map g).map V.str)) (ext_refl H2) hp
  have e13 := e12.trans x3
  have hp3 : SqT K (upd H2 p (.tup ((zs.map g).map V.str))) p ((zs.map g).map V.str) := SqT.of upd_same
  refine ⟨_, rfl, o, C, dx, _, _, rfl, e13 _ _ e, OT.cl, OT.nB, ofs_b a b c, b, rfl, ⟨_, hb.ext e13⟩, fun D2 hD2 => map_tup (xs := ys.map V.str) (fun _ v => .str (g (sOf v))) (hb.ext e13) hD2 (by rw [List.length_map, ro0.len]; omega) (fun _ => rfl) (fun i v H' hi e' Q' k' => ?_) fun H4 e4 hl4 => ?_⟩
  · rw [List.getElem?_map] at hi
    obtain ⟨z, hz', rfl⟩ := Option.map_eq_some_iff.mp hi
    exact ⟨_, rfl, _, rfl, d, _, rfl, by show DGet _ d (V.str z) (some (V.str (g z))); rw [← r2 z (ro0.pm.mem_iff.mp (List.mem_of_getElem? hz'))]; exact DGet.k (k := .inr z) (e' _ _ (e13 _ _ hd)), k' H' (ext_refl _)⟩
  rw [map_strs] at hl4
  refine ⟨D2, _, rfl, .inl ⟨SqL.of hl4, fun q hq => ?_⟩⟩
  have x5 := ext_new (o := HO.tup ((ys.map g).map V.str)) (ext_refl H4) hq
  refine ⟨_, rfl, _, rfl, ?_⟩
  exact mk_useA ((hp3.ext e4).ext x5) (SqT.of upd_same) ro fun x H' e' oa' => k x H' (((e13.trans e4).trans x5).trans e') oa'
end
end My
/-! rows of names joined by blanks -/
namespace My
open PySem PySem.Spec PyProof.Rows L2 TL
theorem nm_no32 {z : Str} (h : isNm z = true) : 32 ∉ tl z := fun m => by
  unfold isNm at h
  rw [Bool.and_eq_true] at h
  have := of_decide_eq_true (List.all_eq_true.mp h.2 32 m)
  revert this
  decide +kernel
theorem tl_sp : tl (" " : Str) = 32 :: [] := by decide +kernel
theorem nm_sum : ∀ {zs : List Str}, (∀ z ∈ zs, isNm z = true) → (zs.map (·.length)).sum ≤ 8 * zs.length
  | [], _ => Nat.le_refl _
  | z :: r, h => by
    have a := nm_len (h z (List.mem_cons_self ..))
    have b := nm_sum (zs := r) fun y hy => h y (List.mem_cons_of_mem _ hy)
    rw [List.map_cons, List.sum_cons, List.length_cons]
    omega
theorem joinL_len (S : List Nat) : ∀ l : List (List Nat), (joinL S l).length ≤ (l.map (·.length)).sum + S.length * l.length
  | [] => Nat.zero_le _
  | [p] => by
    show p.length ≤ _
    simp
  | p :: q :: r => by
    have ih := joinL_len S (q :: r)
    show (p ++ (S ++ joinL S (q :: r))).length ≤ _
    rw [List.length_append, List.length_append, List.map_cons, List.sum_cons, List.length_cons, Nat.mul_succ]
    omega
theorem join_len {zs : List Str} (h : ∀ z ∈ zs, isNm z = true) : (Txt.join " " zs).length ≤ 9 * zs.length := by
  rw [len_tl, join_eq, tl_join, tl_sp]
  have := joinL_len (32 :: []) (zs.map tl)
  have s := nm_sum h
  rw [List.map_map, List.length_map] at this
  have e : (zs.map ((fun x => x.length) ∘ tl)) = zs.map (·.length) := List.map_congr_left fun z _ => (len_tl z).symm
  rw [e] at this
  simp only [List.length_cons, List.length_nil] at this
  omega
theorem split_nm {zs : List Str} (h : ∀ z ∈ zs, isNm z = true) (ne : zs ≠ []) : Txt.split (Txt.join " " zs) " " = zs :=
  split_join tl_sp (by decide +kernel) ne fun p hp => nm_no32 (h p hp)
end My
/-! the joined order has no needless pairs -/
namespace My
open PySem PySem.Spec L2
theorem filt_head {α : Type} {p : α → Bool} : ∀ {l : List α} {v : α}, (l.filter p)[0]? = some v → ∃ k : Nat, l[k]? = some v ∧ ∀ (m : Nat) (x : α), m < k → l[m]? = some x → p x = false
  | [], v, h => by simp at h
  | a :: r, v, h => by
    rw [List.filter_cons] at h
    by_cases c : p a = true
    · rw [if_pos c] at h
      exact ⟨0, h, fun m x hm => absurd hm (by omega)⟩
    · rw [if_neg c] at h
      obtain ⟨k, h1, h2⟩ := filt_head h
      refine ⟨k + 1, h1, fun m x hm hx => ?_⟩
      match m, hx with
      | 0, hx => cases hx; exact Bool.eq_false_iff.mpr c
      | m + 1, hx => exact h2 m x (by omega) hx
theorem filt_adj {α : Type} {p : α → Bool} : ∀ {l : List α} {j : Nat} {u v : α}, (l.filter p)[j]? = some u → (l.filter p)[j + 1]? = some v → ∃ i k : Nat, i < k ∧ l[i]? = some u ∧ l[k]? = some v ∧ ∀ (m : Nat) (x : α), i < m → m < k → l[m]? = some x → p x = false
  | [], j, u, v, h, _ => by simp at h
  | a :: r, j, u, v, h, g => by
    rw [List.filter_cons] at h g
    by_cases c : p a = true
    · rw [if_pos c] at h g
      cases j with
      | zero =>
        obtain ⟨k, h1, h2⟩ := filt_head (l := r) (p := p) (v := v) g
        refine ⟨0, k + 1, by omega, h, h1, fun m x hm hk hx => ?_⟩
        match m, hm, hx with
        | m + 1, _, hx => exact h2 m x (by omega) hx
      | succ j =>
        obtain ⟨i, k, h1, h2, h3, h4⟩ := filt_adj (l := r) (p := p) (j := j) h g
        refine ⟨i + 1, k + 1, by omega, h2, h3, fun m x hm hk hx => ?_⟩
        match m, hm, hx with
        | m + 1, _, hx => exact h4 m x (by omega) (by omega) hx
    · rw [if_neg c] at h g
      obtain ⟨i, k, h1, h2, h3, h4⟩ := filt_adj (l := r) (p := p) (j := j) h g
      refine ⟨i + 1, k + 1, by omega, h2, h3, fun m x hm hk hx => ?_⟩
      match m, hm, hx with
      | m + 1, _, hx => exact h4 m x (by omega) (by omega) hx
theorem mem_ndN2 (zs : List Str) (ps : List Int) (u : Str × Str) : ∀ k, u ∈ ndN zs ps k ↔ ∃ j, j < k ∧ u = (zs.getD j Str.empty, zs.getD (j + 1) Str.empty) ∧ ps.getD (j + 1) 0 = ps.getD j 0 + 1
  | 0 => by
    rw [ndN]
    exact ⟨fun h => absurd h List.not_mem_nil, fun ⟨j, h, _⟩ => absurd h (Nat.not_lt_zero _)⟩
  | k + 1 => by
    have ih := mem_ndN2 zs ps u k
    rw [ndN]
    by_cases c : ps.getD (k + 1) 0 = ps.getD k 0 + 1
    · rw [if_pos c, List.mem_append, ih, List.mem_singleton]
      constructor
      · rintro (⟨j, h1, h2, h3⟩ | h)
        · exact ⟨j, by omega, h2, h3⟩
        · exact ⟨k, by omega, h, c⟩
      · rintro ⟨j, h1, h2, h3⟩
        by_cases e : j = k
        · subst e
          exact .inr h2
        · exact .inl ⟨j, by omega, h2, h3⟩
    · rw [if_neg c, ih]
      constructor
      · rintro ⟨j, h1, h2, h3⟩
        exact ⟨j, by omega, h2, h3⟩
      · rintro ⟨j, h1, h2, h3⟩
        by_cases e : j = k
        · subst e
          exact absurd h3 c
        · exact ⟨j, by omega, h2, h3⟩
theorem plc_getD {zs ys : List Str} {j : Nat} {a : Str} (h : zs[j]? = some a) : (plc zs ys).getD j 0 = ((pos ys a : Nat) : Int) := by
  unfold plc
  rw [List.getD_eq_getElem?_getD, List.getElem?_map, h]
  rfl
theorem getD_at {zs : List Str} {j : Nat} {a : Str} (h : zs[j]? = some a) : zs.getD j Str.empty = a := by
  rw [List.getD_eq_getElem?_getD, h]
  rfl
theorem pos_of {l : List Str} (nd : l.Nodup) {m : Nat} {x : Str} (h : l[m]? = some x) : pos l x = m := by
  obtain ⟨hm, e⟩ := List.getElem?_eq_some_iff.mp h
  rw [← e]
  exact pos_at nd hm
theorem drp_mem {zs ys : List Str} {b : Str} (h : b ∈ drp zs ys) : ∃ m a, zs[m]? = some a ∧ zs[m + 1]? = some b ∧ pos ys b = pos ys a + 1 := by
  unfold drp at h
  obtain ⟨u, hu, rfl⟩ := List.mem_map.mp h
  unfold ndl at hu
  obtain ⟨j, h1, h2, h3⟩ := (mem_ndN2 _ _ _ _).mp hu
  have l1 : j + 1 < zs.length := by omega
  have g0 : zs[j]? = some (zs[j]'(by omega)) := List.getElem?_eq_getElem (by omega)
  have g1 : zs[j + 1]? = some zs[j + 1] := List.getElem?_eq_getElem l1
  rw [plc_getD g0, plc_getD g1] at h3
  subst h2
  refine ⟨j, _, g0, ?_, ?_⟩
  · show zs[j + 1]? = some (zs.getD (j + 1) Str.empty)
    rw [getD_at g1]
    exact g1
  · show pos ys (zs.getD (j + 1) Str.empty) = _
    rw [getD_at g1]
    omega
theorem drp_in {zs ys : List Str} {m : Nat} {a b : Str} (ha : zs[m]? = some a) (hb : zs[m + 1]? = some b) (h : pos ys b = pos ys a + 1) : b ∈ drp zs ys := by
  unfold drp
  have l1 := (List.getElem?_eq_some_iff.mp hb).1
  refine List.mem_map.mpr ⟨(zs.getD m Str.empty, zs.getD (m + 1) Str.empty), ?_, getD_at hb⟩
  unfold ndl
  refine (mem_ndN2 _ _ _ _).mpr ⟨m, by omega, rfl, ?_⟩
  rw [plc_getD ha, plc_getD hb]
  omega
theorem ndl_jnd {zs ys : List Str} (ro : RowsOk zs ys) : ndl (jnd zs ys zs) (jnd zs ys ys) = [] := by
  refine List.eq_nil_iff_forall_not_mem.mpr fun w hw => ?_
  have rj := jnd_rows ro
  unfold ndl at hw
  obtain ⟨j, h1, _, h3⟩ := (mem_ndN2 _ _ _ _).mp hw
  have l1 : j + 1 < (jnd zs ys zs).length := by omega
  have gu : (jnd zs ys zs)[j]? = some ((jnd zs ys zs)[j]'(by omega)) := List.getElem?_eq_getElem (by omega)
  have gv : (jnd zs ys zs)[j + 1]? = some (jnd zs ys zs)[j + 1] := List.getElem?_eq_getElem l1
  have mu : (jnd zs ys zs)[j]'(by omega) ∈ jnd zs ys ys := rj.pm.mem_iff.mpr (List.getElem_mem _)
  have mv : (jnd zs ys zs)[j + 1] ∈ jnd zs ys ys := rj.pm.mem_iff.mpr (List.getElem_mem _)
  rw [plc_getD gu, plc_getD gv] at h3
  generalize (jnd zs ys zs)[j]'(by omega) = u at gu mu h3
  generalize (jnd zs ys zs)[j + 1] = v at gv mv h3
  have qu := pos_get mu
  have qv := pos_get mv
  rw [show pos (jnd zs ys ys) v = pos (jnd zs ys ys) u + 1 by omega] at qv
  obtain ⟨i, k, ik, zu, zv, zb⟩ := filt_adj (l := zs) gu gv
  obtain ⟨i', k', ik', yu, yv, yb⟩ := filt_adj (l := ys) qu qv
  have nz := ro.nd
  have ny := ro.symm.nd
  have vn : v ∉ drp zs ys := fun m => by
    have := (List.mem_filter.mp mv).2
    rw [decide_eq_true m] at this
    cases this
  have pu := pos_of ny yu
  have pv := pos_of ny yv
  have dr : ∀ x, (!decide (x ∈ drp zs ys)) = false → x ∈ drp zs ys := fun x h => of_decide_eq_true (by simpa using h)
  have ch : ∀ t, i + t < k → ∃ x, zs[i + t]? = some x ∧ pos ys x = pos ys u + t := fun t => by
    induction t with
    | zero => exact fun _ => ⟨u, zu, rfl⟩
    | succ t ih =>
      intro ht
      obtain ⟨x, hx, px⟩ := ih (by omega)
      have lt : i + (t + 1) < zs.length := by
        have := (List.getElem?_eq_some_iff.mp zv).1
        omega
      have gy : zs[i + (t + 1)]? = some zs[i + (t + 1)] := List.getElem?_eq_getElem lt
      have md := dr _ (zb _ _ (by omega) ht gy)
      obtain ⟨m, a, ga, gb, e⟩ := drp_mem md
      have em : m + 1 = i + (t + 1) := (pos_of nz gb).symm.trans (pos_of nz gy)
      have em' : m = i + t := by omega
      rw [em', hx] at ga
      cases ga
      exact ⟨_, gy, by omega⟩
  have ch' : ∀ t, i' + t < k' → ∃ y, ys[i' + t]? = some y ∧ pos zs y = i + t := fun t => by
    induction t with
    | zero => exact fun _ => ⟨u, yu, pos_of nz zu⟩
    | succ t ih =>
      intro ht
      obtain ⟨x, hx, px⟩ := ih (by omega)
      have lt : i' + (t + 1) < ys.length := by
        have := (List.getElem?_eq_some_iff.mp yv).1
        omega
      have gy : ys[i' + (t + 1)]? = some ys[i' + (t + 1)] := List.getElem?_eq_getElem lt
      have md := dr _ (yb _ _ (by omega) ht gy)
      obtain ⟨m, a, ga, gb, e⟩ := drp_mem md
      rw [pos_of ny gy] at e
      have ma : a ∈ ys := ro.pm.mem_iff.mpr (List.mem_of_getElem? ga)
      have ea := pos_get ma
      rw [show pos ys a = i' + t by omega, hx] at ea
      cases ea
      have m1 := pos_of nz ga
      exact ⟨_, gy, by rw [pos_of nz gb]; omega⟩
  rcases Nat.lt_trichotomy (k - i) (k' - i') with c | c | c
  · obtain ⟨y, hy, py⟩ := ch' (k - i) (by omega)
    have my : y ∈ zs := ro.pm.mem_iff.mp (List.mem_of_getElem? hy)
    have ey := pos_get my
    rw [py, show i + (k - i) = k by omega, zv] at ey
    cases ey
    have := pos_of ny hy
    omega
  · obtain ⟨x, hx, px⟩ := ch (k - i - 1) (by omega)
    have e1 : i + (k - i - 1) + 1 = k := by omega
    refine vn (drp_in hx (by rw [e1]; exact zv) ?_)
    omega
  · obtain ⟨x, hx, px⟩ := ch (k' - i') (by omega)
    have mx : x ∈ ys := ro.pm.mem_iff.mpr (List.mem_of_getElem? hx)
    have ex := pos_get mx
    rw [px, pu, show i' + (k' - i') = k' by omega, yv] at ex
    cases ex
    have a1 := pos_of nz hx
    have a2 := pos_of nz zv
    omega
end My
/-! a dict made out of two rows of names; a renamed order -/
namespace My
open PySem PySem.Spec PyProof.Rows L2
def InjOn (g : Str → Str) (l : List Str) : Prop := ∀ x ∈ l, ∀ z ∈ l, g z = g x → z = x
theorem InjOn.sub {g : Str → Str} {l m : List Str} (h : InjOn g l) (s : ∀ x ∈ m, x ∈ l) : InjOn g m := fun x hx z hz e => h x (s x hx) z (s z hz) e
theorem pos_map {g : Str → Str} : ∀ {l : List Str} {x : Str}, (∀ z ∈ l, g z = g x → z = x) → pos (l.map g) (g x) = pos l x
  | [], _, _ => rfl
  | a :: r, x, h => by
    unfold pos
    rw [List.map_cons, List.findIdx_cons, List.findIdx_cons]
    by_cases e : a = x
    · subst e
      simp
    · have n : ¬ g a = g x := fun q => e (h a (List.mem_cons_self ..) q)
      have ih := pos_map (l := r) (x := x) fun z hz q => h z (List.mem_cons_of_mem _ hz) q
      unfold pos at ih
      simp only [decide_eq_false n, decide_eq_false e, cond_false, ih]
def zk (ns ws : List Str) : List (Key × V) := (ns.zip ws).map fun p => ((Sum.inr p.1 : Key), V.str p.2)
def gz : List Str → List Str → Str → Str
  | n :: ns, w :: ws, z => if n = z then w else gz ns ws z
  | _, _, z => z
theorem zk_cons (n w : Str) (ns ws : List Str) : zk (n :: ns) (w :: ws) = (.inr n, .str w) :: zk ns ws := rfl
theorem zk_len : ∀ {ns ws : List Str}, ns.length = ws.length → (zk ns ws).length = ns.length := fun {ns ws} h => by
  unfold zk
  rw [List.length_map, List.length_zip, h, Nat.min_self]
theorem zk_vals : ∀ {ns ws : List Str}, ns.length = ws.length → (zk ns ws).map (·.2) = ws.map V.str
  | [], [], _ => rfl
  | [], _ :: _, h => by cases h
  | _ :: _, [], h => by cases h
  | n :: ns, w :: ws, h => by
    rw [zk_cons, List.map_cons, List.map_cons, zk_vals (by simpa using h)]
theorem gz_mem : ∀ {ns ws : List Str} {z : Str}, ns.length = ws.length → z ∈ ns → gz ns ws z ∈ ws
  | [], _, _, _, m => by cases m
  | _ :: _, [], _, h, _ => by cases h
  | n :: ns, w :: ws, z, h, m => by
    unfold gz
    by_cases e : n = z
    · rw [if_pos e]
      exact List.mem_cons_self ..
    · rw [if_neg e]
      rcases List.mem_cons.mp m with q | q
      · exact absurd q.symm e
      · exact List.mem_cons_of_mem _ (gz_mem (by simpa using h) q)
theorem gz_inj : ∀ {ns ws : List Str}, ns.length = ws.length → ws.Nodup → InjOn (gz ns ws) ns
  | [], _, _, _ => fun x hx => by cases hx
  | _ :: _, [], h, _ => by cases h
  | n :: ns, w :: ws, h, nd => by
    have h' : ns.length = ws.length := by simpa using h
    have nd' := List.nodup_cons.mp nd
    intro x hx z hz e
    unfold gz at e
    by_cases a : n = x
    · by_cases b : n = z
      · rw [← a, ← b]
      · rw [if_pos a, if_neg b] at e
        rcases List.mem_cons.mp hz with q | q
        · exact absurd q.symm b
        · exact absurd (e ▸ gz_mem h' q) nd'.1
    · by_cases b : n = z
      · rw [if_neg a, if_pos b] at e
        rcases List.mem_cons.mp hx with q | q
        · exact absurd q.symm a
        · exact absurd (e ▸ gz_mem h' q) nd'.1
      · rw [if_neg a, if_neg b] at e
        rcases List.mem_cons.mp hx with q | q
        · exact absurd q.symm a
        · rcases List.mem_cons.mp hz with q2 | q2
          · exact absurd q2.symm b
          · exact gz_inj h' nd'.2 x q z q2 e
theorem valV_cons (k k' : Key) (v : V) (r : List (Key × V)) : valV ((k, v) :: r) k' = if k = k' then some v else valV r k' := by
  unfold valV
  rw [List.find?_cons]
  by_cases e : k = k'
  · rw [if_pos e, e]
    simp
  · rw [if_neg e]
    simp [e]
theorem zk_get : ∀ {ns ws : List Str} {z : Str}, ns.length = ws.length → z ∈ ns → valV (zk ns ws) (.inr z) = some (.str (gz ns ws z))
  | [], _, _, _, m => by cases m
  | _ :: _, [], _, h, _ => by cases h
  | n :: ns, w :: ws, z, h, m => by
    rw [zk_cons, valV_cons]
    unfold gz
    by_cases e : n = z
    · rw [if_pos (by rw [e]), if_pos e]
    · rw [if_neg (fun q => e (Sum.inr.inj q)), if_neg e]
      rcases List.mem_cons.mp m with q | q
      · exact absurd q.symm e
      · exact zk_get (by simpa using h) q
theorem zk_at {ns ws : List Str} {i : Nat} {n w : Str} (hn : ns[i]? = some n) (hw : ws[i]? = some w) : (zk ns ws)[i]? = some (.inr n, .str w) := by
  unfold zk
  rw [List.getElem?_map, List.getElem?_zip_eq_some (z := (n, w)) |>.mpr ⟨hn, hw⟩]
  rfl
theorem valV_none {kvs : List (Key × V)} {k : Key} (h : ∀ p ∈ kvs, p.1 ≠ k) : valV kvs k = none := by
  unfold valV
  rw [List.find?_eq_none.mpr fun p hp => by simpa using h p hp]
  rfl
theorem zk_new {ns ws : List Str} (nd : ns.Nodup) (h : ns.length = ws.length) {i : Nat} {n : Str} (hn : ns[i]? = some n) : valV ((zk ns ws).take i) (.inr n) = none := by
  refine valV_none fun p hp e => ?_
  obtain ⟨j, hj, ej⟩ := List.getElem_of_mem hp
  rw [List.length_take] at hj
  have l := zk_len h
  obtain ⟨hi, ei⟩ := List.getElem?_eq_some_iff.mp hn
  have g := zk_at (ns := ns) (ws := ws) (i := j) (List.getElem?_eq_getElem (by omega)) (List.getElem?_eq_getElem (by omega))
  rw [List.getElem_take] at ej
  rw [List.getElem?_eq_getElem (by omega), ej] at g
  have pk := congrArg Prod.fst (Option.some.inj g)
  rw [e] at pk
  have pw := List.pairwise_iff_getElem.mp (List.nodup_iff_pairwise_ne.mp nd)
  exact pw j i (by omega) hi (by omega) ((Sum.inr.inj pk).symm.trans ei.symm)
theorem RenD.perm {kvs : List (Key × V)} {zs ys : List Str} {g : Str → Str} (h : RenD kvs zs g) (p : ys.Perm zs) : RenD kvs ys g := ⟨by rw [p.length_eq]; exact h.1, fun z hz => h.2.1 z (p.mem_iff.mp hz), h.2.2⟩
theorem zk_ren {ns ws zs : List Str} (h : ns.length = ws.length) (p : zs.Perm ns) (nd : ws.Nodup) (nm : ∀ w ∈ ws, isNm w = true) : RenD (zk ns ws) zs (gz ns ws) :=
  ⟨by rw [zk_len h, p.length_eq], fun z hz => zk_get h (p.mem_iff.mp hz), ws, zk_vals h, nd, nm⟩
theorem merge_new : ∀ (more acc : List (Key × V)), (∀ p ∈ more, ∀ q ∈ acc, q.1 ≠ p.1) → (more.map (·.1)).Nodup → mergeK acc more = acc ++ more
  | [], acc, _, _ => by rw [List.append_nil]; rfl
  | p :: r, acc, h, nd => by
    rw [List.map_cons, List.nodup_cons] at nd
    have e := putK_new (kvs := acc) (k := p.1) p.2 (valV_none fun q hq => h p (List.mem_cons_self ..) q hq)
    show mergeK (putK acc p.1 p.2) r = acc ++ p :: r
    rw [e, merge_new r _ (fun x hx q hq => ?_) nd.2, List.append_assoc]
    · rfl
    · rcases List.mem_append.mp hq with hq | hq
      · exact h x (List.mem_cons_of_mem _ hx) q hq
      · rw [List.mem_singleton.mp hq]
        exact fun z => nd.1 (List.mem_map.mpr ⟨x, hx, z.symm⟩)
theorem zk_keys : ∀ {ns ws : List Str}, ns.length = ws.length → (zk ns ws).map (·.1) = ns.map Sum.inr
  | [], [], _ => rfl
  | [], _ :: _, h => by cases h
  | _ :: _, [], h => by cases h
  | n :: ns, w :: ws, h => by
    rw [zk_cons, List.map_cons, List.map_cons, zk_keys (by simpa using h)]
theorem merge_zk {ns ws : List Str} (nd : ns.Nodup) (h : ns.length = ws.length) : mergeK [] (zkV ns (ws.map V.str)) = zk ns ws := by
  have e : zkV ns (ws.map V.str) = zk ns ws := by
    unfold zkV zk
    rw [List.zip_map_right, List.map_map]
    rfl
  rw [e, merge_new _ _ (fun _ _ q hq => by cases hq), List.nil_append]
  rw [zk_keys h]
  exact List.nodup_iff_pairwise_ne.mpr (List.pairwise_map.mpr ((List.nodup_iff_pairwise_ne.mp nd).imp fun q z => q (Sum.inr.inj z)))
theorem gz_map : ∀ {ns ws : List Str}, ns.Nodup → ns.length = ws.length → ns.map (gz ns ws) = ws
  | [], [], _, _ => rfl
  | [], _ :: _, _, h => by cases h
  | _ :: _, [], _, h => by cases h
  | n :: ns, w :: ws, nd, h => by
    rw [List.nodup_cons] at nd
    have ih := gz_map (ns := ns) (ws := ws) nd.2 (by simpa using h)
    have h1 : gz (n :: ns) (w :: ws) n = w := by
      unfold gz
      rw [if_pos rfl]
    have h2 : ns.map (gz (n :: ns) (w :: ws)) = ns.map (gz ns ws) := List.map_congr_left fun z hz => by
      have ne : ¬ n = z := fun e => nd.1 (by rw [e]; exact hz)
      show (if n = z then w else gz ns ws z) = gz ns ws z
      rw [if_neg ne]
    rw [List.map_cons, h1, h2, ih]
theorem plc_map {g : Str → Str} {zs ys : List Str} (h : InjOn g ys) (s : ∀ z ∈ zs, z ∈ ys) : plc (zs.map g) (ys.map g) = plc zs ys := by
  unfold plc
  rw [List.map_map]
  refine List.map_congr_left fun z hz => ?_
  show ((pos (ys.map g) (g z) : Nat) : Int) = _
  rw [pos_map fun y hy e => h z (s z hz) y hy e]
end My
set_option maxHeartbeats 8000000
namespace My
open PySem PySem.Spec PyProof.Rows L2 TL
local macro_rules | `(tactic| walk_at "side") => `(tactic| first | assumption | decide | exact Or.inl ⟨by decide, by decide⟩ | exact Or.inr ⟨by decide, by decide⟩ | exact ⟨by decide, by decide, by decide⟩ | omega | (unfold CMulW; decide +kernel) | (dsimp only; first | assumption | omega | decide +kernel) | exact len_ok (Nat.le_of_ble_eq_true rfl) | fail "side")
local macro_rules | `(tactic| walk_at "rd") => `(tactic| first
  | refine ⟨_, _, _, _, rfl, rfl, SqL.of upd_same, atI_nat (j := 0) rfl, ?_⟩ | refine ⟨_, _, _, _, rfl, rfl, SqL.of upd_same, atI_nat (j := 1) rfl, ?_⟩ | refine ⟨_, _, _, _, rfl, rfl, SqL.of upd_same, atI_nat (j := 2) rfl, ?_⟩
  | refine ⟨_, _, _, _, rfl, rfl, upd_same, rfl, ?_⟩
  | refine ⟨_, _, rfl, rfl, ?_⟩ | refine ⟨_, rfl, ?_⟩ | refine ⟨_, _, rfl, ?_⟩ | refine Or.inl ⟨_, rfl, ?_⟩ | refine Or.inr ⟨_, rfl, ?_⟩ | refine ⟨(by walk_at "side"), ?_⟩ | fail "rd")

abbrev s_lright : Stmt := top 27
theorem sc_lright : FnScope ["_law_dice_here", "_law_upper", "_law_lower", "_law_order", "_law_name", "_law_blocks_here", "_law_block", "_law_pairs", "_law_seconds", "_law_one", "_law_other", "_law_left", "_law_row", "_law_others", "_law_fresh", "_law_told", "_law_value"] ["_law_dice_here"] (defScope s_lright) := ⟨rfl, rfl, rfl, by decide +kernel, rfl, by decide +kernel, by decide +kernel⟩
/-- the names of the outer for of the rows without needless names -/
abbrev sc_left : Scope := { kind := .function, names := [(".0", .local), ("_law_row", .local), ("_law_seconds", .cell)], isGenerator := false, isCoroutine := false }
theorem tyT {K : PySem.W.Frag} {H : Hp} {a : Addr} {xs : List V} (h : SqT K H a xs) : TyX K H (.ref a) (.type "tuple") := by
  rcases h with (e | ⟨o, e⟩) | ⟨o, its, n, e, c, _⟩
  · exact .base (.tup e)
  · exact .fTuple e
  · exact .kTuple e c
theorem kit_bb {K : PySem.W.Frag} : PySem.W.kitOne K (.type "bool") (.type "bool") = some true := kit_ty (by decide +kernel : kitB "bool" "bool" = some true)
theorem kit_tt {K : PySem.W.Frag} : PySem.W.kitOne K (.type "tuple") (.type "tuple") = some true := kit_ty (by decide +kernel : kitB "tuple" "tuple" = some true)
def toldB : List Bool := [true, false, false, false, false, false, false]
theorem dp_bools {K : PySem.W.Frag} {H : Hp} : ∀ bs : List Bool, DpAll K H (bs.map V.bl) (bs.map PyData.bool)
  | [] => .nil
  | b :: r => .cons (.bl b) (dp_bools r)
theorem told_ok : SeqAt.shaped (.list (toldB.map PyData.bool)) = true := by decide +kernel
theorem told_eq : PyData.eqv (.list (toldB.map PyData.bool)) (.list (toldB.map PyData.bool)) = true := by decide +kernel
def spLRight : Sp := fun vs H Q _ => ∃ a : Addr, vs = [.ref a] ∧ H a = some (DiceO a) ∧ ∀ H', Ext H H' → Q (.bl true) H'
section
variable {P : Program} {w : World} {K : PySem.W.Frag} {mg : Str → Option Value} {base : Heap} {C : Addr}
theorem ok_lright (T : Bn mg) (OT : OrdT K mg C) (D : DefAt K mg "_law_right" s_lright) (F__law_roll : FnAt P w K mg base 1 "_law_roll" ["_law_dice_here", "_law_total"] spRoll) (F__law_mixed : FnAt P w K mg base 2 "_law_mixed" ["_law_dice_here", "_law_items"] (spLMix K)) (F__law_any_rows : FnAt P w K mg base 4 "_law_any_rows" ["_law_dice_here", "_law_most"] spLAny)
    (F__law_blocks : FnAt P w K mg base 1 "_law_blocks" ["_law_upper", "_law_lower"] (spLBlk K)) (F__law_needless : FnAt P w K mg base 1 "_law_needless" ["_law_upper", "_law_lower"] (spLNdl K)) (F__law_form : FnAt P w K mg base 1 "_law_form" ["_law_upper", "_law_lower", "_law_one", "_law_other"] (spLForm K)) (F__law_has : FnAt P w K mg base 8 "_law_has" ["_law_order", "_law_upper", "_law_lower"] (spLHas K C))
    (F_init : OInitAt P w K mg base 5 C (spOInit K C)) (R_read : ReadAt P w K mg base 7 C (spORead K C)) (P_above : PropAt P w K mg base 1 C "above" (spGetT K C fun zs _ => zs.map V.str)) (P_below : PropAt P w K mg base 1 C "below" (spGetT K C fun _ ys => ys.map V.str)) (P_places : PropAt P w K mg base 1 C "places" (spGetT K C fun zs ys => (plc zs ys).map V.int))
    (P_names : PropAt P w K mg base 1 C "names" (spNames K C)) (P_many : PropAt P w K mg base 1 C "many" (spGetN K C)) (P_is_whole : PropAt P w K mg base 2 C "is_whole" (spWhole K C)) (P_needless : PropAt P w K mg base 1 C "needless" (spNeedless K C))
    (S_eq : SpAt P w K mg base 1 C "__eq__" ["self", "other"] (spOEq K C)) (S_ne : NeAt P w K mg base 1 C (spOEq K C)) (S_str : SpAt P w K mg base 2 C "__str__" ["self"] (spOStr K C)) (S_len : SpAt P w K mg base 1 C "__len__" ["self"] (spGetN K C)) (S_cont : SpAt P w K mg base 2 C "__contains__" ["self", "value"] (spOCont K C)) (I_order : ItrAt P w K mg base 1 C (spItr K C))
    (M_blocks : MethAt P w K mg base 7 C "blocks" ["self"] (spOBlk K C)) (M_inverse : MethAt P w K mg base 7 C "inverse" ["self"] (spOrd K C (fun _ ys => ys) (fun zs _ => zs))) (M_backwards : MethAt P w K mg base 7 C "backwards" ["self"] (spOrd K C (fun zs _ => zs.reverse) (fun _ ys => ys.reverse))) (M_joined : MethAt P w K mg base 7 C "joined" ["self"] (spOrd K C (fun zs ys => jnd zs ys zs) (fun zs ys => jnd zs ys ys)))
    (M_form : MethAt P w K mg base 2 C "form" ["self", "one", "other"] (spOForm K C)) (M_renamed : MethAt P w K mg base 7 C "renamed" ["self", "names"] (spORen K C)) : FnAt P w K mg base 9 "_law_right" ["_law_dice_here"] spLRight := by
  refine fnAt D sc_lright (fun _ _ _ _ _ _ us hl => match us, hl with | [_], _ => rfl) (fun vs H Q E h => ?_) fun f cdv A outer s H vs Q E hr h => ?_
  · obtain ⟨a, rfl, _⟩ := h
    rfl
  obtain ⟨a, rfl, ha, k⟩ := h
  refine ⟨_, (pss_cons (ps_asg (callA F__law_any_rows (hr.mono (by decide)) rfl (pa_cons (pv 0) (pa_cons pe_int pa_nil))) (pg_tup (by rfl) (pgs_cons (pg_name (i := 1) sc_lright.nd rfl (Or.inr rfl)) (pgs_cons (pg_name (i := 2) sc_lright.nd rfl (Or.inr rfl)) pgs_nil))))
    (pss_cons (ps_set (i := 3) sc_lright.nd rfl (Or.inr rfl) (mkO F_init OT (hr.mono (by decide)) (pa_cons (pe_callTy call_tupleF (by rfl) T.b_tuple (by decide +kernel) (pa_cons (pv 1) pa_nil)) (pa_cons (pe_callTy call_tupleF (by rfl) T.b_tuple (by decide +kernel) (pa_cons (pv 2) pa_nil)) pa_nil))))
    (pss_cons (ps_if (PW.pt (pw_or (pt_not (pt_val (callA F__law_has (hr.mono (by decide)) rfl (pa_cons (pv 3) (pa_cons (pv 1) (pa_cons (pv 2) pa_nil)))))) (pw_or1 (pt_cmpR (neA S_ne (hr.mono (by decide))) (pv 3) (readO R_read (hr.mono (by decide)) (pe_glob (v := .ref C) rfl OT.g rfl) (pa_cons (pe_join pe_str (pv 1)) (pa_cons (pe_join pe_str (pv 2)) pa_nil))) (nomark _))))) (pss_one (ps_ret pe_bl)) pss_nil)
    (pss_cons (ps_if (PW.pt (pw_or (pt_cmpR op_ne (pe_callTy (strA S_str (hr.mono (by decide))) (by rfl) T.b_str (by decide +kernel) (pa_cons (pv 3) pa_nil)) (pe_op op_add_str (pe_op op_add_str (pe_join pe_str (pv 1)) pe_str) (pe_join pe_str (pv 2))) (nomark _)) (pw_or1 (pt_cmpR (op_neD (hu64 hr)) (propA P_names OT.cl (hr.mono (by decide)) (pv 3)) (pe_callTy call_tuple_of (by rfl) T.b_tuple (by decide +kernel) (pa_cons (pe_callB cr_sortedB (by rfl) T.b_sorted (by decide +kernel) (pa_cons (pv 1) pa_nil)) pa_nil)) (nomark _))))) (pss_one (ps_ret pe_bl)) pss_nil)
    (pss_cons (ps_if (PW.pt (pw_or (pt_cmpR (op_neD (hu64 hr)) (propA P_places OT.cl (hr.mono (by decide)) (pv 3)) (pe_callTy call_tuple_of (by rfl) T.b_tuple (by decide +kernel) (pa_cons (pe_lc (own := [("_law_name", 4)]) (g := gName 4) (tt := tYes) rfl sc_lright.nd (pi_list (pv 1)) (blkOk_by (N := ["_law_dice_here", "_law_upper", "_law_lower", "_law_order", "_law_name", "_law_blocks_here", "_law_block", "_law_pairs", "_law_seconds", "_law_one", "_law_other", "_law_left", "_law_row", "_law_others", "_law_fresh", "_law_told", "_law_value"]) (sc := defScope s_lright) (by decide +kernel)) (fun _ _ _ _ _ => pg_name (i := 4) sc_lright.nd rfl (Or.inl rfl)) (fun _ _ _ _ _ => pts_nil) (fun _ _ _ _ _ => ((show PE _ _ (tBM K "list" (rIndex K) _ _) from pe_bm PySem.F.plainAttrs_list PySem.F.slot_list_index PySem.F.type_list_index mt_index (pv 2) (pa_cons (pv 4) pa_nil))))) pa_nil)) (nomark _)) (pw_or1 (pt_cmpR op_ne (propA P_many OT.cl (hr.mono (by decide)) (pv 3)) (pe_callB call_len_seq (by rfl) T.b_len (by decide +kernel) (pa_cons (pv 1) pa_nil)) (nomark _))))) (pss_one (ps_ret pe_bl)) pss_nil)
    (pss_cons (ps_set (i := 5) sc_lright.nd rfl (Or.inl rfl) (callA F__law_blocks (hr.mono (by decide)) rfl (pa_cons (pv 1) (pa_cons (pv 2) pa_nil))))
    (pss_cons (ps_if (PW.pt (pw_or (pt_cmpR (op_neD (hu64 hr)) (pe_lc (own := [("_law_block", 6)]) (g := gName 6) (tt := tYes) rfl sc_lright.nd (pi_tup (meth0A M_blocks OT.cl (hr.mono (by decide)) (pv 3))) (blkOk_by (N := ["_law_dice_here", "_law_upper", "_law_lower", "_law_order", "_law_name", "_law_blocks_here", "_law_block", "_law_pairs", "_law_seconds", "_law_one", "_law_other", "_law_left", "_law_row", "_law_others", "_law_fresh", "_law_told", "_law_value"]) (sc := defScope s_lright) (by decide +kernel)) (fun _ _ _ _ _ => pg_name (i := 6) sc_lright.nd rfl (Or.inl rfl)) (fun _ _ _ _ _ => pts_nil) (fun _ _ _ _ _ => (pe_tup (pa_cons (propA P_above OT.cl (hr.mono (by decide)) (pv 6)) (pa_cons (propA P_below OT.cl (hr.mono (by decide)) (pv 6)) pa_nil))))) (pv 5) (nomark _)) (pw_or1 (pt_cmpR op_ne (pe_callB (lenA S_len (hr.mono (by decide))) (by rfl) T.b_len (by decide +kernel) (pa_cons (pv 3) pa_nil)) (pe_callB call_len_seq (by rfl) T.b_len (by decide +kernel) (pa_cons (pv 1) pa_nil)) (nomark _))))) (pss_one (ps_ret pe_bl)) pss_nil)
    (pss_cons (ps_if (PW.pt (pw_or (pt_cmpR op_ne (propA P_is_whole OT.cl (hr.mono (by decide)) (pv 3)) (pe_and (pe_cmpR op_eq (pe_callB call_len_seq (by rfl) T.b_len (by decide +kernel) (pa_cons (pv 5) pa_nil)) pe_int (nomark _)) (pe_one (pe_cmpR op_gt (pe_callB call_len_seq (by rfl) T.b_len (by decide +kernel) (pa_cons (pv 1) pa_nil)) pe_int (nomark _)))) (nomark _)) (pw_or1 (pt_cmpR (op_neD (hu64 hr)) (pe_callTy (call_listOwnT (n := 4) rfl (by decide) (by decide) I_order S_len (hr.mono (by decide))) (by rfl) T.b_list (by decide +kernel) (pa_cons (pv 3) pa_nil)) (pv 1) (nomark _))))) (pss_one (ps_ret pe_bl)) pss_nil)
    (pss_cons (ps_set (i := 7) sc_lright.nd rfl (Or.inl rfl) (callA F__law_needless (hr.mono (by decide)) rfl (pa_cons (pv 1) (pa_cons (pv 2) pa_nil))))
    (pss_cons (ps_set (i := 8) sc_lright.nd rfl (Or.inr rfl) (pe_lc (own := [("_law_one", 9), ("_law_other", 10)]) (g := gTup K 2 (gCons (gName 9) (gCons (gName 10) gNil))) (tt := tYes) rfl sc_lright.nd (pi_list (pv 7)) (blkOk_by (N := ["_law_dice_here", "_law_upper", "_law_lower", "_law_order", "_law_name", "_law_blocks_here", "_law_block", "_law_pairs", "_law_seconds", "_law_one", "_law_other", "_law_left", "_law_row", "_law_others", "_law_fresh", "_law_told", "_law_value"]) (sc := defScope s_lright) (by decide +kernel)) (fun _ _ _ _ _ => pg_tup rfl (pgs_cons (pg_name (i := 9) sc_lright.nd rfl (Or.inl rfl)) (pgs_cons (pg_name (i := 10) sc_lright.nd rfl (Or.inl rfl)) pgs_nil))) (fun _ _ _ _ _ => pts_nil) (fun _ _ _ _ _ => (pv 10))))
    (pss_cons (ps_if (PW.pt (pw_or (pt_cmpR (op_neD (hu64 hr)) (propA P_needless OT.cl (hr.mono (by decide)) (pv 3)) (pe_callTy call_tuple_of (by rfl) T.b_tuple (by decide +kernel) (pa_cons (pv 7) pa_nil)) (nomark _)) (pw_or (pt_not (pt_val (pe_callB call_isi (by rfl) T.b_isinstance (by decide +kernel) (pa_cons (propA P_is_whole OT.cl (hr.mono (by decide)) (pv 3)) (pa_cons (pe_bltn (v := .ty "bool") (by rfl) T.b_bool (by decide +kernel) rfl) pa_nil))))) (pw_or1 (pt_not (pt_val (pe_callB call_isi (by rfl) T.b_isinstance (by decide +kernel) (pa_cons (meth0A M_blocks OT.cl (hr.mono (by decide)) (pv 3)) (pa_cons (pe_bltn (v := .ty "tuple") (by rfl) T.b_tuple (by decide +kernel) rfl) pa_nil))))))))) (pss_one (ps_ret pe_bl)) pss_nil)
    (pss_cons (ps_setLc (i := 11) (own := [("_law_row", 12)]) (g := gName 12) (tt := tYes) rfl sc_lright.nd rfl rfl (sw_true rfl rfl rfl (by decide +kernel)) (pi_tup (pe_tup (pa_cons (pv 1) (pa_cons (pv 2) pa_nil)))) (blkOk_by (N := ["_law_dice_here", "_law_upper", "_law_lower", "_law_order", "_law_name", "_law_blocks_here", "_law_block", "_law_pairs", "_law_seconds", "_law_one", "_law_other", "_law_left", "_law_row", "_law_others", "_law_fresh", "_law_told", "_law_value"]) (sc := defScope s_lright) (by decide +kernel)) (fun _ _ _ _ _ => pg_name (i := 12) sc_lright.nd rfl (Or.inl rfl)) (fun _ _ _ _ _ => pts_nil) (fun _ _ _ _ _ => (show PE _ _ (tLc (iList K (tVar 12)) (gName 4) (tTest (tOp (rIn K true) (tVar 4) (tVar 8))) (tVar 4) [4]) from pe_lc (own := [("_law_name", 4)]) (g := gName 4) (tt := tTest (tOp (rIn K true) (tVar 4) (tVar 8))) rfl sc_lright.nd (pi_list (pv 12)) (by exact blkOk_by (N := ["_law_dice_here", "_law_upper", "_law_lower", "_law_order", "_law_name", "_law_blocks_here", "_law_block", "_law_pairs", "_law_seconds", "_law_one", "_law_other", "_law_left", "_law_row", "_law_others", "_law_fresh", "_law_told", "_law_value"]) (sc := sc_left) (by decide +kernel)) (fun _ _ _ _ _ => pg_name (i := 4) sc_lright.nd rfl (Or.inl rfl)) (fun _ _ _ _ _ => pts_one (pt_cmpR (show OpR _ _ (rIn K true) from op_notIn_seq) (pv 4) (pv 8) rfl)) (fun _ _ _ _ _ => (pv 4)))))
    (pss_cons (ps_if (PW.pt (pw_or (pt_not (pt_val (callA F__law_has (hr.mono (by decide)) rfl (pa_cons (meth0A M_joined OT.cl (hr.mono (by decide)) (pv 3)) (pa_cons (pe_ix ix_list (pv 11) pe_int (fun _ _ => rfl)) (pa_cons (pe_ix ix_list (pv 11) pe_int (fun _ _ => rfl)) pa_nil)))))) (pw_or1 (pt_cmpR (op_neD (hu64 hr)) (propA P_needless OT.cl (hr.mono (by decide)) (meth0A M_joined OT.cl (hr.mono (by decide)) (pv 3))) (pe_tup pa_nil) (nomark _))))) (pss_one (ps_ret pe_bl)) pss_nil)
    (pss_cons (ps_if (PW.pt (pw_or (pt_not (pt_val (callA F__law_has (hr.mono (by decide)) rfl (pa_cons (meth0A M_inverse OT.cl (hr.mono (by decide)) (pv 3)) (pa_cons (pv 2) (pa_cons (pv 1) pa_nil)))))) (pw_or1 (pt_not (pt_val (callA F__law_has (hr.mono (by decide)) rfl (pa_cons (meth0A M_backwards OT.cl (hr.mono (by decide)) (pv 3)) (pa_cons (pe_revL (pv 1)) (pa_cons (pe_revL (pv 2)) pa_nil))))))))) (pss_one (ps_ret pe_bl)) pss_nil)
    (pss_cons (ps_for PassesOwn.never rfl (pi_list (pv 1)) (pg_name (i := 9) sc_lright.nd rfl (Or.inr rfl))
      (pss_one (ps_if (pt_cmpR (op_neD (hu64 hr)) (pe_lc (own := [("_law_other", 10)]) (g := gName 10) (tt := tYes) rfl sc_lright.nd (pi_list (pv 1)) (blkOk_by (N := ["_law_dice_here", "_law_upper", "_law_lower", "_law_order", "_law_name", "_law_blocks_here", "_law_block", "_law_pairs", "_law_seconds", "_law_one", "_law_other", "_law_left", "_law_row", "_law_others", "_law_fresh", "_law_told", "_law_value"]) (sc := defScope s_lright) (by decide +kernel)) (fun _ _ _ _ _ => pg_name (i := 10) sc_lright.nd rfl (Or.inl rfl)) (fun _ _ _ _ _ => pts_nil) (fun _ _ _ _ _ => ((show PE _ _ (tMeth C "form" (spOForm K C) [] E0 _ _) from methA M_form OT.cl (hr.mono (by decide)) (pv 3) (pa_cons (pv 9) (pa_cons (pv 10) pa_nil)))))) (pe_lc (own := [("_law_other", 10)]) (g := gName 10) (tt := tYes) rfl sc_lright.nd (pi_list (pv 1)) (blkOk_by (N := ["_law_dice_here", "_law_upper", "_law_lower", "_law_order", "_law_name", "_law_blocks_here", "_law_block", "_law_pairs", "_law_seconds", "_law_one", "_law_other", "_law_left", "_law_row", "_law_others", "_law_fresh", "_law_told", "_law_value"]) (sc := defScope s_lright) (by decide +kernel)) (fun _ _ _ _ _ => pg_name (i := 10) sc_lright.nd rfl (Or.inl rfl)) (fun _ _ _ _ _ => pts_nil) (fun _ _ _ _ _ => (callA F__law_form (hr.mono (by decide)) rfl (pa_cons (pv 1) (pa_cons (pv 2) (pa_cons (pv 9) (pa_cons (pv 10) pa_nil))))))) (nomark _)) (pss_one (ps_ret pe_bl)) pss_nil)))
    (pss_cons (ps_set (i := 13) sc_lright.nd rfl (Or.inr rfl) (callA F__law_mixed (hr.mono (by decide)) rfl (pa_cons (pv 0) (pa_cons (pe_op op_cat (pe_slice sl_list (pv 1) (po_some pe_int) po_none) (pe_lst (pa_cons pe_str pa_nil))) pa_nil))))
    (pss_cons (ps_set (i := 14) sc_lright.nd rfl (Or.inl rfl) (methA M_renamed OT.cl (hr.mono (by decide)) (pv 3) (pa_cons (pe_dictZip rfl (by rfl) T.b_dict (by rfl) T.b_zip (pa_cons (pv 1) (pa_cons (pv 13) pa_nil))) pa_nil)))
    (pss_cons (ps_if (PW.pt (pw_or (pt_not (pt_val (callA F__law_has (hr.mono (by decide)) rfl (pa_cons (pv 14) (pa_cons (pv 13) (pa_cons (pe_lc (own := [("_law_name", 4)]) (g := gName 4) (tt := tYes) rfl sc_lright.nd (pi_list (pv 2)) (blkOk_by (N := ["_law_dice_here", "_law_upper", "_law_lower", "_law_order", "_law_name", "_law_blocks_here", "_law_block", "_law_pairs", "_law_seconds", "_law_one", "_law_other", "_law_left", "_law_row", "_law_others", "_law_fresh", "_law_told", "_law_value"]) (sc := defScope s_lright) (by decide +kernel)) (fun _ _ _ _ _ => pg_name (i := 4) sc_lright.nd rfl (Or.inl rfl)) (fun _ _ _ _ _ => pts_nil) (fun _ _ _ _ _ => (pe_ix (show IxR _ (rIxL K) from ix_list) (pv 13) ((show PE _ _ (tBM K "list" (rIndex K) _ _) from pe_bm PySem.F.plainAttrs_list PySem.F.slot_list_index PySem.F.type_list_index mt_index (pv 1) (pa_cons (pv 4) pa_nil))) (fun _ _ => rfl)))) pa_nil)))))) (pw_or1 (pt_cmpR (op_neD (hu64 hr)) (propA P_places OT.cl (hr.mono (by decide)) (pv 14)) (propA P_places OT.cl (hr.mono (by decide)) (pv 3)) (nomark _))))) (pss_one (ps_ret pe_bl)) pss_nil)
    (pss_cons (ps_setLc (i := 15) (own := [("_law_value", 16)]) (g := gName 16) (tt := tYes) rfl sc_lright.nd rfl rfl (sw_true rfl rfl rfl (by decide +kernel)) (pi_tup (pe_tup (pa_cons (pe_ix ix_list (pv 1) pe_int (fun _ _ => rfl)) (pa_cons pe_str (pa_cons pe_non (pa_cons pe_int (pa_cons (pe_tup (pa_cons (pe_ix ix_list (pv 1) pe_int (fun _ _ => rfl)) pa_nil)) (pa_cons (pe_lst pa_nil) (pa_cons pe_dnewK pa_nil))))))))) (blkOk_by (N := ["_law_dice_here", "_law_upper", "_law_lower", "_law_order", "_law_name", "_law_blocks_here", "_law_block", "_law_pairs", "_law_seconds", "_law_one", "_law_other", "_law_left", "_law_row", "_law_others", "_law_fresh", "_law_told", "_law_value"]) (sc := defScope s_lright) (by decide +kernel)) (fun _ _ _ _ _ => pg_name (i := 16) sc_lright.nd rfl (Or.inl rfl)) (fun _ _ _ _ _ => pts_nil) (fun _ _ _ _ _ => (pe_cmpR (show OpR _ _ (rInOwn C (spOCont K C) E0 id) from inA S_cont (hr.mono (by decide))) (pv 16) (pv 3) rfl)))
    (pss_one (ps_ret (pe_and (pe_cmpR (op_eqD (hu64 hr)) (pv 15) (pe_op op_cat (pe_lst (pa_cons pe_bl pa_nil)) (pe_op op_rep (pe_lst (pa_cons pe_bl pa_nil)) pe_int)) (nomark _)) (pe_one (pe_cmpR op_eq (pe_cmpR (eqA S_eq (hr.mono (by decide))) (pv 14) (pv 3) (nomark _)) (pe_cmpR (op_eqD (hu64 hr)) (propA P_above OT.cl (hr.mono (by decide)) (pv 14)) (propA P_above OT.cl (hr.mono (by decide)) (pv 3)) (nomark _)) (nomark _))))))))))))))))))))))))), ?_⟩
  refine ⟨_, rfl, a, 8, rfl, ha, by decide, by decide, fun t U L H1 zs ys e1 ht hU hL ro l8 ten => ?_⟩
  refine ⟨t, _, rfl, SqT.of ht, rfl, _, _, rfl, _, _, rfl, rfl, ?_⟩
  have nm := ro.nm
  have nm2 := ro.symm.nm
  have nz : zs ≠ [] := fun z => by have := ro.ne; rw [z] at this; simp at this
  have ny : ys ≠ [] := fun z => by have := ro.symm.ne; rw [z] at this; simp at this
  have ly := ro.len
  have nn : ("none" : Str) ∉ zs := fun m => absurd (ten _ m) (by decide +kernel)
  refine ⟨_, rfl, U, _, rfl, .inl ⟨SqL.of hU, newT_use (K := K) fun A1 HA eA hA nA => ?_⟩⟩
  refine ⟨_, rfl, L, _, rfl, .inl ⟨SqL.of (eA _ _ hL), newT_use (K := K) fun B1 HB eB hB nB => ?_⟩⟩
  dsimp only [tNil]
  refine mk_useB (K := K) (C := C) (hA.ext eB) hB ro fun o H2 e2 oab => ?_
  have e12 := (eA.trans eB).trans e2
  have hU2 := e12 _ _ hU
  have hL2 := e12 _ _ hL
  have nA2 := (nA.ext eB).ext e2
  have nB2 := nB.ext e2
  have ha2 := e12 _ _ (e1 _ _ ha)
  have eH2 := e1.trans e12
  obtain ⟨dx, c0, ho⟩ : ∃ dx c0, H2 o = some (.ins C dx (ofs A1 B1 c0)) := let ⟨dx, c, q, _⟩ := oab; ⟨dx, c, q⟩
  clear eA eB e2 hA hB nA nB
  -- has, read
  refine ⟨_, rfl, _, rfl, _, rfl, o, U, L, zs, ys, rfl, oab.at, SqL.of hU2, SqL.of hL2, nn, by omega, fun H3 e3 => ⟨_, rfl, iteF ?_⟩⟩
  refine ⟨_, rfl, rfl, ⟨_, rfl⟩, _, rfl, " ", U, zs, rfl, rfl, .inl (SqL.of (e3 _ _ hU2)), by have := nm_sum nm; rw [show (" " : Str).length = 1 from by decide +kernel]; omega, ?_⟩
  have s1 : (" " : Str).length = 1 := by decide +kernel
  have jz : (zs.map (·.length)).sum + zs.length * (" " : Str).length ≤ 16777216 := by have := nm_sum nm; rw [s1]; omega
  have jy : (ys.map (·.length)).sum + ys.length * (" " : Str).length ≤ 16777216 := by have := nm_sum nm2; rw [s1]; omega
  have kz := join_len nm
  have ky := join_len nm2
  refine ⟨⟨_, rfl⟩, _, rfl, " ", L, ys, rfl, rfl, .inl (SqL.of (e3 _ _ hL2)), jy, ?_⟩
  refine ⟨_, _, rfl, by omega, by omega, by rw [split_nm nm nz, split_nm nm2 ny]; exact ro, fun o3 H4 e4 oa3 => ?_⟩
  rw [split_nm nm nz, split_nm nm2 ny] at oa3
  obtain ⟨dx3, a3, b3, c3, ho3, _⟩ := id oa3
  have e24 := e3.trans e4
  refine ⟨o, dx, _, o3, dx3, _, rfl, e24 _ _ ho, rfl, ho3, o, .ref o3, zs, ys, rfl, oab.at.ext e24, .inl ⟨o3, zs, ys, rfl, oa3, _, rfl, ?_⟩⟩
  rw [decide_eq_true rfl, decide_eq_true rfl]
  refine ⟨_, rfl, iteF ?_⟩
  clear ho3 oa3 e3
  -- str, names
  have big : (1000000 : Nat) < sizeLine := by rw [sizeLine_eq]; decide
  have s3 : (" / " : Str).length = 3 := by decide +kernel
  refine ⟨_, rfl, o, dx, _, rfl, e24 _ _ ho, o, zs, ys, rfl, oab.at.ext e24, _, rfl, ?_⟩
  refine ⟨⟨_, rfl⟩, _, rfl, " ", U, zs, rfl, rfl, .inl (SqL.of (e24 _ _ hU2)), jz, _, _, rfl, rfl, by rw [s3]; omega, ?_⟩
  refine ⟨⟨_, rfl⟩, _, rfl, " ", L, ys, rfl, rfl, .inl (SqL.of (e24 _ _ hL2)), jy, _, _, rfl, rfl, by rw [Str.length_append, s3]; omega, rfl, _, rfl, ?_⟩
  have same : ∀ x : V, (!decide (x = x)) = false := fun x => by
    rw [decide_eq_true rfl]
    rfl
  rw [otext_eq nz ny, same]
  refine iteF ?_
  refine ⟨_, rfl, o, dx, _, rfl, e24 _ _ ho, o, zs, ys, rfl, oab.at.ext e24, fun ns p H5 so e5 hp => ?_⟩
  refine ⟨_, rfl, U, zs, rfl, .inl (SqL.of (e5 _ _ (e24 _ _ hU2))), by omega, fun ns2 p2 pm2 so2 hp2 => ⟨p2, _, rfl, .inl ⟨SqL.of upd_same, fun q hq => ?_⟩⟩⟩
  obtain rfl : ns2 = ns := sorted_one (pm2.trans so.pm.symm) so2 so.so
  have x6 := ext_new (o := HO.lst (ns2.map V.str)) (ext_refl H5) hp2
  have x7 := ext_new (o := HO.tup (ns2.map V.str)) (ext_refl _) hq
  have pns : pl 2 (.tuple (ns2.map .str)) = true := pl_strs (n := 1) fun z hz => nm_ok (nm z (so.pm.mem_iff.mp hz))
  refine neD_use (d := .tuple (ns2.map .str)) (e := .tuple (ns2.map .str)) 2 (by decide) (.tup (hp.ext (x6.trans x7)) (dp_strs _)) (.tup (SqT.of upd_same) (dp_strs _)) pns pns fun bb hbb => ?_
  obtain rfl : bb = true := hbb.mpr rfl
  have e25 := ((e24.trans e5).trans x6).trans x7
  generalize upd _ q _ = H6 at e25
  clear x6 x7 e24 e4 hq hp2
  refine ⟨_, rfl, iteF ?_⟩
  -- places, many
  refine ⟨_, rfl, o, dx, _, rfl, e25 _ _ ho, o, zs, ys, rfl, oab.at.ext e25, fun A5 hA5 => ?_⟩
  refine ⟨_, rfl, U, rfl, ⟨_, SqL.of (e25 _ _ hU2)⟩, fun D5 hD5 => map_list (xs := zs.map V.str) (fun _ v => .int ((pos ys (sOf v) : Nat) : Int)) (SqL.of (e25 _ _ hU2)) hD5 (by rw [List.length_map]; omega) (fun _ => rfl) (fun i v H' hi e' Q' k' => ?_) fun H7 e7 hl => ?_⟩
  · rw [List.getElem?_map] at hi
    obtain ⟨z, hz, rfl⟩ := Option.map_eq_some_iff.mp hi
    refine ⟨_, rfl, .inl ⟨rfl, _, SqL.of (e' _ _ (e25 _ _ hL2))⟩, _, rfl, ?_⟩
    dsimp only [tNil]
    refine idx_use (SqL.of (e' _ _ (e25 _ _ hL2))) (ro.pm.mem_iff.mpr (List.mem_of_getElem? hz)) ?_
    exact k' H' (ext_refl _)
  rw [plc_eq] at hl
  refine ⟨D5, _, rfl, .inl ⟨SqL.of hl, fun q hq => ?_⟩⟩
  have x8 := ext_new (o := HO.tup ((plc zs ys).map V.int)) (ext_refl H7) hq
  have pin : pl 2 (.tuple ((plc zs ys).map .int)) = true := pl_ints 1 _
  refine neD_use (d := .tuple ((plc zs ys).map .int)) (e := .tuple ((plc zs ys).map .int)) 2 (by decide) (.tup (hA5.ext (e7.trans x8)) (dp_ints _)) (.tup (SqT.of upd_same) (dp_ints _)) pin pin fun bb hbb => ?_
  obtain rfl : bb = true := hbb.mpr rfl
  have e28 := (e25.trans e7).trans x8
  generalize upd _ q _ = H8 at e28
  clear x8 e7 hl hA5 hq e25
  refine ⟨_, rfl, iteF ?_⟩
  refine ⟨_, rfl, o, dx, _, rfl, e28 _ _ ho, o, zs, ys, rfl, oab.at.ext e28, _, rfl, U, _, rfl, .inl (SqL.of (e28 _ _ hU2)), rfl, _, rfl, ?_⟩
  rw [List.length_map, same]
  refine iteF ?_
  -- blocks, len
  refine ⟨_, rfl, _, rfl, U, L, zs, ys, rfl, SqL.of (e28 _ _ hU2), SqL.of (e28 _ _ hL2), ro, fun D6 acc6 H9 e9 hD6 rw6 => ?_⟩
  have e29 := e28.trans e9
  refine ⟨_, rfl, o, dx, _, rfl, e29 _ _ ho, rfl, o, zs, ys, rfl, oab.at.ext e29, fun p7 acc7 H10 e10 hp7 hl7 ol7 => ?_⟩
  refine ⟨p7, rfl, ⟨_, hp7⟩, fun D7 hD7 => made_tup (fun acc H' => RwL K H' acc ((blks zs ys).take acc.length)) (fun acc Ha Hb p hl kk => let ⟨l, hl'⟩ := hl; p.keep hl' kk) hp7 hD7 (by rw [hl7]; unfold blks; rw [List.length_map, List.length_zip]; have := cutsN_len zs ys zs.length 0; unfold cuts; omega) (fun _ => rfl) (fun H' => ⟨rfl, fun i v hi => by simp at hi⟩) (fun i x H' acc hx e' hl pv Q' k' => ?_) fun H11 acc8 e11 hD' hl8 pv8 => ?_⟩
  · obtain ⟨q8, r8, rfl, hr8, oa8⟩ := ol7.2 i x hx
    have oa8' := oa8.ext e'
    obtain ⟨dx8, a8, b8, c8, ho8, _⟩ := id oa8'
    refine ⟨_, rfl, q8, dx8, _, rfl, ho8, q8, r8.1, r8.2, rfl, oa8', fun A8 hA8 => ?_⟩
    refine ⟨_, rfl, q8, dx8, _, rfl, ho8, q8, r8.1, r8.2, rfl, oa8', fun B8 hB8 => ⟨len_ok (Nat.le_of_ble_eq_true rfl), fun t8 ht8 => ?_⟩⟩
    have x12 := ext_new (o := HO.tup [V.ref A8, V.ref B8]) (ext_refl H') ht8
    refine k' (.ref t8) _ x12 ?_
    rw [List.length_append, hl]
    show RwL K _ _ ((blks zs ys).take (i + 1))
    have et : (blks zs ys).take (i + 1) = (blks zs ys).take i ++ [r8] := by rw [List.take_succ, hr8]; rfl
    rw [et]
    rw [hl] at pv
    exact (pv.ext x12).snoc (SqT.of upd_same) (hA8.ext x12) (hB8.ext x12)
  rw [hl8, hl7, List.take_length] at pv8
  have e11' := e10.trans e11
  have okb : pl 4 (.list ((blks zs ys).map rwD)) = true := by
    show ((blks zs ys).map rwD).all (pl 3) = true
    rw [List.all_map]
    refine List.all_eq_true.mpr fun r hr => ?_
    unfold blks at hr
    obtain ⟨c, _, rfl⟩ := List.mem_map.mp hr
    exact pl_rwD (fun z hz => nm_ok (nm z (List.mem_of_mem_take (List.mem_of_mem_drop hz)))) fun z hz => nm_ok (nm2 z (List.mem_of_mem_take (List.mem_of_mem_drop hz)))
  refine ⟨_, rfl, neD_use (d := .list ((blks zs ys).map rwD)) (e := .list ((blks zs ys).map rwD)) 4 (by decide) (.lst (SqL.of hD') (RwL.dp pv8)) (.lst (SqL.of (e11' _ _ hD6)) (RwL.dp (rw6.ext e11'))) okb okb fun bb hbb => ?_⟩
  obtain rfl : bb = true := hbb.mpr rfl
  have hD6' := e11' _ _ hD6
  have l6 := rw6.1
  have e211 := e29.trans e11'
  clear pv8 e11' ol7 hp7 hl7 e10 e11 hD' hl8 rw6 e9 hD6 e29 e28
  refine ⟨_, rfl, iteF ?_⟩
  refine ⟨_, rfl, o, dx, _, rfl, e211 _ _ ho, o, zs, ys, rfl, oab.at.ext e211, zs.length, rfl, by omega, _, rfl, U, _, rfl, .inl (SqL.of (e211 _ _ hU2)), rfl, _, rfl, ?_⟩
  rw [List.length_map, same]
  refine iteF ?_
  -- is_whole, list
  refine ⟨_, rfl, o, dx, _, rfl, e211 _ _ ho, o, zs, ys, rfl, oab.at.ext e211, fun H12 e12' => ?_⟩
  have e212 := e211.trans e12'
  refine ⟨_, rfl, D6, acc6, rfl, .inl (SqL.of (e12' _ _ hD6')), rfl, _, rfl, ?_⟩
  refine and_read (decide ((1 : Int) < (zs.length : Nat))) (fun _ R hR => ⟨_, rfl, U, _, rfl, .inl (SqL.of (e212 _ _ hU2)), _, _, rfl, rfl, by rw [List.length_map]; exact hR⟩) ?_
  have lb6 : (blks zs ys).length = (cuts zs ys).length := by
    unfold blks
    rw [List.length_map, List.length_zip, List.length_cons]
    omega
  have ew : (decide (V.int ((acc6.length : Nat) : Int) = V.int 1) && decide ((1 : Int) < (zs.length : Nat))) = wholeB zs ys := by
    unfold wholeB
    rw [bend_eq ro, List.length_map, ← lb6, ← l6, dec_int, Bool.and_comm]
    congr 1
    · rw [Bool.eq_iff_iff, decide_eq_true_iff, decide_eq_true_iff]
      omega
    · rw [Bool.eq_iff_iff, beq_iff_eq, decide_eq_true_iff]
      omega
  rw [ew]
  refine ⟨rfl, _, rfl, ?_⟩
  rw [same]
  refine iteF ?_
  refine ⟨_, rfl, o, dx, _, zs.map V.str, rfl, e212 _ _ ho, by rw [List.length_map]; omega, fun q hq => ⟨fun n => ?_, ?_⟩⟩
  · have x1 := ext_new (o := HO.lst []) (ext_refl H12) hq
    refine ⟨o, zs, ys, rfl, (oab.at.ext e212).ext x1, fun it l h1 h2 h3 => ⟨it, l, rfl, h2, h1, rfl, sqT_down h3, ?_⟩⟩
    have x2 := ext_new (o := ItTO l it) (ext_refl _) h1
    exact ⟨o, zs, ys, rfl, ((oab.at.ext e212).ext x1).ext x2, zs.length, rfl, by omega, rfl⟩
  have x13 := ext_new (o := HO.lst (zs.map V.str)) (ext_refl H12) hq
  have pzl : pl 2 (.list (zs.map .str)) = true := pl_strs (n := 1) fun z hz => nm_ok (nm z hz)
  refine ⟨_, rfl, neD_use (d := .list (zs.map .str)) (e := .list (zs.map .str)) 2 (by decide) (.lst (SqL.of upd_same) (dp_strs _)) (.lst (SqL.of (x13 _ _ (e212 _ _ hU2))) (dp_strs _)) pzl pzl fun bb hbb => ?_⟩
  obtain rfl : bb = true := hbb.mpr rfl
  have e213 := e212.trans x13
  generalize upd _ q _ = H13 at e213
  clear x13 hq e212 e12' e211 hD6'
  refine ⟨_, rfl, iteF ?_⟩
  -- needless
  refine ⟨_, rfl, _, rfl, U, L, zs, ys, rfl, SqL.of (e213 _ _ hU2), SqL.of (e213 _ _ hL2), ro, fun D13 acc13 H14 e14 hD13 pr13 => ?_⟩
  have e214 := e213.trans e14
  have ln13 := ndN_len zs (plc zs ys) (zs.length - 1)
  have l13 : acc13.length ≤ 40 := by rw [pr13.1]; unfold ndl; omega
  refine ⟨_, rfl, D13, rfl, ⟨_, SqL.of hD13⟩, fun D14 hD14 => lc_it (walk_list (xs := acc13)) (fun i H' => Ext H14 H' ∧ H' D14 = some (.lst (((drp zs ys).take i).map V.str))) ⟨ext_new (ext_refl H14) hD14, by rw [List.take_zero]; exact upd_same⟩ (fun i H' _ p => SqL.of (p.1 _ _ hD13)) (fun i x H3 H' hi p y => ?_) fun H' p => ?_⟩
  · obtain ⟨rfl, hx⟩ := y
    obtain ⟨p1, p2⟩ := p
    obtain ⟨q, u, rfl, hu, hq⟩ := (pr13.ext p1).2 i x hx
    refine ⟨q, _, rfl, SqT.of hq, rfl, _, _, rfl, _, _, rfl, rfl, rfl, ?_⟩
    unfold tYes
    dsimp only
    rw [if_pos rfl]
    have hu2 : (drp zs ys)[i]? = some u.2 := by
      unfold drp
      rw [List.getElem?_map, hu]
      rfl
    refine ⟨_, rfl, _, p2, ?_, ext_mut p1 hD14, ?_⟩
    · rw [List.length_map, List.length_take]
      exact len_lt (by omega)
    · rw [upd_same, List.take_succ, hu2, List.map_append]
      rfl
  obtain ⟨e15, hD14'⟩ := p
  rw [show acc13.length = (drp zs ys).length from by unfold drp; rw [List.length_map, pr13.1], List.take_length] at hD14'
  have e215 := e214.trans e15
  have pr15 := pr13.ext e15
  have hD15 := e15 _ _ hD13
  clear pr13 e15 hD13 e14
  rename_i H15
  have pnd : ∀ (us : List Str) (vs' : List Str), (∀ z ∈ us, PyData.strOk z = true) → pl 3 (.tuple ((ndl us vs').map prD)) = true := fun us vs' h => by
    show ((ndl us vs').map prD).all (pl 2) = true
    rw [List.all_map]
    refine List.all_eq_true.mpr fun p hp => ?_
    obtain ⟨j, hj, rfl⟩ := mem_ndN _ _ _ _ hp
    have g : ∀ j, j < us.length → PyData.strOk (us.getD j Str.empty) = true := fun j hj => by
      rw [List.getD_eq_getElem?_getD, List.getElem?_eq_getElem hj]
      exact h _ (List.getElem_mem _)
    have g1 := g j (by omega)
    have g2 := g (j + 1) (by omega)
    show (PyData.strOk (us.getD j Str.empty) && (PyData.strOk (us.getD (j + 1) Str.empty) && true)) = true
    rw [g1, g2]
    rfl
  refine ⟨_, rfl, o, dx, _, rfl, e215 _ _ ho, o, zs, ys, rfl, oab.at.ext e215, fun p16 acc16 H16 e16 hp16 pr16 => ?_⟩
  refine ⟨_, rfl, D13, _, rfl, .inl ⟨SqL.of (e16 _ _ hD15), fun q hq => ?_⟩⟩
  have x17 := ext_new (o := HO.tup acc13) (ext_refl H16) hq
  refine neD_use (d := .tuple ((ndl zs ys).map prD)) (e := .tuple ((ndl zs ys).map prD)) 3 (by decide) (.tup (hp16.ext x17) (PrL.dp (pr16.ext x17))) (.tup (SqT.of upd_same) (PrL.dp ((pr15.ext e16).ext x17))) (pnd _ _ fun z hz => nm_ok (nm z hz)) (pnd _ _ fun z hz => nm_ok (nm z hz)) fun bb hbb => ?_
  obtain rfl : bb = true := hbb.mpr rfl
  have e217 := (e215.trans e16).trans x17
  have hD17 := x17 _ _ (e16 _ _ hD14')
  generalize upd _ q _ = H17 at e217 hD17
  clear x17 pr16 hp16 e16 pr15 hD15 e215 hD14' e214 e213 hq
  refine ⟨_, rfl, iteF ?_⟩
  refine ⟨_, rfl, o, dx, _, rfl, e217 _ _ ho, o, zs, ys, rfl, oab.at.ext e217, fun H18 e18 => ⟨_, _, _, _, true, rfl, .ty _, .base (.bl _), kit_bb, _, rfl, iteF ?_⟩⟩
  have e218 := e217.trans e18
  refine ⟨_, rfl, o, dx, _, rfl, e218 _ _ ho, rfl, o, zs, ys, rfl, oab.at.ext e218, fun p19 acc19 H19 e19 hp19 _ _ => ⟨_, _, _, _, true, rfl, .ty _, tyT hp19, kit_tt, _, rfl, iteF ?_⟩⟩
  have e219 := e218.trans e19
  have hD19 := e19 _ _ (e18 _ _ hD17)
  clear e18 e19 e217 e218 hD17 hp19
  -- joined
  let F : Nat → List Str := fun i => if i = 0 then zs else ys
  let R : Nat → Addr := fun i => if i = 0 then U else L
  have flat : ((drp zs ys).map V.str).all flatV = true := by
    rw [List.all_map]
    exact List.all_eq_true.mpr fun _ _ => rfl
  refine ⟨_, rfl, _, rfl, len_ok (Nat.le_of_ble_eq_true rfl), fun t20 ht20 => ?_⟩
  have x20 := ext_new (o := HO.tup [V.ref U, V.ref L]) (ext_refl H19) ht20
  have e220 := e219.trans x20
  have hD20 := x20 _ _ hD19
  have ht20' : SqT K (upd H19 t20 (.tup [V.ref U, V.ref L])) t20 [V.ref U, V.ref L] := SqT.of upd_same
  generalize upd H19 t20 (.tup [V.ref U, V.ref L]) = H20 at e220 hD20 ht20' ⊢
  refine ⟨t20, rfl, ⟨_, ht20'⟩, fun D21 hD21 => lc_it (walk_tup (xs := [V.ref U, V.ref L])) (fun i H' => Ext H20 H' ∧ ∃ acc : List V, H' D21 = some (.lst acc) ∧ acc.length = i ∧ ∀ j v, acc[j]? = some v → ∃ q, v = .ref q ∧ q ≠ D21 ∧ H' q = some (.lst ((jnd zs ys (F j)).map V.str)))
    ⟨ext_new (ext_refl H20) hD21, [], upd_same, rfl, fun j v h => by simp at h⟩ (fun i H' _ p => ht20'.ext p.1) (fun i x H3 H' hi p y => ?_) fun H' p => ?_⟩
  · obtain ⟨rfl, hx⟩ := y
    obtain ⟨p1, acc, p2, p3, p4⟩ := p
    obtain ⟨rfl, hR, hF⟩ : x = .ref (R i) ∧ H' (R i) = some (.lst ((F i).map V.str)) ∧ (F i).length ≤ 40 := by
      match i, hi, hx with
      | 0, _, hx => cases hx; exact ⟨rfl, p1 _ _ (e220 _ _ hU2), by show zs.length ≤ 40; omega⟩
      | 1, _, hx => cases hx; exact ⟨rfl, p1 _ _ (e220 _ _ hL2), by show ys.length ≤ 40; omega⟩
    refine ⟨rfl, ?_⟩
    unfold tYes
    dsimp only
    rw [if_pos rfl]
    refine ⟨_, rfl, R i, rfl, ⟨_, SqL.of hR⟩, fun D22 hD22 => filt_list (xs := (F i).map V.str) (fun v => !decide (sOf v ∈ drp zs ys)) (SqL.of hR) hD22 (by rw [List.length_map]; omega) (fun _ => rfl) (fun j v H4 hj e4 Q' k' => ?_) (fun v H4 Q' q => ⟨_, rfl, q⟩) fun H5 e5 hl5 => ?_⟩
    · rw [List.getElem?_map] at hj
      obtain ⟨z, hz, rfl⟩ := Option.map_eq_some_iff.mp hj
      refine ⟨_, rfl, _, rfl, D14, _, rfl, .inl (SqL.of (e4 _ _ (p1 _ _ hD20))), rfl, flat, ?_⟩
      rw [if_pos rfl, inV_strs]
      exact ⟨_, rfl, k' H4 (ext_refl _)⟩
    · rw [filt_strs (fun z => !decide (z ∈ drp zs ys))] at hl5
      have p2' := e5 _ _ p2
      have nD : D22 ≠ D21 := fun z => by rw [z, p2] at hD22; cases hD22
      refine ⟨acc, p2', len_lt (by have hi' : i < 2 := hi; omega), ext_mut (p1.trans e5) hD21, acc ++ [.ref D22], upd_same, by rw [List.length_append, p3]; rfl, fun j v hj => ?_⟩
      by_cases c1 : j < acc.length
      · rw [List.getElem?_append_left c1] at hj
        obtain ⟨q, rfl, nq, hq⟩ := p4 j v hj
        exact ⟨q, rfl, nq, by rw [upd_ne nq]; exact e5 _ _ hq⟩
      · rw [List.getElem?_append_right (by omega)] at hj
        have e0' : j - acc.length = 0 := by
          have := (List.getElem?_eq_some_iff.mp hj).1
          simp at this
          omega
        rw [e0'] at hj
        cases hj
        have ej : j = i := by omega
        exact ⟨D22, rfl, nD, by rw [upd_ne nD, ej]; exact hl5⟩
  obtain ⟨e21, acc, hD21', la, pa⟩ := p
  have la' : acc.length = 2 := la
  obtain ⟨q0, h0, _, hq0⟩ := pa 0 acc[0] (List.getElem?_eq_getElem (by omega))
  obtain ⟨q1, h1, _, hq1⟩ := pa 1 acc[1] (List.getElem?_eq_getElem (by omega))
  have ea0 : acc[0]? = some (.ref q0) := by rw [List.getElem?_eq_getElem (by omega), h0]
  have ea1 : acc[1]? = some (.ref q1) := by rw [List.getElem?_eq_getElem (by omega), h1]
  have hq0' : H' q0 = some (.lst ((jnd zs ys zs).map V.str)) := hq0
  have hq1' : H' q1 = some (.lst ((jnd zs ys ys).map V.str)) := hq1
  have e221 := e220.trans e21
  clear hq0 hq1 pa e21 e220 hD20 ht20' x20 hD19 e219
  rename_i H21
  have roj := jnd_rows ro
  refine ⟨_, rfl, o, dx, _, rfl, e221 _ _ ho, rfl, o, zs, ys, rfl, oab.at.ext e221, fun x22 H22 e22 oa22 => ?_⟩
  refine ⟨_, rfl, _, _, _, _, rfl, rfl, SqL.of (e22 _ _ hD21'), atI_nat (j := 0) ea0, _, rfl, _, _, _, _, rfl, rfl, SqL.of (e22 _ _ hD21'), atI_nat (j := 1) ea1, ?_⟩
  refine ⟨x22, q0, q1, jnd zs ys zs, jnd zs ys ys, rfl, oa22, SqL.of (e22 _ _ hq0'), SqL.of (e22 _ _ hq1'), fun m => nn (List.mem_filter.mp m).1, Nat.le_trans (List.length_filter_le _ _) (by omega), fun H23 e23 => ⟨_, rfl, iteF ?_⟩⟩
  have e223 := (e221.trans e22).trans e23
  clear e22 e23 oa22 hq0' hq1' hD21'
  refine ⟨_, rfl, o, dx, _, rfl, e223 _ _ ho, rfl, o, zs, ys, rfl, oab.at.ext e223, fun x24 H24 e24 oa24 => ?_⟩
  obtain ⟨dx24, a24, b24, c24, ho24, _⟩ := id oa24
  refine ⟨x24, dx24, _, rfl, ho24, x24, _, _, rfl, oa24, fun p25 acc25 H25 e25 hp25 pr25 => ?_⟩
  rw [ndl_jnd ro] at pr25
  refine ⟨len_ok (Nat.le_of_ble_eq_true rfl), fun q hq => ?_⟩
  have x26 := ext_new (o := HO.tup []) (ext_refl H25) hq
  refine neD_use (d := .tuple []) (e := .tuple []) 1 (by decide) (.tup (hp25.ext x26) (PrL.dp (pr25.ext x26))) (.tup (SqT.of upd_same) .nil) rfl rfl fun bb hbb => ?_
  obtain rfl : bb = true := hbb.mpr rfl
  have e226 := ((e223.trans e24).trans e25).trans x26
  generalize upd H25 q (.tup []) = H26 at e226
  clear x26 hq pr25 hp25 e25 ho24 oa24 e24 e223 e221
  refine ⟨_, rfl, iteF ?_⟩
  -- inverse, backwards
  have nny : ("none" : Str) ∉ ys := fun m => nn (ro.pm.mem_iff.mp m)
  refine ⟨_, rfl, o, dx, _, rfl, e226 _ _ ho, rfl, o, zs, ys, rfl, oab.at.ext e226, fun x27 H27 e27 oa27 => ?_⟩
  have e227 := e226.trans e27
  refine ⟨_, rfl, _, rfl, x27, L, U, ys, zs, rfl, oa27, SqL.of (e227 _ _ hL2), SqL.of (e227 _ _ hU2), nny, by omega, fun H28 e28 => ⟨_, rfl, iteF ?_⟩⟩
  have e228 := e227.trans e28
  clear oa27 e27 e28 e227 e226
  refine ⟨_, rfl, o, dx, _, rfl, e228 _ _ ho, rfl, o, zs, ys, rfl, oab.at.ext e228, fun x29 H29 e29 oa29 => ?_⟩
  have e229 := e228.trans e29
  refine ⟨_, rfl, U, _, rfl, SqL.of (e229 _ _ hU2), fun p30 hp30 => ?_⟩
  have x30 := ext_new (o := HO.lst (zs.map V.str).reverse) (ext_refl H29) hp30
  refine ⟨_, rfl, L, _, rfl, SqL.of (x30 _ _ (e229 _ _ hL2)), fun p31 hp31 => ?_⟩
  have x31 := ext_new (o := HO.lst (ys.map V.str).reverse) (ext_refl _) hp31
  refine ⟨x29, p30, p31, zs.reverse, ys.reverse, rfl, (oa29.ext x30).ext x31, SqL.of (by rw [List.map_reverse]; exact x31 _ _ upd_same), SqL.of (by rw [List.map_reverse]; exact upd_same), fun m => nn (List.mem_reverse.mp m), by rw [List.length_reverse]; omega, fun H32 e32 => ⟨_, rfl, iteF ?_⟩⟩
  have e232 := ((e229.trans x30).trans x31).trans e32
  clear e32 x31 x30 oa29 e29 e228 e229 hp30 hp31
  -- forms
  refine ⟨_, rfl, U, rfl, ⟨_, SqL.of (e232 _ _ hU2)⟩, for_it (walk_list (xs := zs.map V.str)) (fun i σ' H' => ∃ u, σ' = [some (.ref a), some (.ref U), some (.ref L), some (.ref o), none, some (.ref D6), none, some (.ref D13), some (.ref D14), u, none, some (.ref D21), none, none, none, none, none] ∧ Ext H32 H') ⟨none, rfl, ext_refl H32⟩ (fun i σ' H' _ p => ?_) (fun i x σ' H3 H' hi p y => ?_) fun σ' H' p => ?_⟩
  · obtain ⟨u, _, e⟩ := p
    exact SqL.of (e _ _ (e232 _ _ hU2))
  · obtain ⟨u, rfl, e⟩ := p
    obtain ⟨rfl, hx⟩ := y
    rw [List.getElem?_map] at hx
    obtain ⟨z, hz, rfl⟩ := Option.map_eq_some_iff.mp hx
    have mz := List.mem_of_getElem? hz
    have e3 := e232.trans e
    refine ⟨_, rfl, U, rfl, ⟨_, SqL.of (e3 _ _ hU2)⟩, fun D1 hD1 => map_list (xs := zs.map V.str) (fun _ v => .int (frm zs ys z (sOf v))) (SqL.of (e3 _ _ hU2)) hD1 (by rw [List.length_map]; omega) (fun _ => rfl) (fun j v H4 hj e4 Q' k' => ?_) fun H5 e5 hl5 => ?_⟩
    · rw [List.getElem?_map] at hj
      obtain ⟨z2, hz2, rfl⟩ := Option.map_eq_some_iff.mp hj
      have e34 := e3.trans e4
      exact ⟨_, rfl, o, dx, _, rfl, e34 _ _ ho, rfl, _, rfl, _, rfl, o, A1, B1, zs, ys, z, z2, rfl, oab.ext e34, nA2.ext e34, nB2.ext e34, mz, List.mem_of_getElem? hz2, fun H'' e'' => k' H'' e''⟩
    have e35 := e3.trans e5
    refine ⟨_, rfl, U, rfl, ⟨_, SqL.of (e35 _ _ hU2)⟩, fun D2 hD2 => map_list (xs := zs.map V.str) (fun _ v => .int (frm zs ys z (sOf v))) (SqL.of (e35 _ _ hU2)) hD2 (by rw [List.length_map]; omega) (fun _ => rfl) (fun j v H4 hj e4 Q' k' => ?_) fun H6 e6 hl6 => ?_⟩
    · rw [List.getElem?_map] at hj
      obtain ⟨z2, hz2, rfl⟩ := Option.map_eq_some_iff.mp hj
      have e34 := e35.trans e4
      exact ⟨_, rfl, _, rfl, _, rfl, _, rfl, U, L, zs, ys, z, z2, rfl, SqL.of (e34 _ _ hU2), SqL.of (e34 _ _ hL2), ro, mz, List.mem_of_getElem? hz2, k' H4 (ext_refl _)⟩
    have em : (zs.map V.str).mapIdx (fun _ v => V.int (frm zs ys z (sOf v))) = (zs.map fun w => frm zs ys z w).map V.int := by
      apply List.ext_getElem?
      intro i
      simp only [List.getElem?_mapIdx, List.getElem?_map, Option.map_map]
      rfl
    rw [em] at hl5 hl6
    have pfr : pl 2 (.list ((zs.map fun w => frm zs ys z w).map .int)) = true := pl_ints 1 _
    refine neD_use (d := .list ((zs.map fun w => frm zs ys z w).map .int)) (e := .list ((zs.map fun w => frm zs ys z w).map .int)) 2 (by decide) (.lst (SqL.of (e6 _ _ hl5)) (dp_ints _)) (.lst (SqL.of hl6) (dp_ints _)) pfr pfr fun bb hbb => ?_
    obtain rfl : bb = true := hbb.mpr rfl
    exact ⟨_, rfl, iteF ⟨_, rfl, (e.trans e5).trans e6⟩⟩
  obtain ⟨u33, rfl, e33⟩ := p
  have e233 := e232.trans e33
  clear e33 e232
  -- renamed
  have cf : cutV (zs.map V.str) (some 1) none = (zs.drop 1).map V.str := by
    have := cut_from (xs := zs.map V.str) (n := 1) (by rw [List.length_map]; exact ro.ne)
    rw [show ((1 : Nat) : Int) = 1 from rfl] at this
    rw [this, List.map_drop]
  refine ⟨_, rfl, _, rfl, _, rfl, U, _, rfl, SqL.of (e233 _ _ hU2), fun q34 hq34 => ?_⟩
  rw [cf]
  have x34 := ext_new (o := HO.lst ((zs.drop 1).map V.str)) (ext_refl H') hq34
  refine ⟨len_ok (Nat.le_of_ble_eq_true rfl), fun q35 hq35 => ?_⟩
  have x35 := ext_new (o := HO.lst [V.str "other"]) (ext_refl _) hq35
  refine ⟨q34, q35, _, _, rfl, rfl, x35 _ _ upd_same, upd_same, len_ok (by rw [List.length_map, List.length_drop, List.length_singleton]; omega), fun q36 hq36 => ?_⟩
  have x36 := ext_new (o := HO.lst ((zs.drop 1).map V.str ++ [V.str "other"])) (ext_refl _) hq36
  have e36 := ((e233.trans x34).trans x35).trans x36
  dsimp only [tNil]
  refine ⟨a, q36, _, rfl, e36 _ _ ha2, SqL.of upd_same, by rw [List.length_append, List.length_map, List.length_drop, List.length_singleton]; omega, fun D37 H37 os e37 hD37 pmo => ?_⟩
  have em0 : (zs.drop 1).map V.str ++ [V.str "other"] = (zs.drop 1 ++ [("other" : Str)]).map V.str := by
    rw [List.map_append]
    rfl
  rw [em0] at pmo
  obtain ⟨ws, rfl, pw⟩ := perm_strs pmo
  have e237 := e36.trans e37
  clear e37 e36 x36 x35 x34 hq34 hq35 hq36 e233
  have oth : ("other" : Str) ∉ zs := fun m => absurd (ten _ m) (by decide +kernel)
  have wl : zs.length = ws.length := by
    have := pw.length_eq
    rw [List.length_append, List.length_drop, List.length_singleton] at this
    have := ro.ne
    omega
  have wm : ∀ w ∈ ws, w ∈ zs ∨ w = "other" := fun w hw => by
    rcases List.mem_append.mp (pw.mem_iff.mp hw) with m | m
    · exact .inl (List.mem_of_mem_drop m)
    · exact .inr (List.mem_singleton.mp m)
  have wnm : ∀ w ∈ ws, isNm w = true := fun w hw => by
    rcases wm w hw with m | m
    · exact nm w m
    · rw [m]
      decide +kernel
  have wnd : ws.Nodup := by
    refine pw.nodup_iff.mpr (List.nodup_append.mpr ⟨?_, by simp, fun x hx y hy z => ?_⟩)
    · exact List.nodup_iff_pairwise_ne.mpr ((List.nodup_iff_pairwise_ne.mp ro.nd).sublist (List.drop_sublist _ _))
    · rw [List.mem_singleton.mp hy] at z
      rw [z] at hx
      exact oth (List.mem_of_mem_drop hx)
  have wnn : ("none" : Str) ∉ ws := fun m => by
    rcases wm _ m with m | m
    · exact nn m
    · exact absurd m (by decide +kernel)
  have gm := gz_map ro.nd wl
  have gi : InjOn (gz zs ws) ys := (gz_inj wl wnd).sub fun x hx => ro.pm.mem_iff.mp hx
  have rog : RowsOk (zs.map (gz zs ws)) (ys.map (gz zs ws)) := by
    refine ⟨by rw [gm]; exact wnm, by rw [gm]; exact wnd, ro.pm.map _, by rw [List.length_map]; exact ro.ne, by rw [List.length_map]; exact ro.le⟩
  refine ⟨_, rfl, o, dx, _, rfl, e237 _ _ ho, rfl, _, rfl, _, rfl, U, D37, zs, ws.map V.str, rfl, SqL.of (e237 _ _ hU2), SqL.of hD37, by rw [List.length_map]; exact wl, by omega, fun d38 hd38 => ?_⟩
  have x38 := ext_new (o := HO.dK (mergeK [] (zkV zs (ws.map V.str)))) (ext_refl H37) hd38
  have e238 := e237.trans x38
  dsimp only [tNil]
  refine ⟨o, d38, zs, ys, mergeK [] (zkV zs (ws.map V.str)), gz zs ws, rfl, oab.at.ext e238, upd_same, by rw [merge_zk ro.nd wl]; exact zk_ren wl (List.Perm.refl _) wnd wnm, rog, fun x39 H39 e39 oa39 => ?_⟩
  have e239 := e238.trans e39
  have hD39 := (x38.trans e39) _ _ hD37
  rw [gm] at oa39
  clear e39 x38 hd38 e238 e237 hD37
  have oaf := oa39
  refine ⟨_, rfl, _, rfl, _, rfl, L, rfl, ⟨_, SqL.of (e239 _ _ hL2)⟩, fun D40 hD40 => map_list (xs := ys.map V.str) (fun _ v => .str (gz zs ws (sOf v))) (SqL.of (e239 _ _ hL2)) hD40 (by rw [List.length_map]; omega) (fun _ => rfl) (fun j v H4 hj e4 Q' k' => ?_) fun H40 e40 hl40 => ?_⟩
  · rw [List.getElem?_map] at hj
    obtain ⟨z, hz, rfl⟩ := Option.map_eq_some_iff.mp hj
    have mz : z ∈ zs := ro.pm.mem_iff.mp (List.mem_of_getElem? hz)
    have e34 := e239.trans e4
    refine ⟨_, rfl, _, rfl, .inl ⟨rfl, _, SqL.of (e34 _ _ hU2)⟩, _, rfl, ?_⟩
    dsimp only [tNil]
    refine idx_use (SqL.of (e34 _ _ hU2)) mz ?_
    have gw : (ws.map V.str)[pos zs z]? = some (.str (gz zs ws z)) := by
      rw [← gm, List.getElem?_map, List.getElem?_map, pos_get mz, gm]
      rfl
    exact ⟨_, _, _, _, rfl, rfl, SqL.of (e4 _ _ hD39), atI_nat gw, k' H4 (ext_refl _)⟩
  rw [map_strs] at hl40
  refine ⟨_, D37, D40, ws, ys.map (gz zs ws), rfl, oa39.ext e40, SqL.of (e40 _ _ hD39), SqL.of hl40, wnn, by omega, fun H41 e41 => ⟨_, rfl, iteF ?_⟩⟩
  have e241 := (e239.trans e40).trans e41
  have oa41 := (oa39.ext e40).ext e41
  obtain ⟨dx41, a41, b41, c41, ho41, _⟩ := id oa41
  have pe41 : plc ws (ys.map (gz zs ws)) = plc zs ys := by
    have := plc_map gi fun z hz => ro.pm.mem_iff.mpr hz
    rw [gm] at this
    exact this
  clear e41 e40 hl40 hD40 oa39 oaf hD39 e239
  refine ⟨_, rfl, _, dx41, _, rfl, ho41, _, ws, ys.map (gz zs ws), rfl, oa41, fun A42 hA42 => ?_⟩
  refine ⟨_, rfl, o, dx, _, rfl, e241 _ _ ho, o, zs, ys, rfl, oab.at.ext e241, fun B42 hB42 => ?_⟩
  dsimp only at hA42
  rw [pe41] at hA42
  refine neD_use (d := .tuple ((plc zs ys).map .int)) (e := .tuple ((plc zs ys).map .int)) 2 (by decide) (.tup hA42 (dp_ints _)) (.tup hB42 (dp_ints _)) pin pin fun bb hbb => ?_
  obtain rfl : bb = true := hbb.mpr rfl
  refine ⟨_, rfl, iteF ?_⟩
  -- told
  have g0 : (zs.map V.str)[0]? = some (.str (zs[0]'(by have := ro.ne; omega))) := by rw [List.getElem?_map, List.getElem?_eq_getElem (by have := ro.ne; omega)]; rfl
  refine ⟨_, rfl, _, _, _, _, rfl, rfl, SqL.of (e241 _ _ hU2), atI_nat (j := 0) g0, ?_⟩
  have z0m : zs[0]'(by have := ro.ne; omega) ∈ zs := List.getElem_mem _
  generalize zs[0]'(by have := ro.ne; omega) = z0 at g0 z0m ⊢
  refine ⟨_, rfl, _, _, _, _, rfl, rfl, SqL.of (e241 _ _ hU2), atI_nat (j := 0) g0, len_ok (Nat.le_of_ble_eq_true rfl), fun t1 ht1 => ?_⟩
  have x43 := ext_new (o := HO.tup [V.str z0]) (ext_refl H41) ht1
  refine ⟨len_ok (Nat.le_of_ble_eq_true rfl), fun l1 hl1 => ?_⟩
  have x44 := ext_new (o := HO.lst []) (ext_refl _) hl1
  refine fun d1 hd1 => ?_
  have x45 := ext_new (o := HO.dK []) (ext_refl _) hd1
  refine ⟨len_ok (Nat.le_of_ble_eq_true rfl), fun t2 ht2 => ?_⟩
  have x46 := ext_new (o := HO.tup [V.str z0, .str "other", .non, .int 0, .ref t1, .ref l1, .ref d1]) (ext_refl _) ht2
  have e246 := (((e241.trans x43).trans x44).trans x45).trans x46
  have t1' := ((x44.trans x45).trans x46) t1 _ upd_same
  have l1' := (x45.trans x46) l1 _ upd_same
  have d1' := x46 d1 _ upd_same
  have hx39 := (((x43.trans x44).trans x45).trans x46)
  have oa46 := oa41.ext hx39
  have ht2' : SqT K (upd (upd (upd (upd H41 t1 (HO.tup [V.str z0])) l1 (.lst [])) d1 (.dK [])) t2 (.tup [V.str z0, .str "other", .non, .int 0, .ref t1, .ref l1, .ref d1])) t2 [V.str z0, .str "other", .non, .int 0, .ref t1, .ref l1, .ref d1] := SqT.of upd_same
  generalize upd (upd (upd (upd H41 t1 (HO.tup [V.str z0])) l1 (.lst [])) d1 (.dK [])) t2 (.tup [V.str z0, .str "other", .non, .int 0, .ref t1, .ref l1, .ref d1]) = H46 at e246 t1' l1' d1' hx39 oa46 ht2' ⊢
  clear x46 x45 x44 x43 ht2 hd1 hl1 ht1 hA42 hB42 oa41 hx39 e241
  refine ⟨t2, rfl, ⟨_, ht2'⟩, fun D47 hD47 => lc_it (walk_tup (xs := [V.str z0, .str "other", .non, .int 0, .ref t1, .ref l1, .ref d1])) (fun i H' => Ext H46 H' ∧ H' D47 = some (.lst ((toldB.take i).map V.bl)))
    ⟨ext_new (ext_refl H46) hD47, upd_same⟩ (fun i H' _ p => ht2'.ext p.1) (fun i x H3 H' hi p y => ?_) fun H' p => ?_⟩
  · obtain ⟨rfl, hx⟩ := y
    obtain ⟨p1, p2⟩ := p
    refine ⟨rfl, ?_⟩
    unfold tYes
    dsimp only
    rw [if_pos rfl]
    have e47 := e246.trans p1
    have told : ∃ b, toldB[i]? = some b ∧ ((∃ z, x = .str z ∧ decide (z ∈ zs) = b) ∨ (NoTx K H' x ∧ b = false)) := by
      match i, hi, hx with
      | 0, _, hx => cases hx; exact ⟨true, rfl, .inl ⟨z0, rfl, decide_eq_true z0m⟩⟩
      | 1, _, hx => cases hx; exact ⟨false, rfl, .inl ⟨_, rfl, decide_eq_false oth⟩⟩
      | 2, _, hx => cases hx; exact ⟨false, rfl, .inr ⟨.non, rfl⟩⟩
      | 3, _, hx => cases hx; exact ⟨false, rfl, .inr ⟨.int 0, rfl⟩⟩
      | 4, _, hx => cases hx; exact ⟨false, rfl, .inr ⟨.tup (SqT.of (p1 _ _ t1')), rfl⟩⟩
      | 5, _, hx => cases hx; exact ⟨false, rfl, .inr ⟨.lst (SqL.of (p1 _ _ l1')), rfl⟩⟩
      | 6, _, hx => cases hx; exact ⟨false, rfl, .inr ⟨.dct (p1 _ _ d1'), rfl⟩⟩
    obtain ⟨b, hb, hor⟩ := told
    have fin : ∃ acc : List V, H' D47 = some (.lst acc) ∧ acc.length < sizeLine ∧ Ext H46 (upd H' D47 (.lst (acc ++ [.bl b]))) ∧ (upd H' D47 (.lst (acc ++ [.bl b]))) D47 = some (.lst ((toldB.take (i + 1)).map V.bl)) := by
      refine ⟨_, p2, ?_, ext_mut p1 hD47, ?_⟩
      · rw [List.length_map, List.length_take]
        exact len_lt (by show min i 7 ≤ 1000; omega)
      · rw [upd_same, List.take_succ, hb, List.map_append]
        rfl
    refine ⟨_, rfl, _, rfl, o, dx, _, rfl, e47 _ _ ho, o, x, zs, ys, rfl, oab.at.ext e47, ?_⟩
    rcases hor with ⟨z, rfl, hz⟩ | ⟨nt, rfl⟩
    · exact .inl ⟨z, rfl, _, rfl, by rw [hz]; exact fin⟩
    · exact .inr ⟨nt, _, rfl, fin⟩
  obtain ⟨e47', hD47'⟩ := p
  have hD48 : H' D47 = some (.lst (toldB.map V.bl)) := hD47'
  have e247 := e246.trans e47'
  have oa47 := oa46.ext e47'
  clear hD47' e47' oa46 ht2' t1' l1' d1' e246
  refine ⟨_, rfl, len_ok (Nat.le_of_ble_eq_true rfl), fun p1 hp1 => ?_⟩
  have x1 := ext_new (o := HO.lst [V.bl true]) (ext_refl H') hp1
  refine ⟨len_ok (Nat.le_of_ble_eq_true rfl), fun p2 hp2 => ?_⟩
  have x2 := ext_new (o := HO.lst [V.bl false]) (ext_refl _) hp2
  refine ⟨p2, 6, _, rfl, rfl, upd_same, by decide, by decide, len_ok (Nat.le_of_ble_eq_true rfl), fun p3 hp3 => ?_⟩
  have x3 := ext_new (o := HO.lst (List.replicate (6 : Int).toNat [V.bl false]).flatten) (ext_refl _) hp3
  refine ⟨p1, p3, _, _, rfl, rfl, (x2.trans x3) _ _ upd_same, upd_same, len_ok (Nat.le_of_ble_eq_true rfl), fun p4 hp4 => ?_⟩
  have x4 := ext_new (o := HO.lst ([V.bl true] ++ (List.replicate (6 : Int).toNat [V.bl false]).flatten)) (ext_refl _) hp4
  have x14 := ((x1.trans x2).trans x3).trans x4
  refine ⟨_, _, .lst (SqL.of (x14 _ _ hD48)) (dp_bools toldB), .lst (SqL.of upd_same) (dp_bools toldB), told_ok, told_ok, ?_⟩
  rw [told_eq]
  have e248 := e247.trans x14
  have oa48 := oa47.ext x14
  generalize upd _ p4 _ = H48 at e248 oa48
  clear x14 x4 x3 x2 x1 hp1 hp2 hp3 hp4 oa47 e247 hD48
  refine ⟨_, rfl, ?_⟩
  rw [if_pos rfl]
  obtain ⟨dx48, a48, b48, c48, ho48, _⟩ := id oa48
  have wz : ws ≠ zs := fun z => oth (by
    rw [← z]
    exact pw.mem_iff.mpr (List.mem_append.mpr (.inr (List.mem_singleton.mpr rfl))))
  refine ⟨_, rfl, _, rfl, _, dx48, _, o, dx, _, rfl, ho48, rfl, e248 _ _ ho, _, .ref o, ws, ys.map (gz zs ws), rfl, oa48, .inl ⟨o, zs, ys, rfl, oab.at.ext e248, ?_⟩⟩
  rw [decide_eq_false wz, Bool.false_and]
  refine ⟨_, rfl, _, dx48, _, rfl, ho48, _, ws, ys.map (gz zs ws), rfl, oa48, fun A49 hA49 => ?_⟩
  refine ⟨_, rfl, o, dx, _, rfl, e248 _ _ ho, o, zs, ys, rfl, oab.at.ext e248, fun B49 hB49 => ?_⟩
  refine eqD_use (d := .tuple (ws.map .str)) (e := .tuple (zs.map .str)) 2 (by decide) (.tup hA49 (dp_strs _)) (.tup hB49 (dp_strs _)) (pl_strs (n := 1) fun z hz => nm_ok (wnm z hz)) (pl_strs (n := 1) fun z hz => nm_ok (nm z hz)) fun bb hbb => ?_
  have hbf : bb = false := Bool.eq_false_iff.mpr fun z => by
    have := hbb.mp z
    injection this with this
    exact wz (str_inj.mp this)
  subst hbf
  refine ⟨rfl, ?_⟩
  rw [decide_eq_true rfl]
  exact k _ (eH2.trans e248)
end
end My
namespace My
open PySem PySem.Spec PyProof.Rows L2
section
variable {K : PySem.W.Frag} {h : Heap} {mg : Str → Option Value}
theorem neK_mk {C N f : Addr} {o : Obj} {es : List DictEntry} {oc2 : Value} {od2 : Option Addr} {sl2 : Array (Option Value)} {n2 : Nat} {nm q : Str} {bs : List Value} {hdct : Bool} {sn : List Str} {sub : List Value} {ab : Bool} {col : Option Bool} {dd : Option Addr} {k0 k1 k2 k3 k5 : Option Value} {newId : String} {od : Option Addr} {fd : FuncData} {sl : Array (Option Value)}
    (a1 : K.lookup C = some o) (e : o = excClassObj nm q C N bs [.type "object"] hdct sn sub ab col dd k0 k1 k2 k3 k5 newId) (a2 : K.lookup N = some ⟨oc2, od2, .dict es.toArray n2, sl2⟩) (e2 : (es.all fun e => match e.key with | .str _ _ => true | _ => false) = true)
    (a3 : PySem.W.nsIn K N "__eq__" = some (some (.ref f))) (a4 : PySem.W.nsIn K N "__ne__" = some none) (a5 : K.lookup f = some ⟨.type "function", od, .func fd, sl⟩) (ef : PySem.W.findIn K (.ref C) "__eq__" = some (some (.ref f))) :
    ∃ f, NeK K C f ∧ PySem.W.findIn K (.ref C) "__eq__" = some (some (.ref f)) :=
  ⟨f, ⟨⟨nm, q, N, bs, hdct, sn, sub, ab, col, dd, k0, k1, k2, k3, k5, newId, by rw [a1, e], by unfold PySem.W.nsOkIn; rw [a2]; show (es.toArray.all _) = true; rw [List.all_toArray]; exact e2, a3, a4⟩, od, fd, sl, a5⟩, ef⟩
end
end My
namespace My
open PySem PySem.Spec PyProof.Rows L2
local macro_rules | `(tactic| walk_at "side") => `(tactic| first | assumption | decide | exact Or.inl ⟨by decide, by decide⟩ | exact Or.inr ⟨by decide, by decide⟩ | exact ⟨by decide, by decide, by decide⟩ | omega | (unfold CMulW; decide +kernel) | (dsimp only; first | assumption | omega | decide +kernel) | exact len_ok (Nat.le_of_ble_eq_true rfl) | fail "side")
local macro_rules | `(tactic| walk_at "rd") => `(tactic| first
  | refine ⟨_, _, _, _, rfl, rfl, SqL.of upd_same, atI_nat (j := 0) rfl, ?_⟩ | refine ⟨_, _, _, _, rfl, rfl, SqL.of upd_same, atI_nat (j := 1) rfl, ?_⟩ | refine ⟨_, _, _, _, rfl, rfl, SqL.of upd_same, atI_nat (j := 2) rfl, ?_⟩
  | refine ⟨_, _, _, _, rfl, rfl, upd_same, rfl, ?_⟩
  | refine ⟨_, _, rfl, rfl, ?_⟩ | refine ⟨_, rfl, ?_⟩ | refine ⟨_, _, rfl, ?_⟩ | refine Or.inl ⟨_, rfl, ?_⟩ | refine Or.inr ⟨_, rfl, ?_⟩ | refine ⟨(by walk_at "side"), ?_⟩ | fail "rd")

abbrev s_onames : Stmt := inClass (top 12) 4
theorem sc_onames : FnScope ["self"] ["self"] (defScope s_onames) := ⟨rfl, rfl, rfl, by decide +kernel, rfl, by decide +kernel, by decide +kernel⟩
section
variable {P : Program} {w : World} {K : PySem.W.Frag} {mg : Str → Option Value} {base : Heap} {C : Addr}
theorem ok_onames (T : Bn mg) (D : PropT K C "names" "Order.names" s_onames) (OT : OrdT K mg C) : PropAt P w K mg base 1 C "names" (spNames K C) := by
  refine propAt D sc_onames (fun _ _ _ _ _ _ us hl => match us, hl with | [_], _ => rfl) (fun vs H Q E h => ?_) fun f cdv A outer s H vs Q E hr h => ?_
  · obtain ⟨o, zs, ys, rfl, _⟩ := h
    rfl
  obtain ⟨o, zs, ys, rfl, ⟨dx, a, b, c, e, ha, hb, hc, ro⟩, k⟩ := h
  have l1 := ro.le
  refine ⟨_, (pss_one (ps_ret (pe_callTy call_tuple_of (by rfl) T.b_tuple (by decide +kernel) (pa_cons (pe_callB cr_sortedB (by rfl) T.b_sorted (by decide +kernel) (pa_cons (pe_fld (pv 0) rfl) pa_nil)) pa_nil)))), _, rfl, o, C, dx, _, _, rfl, e, OT.cl, OT.nA, ofs_a a b c, a, zs, rfl, .inr ha, by omega, fun ns p pm so hp => ?_⟩
  refine ⟨p, _, rfl, .inl ⟨SqL.of upd_same, fun l hl => ?_⟩⟩
  exact k ns l _ ⟨pm, so⟩ (ext_new (ext_new (ext_refl H) hp) hl) (SqT.of upd_same)
end
end My
namespace My
open PySem PySem.Spec PyProof.Rows L2 TL
local macro_rules | `(tactic| walk_at "side") => `(tactic| first | assumption | decide | exact Or.inl ⟨by decide, by decide⟩ | exact Or.inr ⟨by decide, by decide⟩ | exact ⟨by decide, by decide, by decide⟩ | omega | (unfold CMulW; decide +kernel) | (dsimp only; first | assumption | omega | decide +kernel) | exact len_ok (Nat.le_of_ble_eq_true rfl) | fail "side")
local macro_rules | `(tactic| walk_at "rd") => `(tactic| first
  | refine ⟨_, _, _, _, rfl, rfl, SqL.of upd_same, atI_nat (j := 0) rfl, ?_⟩ | refine ⟨_, _, _, _, rfl, rfl, SqL.of upd_same, atI_nat (j := 1) rfl, ?_⟩ | refine ⟨_, _, _, _, rfl, rfl, SqL.of upd_same, atI_nat (j := 2) rfl, ?_⟩
  | refine ⟨_, _, _, _, rfl, rfl, upd_same, rfl, ?_⟩
  | refine ⟨_, _, rfl, rfl, ?_⟩ | refine ⟨_, rfl, ?_⟩ | refine ⟨_, _, rfl, ?_⟩ | refine Or.inl ⟨_, rfl, ?_⟩ | refine Or.inr ⟨_, rfl, ?_⟩ | refine ⟨(by walk_at "side"), ?_⟩ | fail "rd")

abbrev s_law : Stmt := top 28
theorem sc_law : FnScope ["_law_script", "_law_spot", "_law_dice_here", "_law_order", "_law_block", "_law_chain", "_law_alone"] ["_law_script"] (defScope s_law) := ⟨rfl, rfl, rfl, by decide +kernel, rfl, by decide +kernel, by decide +kernel⟩
def fU : List Str := ["a", "b", "c", "d"]
def fL : List Str := ["b", "a", "d", "c"]
def cU : List Str := ["x", "a", "b", "c"]
def cL : List Str := ["a", "b", "c", "x"]
def aU : List Str := ["a"]
theorem spl_fU : Txt.split "a b c d" " " = fU := by decide +kernel
theorem spl_fL : Txt.split "b a d c" " " = fL := by decide +kernel
theorem spl_cU : Txt.split "x a b c" " " = cU := by decide +kernel
theorem spl_cL : Txt.split "a b c x" " " = cL := by decide +kernel
theorem ro_f : RowsOk fU fL := ⟨by decide +kernel, by decide +kernel, by decide +kernel, by decide, by decide⟩
theorem ro_c : RowsOk cU cL := ⟨by decide +kernel, by decide +kernel, by decide +kernel, by decide, by decide⟩
theorem ro_a : RowsOk aU aU := ⟨by decide +kernel, by decide +kernel, by decide +kernel, by decide, by decide⟩
def fT : List Str := ["a b / b a", "c d / d c"]
theorem blk_f : (blks fU fL).map (fun r => otext r.1 r.2) = fT := by decide +kernel
theorem plc_f : plc fU fL = [1, 0, 3, 2] := by decide +kernel
def cN : List (Str × Str) := [(("a" : Str), ("b" : Str)), (("b" : Str), ("c" : Str))]
theorem ndl_c : ndl cU cL = cN := by decide +kernel
theorem jnd_c : otext (jnd cU cL cU) (jnd cU cL cL) = "x a / a x" := by decide +kernel
theorem who_a : wholeB aU aU = false := by decide +kernel
theorem blk_a : blks aU aU = [(aU, aU)] := by decide +kernel
theorem jnd_a : jnd aU aU aU = aU := by decide +kernel
theorem frm_a : frm aU aU "a" "a" = 0 := by decide +kernel
theorem mapIdx_getD : ∀ (acc : List V) (l : List Str), acc.length = l.length → acc.mapIdx (fun i _ => V.str (l.getD i Str.empty)) = l.map V.str := fun acc l h => by
  apply List.ext_getElem?
  intro i
  rw [List.getElem?_mapIdx, List.getElem?_map]
  by_cases hi : i < acc.length
  · rw [List.getElem?_eq_getElem hi, List.getElem?_eq_getElem (by omega), List.getD_eq_getElem?_getD, List.getElem?_eq_getElem (by omega)]
    rfl
  · rw [List.getElem?_eq_none (by omega), List.getElem?_eq_none (by omega)]
    rfl
def OrdSame (K : PySem.W.Frag) (C : Addr) : Addr → Addr → Hp → Prop := fun a b H => ∃ zs ys, OrdAt K C H a zs ys ∧ OrdAt K C H b zs ys
theorem eqTO {X : Cx} {C : Addr} (S_eq : SpAt X.prog X.w X.K X.mg X.base 1 C "__eq__" ["self", "other"] (spOEq X.K C)) (hr : Room 2 X.A) : OpR X (compareOp .Eq) (rEqG (DTup X.K (DIns C (OrdSame X.K C)))) := by
  obtain ⟨f, fd, hs, hf, hb, F⟩ := S_eq.ex
  have G : FnOk X.prog X.w X.K X.mg X.base CX0 1 f fd ["self", "other"] (spEq (OrdSame X.K C)) := F.imp fun vs H Q E h => by
    obtain ⟨a, b, rfl, ⟨zs, ys, oa, ob⟩, q⟩ := h
    refine ⟨a, .ref b, zs, ys, rfl, oa, .inl ⟨b, zs, ys, rfl, ob, ?_⟩⟩
    rw [decide_eq_true rfl, decide_eq_true rfl]
    exact q H (ext_refl H)
  exact op_eqG (rcG_tup (mon_ins fun a b H H' e ⟨zs, ys, oa, ob⟩ => ⟨zs, ys, oa.ext e, ob.ext e⟩) (eqG_ins G hs hf hb pass0)) hr
def spLaw (K : PySem.W.Frag) : Sp := fun vs H Q _ => ∃ (a : Addr) (ns : List Int), vs = [.ref a] ∧ SqL K H a (ns.map V.int) ∧ ns.length ≤ 63 ∧ ∀ H', Q (.bl true) H'
section
variable {P : Program} {w : World} {K : PySem.W.Frag} {mg : Str → Option Value} {base : Heap} {C : Addr}
theorem ok_law {fa : Addr} {fd : FuncData} (T : Bn mg) (OT : OrdT K mg C) (D : Fun K "law" "law" s_law fa fd) (F__law_dice : FnAt P w K mg base 1 "_law_dice" ["_law_script", "_law_spot"] (spDice K)) (F__law_right : FnAt P w K mg base 9 "_law_right" ["_law_dice_here"] spLRight)
    (F_init : OInitAt P w K mg base 5 C (spOInit K C)) (R_read : ReadAt P w K mg base 7 C (spORead K C)) (P_places : PropAt P w K mg base 1 C "places" (spGetT K C fun zs ys => (plc zs ys).map V.int)) (P_is_whole : PropAt P w K mg base 2 C "is_whole" (spWhole K C)) (P_needless : PropAt P w K mg base 1 C "needless" (spNeedless K C))
    (S_eq : SpAt P w K mg base 1 C "__eq__" ["self", "other"] (spOEq K C)) (S_str : SpAt P w K mg base 2 C "__str__" ["self"] (spOStr K C))
    (M_blocks : MethAt P w K mg base 7 C "blocks" ["self"] (spOBlk K C)) (M_joined : MethAt P w K mg base 7 C "joined" ["self"] (spOrd K C (fun zs ys => jnd zs ys zs) (fun zs ys => jnd zs ys ys)))
    (M_form : MethAt P w K mg base 2 C "form" ["self", "one", "other"] (spOForm K C)) :
    FnOk P w K mg base CX0 10 fa fd ["_law_script"] (spLaw K) := by
  refine D.ok sc_law (fun vs H Q E h => ?_) fun cdv A outer s H vs Q E hr h => ?_
  · obtain ⟨a, ns, rfl, _⟩ := h
    rfl
  obtain ⟨a, ns, rfl, hS, hl, k⟩ := h
  refine ⟨_, (pss_cons (ps_for PassesOwn.never rfl (pi_range1 (by rfl) T.b_range (pa_cons (pe_callB (call_max2 rfl) (by rfl) T.b_max (by decide +kernel) (pa_cons pe_int (pa_cons (pe_callB (call_min2 rfl) (by rfl) T.b_min (by decide +kernel) (pa_cons pe_int (pa_cons (pe_callB call_len_seq (by rfl) T.b_len (by decide +kernel) (pa_cons (pv 0) pa_nil)) pa_nil))) pa_nil))) pa_nil)) (pg_name (i := 1) sc_law.nd rfl (Or.inl rfl))
      (pss_cons (ps_set (i := 2) sc_law.nd rfl (Or.inl rfl) (callA F__law_dice (hr.mono (by decide)) rfl (pa_cons (pv 0) (pa_cons (pv 1) pa_nil))))
    (pss_one (ps_if (PW.pt (pw_or (pt_not (pt_val (callA F__law_right (hr.mono (by decide)) rfl (pa_cons (pv 2) pa_nil)))) (pw_or (pt_not (pt_val (callA F__law_right (hr.mono (by decide)) rfl (pa_cons (pv 2) pa_nil)))) (pw_or1 (pt_not (pt_val (callA F__law_right (hr.mono (by decide)) rfl (pa_cons (pv 2) pa_nil)))))))) (pss_one (ps_ret pe_bl)) pss_nil))))
    (pss_cons (ps_set (i := 3) sc_law.nd rfl (Or.inl rfl) (readO R_read (hr.mono (by decide)) (pe_glob (v := .ref C) rfl OT.g rfl) (pa_cons pe_str (pa_cons pe_str pa_nil))))
    (pss_cons (ps_if (PW.pt (pw_or (pt_cmpR (op_neD (hu64 hr)) (pe_lc (own := [("_law_block", 4)]) (g := gName 4) (tt := tYes) rfl sc_law.nd (pi_tup (meth0A M_blocks OT.cl (hr.mono (by decide)) (pv 3))) (blkOk_by (N := ["_law_script", "_law_spot", "_law_dice_here", "_law_order", "_law_block", "_law_chain", "_law_alone"]) (sc := defScope s_law) (by decide +kernel)) (fun _ _ _ _ _ => pg_name (i := 4) sc_law.nd rfl (Or.inl rfl)) (fun _ _ _ _ _ => pts_nil) (fun _ _ _ _ _ => (pe_callTy (show CallR _ _ (rStrOwn C (spOStr K C) E0) from strA S_str (hr.mono (by decide))) (by rfl) T.b_str (by decide +kernel) (pa_cons (pv 4) pa_nil)))) (pe_lst (pa_cons pe_str (pa_cons pe_str pa_nil))) (nomark _)) (pw_or1 (pt_cmpR (op_neD (hu64 hr)) (propA P_places OT.cl (hr.mono (by decide)) (pv 3)) (pe_tup (pa_cons pe_int (pa_cons pe_int (pa_cons pe_int (pa_cons pe_int pa_nil))))) (nomark _))))) (pss_one (ps_ret pe_bl)) pss_nil)
    (pss_cons (ps_set (i := 5) sc_law.nd rfl (Or.inl rfl) (readO R_read (hr.mono (by decide)) (pe_glob (v := .ref C) rfl OT.g rfl) (pa_cons pe_str (pa_cons pe_str pa_nil))))
    (pss_cons (ps_if (PW.pt (pw_or (pt_cmpR (op_neD (hu64 hr)) (propA P_needless OT.cl (hr.mono (by decide)) (pv 5)) (pe_tup (pa_cons (pe_tup (pa_cons pe_str (pa_cons pe_str pa_nil))) (pa_cons (pe_tup (pa_cons pe_str (pa_cons pe_str pa_nil))) pa_nil))) (nomark _)) (pw_or1 (pt_cmpR op_ne (pe_callTy (strA S_str (hr.mono (by decide))) (by rfl) T.b_str (by decide +kernel) (pa_cons (meth0A M_joined OT.cl (hr.mono (by decide)) (pv 5)) pa_nil)) pe_str (nomark _))))) (pss_one (ps_ret pe_bl)) pss_nil)
    (pss_cons (ps_set (i := 6) sc_law.nd rfl (Or.inl rfl) (mkO F_init OT (hr.mono (by decide)) (pa_cons (pe_tupF (pa_cons pe_str pa_nil)) (pa_cons (pe_tupF (pa_cons pe_str pa_nil)) pa_nil))))
    (pss_one (ps_ret (pe_and (pe_not (propA P_is_whole OT.cl (hr.mono (by decide)) (pv 6))) (pe_and (pe_cmpR (eqTO S_eq (hr.mono (by decide))) (meth0A M_blocks OT.cl (hr.mono (by decide)) (pv 6)) (pe_tup (pa_cons (pv 6) pa_nil)) (nomark _)) (pe_and (pe_cmpR (eqA S_eq (hr.mono (by decide))) (meth0A M_joined OT.cl (hr.mono (by decide)) (pv 6)) (pv 6) (nomark _)) (pe_one (pe_cmpR op_eq (methA M_form OT.cl (hr.mono (by decide)) (pv 6) (pa_cons pe_str (pa_cons pe_str pa_nil))) pe_int (nomark _)))))))))))))), ?_⟩
  have hb : ∀ L : Int, 0 ≤ L → 1 ≤ (if (if L < 3 then L else 3) > 1 then (if L < 3 then L else 3) else 1) ∧ (if (if L < 3 then L else 3) > 1 then (if L < 3 then L else 3) else 1) ≤ 3 := by
    intro L h
    split <;> split <;> omega
  have hb := hb (((ns.map V.int).length : Nat) : Int) (by omega)
  refine ⟨_, rfl, a, _, rfl, .inl hS, _, _, rfl, _, _, rfl, _, rfl, by omega, by omega, ?_⟩
  refine for_range (lo := 0) (fun i σ H' => Ext H H' ∧ ∃ x y, σ = [some (.ref a), x, y, none, none, none, none]) ⟨ext_refl H, _, _, rfl⟩ ?_ ?_
  · rintro i σ H' hi ⟨e, x, y, rfl⟩
    refine ⟨_, rfl, _, rfl, a, _, ns, rfl, hS.ext e, by omega, by omega, fun p H2 hp e2 hd => ?_⟩
    have eD := e.trans e2
    refine ⟨_, rfl, p, rfl, hd, fun H3 e3 => ⟨_, rfl, iteF ?_⟩⟩
    refine ⟨_, rfl, p, rfl, e3 _ _ hd, fun H4 e4 => ⟨_, rfl, iteF ?_⟩⟩
    refine ⟨_, rfl, p, rfl, e4 _ _ (e3 _ _ hd), fun H5 e5 => ⟨_, rfl, iteF ?_⟩⟩
    exact ⟨((eD.trans e3).trans e4).trans e5, _, _, rfl⟩
  rintro σ H' ⟨e, x, y, rfl⟩
  have same : ∀ x : V, (!decide (x = x)) = false := fun x => by
    rw [decide_eq_true rfl]
    rfl
  refine ⟨rfl, "a b c d", "b a d c", rfl, by decide, by decide, by rw [spl_fU, spl_fL]; exact ro_f, fun o H2 e2 oa => ?_⟩
  rw [spl_fU, spl_fL] at oa
  obtain ⟨dx, a1, b1, c1, ho, _⟩ := id oa
  refine ⟨_, rfl, o, dx, _, rfl, ho, rfl, o, fU, fL, rfl, oa, fun p7 acc7 H3 e3 hp7 hl7 ol7 => ?_⟩
  have l7 : acc7.length = 2 := hl7.trans (by decide +kernel)
  refine ⟨p7, rfl, ⟨_, hp7⟩, fun D hD => map_tup (xs := acc7) (fun i _ => .str (fT.getD i Str.empty)) hp7 hD (by omega) (fun _ => rfl) (fun i x H4 hx e4 Q' k' => ?_) fun H4 e4 hl4 => ?_⟩
  · obtain ⟨q8, r8, rfl, hr8, oa8⟩ := ol7.2 i x hx
    have oa8' := oa8.ext e4
    obtain ⟨dx8, a8, b8, c8, ho8, _⟩ := id oa8'
    have ef : fT.getD i Str.empty = otext r8.1 r8.2 := by
      rw [← blk_f, List.getD_eq_getElem?_getD, List.getElem?_map, hr8]
      rfl
    rw [ef] at k'
    exact ⟨_, rfl, q8, dx8, _, rfl, ho8, q8, r8.1, r8.2, rfl, oa8', _, rfl, k' H4 (ext_refl _)⟩
  rw [mapIdx_getD acc7 fT (by rw [l7]; rfl)] at hl4
  refine ⟨len_ok (Nat.le_of_ble_eq_true rfl), fun L1 hL1 => ?_⟩
  have x5 := ext_new (o := HO.lst [V.str "a b / b a", .str "c d / d c"]) (ext_refl H4) hL1
  have pT : pl 2 (.list (fT.map .str)) = true := by decide +kernel
  refine neD_use (d := .list (fT.map .str)) (e := .list (fT.map .str)) 2 (by decide) (.lst (SqL.of (x5 _ _ hl4)) (dp_strs _)) (.lst (SqL.of upd_same) (dp_strs fT)) pT pT fun bb hbb => ?_
  obtain rfl : bb = true := hbb.mpr rfl
  have e25 := (e3.trans e4).trans x5
  generalize upd H4 L1 (.lst [V.str "a b / b a", .str "c d / d c"]) = H5 at e25
  refine ⟨_, rfl, iteF ?_⟩
  refine ⟨_, rfl, o, dx, _, rfl, e25 _ _ ho, o, fU, fL, rfl, oa.ext e25, fun A6 hA6 => ⟨len_ok (Nat.le_of_ble_eq_true rfl), fun q6 hq6 => ?_⟩⟩
  dsimp only at hA6
  rw [plc_f] at hA6
  have x6 := ext_new (o := HO.tup [V.int 1, .int 0, .int 3, .int 2]) (ext_refl H5) hq6
  refine neD_use (d := .tuple (([1, 0, 3, 2] : List Int).map .int)) (e := .tuple (([1, 0, 3, 2] : List Int).map .int)) 2 (by decide) (.tup (hA6.ext x6) (dp_ints _)) (.tup (SqT.of upd_same) (dp_ints [1, 0, 3, 2])) rfl rfl fun bb hbb => ?_
  obtain rfl : bb = true := hbb.mpr rfl
  generalize upd H5 q6 _ = H6
  refine ⟨_, rfl, iteF ?_⟩
  -- the chain
  refine ⟨rfl, "x a b c", "a b c x", rfl, by decide, by decide, by rw [spl_cU, spl_cL]; exact ro_c, fun o2 H7 e7 oa2 => ?_⟩
  rw [spl_cU, spl_cL] at oa2
  obtain ⟨dx2, a2, b2, c2, ho2, _⟩ := id oa2
  refine ⟨_, rfl, o2, dx2, _, rfl, ho2, o2, cU, cL, rfl, oa2, fun p8 acc8 H8 e8 hp8 pr8 => ?_⟩
  rw [ndl_c] at pr8
  refine ⟨len_ok (Nat.le_of_ble_eq_true rfl), fun q1 hq1 => ?_⟩
  have y1 := ext_new (o := HO.tup [V.str "a", .str "b"]) (ext_refl H8) hq1
  refine ⟨len_ok (Nat.le_of_ble_eq_true rfl), fun q2 hq2 => ?_⟩
  have y2 := ext_new (o := HO.tup [V.str "b", .str "c"]) (ext_refl _) hq2
  refine ⟨len_ok (Nat.le_of_ble_eq_true rfl), fun q3 hq3 => ?_⟩
  have y3 := ext_new (o := HO.tup [V.ref q1, .ref q2]) (ext_refl _) hq3
  have y13 := (y1.trans y2).trans y3
  have pC : pl 3 (.tuple (cN.map prD)) = true := by decide +kernel
  refine neD_use (d := .tuple (cN.map prD)) (e := .tuple (cN.map prD)) 3 (by decide) (.tup (hp8.ext y13) (PrL.dp (pr8.ext y13))) (.tup (SqT.of upd_same) (.cons (.tup (SqT.of ((y2.trans y3) _ _ upd_same)) (.cons (.str _) (.cons (.str _) .nil))) (.cons (.tup (SqT.of (y3 _ _ upd_same)) (.cons (.str _) (.cons (.str _) .nil))) .nil))) pC pC fun bb hbb => ?_
  obtain rfl : bb = true := hbb.mpr rfl
  have e79 := e8.trans y13
  generalize upd _ q3 _ = H9 at e79
  refine ⟨_, rfl, iteF ?_⟩
  refine ⟨_, rfl, o2, dx2, _, rfl, e79 _ _ ho2, rfl, o2, cU, cL, rfl, oa2.ext e79, fun x10 H10 e10 oa10 => ?_⟩
  obtain ⟨dx10, a10, b10, c10, ho10, _⟩ := id oa10
  refine ⟨x10, dx10, _, rfl, ho10, x10, _, _, rfl, oa10, _, rfl, rfl, _, rfl, ?_⟩
  rw [jnd_c, same]
  refine iteF ?_
  -- alone
  refine ⟨len_ok (Nat.le_of_ble_eq_true rfl), newT_use (K := K) fun A1 HA eA hA nA => ⟨len_ok (Nat.le_of_ble_eq_true rfl), newT_use (K := K) fun B1 HB eB hB nB => ?_⟩⟩
  dsimp only [tNil]
  refine mk_useB (K := K) (C := C) (zs := aU) (ys := aU) (hA.ext eB) hB ro_a fun o6 H11 e11 oab => ?_
  have nA2 := (nA.ext eB).ext e11
  have nB2 := nB.ext e11
  obtain ⟨dx6, c6, ho6⟩ : ∃ dx c0, H11 o6 = some (.ins C dx (ofs A1 B1 c0)) := let ⟨dx, c, q, _⟩ := oab; ⟨dx, c, q⟩
  refine ⟨_, rfl, o6, dx6, _, rfl, ho6, o6, aU, aU, rfl, oab.at, fun H12 e12 => ⟨_, rfl, _, rfl, ?_⟩⟩
  rw [who_a, if_pos (show (!false) = true from rfl)]
  refine ⟨_, rfl, o6, dx6, _, rfl, e12 _ _ ho6, rfl, o6, aU, aU, rfl, oab.at.ext e12, fun p13 acc13 H13 e13 hp13 hl13 ol13 => ?_⟩
  rw [blk_a] at hl13 ol13
  refine ⟨_, rfl, len_ok (Nat.le_of_ble_eq_true rfl), fun q14 hq14 => ?_⟩
  have x14 := ext_new (o := HO.tup [V.ref o6]) (ext_refl H13) hq14
  have e114 := (e12.trans e13).trans x14
  refine ⟨⟨p13, q14, acc13, [.ref o6], rfl, rfl, hp13.ext x14, SqT.of upd_same, hl13, fun i x y hx hy => ?_⟩, fun H15 e15 => ⟨_, rfl, ?_⟩⟩
  · obtain ⟨q8, r8, rfl, hr8, oa8⟩ := ol13.2 i x hx
    have i0 : i = 0 := by
      have := (List.getElem?_eq_some_iff.mp hr8).1
      simp at this
      omega
    subst i0
    cases hr8
    cases hy
    have oa8' := oa8.ext x14
    obtain ⟨dx8, a8, b8, c8, ho8, _⟩ := id oa8'
    exact ⟨q8, o6, dx8, dx6, _, _, rfl, rfl, ho8, e114 _ _ ho6, aU, aU, oa8', oab.at.ext e114⟩
  rw [if_pos rfl]
  have e115 := e114.trans e15
  refine ⟨_, rfl, o6, dx6, _, rfl, e115 _ _ ho6, rfl, o6, aU, aU, rfl, oab.at.ext e115, fun x16 H16 e16 oa16 => ?_⟩
  dsimp only at oa16
  rw [jnd_a] at oa16
  have e116 := e115.trans e16
  obtain ⟨dx16, a16, b16, c16, ho16, _⟩ := id oa16
  refine ⟨_, rfl, x16, dx16, _, o6, dx6, _, rfl, ho16, rfl, e116 _ _ ho6, x16, .ref o6, aU, aU, rfl, oa16, .inl ⟨o6, aU, aU, rfl, oab.at.ext e116, _, rfl, ?_⟩⟩
  rw [decide_eq_true rfl, if_pos (show (true && true) = true from rfl)]
  refine ⟨_, rfl, o6, dx6, _, rfl, e116 _ _ ho6, rfl, o6, A1, B1, aU, aU, "a", "a", rfl, oab.ext e116, nA2.ext e116, nB2.ext e116, List.mem_singleton.mpr rfl, List.mem_singleton.mpr rfl, fun H17 e17 => ⟨rfl, ?_⟩⟩
  rw [frm_a, decide_eq_true rfl]
  exact k H17
end
end My
namespace My
open PySem PySem.Spec PyProof.Rows L2
section
variable {K : PySem.W.Frag} {h : Heap} {mg : Str → Option Value}
theorem defAt_mk {x : Str} {st : Stmt} {f : Addr} {oc : Value} {od an : Option Addr} {osl : Array (Option Value)} {kV doc pm cdv ct : Value} (X : K.In h) (G : h.Ns mainGlobals mg) (a : PySem.W.nsIn K mainGlobals x = some (some (.ref f)))
    (l : K.lookup f = some ⟨oc, od, .func (PySem.W.fnOf x x (defArgs st) (defBody st) (defScope st) .none kV doc pm an cdv ct), osl⟩) (c : PySem.W.codeIn K cdv x = true) (k : PySem.W.keepIn K (.ref f) = true) : DefAt K mg x st :=
  ⟨f, _, PySem.W.mg_of X G a, fun_mk l c k⟩
theorem spT_mk {C : Addr} {x qual : Str} {st : Stmt} {f : Addr} {oc : Value} {od an : Option Addr} {osl : Array (Option Value)} {kV doc pm cdv ct : Value} (a : PySem.W.findIn K (.ref C) x = some (some (.ref f))) (i : PySem.W.isFn K (.ref f) = true)
    (l : K.lookup f = some ⟨oc, od, .func (PySem.W.fnOf x qual (defArgs st) (defBody st) (defScope st) .none kV doc pm an cdv ct), osl⟩) (c : PySem.W.codeIn K cdv qual = true) (k : PySem.W.keepIn K (.ref f) = true) : SpT K C x qual st :=
  ⟨f, _, a, i, fun_mk l c k⟩
theorem methT_mk {C : Addr} {x qual : Str} {st : Stmt} {f : Addr} {oc : Value} {od an : Option Addr} {osl : Array (Option Value)} {kV doc pm cdv ct : Value} (a : PySem.W.findIn K (.ref C) x = some (some (.ref f))) (i : PySem.W.isFn K (.ref f) = true)
    (l : K.lookup f = some ⟨oc, od, .func (PySem.W.fnOf x qual (defArgs st) (defBody st) (defScope st) .none kV doc pm an cdv ct), osl⟩) (c : PySem.W.codeIn K cdv qual = true) (k : PySem.W.keepIn K (.ref f) = true) : MethT K C x qual st :=
  ⟨f, _, ⟨a, i, k⟩, i, fun_mk l c k⟩
theorem opT_mk {C : Addr} {op : Operator} {x qual : Str} {st : Stmt} {f : Addr} {oc : Value} {od an : Option Addr} {osl : Array (Option Value)} {kV doc pm cdv ct : Value} (W : OwnOp K C op f)
    (l : K.lookup f = some ⟨oc, od, .func (PySem.W.fnOf x qual (defArgs st) (defBody st) (defScope st) .none kV doc pm an cdv ct), osl⟩) (c : PySem.W.codeIn K cdv qual = true) (k : PySem.W.keepIn K (.ref f) = true) : OpT K C op x qual st :=
  ⟨f, _, W, fun_mk l c k⟩
theorem propT_mk {C : Addr} {x qual : Str} {st : Stmt} {p g : Addr} {oc : Value} {od an : Option Addr} {osl : Array (Option Value)} {kV doc pm cdv ct : Value} (W : PropOf K C x p g)
    (l : K.lookup g = some ⟨oc, od, .func (PySem.W.fnOf x qual (defArgs st) (defBody st) (defScope st) .none kV doc pm an cdv ct), osl⟩) (c : PySem.W.codeIn K cdv qual = true) (k : PySem.W.keepIn K (.ref g) = true) : PropT K C x qual st :=
  ⟨p, g, _, W, fun_mk l c k⟩
theorem ordT_mk {C f : Addr} {oc : Value} {od an : Option Addr} {osl : Array (Option Value)} {kV doc pm cdv ct : Value} (X : K.In h) (G : h.Ns mainGlobals mg)
    (a : PySem.W.nsIn K mainGlobals "Order" = some (some (.ref C))) (pg : PySem.W.plainGet K C Str.empty = true) (hd : PySem.W.hasDictIn K C = true) (po : PySem.W.plainOver K C = true) (sa : PySem.W.findIn K (.ref C) "__setattr__" = some (some (.builtin "object.__setattr__")))
    (n1 : PySem.W.findIn K (.ref C) "_above" = some none) (n2 : PySem.W.findIn K (.ref C) "_below" = some none) (n3 : PySem.W.findIn K (.ref C) "_places" = some none)
    (mk : PySem.W.makesIn K C = true) (ai : PySem.W.findIn K (.ref C) "__init__" = some (some (.ref f))) (ii : PySem.W.isFn K (.ref f) = true) (kc : PySem.W.keepIn K (.ref C) = true)
    (l : K.lookup f = some ⟨oc, od, .func (PySem.W.fnOf "__init__" "Order.__init__" (defArgs s_oinit) (defBody s_oinit) (defScope s_oinit) .none kV doc pm an cdv ct), osl⟩) (c : PySem.W.codeIn K cdv "Order.__init__" = true) (kf : PySem.W.keepIn K (.ref f) = true) : OrdT K mg C :=
  ⟨PySem.W.mg_of X G a, ⟨pg, hd, po, sa⟩, n1, n2, n3, ⟨f, _, ⟨mk, ai, ii, kc⟩, fun_mk l c kf⟩⟩
theorem readT_mk {C p g : Addr} {oc : Value} {od an : Option Addr} {osl : Array (Option Value)} {kV doc pm cdv ct : Value}
    (rd : PySem.W.readsIn K C (.type "type") = true) (ga : PySem.W.specialIn K (.ref C) "__getattribute__" = some (some (.builtin "type.__getattribute__"))) (at_ : PySem.W.findCls K (.ref C) (.type "type") "read" = some (.get (.builtin "classmethod.__get__") (.ref p) .none (.ref C)))
    (rc : ∃ rest, PySem.W.recIn K p "classmethod" = some (.ref g :: rest)) (fi : PySem.W.fnIn K g = true)
    (l : K.lookup g = some ⟨oc, od, .func (PySem.W.fnOf "read" "Order.read" (defArgs s_oread) (defBody s_oread) (defScope s_oread) .none kV doc pm an cdv ct), osl⟩) (c : PySem.W.codeIn K cdv "Order.read" = true) (kf : PySem.W.keepIn K (.ref g) = true) : ReadT K C :=
  ⟨.type "type", p, g, _, ⟨rd, ga⟩, ⟨at_, rc, fi⟩, fun_mk l c kf⟩
end
end My
namespace My
open PySem PySem.Spec PyProof.Rows L2
theorem mk_OrdC {K : PySem.W.Frag} {h : Heap} {mg : Str → Option Value} {tk0 : Tok} (X : K.In h) (G : h.Ns mainGlobals mg) (h0 : PySem.W.nsIn K mainGlobals "MAX_NAMES" = some (some (.int 40 tk0))) : OrdC mg := ⟨⟨_, PySem.W.mg_of X G h0⟩⟩
theorem mk_WordC {K : PySem.W.Frag} {h : Heap} {mg : Str → Option Value} {tk0 : Tok} {tk1 : Tok} {z0 : Str} (X : K.In h) (G : h.Ns mainGlobals mg) (h0 : PySem.W.nsIn K mainGlobals "LETTERS" = some (some (.str z0 tk0))) (e0 : z0 = letS) (h1 : PySem.W.nsIn K mainGlobals "MAX_LETTERS" = some (some (.int 8 tk1))) : WordC mg := ⟨⟨_, e0 ▸ PySem.W.mg_of X G h0⟩, ⟨_, PySem.W.mg_of X G h1⟩⟩
/-- all that the top has made, as the law needs it -/
structure Facts (K : PySem.W.Frag) (mg : Str → Option Value) (C : Addr) : Prop where
  T : Bn mg
  f1 : OrdT K mg C
  d_law : DefAt K mg "law" s_law
  d__law_dice : DefAt K mg "_law_dice" s_dice
  d__law_right : DefAt K mg "_law_right" s_lright
  d__law_roll : DefAt K mg "_law_roll" s_roll
  d__law_mixed : DefAt K mg "_law_mixed" s_lmixed
  d__law_any_rows : DefAt K mg "_law_any_rows" s_lany
  d__law_names_drawn : DefAt K mg "_law_names_drawn" s_lnames
  d__law_blocks : DefAt K mg "_law_blocks" s_lblk
  d__law_needless : DefAt K mg "_law_needless" s_lndl
  d__law_form : DefAt K mg "_law_form" s_lform
  f12 : OrdF K C
  d__law_has : DefAt K mg "_law_has" s_lhas
  f14 : OrdC mg
  d__are_rows : DefAt K mg "_are_rows" s_rows
  d_are_names : DefAt K mg "are_names" s_arenames
  f17 : WordC mg
  d_is_name : DefAt K mg "is_name" s_isname
  d__are_different : DefAt K mg "_are_different" s_difd
  f20 : PropT K C "above" "Order.above" s_oabove
  f21 : PropT K C "below" "Order.below" s_obelow
  f22 : SpT K C "__eq__" "Order.__eq__" s_oeq
  f23 : OrdI K C
  f24 : NEqT K C
  f25 : ReadT K C
  f26 : PropT K C "places" "Order.places" s_oplaces
  f27 : PropT K C "names" "Order.names" s_onames
  f28 : PropT K C "many" "Order.many" s_omany
  f29 : PropT K C "is_whole" "Order.is_whole" s_owhole
  d_block_ends : DefAt K mg "block_ends" s_bends
  f31 : PropT K C "needless" "Order.needless" s_oneedless
  f32 : SpT K C "__str__" "Order.__str__" s_ostr
  f33 : SpT K C "__len__" "Order.__len__" s_olen
  f34 : SpT K C "__contains__" "Order.__contains__" s_ocont
  f35 : mg "iter" = none
  f36 : SpT K C "__iter__" "Order.__iter__" s_oiter
  f37 : MethT K C "blocks" "Order.blocks" s_oblocks
  f38 : MethT K C "inverse" "Order.inverse" s_oinverse
  f39 : MethT K C "backwards" "Order.backwards" s_oback
  f40 : MethT K C "joined" "Order.joined" s_ojoined
  f41 : MethT K C "form" "Order.form" s_oform
  f42 : MethT K C "renamed" "Order.renamed" s_oren
  d__is_renaming : DefAt K mg "_is_renaming" s_isren
theorem law_binds {K : PySem.W.Frag} {fa : Addr} {fd : FuncData} (F : Fun K "law" "law" s_law fa fd) (s : Shared) (u : Value) : BindsTo s fd ⟨[u], []⟩ [("_law_script", u)] := by
  obtain ⟨oc, od, kV, doc, pm, an, cdv, ct, osl, rfl, lk, hcd⟩ := F.ex
  exact .of_eq rfl
theorem final {K : PySem.W.Frag} {h : Heap} {mg : Str → Option Value} {C fa : Addr} {P : Program} {w : World} (KX : K.In h) (G : h.Ns mainGlobals mg) (hmg : mg "law" = some (.ref fa)) (F : Facts K mg C) :
    ∃ fd : FuncData, (∀ (s : Shared) (u : Value), BindsTo s fd ⟨[u], []⟩ [("_law_script", u)]) ∧ ∀ base : Heap, K.In base → base.Ns mainGlobals mg → FnOk P w K mg base CX0 10 fa fd ["_law_script"] (spLaw K) := by
  obtain ⟨f, fd, hm, D⟩ := F.d_law.ex
  have ef : f = fa := by
    have := hm.symm.trans hmg
    cases this
    rfl
  subst ef
  refine ⟨fd, law_binds D, fun base _ _ => ?_⟩
  have a_dice : FnAt P w K mg base 1 "_law_dice" ["_law_script", "_law_spot"] (spDice K) := ok_dice F.T F.d__law_dice
  have a_roll : FnAt P w K mg base 1 "_law_roll" ["_law_dice_here", "_law_total"] spRoll := ok_roll F.T F.d__law_roll
  have a_lmixed : FnAt P w K mg base 2 "_law_mixed" ["_law_dice_here", "_law_items"] (spLMix K) := ok_lmixed F.T F.d__law_mixed a_roll
  have a_lnames : FnAt P w K mg base 3 "_law_names_drawn" ["_law_dice_here", "_law_times"] spLNames := ok_lnames F.T F.d__law_names_drawn a_lmixed
  have a_lany : FnAt P w K mg base 4 "_law_any_rows" ["_law_dice_here", "_law_most"] spLAny := ok_lany F.T F.d__law_any_rows a_roll a_lmixed a_lnames
  have a_lblk : FnAt P w K mg base 1 "_law_blocks" ["_law_upper", "_law_lower"] (spLBlk K) := ok_lblk F.T F.d__law_blocks
  have a_lndl : FnAt P w K mg base 1 "_law_needless" ["_law_upper", "_law_lower"] (spLNdl K) := ok_lndl F.T F.d__law_needless
  have a_lform : FnAt P w K mg base 1 "_law_form" ["_law_upper", "_law_lower", "_law_one", "_law_other"] (spLForm K) := ok_lform F.T F.d__law_form
  have a_isname : FnAt P w K mg base 1 "is_name" ["value"] (spNm K) := ok_isname F.T F.f17 F.d_is_name
  have a_arenames : FnAt P w K mg base 2 "are_names" ["value"] (spNms K) := ok_arenames F.T F.d_are_names a_isname
  have a_difd : FnAt P w K mg base 3 "_are_different" ["names"] (spDif K) := ok_difd F.T F.d__are_different a_arenames
  have a_rows : FnAt P w K mg base 4 "_are_rows" ["upper", "lower"] (spRows K) := ok_rows F.T F.f14 F.d__are_rows a_arenames a_difd
  have a_oinit : OInitAt P w K mg base 5 C (spOInit K C) := ok_oinit F.T F.f1 a_rows
  have a_oabove : PropAt P w K mg base 1 C "above" (spGetT K C fun zs _ => zs.map V.str) := ok_oabove F.f20 F.f1
  have a_obelow : PropAt P w K mg base 1 C "below" (spGetT K C fun _ ys => ys.map V.str) := ok_obelow F.f21 F.f1
  have a_oeq : SpAt P w K mg base 1 C "__eq__" ["self", "other"] (spOEq K C) := ok_oeq F.T F.f22 F.f1 F.f23
  have a_one : NeAt P w K mg base 1 C (spOEq K C) := ok_one F.f24 a_oeq
  have a_lhas : FnAt P w K mg base 8 "_law_has" ["_law_order", "_law_upper", "_law_lower"] (spLHas K C) := ok_lhas F.T F.f1 F.f12 F.d__law_has a_oinit a_oabove a_obelow a_oeq a_one
  have a_oread : ReadAt P w K mg base 7 C (spORead K C) := ok_oread F.T F.f25 a_oinit
  have a_oplaces : PropAt P w K mg base 1 C "places" (spGetT K C fun zs ys => (plc zs ys).map V.int) := ok_oplaces F.f26 F.f1
  have a_onames : PropAt P w K mg base 1 C "names" (spNames K C) := ok_onames F.T F.f27 F.f1
  have a_omany : PropAt P w K mg base 1 C "many" (spGetN K C) := ok_omany F.T F.f28 F.f1
  have a_bends : FnAt P w K mg base 1 "block_ends" ["places"] (spBend K) := ok_bends F.T F.d_block_ends
  have a_owhole : PropAt P w K mg base 2 C "is_whole" (spWhole K C) := ok_owhole F.T F.f29 F.f1 a_bends
  have a_oneedless : PropAt P w K mg base 1 C "needless" (spNeedless K C) := ok_oneedless F.T F.f31 F.f1
  have a_ostr : SpAt P w K mg base 2 C "__str__" ["self"] (spOStr K C) := ok_ostr F.f32 F.f1
  have a_olen : SpAt P w K mg base 1 C "__len__" ["self"] (spGetN K C) := ok_olen F.T F.f33 F.f1
  have a_ocont : SpAt P w K mg base 2 C "__contains__" ["self", "value"] (spOCont K C) := ok_ocont F.f34 F.f1
  have a_oiter : ItrAt P w K mg base 1 C (spItr K C) := ok_oiter F.f35 F.f36 F.f1
  have a_oblocks : MethAt P w K mg base 7 C "blocks" ["self"] (spOBlk K C) := ok_oblocks F.T F.f37 F.f1 a_oinit a_bends
  have a_oinverse : MethAt P w K mg base 7 C "inverse" ["self"] (spOrd K C (fun _ ys => ys) (fun zs _ => zs)) := ok_oinverse F.f38 F.f1 a_oinit
  have a_oback : MethAt P w K mg base 7 C "backwards" ["self"] (spOrd K C (fun zs _ => zs.reverse) (fun _ ys => ys.reverse)) := ok_oback F.f39 F.f1 a_oinit
  have a_ojoined : MethAt P w K mg base 7 C "joined" ["self"] (spOrd K C (fun zs ys => jnd zs ys zs) (fun zs ys => jnd zs ys ys)) := ok_ojoined F.T F.f40 F.f1 a_oinit a_oneedless
  have a_oform : MethAt P w K mg base 2 C "form" ["self", "one", "other"] (spOForm K C) := ok_oform F.T F.f41 F.f1
  have a_isren : FnAt P w K mg base 4 "_is_renaming" ["names", "value"] (spIsRen K) := ok_isren F.T F.d__is_renaming a_difd
  have a_oren : MethAt P w K mg base 7 C "renamed" ["self", "names"] (spORen K C) := ok_oren F.T F.f1 F.f42 a_oinit a_isren
  have a_lright : FnAt P w K mg base 9 "_law_right" ["_law_dice_here"] spLRight := ok_lright F.T F.f1 F.d__law_right a_roll a_lmixed a_lany a_lblk a_lndl a_lform a_lhas a_oinit a_oread a_oabove a_obelow a_oplaces a_onames a_omany a_owhole a_oneedless a_oeq a_one a_ostr a_olen a_ocont a_oiter a_oblocks a_oinverse a_oback a_ojoined a_oform a_oren
  exact ok_law F.T F.f1 D a_dice a_lright a_oinit a_oread a_oplaces a_owhole a_oneedless a_oeq a_ostr a_oblocks a_ojoined a_oform
end My
open PySem PySem.W PyProof.Rows
set_option maxHeartbeats 0 in
theorem PySem.Challenge.cw_pieceround_k06_orders_told_holds : PySem.Challenge.rw_pieceround_k06_orders_told.Holds := by
  w_on; o_law; k_head; (case hw => w_witness2)
  k_fill
  refine L2.walk_ofK (CX := L2.CX0) (l := PySem.Challenge.rw_pieceround_k06_orders_told) (n := 63) (k := 10) (x := "_law_script") (sp := fun K => My.spLaw K) rfl (by decide) rfl ⟨rfl, by decide, by decide⟩ (fun w h Y => PySem.W.kIn_of Y) ?F ?S ?CX
  case CX => exact fun _ _ _ _ h => h
  case S => exact fun K H a ns hl hO hS => ⟨a, ns, rfl, hS, hl, fun _ => rfl⟩
  case F =>
    intro w mg fa h KX G hmg
    refine My.final (C := ?nC) KX G hmg ?FF
    case FF =>
      have T : My.Bn mg := by constructor <;> exact PySem.W.mg_none_of KX G (by k_is)
      refine { T := T, f1 := ?f1, d_law := ?d_law, d__law_dice := ?d__law_dice, d__law_right := ?d__law_right, d__law_roll := ?d__law_roll, d__law_mixed := ?d__law_mixed, d__law_any_rows := ?d__law_any_rows, d__law_names_drawn := ?d__law_names_drawn, d__law_blocks := ?d__law_blocks, d__law_needless := ?d__law_needless, d__law_form := ?d__law_form, f12 := ?f12, d__law_has := ?d__law_has, f14 := ?f14, d__are_rows := ?d__are_rows, d_are_names := ?d_are_names, f17 := ?f17, d_is_name := ?d_is_name, d__are_different := ?d__are_different, f20 := ?f20, f21 := ?f21, f22 := ?f22, f23 := ?f23, f24 := ?f24, f25 := ?f25, f26 := ?f26, f27 := ?f27, f28 := ?f28, f29 := ?f29, d_block_ends := ?d_block_ends, f31 := ?f31, f32 := ?f32, f33 := ?f33, f34 := ?f34, f35 := ?f35, f36 := ?f36, f37 := ?f37, f38 := ?f38, f39 := ?f39, f40 := ?f40, f41 := ?f41, f42 := ?f42, d__is_renaming := ?d__is_renaming }
      case f1 =>
        refine' My.ordT_mk KX G ?qo1 ?qo2 ?qo3 ?qo4 ?qo5 ?qo6 ?qo7 ?qo8 ?qo9 ?qo10 ?qo11 ?qo12 ?qo13 ?qo14 ?qo15
        case qo1 => k_is
        case qo2 => k_is
        case qo3 => k_is
        case qo4 => k_is
        case qo5 => k_is
        case qo6 => k_is
        case qo7 => k_is
        case qo8 => k_is
        case qo9 => k_is
        case qo10 => k_is
        case qo11 => k_is
        case qo12 => k_is
        case qo13 => k_is
        case qo14 => k_is
        case qo15 => k_is
      case d_law => (refine' My.defAt_mk (by assumption) (by assumption) ?qda ?qdl ?qdc ?qdk; (case qda => k_is); (case qdl => k_is); (case qdc => k_is); (case qdk => k_is))
      case d__law_dice => (refine' My.defAt_mk (by assumption) (by assumption) ?qda ?qdl ?qdc ?qdk; (case qda => k_is); (case qdl => k_is); (case qdc => k_is); (case qdk => k_is))
      case d__law_right => (refine' My.defAt_mk (by assumption) (by assumption) ?qda ?qdl ?qdc ?qdk; (case qda => k_is); (case qdl => k_is); (case qdc => k_is); (case qdk => k_is))
      case d__law_roll => (refine' My.defAt_mk (by assumption) (by assumption) ?qda ?qdl ?qdc ?qdk; (case qda => k_is); (case qdl => k_is); (case qdc => k_is); (case qdk => k_is))
      case d__law_mixed => (refine' My.defAt_mk (by assumption) (by assumption) ?qda ?qdl ?qdc ?qdk; (case qda => k_is); (case qdl => k_is); (case qdc => k_is); (case qdk => k_is))
      case d__law_any_rows => (refine' My.defAt_mk (by assumption) (by assumption) ?qda ?qdl ?qdc ?qdk; (case qda => k_is); (case qdl => k_is); (case qdc => k_is); (case qdk => k_is))
      case d__law_names_drawn => (refine' My.defAt_mk (by assumption) (by assumption) ?qda ?qdl ?qdc ?qdk; (case qda => k_is); (case qdl => k_is); (case qdc => k_is); (case qdk => k_is))
      case d__law_blocks => (refine' My.defAt_mk (by assumption) (by assumption) ?qda ?qdl ?qdc ?qdk; (case qda => k_is); (case qdl => k_is); (case qdc => k_is); (case qdk => k_is))
      case d__law_needless => (refine' My.defAt_mk (by assumption) (by assumption) ?qda ?qdl ?qdc ?qdk; (case qda => k_is); (case qdl => k_is); (case qdc => k_is); (case qdk => k_is))
      case d__law_form => (refine' My.defAt_mk (by assumption) (by assumption) ?qda ?qdl ?qdc ?qdk; (case qda => k_is); (case qdl => k_is); (case qdc => k_is); (case qdk => k_is))
      case f12 => constructor <;> first | kit_is | k_is
      case d__law_has => (refine' My.defAt_mk (by assumption) (by assumption) ?qda ?qdl ?qdc ?qdk; (case qda => k_is); (case qdl => k_is); (case qdc => k_is); (case qdk => k_is))
      case f14 =>
        refine' My.mk_OrdC KX G ?qch0
        case qch0 => k_is
      case d__are_rows => (refine' My.defAt_mk (by assumption) (by assumption) ?qda ?qdl ?qdc ?qdk; (case qda => k_is); (case qdl => k_is); (case qdc => k_is); (case qdk => k_is))
      case d_are_names => (refine' My.defAt_mk (by assumption) (by assumption) ?qda ?qdl ?qdc ?qdk; (case qda => k_is); (case qdl => k_is); (case qdc => k_is); (case qdk => k_is))
      case f17 =>
        refine' My.mk_WordC KX G ?qch0 ?qce0 ?qch1
        case qch0 => k_is
        case qce0 => decide
        case qch1 => k_is
      case d_is_name => (refine' My.defAt_mk (by assumption) (by assumption) ?qda ?qdl ?qdc ?qdk; (case qda => k_is); (case qdl => k_is); (case qdc => k_is); (case qdk => k_is))
      case d__are_different => (refine' My.defAt_mk (by assumption) (by assumption) ?qda ?qdl ?qdc ?qdk; (case qda => k_is); (case qdl => k_is); (case qdc => k_is); (case qdk => k_is))
      case f20 => (refine' My.propT_mk ⟨?qpa, ?qpg, ?qpt, ?qpr⟩ ?qpl ?qpc ?qpk; (case qpa => k_is); (case qpg => k_is); (case qpt => k_is); (case qpr => exact ⟨_, by k_is⟩); (case qpl => k_is); (case qpc => k_is); (case qpk => k_is))
      case f21 => (refine' My.propT_mk ⟨?qpa, ?qpg, ?qpt, ?qpr⟩ ?qpl ?qpc ?qpk; (case qpa => k_is); (case qpg => k_is); (case qpt => k_is); (case qpr => exact ⟨_, by k_is⟩); (case qpl => k_is); (case qpc => k_is); (case qpk => k_is))
      case f22 => (refine' My.spT_mk ?qsa ?qsi ?qsl ?qsc ?qsk; (case qsa => k_is); (case qsi => k_is); (case qsl => k_is); (case qsc => k_is); (case qsk => k_is))
      case f23 => constructor <;> first | kit_is | k_is
      case f24 =>
        refine' My.NEqT.mk (My.neK_mk ?qn1 ?qne ?qn2 ?qne2 ?qn3 ?qn4 ?qn5 ?qnf)
        case qn1 => k_is
        case qne => exact rfl
        case qn2 => k_is
        case qne2 => exact rfl
        case qn3 => k_is
        case qn4 => k_is
        case qn5 => k_is
        case qnf => k_is
      case f25 =>
        refine' My.readT_mk ?qr1 ?qr2 ?qr3 ?qr4 ?qr5 ?qr6 ?qr7 ?qr8
        case qr3 => k_is
        case qr1 => k_is
        case qr2 => k_is
        case qr4 => exact ⟨_, by k_is⟩
        case qr5 => k_is
        case qr6 => k_is
        case qr7 => k_is
        case qr8 => k_is
      case f26 => (refine' My.propT_mk ⟨?qpa, ?qpg, ?qpt, ?qpr⟩ ?qpl ?qpc ?qpk; (case qpa => k_is); (case qpg => k_is); (case qpt => k_is); (case qpr => exact ⟨_, by k_is⟩); (case qpl => k_is); (case qpc => k_is); (case qpk => k_is))
      case f27 => (refine' My.propT_mk ⟨?qpa, ?qpg, ?qpt, ?qpr⟩ ?qpl ?qpc ?qpk; (case qpa => k_is); (case qpg => k_is); (case qpt => k_is); (case qpr => exact ⟨_, by k_is⟩); (case qpl => k_is); (case qpc => k_is); (case qpk => k_is))
      case f28 => (refine' My.propT_mk ⟨?qpa, ?qpg, ?qpt, ?qpr⟩ ?qpl ?qpc ?qpk; (case qpa => k_is); (case qpg => k_is); (case qpt => k_is); (case qpr => exact ⟨_, by k_is⟩); (case qpl => k_is); (case qpc => k_is); (case qpk => k_is))
      case f29 => (refine' My.propT_mk ⟨?qpa, ?qpg, ?qpt, ?qpr⟩ ?qpl ?qpc ?qpk; (case qpa => k_is); (case qpg => k_is); (case qpt => k_is); (case qpr => exact ⟨_, by k_is⟩); (case qpl => k_is); (case qpc => k_is); (case qpk => k_is))
      case d_block_ends => (refine' My.defAt_mk (by assumption) (by assumption) ?qda ?qdl ?qdc ?qdk; (case qda => k_is); (case qdl => k_is); (case qdc => k_is); (case qdk => k_is))
      case f31 => (refine' My.propT_mk ⟨?qpa, ?qpg, ?qpt, ?qpr⟩ ?qpl ?qpc ?qpk; (case qpa => k_is); (case qpg => k_is); (case qpt => k_is); (case qpr => exact ⟨_, by k_is⟩); (case qpl => k_is); (case qpc => k_is); (case qpk => k_is))
      case f32 => (refine' My.spT_mk ?qsa ?qsi ?qsl ?qsc ?qsk; (case qsa => k_is); (case qsi => k_is); (case qsl => k_is); (case qsc => k_is); (case qsk => k_is))
      case f33 => (refine' My.spT_mk ?qsa ?qsi ?qsl ?qsc ?qsk; (case qsa => k_is); (case qsi => k_is); (case qsl => k_is); (case qsc => k_is); (case qsk => k_is))
      case f34 => (refine' My.spT_mk ?qsa ?qsi ?qsl ?qsc ?qsk; (case qsa => k_is); (case qsi => k_is); (case qsl => k_is); (case qsc => k_is); (case qsk => k_is))
      case f35 => exact PySem.W.mg_none_of KX G (by k_is)
      case f36 => (refine' My.spT_mk ?qsa ?qsi ?qsl ?qsc ?qsk; (case qsa => k_is); (case qsi => k_is); (case qsl => k_is); (case qsc => k_is); (case qsk => k_is))
      case f37 => (refine' My.methT_mk ?qma ?qmi ?qml ?qmc ?qmk; (case qma => k_is); (case qmi => k_is); (case qml => k_is); (case qmc => k_is); (case qmk => k_is))
      case f38 => (refine' My.methT_mk ?qma ?qmi ?qml ?qmc ?qmk; (case qma => k_is); (case qmi => k_is); (case qml => k_is); (case qmc => k_is); (case qmk => k_is))
      case f39 => (refine' My.methT_mk ?qma ?qmi ?qml ?qmc ?qmk; (case qma => k_is); (case qmi => k_is); (case qml => k_is); (case qmc => k_is); (case qmk => k_is))
      case f40 => (refine' My.methT_mk ?qma ?qmi ?qml ?qmc ?qmk; (case qma => k_is); (case qmi => k_is); (case qml => k_is); (case qmc => k_is); (case qmk => k_is))
      case f41 => (refine' My.methT_mk ?qma ?qmi ?qml ?qmc ?qmk; (case qma => k_is); (case qmi => k_is); (case qml => k_is); (case qmc => k_is); (case qmk => k_is))
      case f42 => (refine' My.methT_mk ?qma ?qmi ?qml ?qmc ?qmk; (case qma => k_is); (case qmi => k_is); (case qml => k_is); (case qmc => k_is); (case qmk => k_is))
      case d__is_renaming => (refine' My.defAt_mk (by assumption) (by assumption) ?qda ?qdl ?qdc ?qdk; (case qda => k_is); (case qdl => k_is); (case qdc => k_is); (case qdk => k_is))
