import PyProof.Rows.All
import Wide.All
import OpenK.AllK
import Wide.FinOn
import HandS.ForMost
import HandS.Wide
import HandS.Gcd
import HandS.Property
import HandS.MakeKwOnly
import HandS.IsInst
import HandS.OwnEq
import HandS.Evl
import KE.KOpsOwn
import KE.KMathG
import PyProof.InstNe
import PyProof.ReprRoads
import HandS.Lambda
import HandS.WideBits
import KE.OsRunLaw
import HandS.ClsMeth
import HandS.Strs
import HandS.SetBool
import HandS.Zip
import HandS.Iter
import HandS.SetFor
import HandS.Dict
import KE.KDictZip
import HandS.Walk
import HandS.SetKeys
import PyProof.Rows.SetFrom
import PyProof.WalksMore
import PyProof.Rows.PlainNe
import HandS.RaiseMore
import PyProof.Rows.SortStr
import PyProof.Draws
import PyProof.EnumMake
import HandS.DictComp
import HandS.Codes
import HandS.List
import HandS.Style
import HandS.TupAny
import KE.KDictList
import HandS.Zip0
import HandS.Conv
import HandS.Sort
import HandS.IterNext
import HandS.IterVal
import KE.KOwnIter
import HandS.FStr
import PyProof.FString3
import PyProof.Rows.StrIntSpec
import KE.KCallOwn
import OpenK.KOps
import OpenK.KMeth
import HandS.OwnIter
import HandS.Text
import PyProof.SeqRoads2
import PyProof.EqKinds
import KE.KEqDict
import HandS.DictEq
import HandS.Star
import HandS.Ends
import PySem.Challenge.RW_pieceround_k08_whole_forms_and_shifts
set_option Elab.async false
set_option exponentiation.threshold 20000
set_option linter.all false
set_option maxHeartbeats 4000000
set_option maxRecDepth 100000
namespace My
open PySem PySem.Spec PyProof.Rows L2
theorem cmpBack_of {P : Value → Shared → Prop} {z : V} {w : Value} {s : Shared} (r : RelV z w) (h : P w s) : PySem.W.CmpBack P w s := by
  cases z with
  | non => cases r; exact h
  | bl _ => cases r; exact h
  | int _ => obtain ⟨t, rfl⟩ := r; exact h
  | str _ => obtain ⟨t, rfl⟩ := r; exact h
  | byt _ => obtain ⟨t, rfl⟩ := r; exact h
  | flt _ => obtain ⟨t, rfl⟩ := r; exact h
  | ref _ => cases r; exact h
  | ty _ => cases r; exact h
/-- the class at C has the def at f as its operator -/
structure OwnOp (K : PySem.W.Frag) (C : Addr) (op : Operator) (f : Addr) : Prop where
  sf : PySem.W.selfFirst K C = true
  at_ : PySem.W.findIn K (.ref C) (PySem.dunder op.info.2) = some (some (.ref f))
  fn : PySem.W.isFn K (.ref f) = true
  rr : PySem.W.findIn K (.ref C) (dunderR op.info.2) = some none
  i1 : ∃ fo, PySem.W.findIn K (.type "int") (PySem.dunder op.info.2) = some fo
  i2 : ∃ ro, PySem.W.findIn K (.type "int") (dunderR op.info.2) = some ro
  sub : PySem.W.subIn K (.type "int") (.ref C) = some false
/-- x op y, x an instance, y an instance or an int -/
def rOwn (C : Addr) (sp : Sp) (E : XK) : R2 := fun x y H Q => ∃ a dx fs, x = .ref a ∧ H a = some (.ins C dx fs) ∧ ((∃ i, y = .int i) ∨ ∃ b dy gs, y = .ref b ∧ H b = some (.ins C dy gs)) ∧ sp [.ref a, y] H Q E
section
variable {X : Cx} {CX : CXT} {k : Nat} {f C : Addr} {fd : FuncData} {ps : List Str} {sp : Sp} {E : XK} {op : Operator}
theorem op_own (W : OwnOp X.K C op f) (F : FnOk X.prog X.w X.K X.mg X.base CX k f fd ps sp) (hr : Room k X.A) (hb : Binds X.K fd ps []) (hx : Passes CX X E) : OpR X (binaryOp op) (rOwn C sp E) := by
  intro pins s σ H x y v u Q I rx ry hq
  obtain ⟨a, dx, fs, rfl, ea, hy, hsp⟩ := hq
  cases rx
  obtain ⟨mA, O, _⟩ := ins_get I.hok ea
  obtain ⟨od, J, _⟩ := O.look
  obtain ⟨m, hF⟩ := I.fr
  have hcall : wpAny (model X.prog X.w) X.A (call (.ref f) [.ref a, u]) (PySem.W.CmpBack (EP X pins σ Q)) X.xe s := by
    refine wpAny_mono (run_fn (us := [.ref a, u]) (vs := [.ref a, y]) (dvs := []) (ds := []) F hr hb .nil hx I (.cons rfl (.cons ry .nil)) hsp) (fun w s' hw => ?_) fun _ _ e => e
    obtain ⟨z, H', I', rz, q⟩ := hw
    exact cmpBack_of rz ⟨z, H', I', rz, q⟩
  rcases hy with ⟨i, rfl⟩ | ⟨b, dy, gs, rfl, eb⟩
  · obtain ⟨t, rfl⟩ := ry
    obtain ⟨fo, h1⟩ := W.i1
    obtain ⟨ro, h2⟩ := W.i2
    exact PySem.W.ksp_binT (T := "int") hF I.ok.mod.kin J (by rfl) W.sf W.at_ W.fn W.rr (.inl rfl) h1 h2 W.sub hcall
  · cases ry
    obtain ⟨mB, O', _⟩ := ins_get I.hok eb
    obtain ⟨od', J', _⟩ := O'.look
    exact PySem.W.binop_K hF I.ok.mod.kin J J'.type W.sf W.at_ W.fn hcall
/-- x == y of two instances, by the class's own def, whatever the answer -/
def rOwnEq (C : Addr) (sp : Sp) (E : XK) : R2 := fun x y H Q => ∃ a dx fs b dy gs, x = .ref a ∧ H a = some (.ins C dx fs) ∧ y = .ref b ∧ H b = some (.ins C dy gs) ∧ sp [.ref a, .ref b] H Q E
theorem op_ownEq (hs : PySem.W.findIn X.K (.ref C) "__eq__" = some (some (.ref f))) (hf : PySem.W.isFn X.K (.ref f) = true) (F : FnOk X.prog X.w X.K X.mg X.base CX k f fd ps sp) (hr : Room k X.A) (hb : Binds X.K fd ps []) (hx : Passes CX X E) : OpR X (compareOp .Eq) (rOwnEq C sp E) := by
  intro pins s σ H x y v u Q I rx ry hq
  obtain ⟨a, dx, fs, b, dy, gs, rfl, ea, rfl, eb, hsp⟩ := hq
  cases rx
  cases ry
  obtain ⟨mA, O, _⟩ := ins_get I.hok ea
  obtain ⟨od, J, _⟩ := O.look
  obtain ⟨mB, O', _⟩ := ins_get I.hok eb
  obtain ⟨od', J', _⟩ := O'.look
  obtain ⟨m, hF⟩ := I.fr
  show wpAny (model X.prog X.w) X.A (richCompare .Eq (.ref a) (.ref b)) (EP X pins σ Q) X.xe s
  refine PySem.W.cmp_K (op := .Eq) (tb := .ref C) hr.units0 hF I.ok.mod.kin J J'.type (by simp [PySem.W.notFirst]) hs hf ?_
  refine wpAny_mono (run_fn (us := [.ref a, .ref b]) (vs := [.ref a, .ref b]) (dvs := []) (ds := []) F hr hb .nil hx I (.cons rfl (.cons rfl .nil)) hsp) (fun w s' hw => ?_) fun _ _ e => e
  obtain ⟨z, H', I', rz, q⟩ := hw
  exact cmpBack_of rz ⟨z, H', I', rz, q⟩
end
theorem args_gcd3 (a b c : Value) : argsOk "math.gcd" ⟨[a, b, c], []⟩ := by unfold argsOk; kernel_rfl
theorem run_gcd3 (a : Int) (t : Tok) (b : Int) (u : Tok) (c : Int) (w : Tok) :
    Gives (Builtin.«math.gcd» ⟨[.int a t, .int b u, .int c w], []⟩) (.int ((((((Nat.gcd 0 a.natAbs).gcd b.natAbs).gcd c.natAbs) : Nat) : Int))) :=
  .of_wp fun M A E s Q h => by obtain ⟨hp, g, d, tk, os⟩ := s; wp_walk; exact ⟨_, rfl, h⟩
def rGcd3 : List V → Hp → VK → Prop := fun vs H Q => ∃ a b c : Int, vs = [.int a, .int b, .int c] ∧ Q (.int ((Nat.gcd (Nat.gcd a.natAbs b.natAbs) c.natAbs : Nat) : Int)) H
section
variable {X : Cx}
theorem cr_gcd3 : CallR X (.builtin "math.gcd") rGcd3 := by
  intro pins s σ H vs us Q I r h
  obtain ⟨a, b, c, rfl, q⟩ := h
  cases r with
  | cons r1 r => cases r with
    | cons r2 r => cases r with
      | cons r3 r =>
        cases r
        obtain ⟨t1, rfl⟩ := r1
        obtain ⟨t2, rfl⟩ := r2
        obtain ⟨t3, rfl⟩ := r3
        have g := run_gcd3 a t1 b t2 c t3
        rw [Nat.gcd_zero_left] at g
        exact call_function_meets PySem.W.MGF.kind_gcd PySem.W.MGF.plain_gcd PySem.W.MGF.entry_gcd (args_gcd3 _ _ _) g.meets ⟨.int _, H, I.tok _, ⟨_, rfl⟩, q⟩
end
end My
namespace My
open PySem PySem.Spec PyProof.Rows L2
structure FnG (P : Program) (w : World) (K : PySem.W.Frag) (mg : Str → Option Value) (base : Heap) (CX : CXT) (k : Nat) (f : Addr) (fd : FuncData) (ps : List Str) (sp : Sp) : Prop where
  size : ∀ vs H Q E, sp vs H Q E → vs.length = ps.length
  go : ∀ (A : Around) (outer : List Env) (s : Shared) (H : Hp) (args : Args) (us : List Value) (vs : List V) (Q : VK) (E : XK), A.guards = some [] → Room k A → Env0 P w K mg base A outer s H → BindsTo s fd args (ps.zip us) → Vals vs us → sp vs H Q E →
    codeAny (model P w) A (.call (.ref f) args) (CR CX outer P w H s Q E) s
theorem FnG.mono {P : Program} {w : World} {K : PySem.W.Frag} {mg : Str → Option Value} {base : Heap} {CX : CXT} {j k : Nat} {f : Addr} {fd : FuncData} {ps : List Str} {sp : Sp} (F : FnG P w K mg base CX j f fd ps sp) (h : j ≤ k) : FnG P w K mg base CX k f fd ps sp :=
  ⟨F.size, fun A outer s H args us vs Q E g hr => F.go A outer s H args us vs Q E g (hr.mono h)⟩
def DiceO (a : Addr) : HO := .ext fun h => ∃ (l s c : Int) (t1 t2 t3 : Tok) (n : Nat), h.get? a = some { cls := .type "list", data := .seq #[.int l t1, .int s t2, .int c t3] n }
def d3 (l s c : Int) : HO := .lst [.int l, .int s, .int c]
section
variable {X : Cx} {pins : List (Addr × Obj)} {σ : L2.St} {H : Hp} {s : Shared} {a : Addr} {o : HO}
theorem recast (I : Inv X pins σ H s) (hm : Mut (H a)) (ex : ∃ u, s.heap.get? a = some u) (new : ObjOk X.prog X.w (upd H a o) s.heap a o) : Inv X pins σ (upd H a o) s := by
  obtain ⟨hp, g, d, t, os⟩ := s
  exact I.write (h' := hp) (t' := t) (x := a) (e := a) hm (.inl rfl) (fun _ _ _ e => e) ex new
theorem dice_ok {P : Program} {w : World} {H : Hp} {h : Heap} {l s c : Int} {t1 t2 t3 : Tok} {n : Nat} (e : h.get? a = some { cls := .type "list", data := .seq #[.int l t1, .int s t2, .int c t3] n }) : ObjOk P w H h a (DiceO a) :=
  ⟨⟨l, s, c, t1, t2, t3, n, e⟩, ⟨_, e⟩, fun h1 h2 ⟨l, s, c, t1, t2, t3, n, q⟩ k => ⟨l, s, c, t1, t2, t3, n, k _ q⟩⟩
theorem dice_open (I : Inv X pins σ H s) (e : H a = some (DiceO a)) : ∃ l z c, Inv X pins σ (upd H a (d3 l z c)) s := by
  have x : ObjOk X.prog X.w H s.heap a (.ext fun h => ∃ (l s c : Int) (t1 t2 t3 : Tok) (n : Nat), h.get? a = some { cls := .type "list", data := .seq #[.int l t1, .int s t2, .int c t3] n }) := I.hok a _ e
  obtain ⟨l, z, c, t1, t2, t3, n, q⟩ := x.1
  exact ⟨l, z, c, recast I (by rw [e]; exact True.intro) ⟨_, q⟩ ⟨by show 3 ≤ sizeLine; decide, [.int l t1, .int z t2, .int c t3], n, .cons ⟨_, rfl⟩ (.cons ⟨_, rfl⟩ (.cons ⟨_, rfl⟩ .nil)), q⟩⟩
theorem dice_close {l z c : Int} (I : Inv X pins σ H s) (e : H a = some (d3 l z c)) : Inv X pins σ (upd H a (DiceO a)) s := by
  obtain ⟨_, its, n, r, q⟩ := (show ObjOk X.prog X.w H s.heap a (.lst [.int l, .int z, .int c]) from I.hok a _ e)
  refine recast I (by rw [e]; exact True.intro) ⟨_, q⟩ ?_
  cases r with
  | cons r1 r => cases r with
    | cons r2 r => cases r with
      | cons r3 r =>
        cases r
        obtain ⟨t1, rfl⟩ := r1
        obtain ⟨t2, rfl⟩ := r2
        obtain ⟨t3, rfl⟩ := r3
        exact dice_ok q
end
/-- the body may see the dice (the slot i) as a list; it leaves them as dice -/
def tDice (i : Nat) (t : TS) : TS := fun D σ H => ∃ a, σ[i]? = some (some (.ref a)) ∧ H a = some (DiceO a) ∧ ∀ l z c, t
  { nx := fun σ' H' => (∃ l z c, H' a = some (d3 l z c)) ∧ D.nx σ' (upd H' a (DiceO a)), rt := fun v H' => (∃ l z c, H' a = some (d3 l z c)) ∧ D.rt v (upd H' a (DiceO a)),
    bk := fun σ' H' => (∃ l z c, H' a = some (d3 l z c)) ∧ D.bk σ' (upd H' a (DiceO a)), ct := fun σ' H' => (∃ l z c, H' a = some (d3 l z c)) ∧ D.ct σ' (upd H' a (DiceO a)) } σ (upd H a (d3 l z c))
theorem pss_dice {X : Cx} {i : Nat} {body : List Stmt} {t : TS} (h : PSs X body t) : PSs X body (tDice i t) := by
  refine ⟨fun pins s σ H D I hq => ?_⟩
  obtain ⟨a, _, e, q⟩ := hq
  obtain ⟨l, z, c, I1⟩ := dice_open I e
  refine wpAny_mono (h.run pins s σ _ _ I1 (q l z c)) (fun f s' hs => ?_) fun _ _ e => e
  match f, hs with
  | .next, hs => obtain ⟨σ', H', J, ⟨l, z, c, e⟩, w⟩ := hs; exact ⟨σ', _, dice_close J e, w⟩
  | .brk, hs => obtain ⟨σ', H', J, ⟨l, z, c, e⟩, w⟩ := hs; exact ⟨σ', _, dice_close J e, w⟩
  | .cont, hs => obtain ⟨σ', H', J, ⟨l, z, c, e⟩, w⟩ := hs; exact ⟨σ', _, dice_close J e, w⟩
  | .ret u, hs => obtain ⟨v, σ', H', J, r, ⟨l, z, c, e⟩, w⟩ := hs; exact ⟨v, σ', _, dice_close J e, r, w⟩
/-- the body hands back new dice -/
def tDiced (t : TS) : TS := fun D σ H => t { nx := D.nx, rt := fun v H' => ∃ a l z c, v = .ref a ∧ H' a = some (d3 l z c) ∧ D.rt v (upd H' a (DiceO a)), bk := D.bk, ct := D.ct } σ H
theorem pss_diced {X : Cx} {body : List Stmt} {t : TS} (h : PSs X body t) : PSs X body (tDiced t) := by
  refine ⟨fun pins s σ H D I hq => wpAny_mono (h.run pins s σ H _ I hq) (fun f s' hs => ?_) fun _ _ e => e⟩
  match f, hs with
  | .next, hs => exact hs
  | .brk, hs => exact hs
  | .cont, hs => exact hs
  | .ret u, hs => obtain ⟨v, σ', H', J, r, a, l, z, c, ev, e, w⟩ := hs; exact ⟨v, σ', _, dice_close J e, r, w⟩
end My
namespace My
open PySem PySem.Spec PyProof.Rows L2
/-- a def of the module, by its name, with its promise -/
structure FnAt (P : Program) (w : World) (K : PySem.W.Frag) (mg : Str → Option Value) (base : Heap) (k : Nat) (x : Str) (ps : List Str) (sp : Sp) : Prop where
  ex : ∃ (f : Addr) (fd : FuncData), mg x = some (.ref f) ∧ PySem.W.keepIn K (.ref f) = true ∧ Binds K fd ps [] ∧ FnOk P w K mg base CX0 k f fd ps sp
/-- a def of the module, by its name, with its text -/
structure DefAt (K : PySem.W.Frag) (mg : Str → Option Value) (x : Str) (st : Stmt) : Prop where
  ex : ∃ (f : Addr) (fd : FuncData), mg x = some (.ref f) ∧ Fun K x x st f fd
section
variable {X : Cx} {k j : Nat} {ps : List Str} {sp : Sp} {x : Str} {p pos : Pos} {e : Expr} {es : List Expr} {t : TA}
theorem callA (F : FnAt X.prog X.w X.K X.mg X.base k x ps sp) (hr : Room k X.A) (hg : Gl X x) (ha : PA X (e :: es) t) (hdb : (x == ("__debug__" : Str)) = false := by decide)
    (he : starEach (e :: es) X.env = (false, eval e X.env) :: starEach es X.env := by rfl) (hpl : (backTo pos (starEach es X.env)).any (·.1) = false := by rfl) : PE X (.Call (.Name x p) (e :: es) [] pos) (tCall sp [] E0 t) := by
  obtain ⟨f, fd, hm, hk, hb, G⟩ := F.ex
  exact pe_call G hr hg hm hk hb .nil pass0 ha hdb he hpl
end
section
variable {P : Program} {w : World} {K : PySem.W.Frag} {mg : Str → Option Value} {base : Heap}
theorem fnAt {x : Str} {st : Stmt} {N ps : List Str} {k : Nat} {sp : Sp} (D : DefAt K mg x st) (S : FnScope N ps (defScope st))
    (hbind : ∀ (kV doc pm : Value) (an : Option Addr) (cdv ct : Value) (us : List Value), us.length = ps.length → bindArgs (PySem.W.fnOf x x (defArgs st) (defBody st) (defScope st) .none kV doc pm an cdv ct) ⟨us, []⟩ = pure (ps.zip us))
    (len : ∀ vs H Q E, sp vs H Q E → vs.length = ps.length)
    (hbody : ∀ (f : Addr) (cdv : Value) (A : Around) (outer : List Env) (s : Shared) (H : Hp) (vs : List V) (Q : VK) (E : XK), Room k (A.deeper (envOfC x (defScope st) s.heap.objs.size f cdv)) → sp vs H Q E →
      ∃ t, PSs (cxOf CX0 P w K mg base N x (defScope st) f cdv A outer s H E).nox (defBody st) t ∧ t { nx := fun _ H' => Q .non H', rt := Q } (start N vs) H) : FnAt P w K mg base (k + 1) x ps sp := by
  obtain ⟨f, fd, hm, F⟩ := D.ex
  exact ⟨f, fd, hm, F.kp, F.binds hbind, F.ok S len fun cdv A outer s H vs Q E hr h => hbody f cdv A outer s H vs Q E hr h⟩
end
/-- the built-in names that are free -/
structure Bn (mg : Str → Option Value) : Prop where
  b_len : mg "len" = none
  b_int : mg "int" = none
  b_bool : mg "bool" = none
  b_str : mg "str" = none
  b_list : mg "list" = none
  b_tuple : mg "tuple" = none
  b_max : mg "max" = none
  b_abs : mg "abs" = none
  b_min : mg "min" = none
  b_range : mg "range" = none
  b_repr : mg "repr" = none
  b_isinstance : mg "isinstance" = none
  b_all : mg "all" = none
  b_set : mg "set" = none
  b_sum : mg "sum" = none
  b_any : mg "any" = none
  b_sorted : mg "sorted" = none
  b_zip : mg "zip" = none
  b_enumerate : mg "enumerate" = none
  b_dict : mg "dict" = none
  b_reversed : mg "reversed" = none
  b_divmod : mg "divmod" = none
  b_ord : mg "ord" = none
theorem hu64 {A : Around} {k : Nat} (hr : Room k A) : A.units + 64 < cLine := hr.units
def CDivX (_ j : Int) : Prop := j ≠ 0 ∧ j.natAbs.log2 < 9000
section
variable {X : Cx}
theorem op_fdivX : OpR X (binaryOp .FloorDiv) (rI CDivX fun i j => .int (i.fdiv j)) := opI fun i j _ _ _ _ _ hc q => floordiv_int hc.1 q (.inl (PyProof.noPylong_of_log2 hc.2))
end
/-- at most n bits -/
def Sz (n : Nat) (i : Int) : Prop := i.natAbs < 2 ^ n
theorem Sz.mono {n m : Nat} {i : Int} (h : Sz n i) (l : n ≤ m) : Sz m i := Nat.lt_of_lt_of_le h (Nat.pow_le_pow_right (by decide) l)
theorem Sz.mul {n m : Nat} {i j : Int} (h : Sz n i) (g : Sz m j) : Sz (n + m) (i * j) := wide_lt h g
theorem Sz.neg {n : Nat} {i : Int} (h : Sz n i) : Sz n (-i) := by unfold Sz; rw [Int.natAbs_neg]; exact h
theorem Sz.add {n : Nat} {i j : Int} (h : Sz n i) (g : Sz n j) : Sz (n + 1) (i + j) := by
  unfold Sz at *
  have e : 2 ^ (n + 1) = 2 ^ n + 2 ^ n := by rw [Nat.pow_succ]; omega
  have := Int.natAbs_add_le i j
  omega
theorem Sz.sub {n : Nat} {i j : Int} (h : Sz n i) (g : Sz n j) : Sz (n + 1) (i - j) := by
  rw [Int.sub_eq_add_neg]
  exact h.add g.neg
theorem Sz.ofLt {n : Nat} {i b : Int} (h : i.natAbs ≤ b.natAbs) (g : Sz n b) : Sz n i := Nat.lt_of_le_of_lt h g
theorem Sz.log {n : Nat} {i : Int} (h : Sz n i) (h0 : 0 < n) : i.natAbs.log2 < n := PySem.Flt.log2_lt_of h0 h
theorem Sz.cmul {n m : Nat} {i j : Int} (h : Sz n i) (g : Sz m j) (hn : 0 < n) (hm : 0 < m) (l : n + m ≤ 1000000) : CMulW i j := wide_mul h g hn hm l
theorem Sz.cdiv {n : Nat} {i j : Int} (h0 : j ≠ 0) (h : Sz n j) (hn : 0 < n) (l : n ≤ 9000) : CDivX i j := ⟨h0, Nat.lt_of_lt_of_le (h.log hn) l⟩
/-- a number of the law's own head -/
theorem ext_refl (H : Hp) : Ext H H := fun _ _ h => h
theorem ext_new {H H1 : Hp} {p : Addr} {o : HO} (e : Ext H H1) (h : H1 p = none) : Ext H (upd H1 p o) := Ext.upd' e h
theorem ext_none {H H1 : Hp} {p : Addr} (e : Ext H H1) (h : H1 p = none) : H p = none := by
  cases q : H p with
  | none => rfl
  | some o => rw [e p o q] at h; cases h
/-- a new object changed: what stood before stands -/
theorem ext_mut {H H1 : Hp} {p : Addr} {o : HO} (e : Ext H H1) (h : H p = none) : Ext H (upd H1 p o) := fun a u q => by
  rw [upd_ne (ne_of_none q h)]
  exact e a u q
end My
namespace My
open PySem PySem.Spec PyProof.Rows L2
theorem len_ok {n : Nat} (h : n ≤ 1000) : n ≤ sizeLine := Nat.le_trans h (by decide)
theorem len_lt {n : Nat} (h : n ≤ 1000) : n < sizeLine := Nat.lt_of_le_of_lt h (by decide)
end My
namespace My
open PySem PySem.Spec PyProof.Rows L2
def top (i : Nat) : Stmt := PySem.Challenge.pw_pieceround_k08_whole_forms_and_shifts.main.body.getD i (.Pass ⟨0, 0, 0, 0⟩)
abbrev s_dice : Stmt := top 58
abbrev s_roll : Stmt := top 59
abbrev s_pick : Stmt := top 60
local macro_rules | `(tactic| walk_at "side") => `(tactic| first | assumption | decide | exact Or.inl ⟨by decide, by decide⟩ | exact Or.inr ⟨by decide, by decide⟩ | exact ⟨by decide, by decide, by decide⟩ | omega | (unfold CMulW; decide +kernel) | (dsimp only; first | assumption | omega | decide +kernel) | exact len_ok (Nat.le_of_ble_eq_true rfl) | fail "side")
local macro_rules | `(tactic| walk_at "rd") => `(tactic| first
  | refine ⟨_, _, _, _, rfl, rfl, SqL.of upd_same, atI_nat (j := 0) rfl, ?_⟩ | refine ⟨_, _, _, _, rfl, rfl, SqL.of upd_same, atI_nat (j := 1) rfl, ?_⟩ | refine ⟨_, _, _, _, rfl, rfl, SqL.of upd_same, atI_nat (j := 2) rfl, ?_⟩
  | refine ⟨_, _, _, _, rfl, rfl, upd_same, rfl, ?_⟩
  | refine ⟨_, _, rfl, rfl, ?_⟩ | refine ⟨_, rfl, ?_⟩ | refine ⟨_, _, rfl, ?_⟩ | refine Or.inl ⟨_, rfl, ?_⟩ | refine Or.inr ⟨_, rfl, ?_⟩ | refine ⟨(by walk_at "side"), ?_⟩ | fail "rd")
def spDice (K : PySem.W.Frag) : Sp := fun vs H Q _ => ∃ (a : Addr) (i : Int) (ns : List Int), vs = [.ref a, .int i] ∧ SqL K H a (ns.map V.int) ∧ 0 ≤ i ∧ i < 1000 ∧
  ∀ p H', H p = none → Ext H H' → H' p = some (DiceO p) → Q (.ref p) H'
def spRoll : Sp := fun vs H Q _ => ∃ (a : Addr) (n : Int), vs = [.ref a, .int n] ∧ H a = some (DiceO a) ∧ 0 < n ∧ Sz 9000 n ∧ ∀ r : Int, 0 ≤ r → r < n → Q (.int r) H
def spPick (K : PySem.W.Frag) : Sp := fun vs H Q _ => ∃ (a b : Addr) (xs : List V), vs = [.ref a, .ref b] ∧ H a = some (DiceO a) ∧ SqL K H b xs ∧ xs ≠ [] ∧ xs.length ≤ 1000000 ∧ ∀ x, x ∈ xs → Q x H
section
variable {P : Program} {w : World} {K : PySem.W.Frag} {mg : Str → Option Value} {base : Heap}
theorem sc_dice : FnScope ["_law_script", "_law_spot", "_law_cell", "_law_left"] ["_law_script", "_law_spot"] (defScope s_dice) := ⟨rfl, rfl, rfl, by decide +kernel, rfl, by decide +kernel, by decide +kernel⟩
theorem ok_dice (T : Bn mg) (D : DefAt K mg "_law_dice" s_dice) : FnAt P w K mg base 1 "_law_dice" ["_law_script", "_law_spot"] (spDice K) := by
  refine fnAt D sc_dice (fun _ _ _ _ _ _ us hl => match us, hl with | [_, _], _ => rfl) (fun vs H Q E h => ?_) fun f cdv A outer s H vs Q E hr h => ?_
  · obtain ⟨a, i, ns, rfl, _⟩ := h
    rfl
  obtain ⟨a, i, ns, rfl, hS, h0, h1, k⟩ := h
  refine ⟨_, pss_diced (pss_cons (ps_set (i := 2) sc_dice.nd rfl (Or.inl rfl) (pe_ifExp (pt_cmpR op_lt (pv 1) (pe_callB call_len_seq (by rfl) T.b_len (by decide +kernel) (pa_cons (pv 0) pa_nil)) (nomark _)) (pe_callTy call_int1 (by rfl) T.b_int (by decide +kernel) (pa_cons (pe_ix ix_list (pv 0) (pv 1) (fun _ _ => rfl)) pa_nil)) (pe_op op_add (pe_op op_mul pe_int (pv 1)) pe_int)))
    (pss_cons (ps_set (i := 3) sc_dice.nd rfl (Or.inl rfl) (pe_op op_modN (pe_callB (call_max2 rfl) (by rfl) T.b_max (by decide +kernel) (pa_cons pe_int (pa_cons (pe_op op_sub (pe_callB call_abs (by rfl) T.b_abs (by decide +kernel) (pa_cons (pv 2) pa_nil)) (pe_op op_pow pe_int pe_int)) pa_nil))) (pe_op op_mulW (pe_op op_pow pe_int pe_int) (pe_op op_pow pe_int pe_int))))
    (pss_one (ps_ret (pe_lst (pa_cons (pv 3) (pa_cons (pe_op op_add (pe_op op_add (pe_op op_add (pe_op op_mul (pe_op op_modN (pe_callB call_abs (by rfl) T.b_abs (by decide +kernel) (pa_cons (pv 2) pa_nil)) pe_int) pe_int) (pe_op op_mul pe_int (pv 1))) (pe_op op_mul pe_int (pe_callTy call_int1 (by rfl) T.b_int (by decide +kernel) (pa_cons (pe_cmpR op_lt (pv 2) pe_int (nomark _)) pa_nil)))) pe_int) (pa_cons pe_int pa_nil)))))))), ?_⟩
  refine ⟨_, rfl, _, rfl, a, _, rfl, .inl hS, _, _, rfl, rfl, _, rfl, ite2 (fun hlt => ?a) (fun hge => ?b)⟩
  case' a =>
    have hj : i < (ns.length : Int) := by
      have z := of_decide_eq_true hlt
      rw [List.length_map] at z
      exact z
    obtain ⟨j, rfl⟩ : ∃ j : Nat, i = (j : Int) := ⟨i.toNat, by omega⟩
    obtain ⟨c, hc⟩ : ∃ c, ns[j]? = some c := ⟨ns[j], List.getElem?_eq_getElem (by omega)⟩
    refine ⟨_, rfl, _, rfl, a, _, _, V.int c, rfl, rfl, hS, atI_nat (by rw [List.getElem?_map, hc]; rfl), .inl ⟨_, rfl, ?_⟩⟩
  case' b => 
    repeat' (walk_at "rd")
  all_goals
    repeat' (walk_at "rd")
    intro p hp
    exact ⟨p, _, _, _, rfl, upd_same, k p _ hp (ext_mut (ext_new (ext_refl H) hp) hp) upd_same⟩
theorem fmod_in {i n : Int} (h : 0 < n) : 0 ≤ i.fmod n ∧ i.fmod n < n := by
  rw [Int.fmod_eq_emod_of_nonneg _ (by omega)]
  exact ⟨Int.emod_nonneg _ (by omega), Int.emod_lt_of_pos _ h⟩
theorem sc_roll : FnScope ["_law_dice_here", "_law_total", "_law_found", "_law_one", "_law_two"] ["_law_dice_here", "_law_total"] (defScope s_roll) := ⟨rfl, rfl, rfl, by decide +kernel, rfl, by decide +kernel, by decide +kernel⟩
theorem ok_roll (T : Bn mg) (D : DefAt K mg "_law_roll" s_roll) : FnAt P w K mg base 1 "_law_roll" ["_law_dice_here", "_law_total"] spRoll := by
  refine fnAt D sc_roll (fun _ _ _ _ _ _ us hl => match us, hl with | [_, _], _ => rfl) (fun vs H Q E h => ?_) fun f cdv A outer s H vs Q E hr h => ?_
  · obtain ⟨a, i, rfl, _⟩ := h
    rfl
  obtain ⟨a, n, rfl, ha, h0, hz, k⟩ := h
  have n0 : n ≠ 0 := by omega
  have hd : CDivX 0 n := ⟨n0, hz.log (by decide)⟩
  have h64 : ∀ x : Int, -(2 ^ 64) < x.fmod 2305843009213693951 ∧ x.fmod 2305843009213693951 < 2 ^ 64 := fun x => by
    have := fmod_in (i := x) (n := 2305843009213693951) (by decide)
    omega
  have h64' : ∀ x : Int, -(2 ^ 64) < x.fmod 2305843009213693921 ∧ x.fmod 2305843009213693921 < 2 ^ 64 := fun x => by
    have := fmod_in (i := x) (n := 2305843009213693921) (by decide)
    omega
  refine ⟨_, pss_dice (i := 0) (pss_cons (ps_if (pt_cmpR op_gt (pe_ix ix_list (pv 0) pe_int (fun _ _ => rfl)) pe_int (nomark _)) (pss_cons (ps_set (i := 2) sc_roll.nd rfl (Or.inl rfl) (pe_op op_modN (pe_callTy call_int1 (by rfl) T.b_int (by decide +kernel) (pa_cons (pe_ix ix_list (pv 0) pe_int (fun _ _ => rfl)) pa_nil)) (pv 1)))
    (pss_cons (ps_asg (pe_op op_fdivX (pe_ix ix_list (pv 0) pe_int (fun _ _ => rfl)) (pv 1)) (pg_sub (pv 0) pe_int set_list))
    (pss_one (ps_ret (pv 2))))) pss_nil)
    (pss_cons (ps_asg (pe_op op_add (pe_ix ix_list (pv 0) pe_int (fun _ _ => rfl)) pe_int) (pg_sub (pv 0) pe_int set_list))
    (pss_cons (ps_set (i := 3) sc_roll.nd rfl (Or.inl rfl) (pe_op op_modN (pe_callTy call_int1 (by rfl) T.b_int (by decide +kernel) (pa_cons (pe_op op_add (pe_ix ix_list (pv 0) pe_int (fun _ _ => rfl)) (pe_op op_mul pe_int (pe_ix ix_list (pv 0) pe_int (fun _ _ => rfl)))) pa_nil)) pe_int))
    (pss_cons (ps_set (i := 4) sc_roll.nd rfl (Or.inl rfl) (pe_op op_add (pe_op op_mul (pe_op op_modN (pe_callTy call_int1 (by rfl) T.b_int (by decide +kernel) (pa_cons (pe_op op_add (pe_op op_mul (pv 3) (pv 3)) (pe_op op_mul pe_int (pe_ix ix_list (pv 0) pe_int (fun _ _ => rfl)))) pa_nil)) pe_int) pe_int) (pv 3)))
    (pss_one (ps_ret (pe_op op_modN (pe_callTy call_int1 (by rfl) T.b_int (by decide +kernel) (pa_cons (pe_op op_fdivX (pv 4) pe_int) pa_nil)) (pv 1)))))))), ?_⟩
  refine ⟨a, rfl, ha, fun l z c => ?_⟩
  have back : ∀ o, upd (upd (upd H a (d3 l z c)) a o) a (DiceO a) = H := fun o => by
    rw [upd_upd, upd_upd]
    funext b
    by_cases hb : b = a
    · rw [hb, upd_same, ha]
    · rw [upd_ne hb]
  repeat' (walk_at "rd")
  refine ite2 (fun h1 => ?_) (fun h2 => ?_)
  · have hdl : CDivX l n := hd
    repeat' (walk_at "rd")
    exact ⟨⟨_, _, _, upd_same⟩, (by
      show Q _ (upd (upd (upd H a _) a _) a _)
      rw [back]
      exact k _ (fmod_in h0).1 (fmod_in h0).2)⟩
  · repeat' (first | walk_at "rd" | refine ⟨.inl (h64 _), ?_⟩  | refine ⟨.inl (h64' _), ?_⟩ | refine ⟨(show CDivX _ 65536 from ⟨by decide, by decide +kernel⟩), ?_⟩ | fail)
    exact ⟨⟨_, _, _, upd_same⟩, (by
      show Q _ (upd (upd (upd H a _) a _) a _)
      rw [back]
      exact k _ (fmod_in h0).1 (fmod_in h0).2)⟩
theorem sc_pick : FnScope ["_law_dice_here", "_law_items"] ["_law_dice_here", "_law_items"] (defScope s_pick) := ⟨rfl, rfl, rfl, by decide +kernel, rfl, by decide +kernel, by decide +kernel⟩
theorem ok_pick (T : Bn mg) (D : DefAt K mg "_law_pick" s_pick) (F__law_roll : FnAt P w K mg base 1 "_law_roll" ["_law_dice_here", "_law_total"] spRoll) : FnAt P w K mg base 2 "_law_pick" ["_law_dice_here", "_law_items"] (spPick K) := by
  refine fnAt D sc_pick (fun _ _ _ _ _ _ us hl => match us, hl with | [_, _], _ => rfl) (fun vs H Q E h => ?_) fun f cdv A outer s H vs Q E hr h => ?_
  · obtain ⟨a, b, xs, rfl, _⟩ := h
    rfl
  obtain ⟨a, b, xs, rfl, ha, hb, hne, hl, k⟩ := h
  have hp : 0 < xs.length := List.length_pos_iff.mpr hne
  refine ⟨_, pss_one (ps_ret (pe_ix ix_list (pv 1) (callA F__law_roll (hr.mono (by decide)) rfl (pa_cons (pv 0) (pa_cons (pe_callB call_len_seq (by rfl) T.b_len (by decide +kernel) (pa_cons (pv 1) pa_nil)) pa_nil))) (fun _ _ => rfl))), ?_⟩
  refine ⟨_, rfl, _, rfl, _, rfl, b, xs, rfl, .inl hb, a, _, rfl, ha, by omega, ?_, fun r h0 h1 => ?_⟩
  · exact Nat.lt_of_le_of_lt (show ((xs.length : Int)).natAbs ≤ 1000000 by omega) (by decide +kernel)
  obtain ⟨j, rfl⟩ : ∃ j : Nat, r = (j : Int) := ⟨r.toNat, by omega⟩
  have hj : j < xs.length := by omega
  exact ⟨b, xs, _, xs[j], rfl, rfl, hb, atI_nat (List.getElem?_eq_getElem hj), k _ (List.getElem_mem hj)⟩
end
end My
set_option maxHeartbeats 0
namespace My
open PySem PySem.W PySem.Calls PyProof.Rows L2
abbrev HR : OpenRow := OpenLaw.row PySem.Challenge.rw_pieceround_k08_whole_forms_and_shifts
abbrev hV : Program := view HR.prog [75]
def hL0 : List PySem.Str := [Str.ofString "gcd", Str.ofString "_wall", Str.ofString "PieceError", Str.ofString "InvalidNumber", Str.ofString "InvalidOrder", Str.ofString "InvalidExchange", Str.ofString "InvalidLengths", Str.ofString "InvalidPoint", Str.ofString "InvalidOperation", Str.ofString "ParseError", Str.ofString "UnknownName", Str.ofString "MAX_LETTERS", Str.ofString "LETTERS", Str.ofString "is_any_integer", Str.ofString "is_name", Str.ofString "are_names", Str.ofString "MAX_ROOT", Str.ofString "MAX_READ_FIGURES", Str.ofString "PRIME_SQUARES", Str.ofString "Number", Str.ofString "have_one_root", Str.ofString "_are_valid", Str.ofString "_as_number", Str.ofString "_operand", Str.ofString "_argument", Str.ofString "_common_root", Str.ofString "_difference_above", Str.ofString "_norm_above", Str.ofString "_sign_of_integer", Str.ofString "sign_of_sum"]
def hL1 : List PySem.Str := [Str.ofString "_sum_text", Str.ofString "_number_text", Str.ofString "_integers_in", Str.ofString "_words_in", Str.ofString "_is_readable", Str.ofString "MAX_NAMES", Str.ofString "Order", Str.ofString "require_order", Str.ofString "_are_different", Str.ofString "_are_rows", Str.ofString "block_ends", Str.ofString "Exchange", Str.ofString "are_numbers", Str.ofString "are_lengths", Str.ofString "fits_root", Str.ofString "is_point", Str.ofString "require_exchange", Str.ofString "require_point", Str.ofString "joined", Str.ofString "_sums", Str.ofString "_read_length", Str.ofString "_index_of_last", Str.ofString "_law_dice", Str.ofString "_law_roll", Str.ofString "_law_pick", Str.ofString "_law_mixed", Str.ofString "_law_names_drawn", Str.ofString "_law_length", Str.ofString "_law_number", Str.ofString "_law_exchange"]
def hL2 : List PySem.Str := [Str.ofString "_law_plus", Str.ofString "_law_minus", Str.ofString "_law_begins", Str.ofString "_law_any_rows", Str.ofString "_law_any_world", Str.ofString "_law_points", Str.ofString "_law_shift", Str.ofString "_law_by_forms", Str.ofString "_law_right"]
def hL : List PySem.Str := hL0 ++ (hL1 ++ (hL2))
def hK (P : Params) : Frag :=
  (nat_lit 2, ⟨Value.none, none, Data.dict #[{ hash := PyData.keyHash P (Str.ofString "\u0069mport.loaded.math"), key := Value.str (Str.ofString "\u0069mport.loaded.math") 185, val := Value.bool true }, { hash := PyData.keyHash P (Str.ofString "class._frozen_importlib_external._LoaderBasics"), key := Value.str (Str.ofString "class._frozen_importlib_external._LoaderBasics") 190, val := Value.ref 16 }, { hash := PyData.keyHash P (Str.ofString "watched.\u0069mport"), key := Value.str (Str.ofString "watched.\u0069mport") 206, val := Value.ref 20 }, { hash := PyData.keyHash P (Str.ofString "class._frozen_importlib_external.FileLoader"), key := Value.str (Str.ofString "class._frozen_importlib_external.FileLoader") 207, val := Value.ref 22 }, { hash := PyData.keyHash P (Str.ofString "class._frozen_importlib_external.ExtensionFileLoader"), key := Value.str (Str.ofString "class._frozen_importlib_external.ExtensionFileLoader") 228, val := Value.ref 27 }, { hash := PyData.keyHash P (Str.ofString "class._frozen_importlib.ModuleSpec"), key := Value.str (Str.ofString "class._frozen_importlib.ModuleSpec") 256, val := Value.ref 33 }, { hash := PyData.keyHash P (Str.ofString "sys.modules.booked-epoch"), key := Value.str (Str.ofString "sys.modules.booked-epoch") 285, val := Value.int 3 0 }, { hash := PyData.keyHash P (Str.ofString "\u0069mport.later-laid.math"), key := Value.str (Str.ofString "\u0069mport.later-laid.math") 361, val := Value.bool true }, { hash := PyData.keyHash P (Str.ofString "watched.library"), key := Value.str (Str.ofString "watched.library") 363, val := Value.ref 38 }, { hash := PyData.keyHash P (Str.ofString "watched.library-objects"), key := Value.str (Str.ofString "watched.library-objects") 0, val := Value.str (Str.ofString "\x0d") 0 }, { hash := PyData.keyHash P (Str.ofString "type.__subclasses__.KeyError.0"), key := Value.str (Str.ofString "type.__subclasses__.KeyError.0") 549, val := Value.int 170 0 }, { hash := PyData.keyHash P (Str.ofString "type.__subclasses__.KeyError.n"), key := Value.str (Str.ofString "type.__subclasses__.KeyError.n") 550, val := Value.int 1 0 }] 12, #[]⟩) ::
  (nat_lit 3, ⟨Value.type "dict", none, Data.dict #[{ hash := PyData.keyHash P (Str.ofString "__name__"), key := Value.str (Str.ofString "__name__") 165, val := Value.str (Str.ofString "law_pieceround_k08_whole_forms_and_shifts") 1466 }, { hash := PyData.keyHash P (Str.ofString "__doc__"), key := Value.str (Str.ofString "__doc__") 166, val := Value.none }, { hash := PyData.keyHash P (Str.ofString "__package__"), key := Value.str (Str.ofString "__package__") 167, val := Value.none }, { hash := PyData.keyHash P (Str.ofString "__loader__"), key := Value.str (Str.ofString "__loader__") 168, val := Value.builtin "__main__.__loader__#opaque" }, { hash := PyData.keyHash P (Str.ofString "__spec__"), key := Value.str (Str.ofString "__spec__") 169, val := Value.none }, { hash := PyData.keyHash P (Str.ofString "__annotations__"), key := Value.str (Str.ofString "__annotations__") 170, val := Value.ref 6 }, { hash := PyData.keyHash P (Str.ofString "__builtins__"), key := Value.str (Str.ofString "__builtins__") 171, val := Value.ref 4 }, { hash := PyData.keyHash P (Str.ofString "__file__"), key := Value.str (Str.ofString "__file__") 173, val := Value.str (Str.ofString "/claim/cut.py") 172 }, { hash := PyData.keyHash P (Str.ofString "__cached__"), key := Value.str (Str.ofString "__cached__") 174, val := Value.none }, { hash := PyData.keyHash P (Str.ofString "gcd"), key := Value.str (Str.ofString "gcd") 369, val := Value.builtin "math.gcd" }, { hash := PyData.keyHash P (Str.ofString "_wall"), key := Value.str (Str.ofString "_wall") 382, val := Value.ref 49 }, { hash := PyData.keyHash P (Str.ofString "PieceError"), key := Value.str (Str.ofString "PieceError") 402, val := Value.ref 59 }, { hash := PyData.keyHash P (Str.ofString "InvalidNumber"), key := Value.str (Str.ofString "InvalidNumber") 418, val := Value.ref 72 }, { hash := PyData.keyHash P (Str.ofString "InvalidOrder"), key := Value.str (Str.ofString "InvalidOrder") 434, val := Value.ref 84 }, { hash := PyData.keyHash P (Str.ofString "InvalidExchange"), key := Value.str (Str.ofString "InvalidExchange") 450, val := Value.ref 96 }, { hash := PyData.keyHash P (Str.ofString "InvalidLengths"), key := Value.str (Str.ofString "InvalidLengths") 466, val := Value.ref 108 }, { hash := PyData.keyHash P (Str.ofString "InvalidPoint"), key := Value.str (Str.ofString "InvalidPoint") 482, val := Value.ref 120 }, { hash := PyData.keyHash P (Str.ofString "InvalidOperation"), key := Value.str (Str.ofString "InvalidOperation") 498, val := Value.ref 132 }, { hash := PyData.keyHash P (Str.ofString "ParseError"), key := Value.str (Str.ofString "ParseError") 523, val := Value.ref 151 }, { hash := PyData.keyHash P (Str.ofString "UnknownName"), key := Value.str (Str.ofString "UnknownName") 552, val := Value.ref 170 }, { hash := PyData.keyHash P (Str.ofString "MAX_LETTERS"), key := Value.str (Str.ofString "MAX_LETTERS") 556, val := Value.int 8 555 }, { hash := PyData.keyHash P (Str.ofString "LETTERS"), key := Value.str (Str.ofString "LETTERS") 558, val := Value.str (Str.ofString "abcdefghijklmnopqrstuvwxyz") 557 }, { hash := PyData.keyHash P (Str.ofString "is_any_integer"), key := Value.str (Str.ofString "is_any_integer") 565, val := Value.ref 180 }, { hash := PyData.keyHash P (Str.ofString "is_name"), key := Value.str (Str.ofString "is_name") 571, val := Value.ref 185 }, { hash := PyData.keyHash P (Str.ofString "are_names"), key := Value.str (Str.ofString "are_names") 577, val := Value.ref 190 }, { hash := PyData.keyHash P (Str.ofString "MAX_ROOT"), key := Value.str (Str.ofString "MAX_ROOT") 581, val := Value.int 999 580 }, { hash := PyData.keyHash P (Str.ofString "MAX_READ_FIGURES"), key := Value.str (Str.ofString "MAX_READ_FIGURES") 583, val := Value.int 1000 582 }, { hash := PyData.keyHash P (Str.ofString "PRIME_SQUARES"), key := Value.str (Str.ofString "PRIME_SQUARES") 595, val := Value.ref 191 }, { hash := PyData.keyHash P (Str.ofString "Number"), key := Value.str (Str.ofString "Number") 809, val := Value.ref 340 }, { hash := PyData.keyHash P (Str.ofString "have_one_root"), key := Value.str (Str.ofString "have_one_root") 815, val := Value.ref 349 }, { hash := PyData.keyHash P (Str.ofString "_are_valid"), key := Value.str (Str.ofString "_are_valid") 821, val := Value.ref 354 }, { hash := PyData.keyHash P (Str.ofString "_as_number"), key := Value.str (Str.ofString "_as_number") 828, val := Value.ref 361 }, { hash := PyData.keyHash P (Str.ofString "_operand"), key := Value.str (Str.ofString "_operand") 836, val := Value.ref 368 }, { hash := PyData.keyHash P (Str.ofString "_argument"), key := Value.str (Str.ofString "_argument") 844, val := Value.ref 375 }, { hash := PyData.keyHash P (Str.ofString "_common_root"), key := Value.str (Str.ofString "_common_root") 852, val := Value.ref 382 }, { hash := PyData.keyHash P (Str.ofString "_difference_above"), key := Value.str (Str.ofString "_difference_above") 862, val := Value.ref 389 }, { hash := PyData.keyHash P (Str.ofString "_norm_above"), key := Value.str (Str.ofString "_norm_above") 869, val := Value.ref 396 }, { hash := PyData.keyHash P (Str.ofString "_sign_of_integer"), key := Value.str (Str.ofString "_sign_of_integer") 876, val := Value.ref 403 }, { hash := PyData.keyHash P (Str.ofString "sign_of_sum"), key := Value.str (Str.ofString "sign_of_sum") 887, val := Value.ref 410 }, { hash := PyData.keyHash P (Str.ofString "_sum_text"), key := Value.str (Str.ofString "_sum_text") 896, val := Value.ref 417 }, { hash := PyData.keyHash P (Str.ofString "_number_text"), key := Value.str (Str.ofString "_number_text") 907, val := Value.ref 424 }, { hash := PyData.keyHash P (Str.ofString "_integers_in"), key := Value.str (Str.ofString "_integers_in") 913, val := Value.ref 429 }, { hash := PyData.keyHash P (Str.ofString "_words_in"), key := Value.str (Str.ofString "_words_in") 927, val := Value.ref 436 }, { hash := PyData.keyHash P (Str.ofString "_is_readable"), key := Value.str (Str.ofString "_is_readable") 935, val := Value.ref 443 }, { hash := PyData.keyHash P (Str.ofString "MAX_NAMES"), key := Value.str (Str.ofString "MAX_NAMES") 939, val := Value.int 40 938 }, { hash := PyData.keyHash P (Str.ofString "Order"), key := Value.str (Str.ofString "Order") 1133, val := Value.ref 597 }, { hash := PyData.keyHash P (Str.ofString "require_order"), key := Value.str (Str.ofString "require_order") 1140, val := Value.ref 608 }, { hash := PyData.keyHash P (Str.ofString "_are_different"), key := Value.str (Str.ofString "_are_different") 1147, val := Value.ref 615 }, { hash := PyData.keyHash P (Str.ofString "_are_rows"), key := Value.str (Str.ofString "_are_rows") 1155, val := Value.ref 622 }, { hash := PyData.keyHash P (Str.ofString "block_ends"), key := Value.str (Str.ofString "block_ends") 1166, val := Value.ref 629 }, { hash := PyData.keyHash P (Str.ofString "Exchange"), key := Value.str (Str.ofString "Exchange") 1382, val := Value.ref 801 }, { hash := PyData.keyHash P (Str.ofString "are_numbers"), key := Value.str (Str.ofString "are_numbers") 1388, val := Value.ref 810 }, { hash := PyData.keyHash P (Str.ofString "are_lengths"), key := Value.str (Str.ofString "are_lengths") 1394, val := Value.ref 815 }, { hash := PyData.keyHash P (Str.ofString "fits_root"), key := Value.str (Str.ofString "fits_root") 1402, val := Value.ref 822 }, { hash := PyData.keyHash P (Str.ofString "is_point"), key := Value.str (Str.ofString "is_point") 1410, val := Value.ref 829 }, { hash := PyData.keyHash P (Str.ofString "require_exchange"), key := Value.str (Str.ofString "require_exchange") 1417, val := Value.ref 836 }, { hash := PyData.keyHash P (Str.ofString "require_point"), key := Value.str (Str.ofString "require_point") 1425, val := Value.ref 843 }, { hash := PyData.keyHash P (Str.ofString "joined"), key := Value.str (Str.ofString "joined") 1437, val := Value.ref 850 }, { hash := PyData.keyHash P (Str.ofString "_sums"), key := Value.str (Str.ofString "_sums") 1447, val := Value.ref 857 }, { hash := PyData.keyHash P (Str.ofString "_read_length"), key := Value.str (Str.ofString "_read_length") 1454, val := Value.ref 864 }, { hash := PyData.keyHash P (Str.ofString "_index_of_last"), key := Value.str (Str.ofString "_index_of_last") 1465, val := Value.ref 871 }, { hash := PyData.keyHash P (Str.ofString "_law_dice"), key := Value.str (Str.ofString "_law_dice") 1477, val := Value.ref 878 }, { hash := PyData.keyHash P (Str.ofString "_law_roll"), key := Value.str (Str.ofString "_law_roll") 1488, val := Value.ref 885 }, { hash := PyData.keyHash P (Str.ofString "_law_pick"), key := Value.str (Str.ofString "_law_pick") 1496, val := Value.ref 892 }, { hash := PyData.keyHash P (Str.ofString "_law_mixed"), key := Value.str (Str.ofString "_law_mixed") 1507, val := Value.ref 899 }, { hash := PyData.keyHash P (Str.ofString "_law_names_drawn"), key := Value.str (Str.ofString "_law_names_drawn") 1515, val := Value.ref 906 }, { hash := PyData.keyHash P (Str.ofString "_law_length"), key := Value.str (Str.ofString "_law_length") 1523, val := Value.ref 913 }, { hash := PyData.keyHash P (Str.ofString "_law_number"), key := Value.str (Str.ofString "_law_number") 1531, val := Value.ref 920 }, { hash := PyData.keyHash P (Str.ofString "_law_exchange"), key := Value.str (Str.ofString "_law_exchange") 1540, val := Value.ref 927 }, { hash := PyData.keyHash P (Str.ofString "_law_plus"), key := Value.str (Str.ofString "_law_plus") 1548, val := Value.ref 934 }, { hash := PyData.keyHash P (Str.ofString "_law_minus"), key := Value.str (Str.ofString "_law_minus") 1556, val := Value.ref 941 }, { hash := PyData.keyHash P (Str.ofString "_law_begins"), key := Value.str (Str.ofString "_law_begins") 1567, val := Value.ref 948 }, { hash := PyData.keyHash P (Str.ofString "_law_any_rows"), key := Value.str (Str.ofString "_law_any_rows") 1581, val := Value.ref 955 }, { hash := PyData.keyHash P (Str.ofString "_law_any_world"), key := Value.str (Str.ofString "_law_any_world") 1587, val := Value.ref 960 }, { hash := PyData.keyHash P (Str.ofString "_law_points"), key := Value.str (Str.ofString "_law_points") 1601, val := Value.ref 967 }, { hash := PyData.keyHash P (Str.ofString "_law_shift"), key := Value.str (Str.ofString "_law_shift") 1611, val := Value.ref 974 }, { hash := PyData.keyHash P (Str.ofString "_law_by_forms"), key := Value.str (Str.ofString "_law_by_forms") 1624, val := Value.ref 981 }, { hash := PyData.keyHash P (Str.ofString "_law_right"), key := Value.str (Str.ofString "_law_right") 1643, val := Value.ref 988 }, { hash := PyData.keyHash P (Str.ofString "law"), key := Value.str (Str.ofString "law") 1649, val := Value.ref 993 }] 79, #[]⟩) ::
  (nat_lit 43, ⟨Value.type "tuple", none, Data.seq #[], #[]⟩) ::
  (nat_lit 45, ⟨Value.type "tuple", none, Data.seq #[Value.str (Str.ofString "k") 379], #[]⟩) ::
  (nat_lit 46, ⟨Value.type "tuple", none, Data.seq #[], #[]⟩) ::
  (nat_lit 48, ⟨Value.type "code", none, Data.fields #[Value.str (Str.ofString "_wall") 376, Value.str (Str.ofString "_wall") 377, Value.str (Str.ofString "/claim/cut.py") 378, Value.int 2 0, Value.int 1 0, Value.int 0 0, Value.int 0 0, Value.int 3 0, Value.ref 43, Value.bool true, Value.int 370 0, Value.ref 44, Value.none, Value.ref 45, Value.ref 46, Value.ref 47, Value.int 380 0, Value.int 2 0, Value.str (Str.ofString "/claim/cut.py") 381], #[]⟩) ::
  (nat_lit 49, ⟨Value.type "function", none, Data.func (fnOf (Str.ofString "_wall") (Str.ofString "_wall") (defArgs (top 1)) (defBody (top 1)) (defScope (top 1)) Value.none Value.none Value.none (Value.str (Str.ofString "__main__") 164) none (Value.ref 48) Value.none), #[]⟩) ::
  (nat_lit 50, ⟨Value.type "tuple", none, Data.seq #[Value.type "ValueError"], #[]⟩) ::
  (nat_lit 57, ⟨Value.type "tuple", none, Data.seq #[], #[]⟩) ::
  (nat_lit 58, ⟨Value.type "dict", none, Data.dict #[{ hash := PyData.keyHash P (Str.ofString "__module__"), key := Value.str (Str.ofString "__module__") 392, val := Value.str (Str.ofString "pieceround.errors") 383 }, { hash := PyData.keyHash P (Str.ofString "__firstlineno__"), key := Value.str (Str.ofString "__firstlineno__") 396, val := Value.int 6 395 }, { hash := PyData.keyHash P (Str.ofString "__static_attributes__"), key := Value.str (Str.ofString "__static_attributes__") 397, val := Value.ref 57 }, { hash := PyData.keyHash P (Str.ofString "__weakref__"), key := Value.str (Str.ofString "__weakref__") 399, val := Value.ref 60 }, { hash := PyData.keyHash P (Str.ofString "__doc__"), key := Value.str (Str.ofString "__doc__") 400, val := Value.none }] 3, #[]⟩) ::
  (nat_lit 59, ⟨Value.type "type", none, Data.cls { name := Str.ofString "PieceError", bases := [Value.type "ValueError"], mro := [Value.ref 59, Value.type "ValueError", Value.type "Exception", Value.type "BaseException", Value.type "object"], ns := 58, qualname := Str.ofString "PieceError", subclasses := [Value.ref 72, Value.ref 84, Value.ref 96, Value.ref 108, Value.ref 120, Value.ref 132, Value.ref 151] }, #[some (Value.ref 50), none, some (Value.str (Str.ofString "PieceError") 385), some (Value.str (Str.ofString "PieceError") 393), some (Value.builtin "ValueError.__new__"), some (Value.bool true)]⟩) ::
  (nat_lit 60, ⟨Value.type "getset_descriptor", none, Data.fields #[Value.str (Str.ofString "__weakref__") 398, Value.ref 59, Value.builtin "ExceptionGroup.__weakref__", Value.none], #[]⟩) ::
  (nat_lit 63, ⟨Value.type "tuple", none, Data.seq #[Value.ref 59], #[]⟩) ::
  (nat_lit 70, ⟨Value.type "tuple", none, Data.seq #[], #[]⟩) ::
  (nat_lit 71, ⟨Value.type "dict", none, Data.dict #[{ hash := PyData.keyHash P (Str.ofString "__module__"), key := Value.str (Str.ofString "__module__") 410, val := Value.str (Str.ofString "pieceround.errors") 383 }, { hash := PyData.keyHash P (Str.ofString "__firstlineno__"), key := Value.str (Str.ofString "__firstlineno__") 414, val := Value.int 8 413 }, { hash := PyData.keyHash P (Str.ofString "__static_attributes__"), key := Value.str (Str.ofString "__static_attributes__") 415, val := Value.ref 70 }, { hash := PyData.keyHash P (Str.ofString "__doc__"), key := Value.str (Str.ofString "__doc__") 416, val := Value.none }] 2, #[]⟩) ::
  (nat_lit 72, ⟨Value.type "type", none, Data.cls { name := Str.ofString "InvalidNumber", bases := [Value.ref 59], mro := [Value.ref 72, Value.ref 59, Value.type "ValueError", Value.type "Exception", Value.type "BaseException", Value.type "object"], ns := 71, qualname := Str.ofString "InvalidNumber" }, #[some (Value.ref 63), none, some (Value.str (Str.ofString "InvalidNumber") 403), some (Value.str (Str.ofString "InvalidNumber") 411), some (Value.builtin "ValueError.__new__"), some (Value.bool true)]⟩) ::
  (nat_lit 75, ⟨Value.type "tuple", none, Data.seq #[Value.ref 59], #[]⟩) ::
  (nat_lit 82, ⟨Value.type "tuple", none, Data.seq #[], #[]⟩) ::
  (nat_lit 83, ⟨Value.type "dict", none, Data.dict #[{ hash := PyData.keyHash P (Str.ofString "__module__"), key := Value.str (Str.ofString "__module__") 426, val := Value.str (Str.ofString "pieceround.errors") 383 }, { hash := PyData.keyHash P (Str.ofString "__firstlineno__"), key := Value.str (Str.ofString "__firstlineno__") 430, val := Value.int 10 429 }, { hash := PyData.keyHash P (Str.ofString "__static_attributes__"), key := Value.str (Str.ofString "__static_attributes__") 431, val := Value.ref 82 }, { hash := PyData.keyHash P (Str.ofString "__doc__"), key := Value.str (Str.ofString "__doc__") 432, val := Value.none }] 2, #[]⟩) ::
  (nat_lit 84, ⟨Value.type "type", none, Data.cls { name := Str.ofString "InvalidOrder", bases := [Value.ref 59], mro := [Value.ref 84, Value.ref 59, Value.type "ValueError", Value.type "Exception", Value.type "BaseException", Value.type "object"], ns := 83, qualname := Str.ofString "InvalidOrder" }, #[some (Value.ref 75), none, some (Value.str (Str.ofString "InvalidOrder") 419), some (Value.str (Str.ofString "InvalidOrder") 427), some (Value.builtin "ValueError.__new__"), some (Value.bool true)]⟩) ::
  (nat_lit 87, ⟨Value.type "tuple", none, Data.seq #[Value.ref 59], #[]⟩) ::
  (nat_lit 94, ⟨Value.type "tuple", none, Data.seq #[], #[]⟩) ::
  (nat_lit 95, ⟨Value.type "dict", none, Data.dict #[{ hash := PyData.keyHash P (Str.ofString "__module__"), key := Value.str (Str.ofString "__module__") 442, val := Value.str (Str.ofString "pieceround.errors") 383 }, { hash := PyData.keyHash P (Str.ofString "__firstlineno__"), key := Value.str (Str.ofString "__firstlineno__") 446, val := Value.int 12 445 }, { hash := PyData.keyHash P (Str.ofString "__static_attributes__"), key := Value.str (Str.ofString "__static_attributes__") 447, val := Value.ref 94 }, { hash := PyData.keyHash P (Str.ofString "__doc__"), key := Value.str (Str.ofString "__doc__") 448, val := Value.none }] 2, #[]⟩) ::
  (nat_lit 96, ⟨Value.type "type", none, Data.cls { name := Str.ofString "InvalidExchange", bases := [Value.ref 59], mro := [Value.ref 96, Value.ref 59, Value.type "ValueError", Value.type "Exception", Value.type "BaseException", Value.type "object"], ns := 95, qualname := Str.ofString "InvalidExchange" }, #[some (Value.ref 87), none, some (Value.str (Str.ofString "InvalidExchange") 435), some (Value.str (Str.ofString "InvalidExchange") 443), some (Value.builtin "ValueError.__new__"), some (Value.bool true)]⟩) ::
  (nat_lit 99, ⟨Value.type "tuple", none, Data.seq #[Value.ref 59], #[]⟩) ::
  (nat_lit 106, ⟨Value.type "tuple", none, Data.seq #[], #[]⟩) ::
  (nat_lit 107, ⟨Value.type "dict", none, Data.dict #[{ hash := PyData.keyHash P (Str.ofString "__module__"), key := Value.str (Str.ofString "__module__") 458, val := Value.str (Str.ofString "pieceround.errors") 383 }, { hash := PyData.keyHash P (Str.ofString "__firstlineno__"), key := Value.str (Str.ofString "__firstlineno__") 462, val := Value.int 14 461 }, { hash := PyData.keyHash P (Str.ofString "__static_attributes__"), key := Value.str (Str.ofString "__static_attributes__") 463, val := Value.ref 106 }, { hash := PyData.keyHash P (Str.ofString "__doc__"), key := Value.str (Str.ofString "__doc__") 464, val := Value.none }] 2, #[]⟩) ::
  (nat_lit 108, ⟨Value.type "type", none, Data.cls { name := Str.ofString "InvalidLengths", bases := [Value.ref 59], mro := [Value.ref 108, Value.ref 59, Value.type "ValueError", Value.type "Exception", Value.type "BaseException", Value.type "object"], ns := 107, qualname := Str.ofString "InvalidLengths" }, #[some (Value.ref 99), none, some (Value.str (Str.ofString "InvalidLengths") 451), some (Value.str (Str.ofString "InvalidLengths") 459), some (Value.builtin "ValueError.__new__"), some (Value.bool true)]⟩) ::
  (nat_lit 111, ⟨Value.type "tuple", none, Data.seq #[Value.ref 59], #[]⟩) ::
  (nat_lit 118, ⟨Value.type "tuple", none, Data.seq #[], #[]⟩) ::
  (nat_lit 119, ⟨Value.type "dict", none, Data.dict #[{ hash := PyData.keyHash P (Str.ofString "__module__"), key := Value.str (Str.ofString "__module__") 474, val := Value.str (Str.ofString "pieceround.errors") 383 }, { hash := PyData.keyHash P (Str.ofString "__firstlineno__"), key := Value.str (Str.ofString "__firstlineno__") 478, val := Value.int 16 477 }, { hash := PyData.keyHash P (Str.ofString "__static_attributes__"), key := Value.str (Str.ofString "__static_attributes__") 479, val := Value.ref 118 }, { hash := PyData.keyHash P (Str.ofString "__doc__"), key := Value.str (Str.ofString "__doc__") 480, val := Value.none }] 2, #[]⟩) ::
  (nat_lit 120, ⟨Value.type "type", none, Data.cls { name := Str.ofString "InvalidPoint", bases := [Value.ref 59], mro := [Value.ref 120, Value.ref 59, Value.type "ValueError", Value.type "Exception", Value.type "BaseException", Value.type "object"], ns := 119, qualname := Str.ofString "InvalidPoint" }, #[some (Value.ref 111), none, some (Value.str (Str.ofString "InvalidPoint") 467), some (Value.str (Str.ofString "InvalidPoint") 475), some (Value.builtin "ValueError.__new__"), some (Value.bool true)]⟩) ::
  (nat_lit 123, ⟨Value.type "tuple", none, Data.seq #[Value.ref 59], #[]⟩) ::
  (nat_lit 130, ⟨Value.type "tuple", none, Data.seq #[], #[]⟩) ::
  (nat_lit 131, ⟨Value.type "dict", none, Data.dict #[{ hash := PyData.keyHash P (Str.ofString "__module__"), key := Value.str (Str.ofString "__module__") 490, val := Value.str (Str.ofString "pieceround.errors") 383 }, { hash := PyData.keyHash P (Str.ofString "__firstlineno__"), key := Value.str (Str.ofString "__firstlineno__") 494, val := Value.int 18 493 }, { hash := PyData.keyHash P (Str.ofString "__static_attributes__"), key := Value.str (Str.ofString "__static_attributes__") 495, val := Value.ref 130 }, { hash := PyData.keyHash P (Str.ofString "__doc__"), key := Value.str (Str.ofString "__doc__") 496, val := Value.none }] 2, #[]⟩) ::
  (nat_lit 132, ⟨Value.type "type", none, Data.cls { name := Str.ofString "InvalidOperation", bases := [Value.ref 59], mro := [Value.ref 132, Value.ref 59, Value.type "ValueError", Value.type "Exception", Value.type "BaseException", Value.type "object"], ns := 131, qualname := Str.ofString "InvalidOperation" }, #[some (Value.ref 123), none, some (Value.str (Str.ofString "InvalidOperation") 483), some (Value.str (Str.ofString "InvalidOperation") 491), some (Value.builtin "ValueError.__new__"), some (Value.bool true)]⟩) ::
  (nat_lit 135, ⟨Value.type "tuple", none, Data.seq #[Value.ref 59], #[]⟩) ::
  (nat_lit 142, ⟨Value.type "tuple", none, Data.seq #[], #[]⟩) ::
  (nat_lit 144, ⟨Value.type "tuple", none, Data.seq #[Value.str (Str.ofString "self") 514, Value.str (Str.ofString "index") 515], #[]⟩) ::
  (nat_lit 145, ⟨Value.type "tuple", none, Data.seq #[], #[]⟩) ::
  (nat_lit 147, ⟨Value.type "code", none, Data.fields #[Value.str (Str.ofString "__init__") 511, Value.str (Str.ofString "ParseError.__init__") 512, Value.str (Str.ofString "/claim/cut.py") 513, Value.int 22 0, Value.int 2 0, Value.int 0 0, Value.int 0 0, Value.int 3 0, Value.ref 142, Value.bool true, Value.int 370 0, Value.ref 143, Value.none, Value.ref 144, Value.ref 145, Value.ref 146, Value.int 516 0, Value.int 22 0, Value.str (Str.ofString "/claim/cut.py") 517], #[]⟩) ::
  (nat_lit 148, ⟨Value.type "function", none, Data.func (fnOf (Str.ofString "__init__") (Str.ofString "ParseError.__init__") (defArgs (inClass (top 10) 0)) (defBody (inClass (top 10) 0)) (defScope (inClass (top 10) 0)) Value.none Value.none Value.none (Value.str (Str.ofString "pieceround.errors") 383) none (Value.ref 147) Value.none), #[]⟩) ::
  (nat_lit 149, ⟨Value.type "tuple", none, Data.seq #[Value.str (Str.ofString "index") 519], #[]⟩) ::
  (nat_lit 150, ⟨Value.type "dict", none, Data.dict #[{ hash := PyData.keyHash P (Str.ofString "__module__"), key := Value.str (Str.ofString "__module__") 506, val := Value.str (Str.ofString "pieceround.errors") 383 }, { hash := PyData.keyHash P (Str.ofString "__firstlineno__"), key := Value.str (Str.ofString "__firstlineno__") 510, val := Value.int 20 509 }, { hash := PyData.keyHash P (Str.ofString "__init__"), key := Value.str (Str.ofString "__init__") 518, val := Value.ref 148 }, { hash := PyData.keyHash P (Str.ofString "__static_attributes__"), key := Value.str (Str.ofString "__static_attributes__") 520, val := Value.ref 149 }, { hash := PyData.keyHash P (Str.ofString "__doc__"), key := Value.str (Str.ofString "__doc__") 521, val := Value.none }] 2, #[]⟩) ::
  (nat_lit 151, ⟨Value.type "type", none, Data.cls { name := Str.ofString "ParseError", bases := [Value.ref 59], mro := [Value.ref 151, Value.ref 59, Value.type "ValueError", Value.type "Exception", Value.type "BaseException", Value.type "object"], ns := 150, qualname := Str.ofString "ParseError" }, #[some (Value.ref 135), none, some (Value.str (Str.ofString "ParseError") 499), some (Value.str (Str.ofString "ParseError") 507), some (Value.builtin "ValueError.__new__"), some (Value.bool true)]⟩) ::
  (nat_lit 154, ⟨Value.type "tuple", none, Data.seq #[Value.type "KeyError"], #[]⟩) ::
  (nat_lit 161, ⟨Value.type "tuple", none, Data.seq #[], #[]⟩) ::
  (nat_lit 163, ⟨Value.type "tuple", none, Data.seq #[Value.str (Str.ofString "self") 539, Value.str (Str.ofString "name") 540], #[]⟩) ::
  (nat_lit 164, ⟨Value.type "tuple", none, Data.seq #[], #[]⟩) ::
  (nat_lit 166, ⟨Value.type "code", none, Data.fields #[Value.str (Str.ofString "__init__") 536, Value.str (Str.ofString "UnknownName.__init__") 537, Value.str (Str.ofString "/claim/cut.py") 538, Value.int 26 0, Value.int 2 0, Value.int 0 0, Value.int 0 0, Value.int 3 0, Value.ref 161, Value.bool true, Value.int 370 0, Value.ref 162, Value.none, Value.ref 163, Value.ref 164, Value.ref 165, Value.int 541 0, Value.int 26 0, Value.str (Str.ofString "/claim/cut.py") 542], #[]⟩) ::
  (nat_lit 167, ⟨Value.type "function", none, Data.func (fnOf (Str.ofString "__init__") (Str.ofString "UnknownName.__init__") (defArgs (inClass (top 11) 0)) (defBody (inClass (top 11) 0)) (defScope (inClass (top 11) 0)) Value.none Value.none Value.none (Value.str (Str.ofString "pieceround.errors") 383) none (Value.ref 166) Value.none), #[]⟩) ::
  (nat_lit 168, ⟨Value.type "tuple", none, Data.seq #[Value.str (Str.ofString "name") 544], #[]⟩) ::
  (nat_lit 169, ⟨Value.type "dict", none, Data.dict #[{ hash := PyData.keyHash P (Str.ofString "__module__"), key := Value.str (Str.ofString "__module__") 531, val := Value.str (Str.ofString "pieceround.errors") 383 }, { hash := PyData.keyHash P (Str.ofString "__firstlineno__"), key := Value.str (Str.ofString "__firstlineno__") 535, val := Value.int 24 534 }, { hash := PyData.keyHash P (Str.ofString "__init__"), key := Value.str (Str.ofString "__init__") 543, val := Value.ref 167 }, { hash := PyData.keyHash P (Str.ofString "__static_attributes__"), key := Value.str (Str.ofString "__static_attributes__") 545, val := Value.ref 168 }, { hash := PyData.keyHash P (Str.ofString "__weakref__"), key := Value.str (Str.ofString "__weakref__") 547, val := Value.ref 171 }, { hash := PyData.keyHash P (Str.ofString "__doc__"), key := Value.str (Str.ofString "__doc__") 548, val := Value.none }] 3, #[]⟩) ::
  (nat_lit 170, ⟨Value.type "type", none, Data.cls { name := Str.ofString "UnknownName", bases := [Value.type "KeyError"], mro := [Value.ref 170, Value.type "KeyError", Value.type "LookupError", Value.type "Exception", Value.type "BaseException", Value.type "object"], ns := 169, qualname := Str.ofString "UnknownName" }, #[some (Value.ref 154), none, some (Value.str (Str.ofString "UnknownName") 524), some (Value.str (Str.ofString "UnknownName") 532), some (Value.builtin "LookupError.__new__"), some (Value.bool true)]⟩) ::
  (nat_lit 171, ⟨Value.type "getset_descriptor", none, Data.fields #[Value.str (Str.ofString "__weakref__") 546, Value.ref 170, Value.builtin "ExceptionGroup.__weakref__", Value.none], #[]⟩) ::
  (nat_lit 174, ⟨Value.type "tuple", none, Data.seq #[], #[]⟩) ::
  (nat_lit 176, ⟨Value.type "tuple", none, Data.seq #[Value.str (Str.ofString "value") 562], #[]⟩) ::
  (nat_lit 177, ⟨Value.type "tuple", none, Data.seq #[], #[]⟩) ::
  (nat_lit 179, ⟨Value.type "code", none, Data.fields #[Value.str (Str.ofString "is_any_integer") 559, Value.str (Str.ofString "is_any_integer") 560, Value.str (Str.ofString "/claim/cut.py") 561, Value.int 31 0, Value.int 1 0, Value.int 0 0, Value.int 0 0, Value.int 3 0, Value.ref 174, Value.bool true, Value.int 370 0, Value.ref 175, Value.none, Value.ref 176, Value.ref 177, Value.ref 178, Value.int 563 0, Value.int 31 0, Value.str (Str.ofString "/claim/cut.py") 564], #[]⟩) ::
  (nat_lit 180, ⟨Value.type "function", none, Data.func (fnOf (Str.ofString "is_any_integer") (Str.ofString "is_any_integer") (defArgs (top 15)) (defBody (top 15)) (defScope (top 15)) Value.none Value.none Value.none (Value.str (Str.ofString "pieceround.base.words") 553) none (Value.ref 179) Value.none), #[]⟩) ::
  (nat_lit 181, ⟨Value.type "tuple", none, Data.seq #[], #[]⟩) ::
  (nat_lit 184, ⟨Value.type "code", none, Data.fields #[Value.str (Str.ofString "is_name") 566, Value.str (Str.ofString "is_name") 567, Value.str (Str.ofString "/claim/cut.py") 568, Value.int 33 0, Value.int 1 0, Value.int 0 0, Value.int 0 0, Value.int 3 0, Value.ref 181, Value.bool true, Value.int 370 0, Value.ref 182, Value.none, Value.none, Value.none, Value.ref 183, Value.int 569 0, Value.int 33 0, Value.str (Str.ofString "/claim/cut.py") 570], #[]⟩) ::
  (nat_lit 185, ⟨Value.type "function", none, Data.func (fnOf (Str.ofString "is_name") (Str.ofString "is_name") (defArgs (top 16)) (defBody (top 16)) (defScope (top 16)) Value.none Value.none Value.none (Value.str (Str.ofString "pieceround.base.words") 553) none (Value.ref 184) Value.none), #[]⟩) ::
  (nat_lit 186, ⟨Value.type "tuple", none, Data.seq #[], #[]⟩) ::
  (nat_lit 189, ⟨Value.type "code", none, Data.fields #[Value.str (Str.ofString "are_names") 572, Value.str (Str.ofString "are_names") 573, Value.str (Str.ofString "/claim/cut.py") 574, Value.int 37 0, Value.int 1 0, Value.int 0 0, Value.int 0 0, Value.int 3 0, Value.ref 186, Value.bool true, Value.int 370 0, Value.ref 187, Value.none, Value.none, Value.none, Value.ref 188, Value.int 575 0, Value.int 37 0, Value.str (Str.ofString "/claim/cut.py") 576], #[]⟩) ::
  (nat_lit 190, ⟨Value.type "function", none, Data.func (fnOf (Str.ofString "are_names") (Str.ofString "are_names") (defArgs (top 17)) (defBody (top 17)) (defScope (top 17)) Value.none Value.none Value.none (Value.str (Str.ofString "pieceround.base.words") 553) none (Value.ref 189) Value.none), #[]⟩) ::
  (nat_lit 191, ⟨Value.type "tuple", none, Data.seq #[Value.int 4 584, Value.int 9 585, Value.int 25 586, Value.int 49 587, Value.int 121 588, Value.int 169 589, Value.int 289 590, Value.int 361 591, Value.int 529 592, Value.int 841 593, Value.int 961 594], #[]⟩) ::
  (nat_lit 199, ⟨Value.type "tuple", none, Data.seq #[Value.int 0 608], #[]⟩) ::
  (nat_lit 200, ⟨Value.type "dict", none, Data.dict #[{ hash := PyData.keyHash P (Str.ofString "root"), key := Value.str (Str.ofString "root") 611, val := Value.int 0 609 }, { hash := PyData.keyHash P (Str.ofString "bottom"), key := Value.str (Str.ofString "bottom") 612, val := Value.int 1 610 }] 2, #[]⟩) ::
  (nat_lit 201, ⟨Value.type "tuple", none, Data.seq #[], #[]⟩) ::
  (nat_lit 203, ⟨Value.type "tuple", none, Data.seq #[Value.str (Str.ofString "self") 616, Value.str (Str.ofString "top") 617, Value.str (Str.ofString "part") 618, Value.str (Str.ofString "root") 619, Value.str (Str.ofString "bottom") 620, Value.str (Str.ofString "common") 621], #[]⟩) ::
  (nat_lit 204, ⟨Value.type "tuple", none, Data.seq #[], #[]⟩) ::
  (nat_lit 206, ⟨Value.type "code", none, Data.fields #[Value.str (Str.ofString "__init__") 613, Value.str (Str.ofString "Number.__init__") 614, Value.str (Str.ofString "/claim/cut.py") 615, Value.int 45 0, Value.int 3 0, Value.int 0 0, Value.int 2 0, Value.int 3 0, Value.ref 201, Value.bool true, Value.int 370 0, Value.ref 202, Value.none, Value.ref 203, Value.ref 204, Value.ref 205, Value.int 622 0, Value.int 45 0, Value.str (Str.ofString "/claim/cut.py") 623], #[]⟩) ::
  (nat_lit 207, ⟨Value.type "function", none, Data.func (fnOf (Str.ofString "__init__") (Str.ofString "Number.__init__") (defArgs (inClass (top 22) 0)) (defBody (inClass (top 22) 0)) (defScope (inClass (top 22) 0)) (Value.ref 199) (Value.ref 200) Value.none (Value.str (Str.ofString "pieceround.base.numbers") 578) none (Value.ref 206) Value.none), #[]⟩) ::
  (nat_lit 208, ⟨Value.type "tuple", none, Data.seq #[], #[]⟩) ::
  (nat_lit 210, ⟨Value.type "tuple", none, Data.seq #[Value.str (Str.ofString "cls") 628, Value.str (Str.ofString "text") 629, Value.str (Str.ofString "told") 630, Value.str (Str.ofString "top") 631, Value.str (Str.ofString "part") 632, Value.str (Str.ofString "root") 633, Value.str (Str.ofString "bottom") 634, Value.str (Str.ofString "number") 635], #[]⟩) ::
  (nat_lit 211, ⟨Value.type "tuple", none, Data.seq #[], #[]⟩) ::
  (nat_lit 213, ⟨Value.type "code", none, Data.fields #[Value.str (Str.ofString "read") 625, Value.str (Str.ofString "Number.read") 626, Value.str (Str.ofString "/claim/cut.py") 627, Value.int 56 0, Value.int 2 0, Value.int 0 0, Value.int 0 0, Value.int 3 0, Value.ref 208, Value.bool true, Value.int 370 0, Value.ref 209, Value.none, Value.ref 210, Value.ref 211, Value.ref 212, Value.int 636 0, Value.int 56 0, Value.str (Str.ofString "/claim/cut.py") 637], #[]⟩) ::
  (nat_lit 214, ⟨Value.type "function", none, Data.func (fnOf (Str.ofString "read") (Str.ofString "Number.read") (defArgs (inClass (top 22) 1)) (defBody (inClass (top 22) 1)) (defScope (inClass (top 22) 1)) Value.none Value.none Value.none (Value.str (Str.ofString "pieceround.base.numbers") 578) (some 217) (Value.ref 213) Value.none), #[]⟩) ::
  (nat_lit 215, ⟨Value.type "dict", none, Data.dict #[{ hash := PyData.keyHash P (Str.ofString "__module__"), key := Value.str (Str.ofString "__module__") 639, val := Value.str (Str.ofString "pieceround.base.numbers") 578 }, { hash := PyData.keyHash P (Str.ofString "__name__"), key := Value.str (Str.ofString "__name__") 642, val := Value.str (Str.ofString "read") 641 }, { hash := PyData.keyHash P (Str.ofString "__qualname__"), key := Value.str (Str.ofString "__qualname__") 645, val := Value.str (Str.ofString "Number.read") 644 }, { hash := PyData.keyHash P (Str.ofString "__doc__"), key := Value.str (Str.ofString "__doc__") 647, val := Value.none }, { hash := PyData.keyHash P (Str.ofString "__annotations__"), key := Value.str (Str.ofString "__annotations__") 649, val := Value.ref 217 }] 5, #[]⟩) ::
  (nat_lit 216, ⟨Value.type "classmethod", some 215, Data.fields #[Value.ref 214, Value.bool false], #[]⟩) ::
  (nat_lit 217, ⟨Value.type "dict", none, Data.dict #[], #[]⟩) ::
  (nat_lit 218, ⟨Value.type "tuple", none, Data.seq #[], #[]⟩) ::
  (nat_lit 220, ⟨Value.type "tuple", none, Data.seq #[Value.str (Str.ofString "self") 654], #[]⟩) ::
  (nat_lit 221, ⟨Value.type "tuple", none, Data.seq #[], #[]⟩) ::
  (nat_lit 223, ⟨Value.type "code", none, Data.fields #[Value.str (Str.ofString "top") 651, Value.str (Str.ofString "Number.top") 652, Value.str (Str.ofString "/claim/cut.py") 653, Value.int 69 0, Value.int 1 0, Value.int 0 0, Value.int 0 0, Value.int 3 0, Value.ref 218, Value.bool true, Value.int 370 0, Value.ref 219, Value.none, Value.ref 220, Value.ref 221, Value.ref 222, Value.int 655 0, Value.int 69 0, Value.str (Str.ofString "/claim/cut.py") 656], #[]⟩) ::
  (nat_lit 224, ⟨Value.type "function", none, Data.func (fnOf (Str.ofString "top") (Str.ofString "Number.top") (defArgs (inClass (top 22) 2)) (defBody (inClass (top 22) 2)) (defScope (inClass (top 22) 2)) Value.none Value.none Value.none (Value.str (Str.ofString "pieceround.base.numbers") 578) none (Value.ref 223) Value.none), #[]⟩) ::
  (nat_lit 225, ⟨Value.type "property", none, Data.fields #[Value.ref 224, Value.none, Value.none, Value.none, Value.str (Str.ofString "top") 658, Value.bool false], #[]⟩) ::
  (nat_lit 226, ⟨Value.type "tuple", none, Data.seq #[], #[]⟩) ::
  (nat_lit 228, ⟨Value.type "tuple", none, Data.seq #[Value.str (Str.ofString "self") 662], #[]⟩) ::
  (nat_lit 229, ⟨Value.type "tuple", none, Data.seq #[], #[]⟩) ::
  (nat_lit 231, ⟨Value.type "code", none, Data.fields #[Value.str (Str.ofString "part") 659, Value.str (Str.ofString "Number.part") 660, Value.str (Str.ofString "/claim/cut.py") 661, Value.int 73 0, Value.int 1 0, Value.int 0 0, Value.int 0 0, Value.int 3 0, Value.ref 226, Value.bool true, Value.int 370 0, Value.ref 227, Value.none, Value.ref 228, Value.ref 229, Value.ref 230, Value.int 663 0, Value.int 73 0, Value.str (Str.ofString "/claim/cut.py") 664], #[]⟩) ::
  (nat_lit 232, ⟨Value.type "function", none, Data.func (fnOf (Str.ofString "part") (Str.ofString "Number.part") (defArgs (inClass (top 22) 3)) (defBody (inClass (top 22) 3)) (defScope (inClass (top 22) 3)) Value.none Value.none Value.none (Value.str (Str.ofString "pieceround.base.numbers") 578) none (Value.ref 231) Value.none), #[]⟩) ::
  (nat_lit 233, ⟨Value.type "property", none, Data.fields #[Value.ref 232, Value.none, Value.none, Value.none, Value.str (Str.ofString "part") 666, Value.bool false], #[]⟩) ::
  (nat_lit 234, ⟨Value.type "tuple", none, Data.seq #[], #[]⟩) ::
  (nat_lit 236, ⟨Value.type "tuple", none, Data.seq #[Value.str (Str.ofString "self") 670], #[]⟩) ::
  (nat_lit 237, ⟨Value.type "tuple", none, Data.seq #[], #[]⟩) ::
  (nat_lit 239, ⟨Value.type "code", none, Data.fields #[Value.str (Str.ofString "root") 667, Value.str (Str.ofString "Number.root") 668, Value.str (Str.ofString "/claim/cut.py") 669, Value.int 77 0, Value.int 1 0, Value.int 0 0, Value.int 0 0, Value.int 3 0, Value.ref 234, Value.bool true, Value.int 370 0, Value.ref 235, Value.none, Value.ref 236, Value.ref 237, Value.ref 238, Value.int 671 0, Value.int 77 0, Value.str (Str.ofString "/claim/cut.py") 672], #[]⟩) ::
  (nat_lit 240, ⟨Value.type "function", none, Data.func (fnOf (Str.ofString "root") (Str.ofString "Number.root") (defArgs (inClass (top 22) 4)) (defBody (inClass (top 22) 4)) (defScope (inClass (top 22) 4)) Value.none Value.none Value.none (Value.str (Str.ofString "pieceround.base.numbers") 578) none (Value.ref 239) Value.none), #[]⟩) ::
  (nat_lit 241, ⟨Value.type "property", none, Data.fields #[Value.ref 240, Value.none, Value.none, Value.none, Value.str (Str.ofString "root") 674, Value.bool false], #[]⟩) ::
  (nat_lit 242, ⟨Value.type "tuple", none, Data.seq #[], #[]⟩) ::
  (nat_lit 244, ⟨Value.type "tuple", none, Data.seq #[Value.str (Str.ofString "self") 678], #[]⟩) ::
  (nat_lit 245, ⟨Value.type "tuple", none, Data.seq #[], #[]⟩) ::
  (nat_lit 247, ⟨Value.type "code", none, Data.fields #[Value.str (Str.ofString "bottom") 675, Value.str (Str.ofString "Number.bottom") 676, Value.str (Str.ofString "/claim/cut.py") 677, Value.int 81 0, Value.int 1 0, Value.int 0 0, Value.int 0 0, Value.int 3 0, Value.ref 242, Value.bool true, Value.int 370 0, Value.ref 243, Value.none, Value.ref 244, Value.ref 245, Value.ref 246, Value.int 679 0, Value.int 81 0, Value.str (Str.ofString "/claim/cut.py") 680], #[]⟩) ::
  (nat_lit 248, ⟨Value.type "function", none, Data.func (fnOf (Str.ofString "bottom") (Str.ofString "Number.bottom") (defArgs (inClass (top 22) 5)) (defBody (inClass (top 22) 5)) (defScope (inClass (top 22) 5)) Value.none Value.none Value.none (Value.str (Str.ofString "pieceround.base.numbers") 578) none (Value.ref 247) Value.none), #[]⟩) ::
  (nat_lit 249, ⟨Value.type "property", none, Data.fields #[Value.ref 248, Value.none, Value.none, Value.none, Value.str (Str.ofString "bottom") 682, Value.bool false], #[]⟩) ::
  (nat_lit 250, ⟨Value.type "tuple", none, Data.seq #[], #[]⟩) ::
  (nat_lit 252, ⟨Value.type "tuple", none, Data.seq #[Value.str (Str.ofString "self") 686], #[]⟩) ::
  (nat_lit 253, ⟨Value.type "tuple", none, Data.seq #[], #[]⟩) ::
  (nat_lit 255, ⟨Value.type "code", none, Data.fields #[Value.str (Str.ofString "sign") 683, Value.str (Str.ofString "Number.sign") 684, Value.str (Str.ofString "/claim/cut.py") 685, Value.int 85 0, Value.int 1 0, Value.int 0 0, Value.int 0 0, Value.int 3 0, Value.ref 250, Value.bool true, Value.int 370 0, Value.ref 251, Value.none, Value.ref 252, Value.ref 253, Value.ref 254, Value.int 687 0, Value.int 85 0, Value.str (Str.ofString "/claim/cut.py") 688], #[]⟩) ::
  (nat_lit 256, ⟨Value.type "function", none, Data.func (fnOf (Str.ofString "sign") (Str.ofString "Number.sign") (defArgs (inClass (top 22) 6)) (defBody (inClass (top 22) 6)) (defScope (inClass (top 22) 6)) Value.none Value.none Value.none (Value.str (Str.ofString "pieceround.base.numbers") 578) none (Value.ref 255) Value.none), #[]⟩) ::
  (nat_lit 257, ⟨Value.type "property", none, Data.fields #[Value.ref 256, Value.none, Value.none, Value.none, Value.str (Str.ofString "sign") 690, Value.bool false], #[]⟩) ::
  (nat_lit 258, ⟨Value.type "tuple", none, Data.seq #[], #[]⟩) ::
  (nat_lit 260, ⟨Value.type "tuple", none, Data.seq #[Value.str (Str.ofString "self") 694], #[]⟩) ::
  (nat_lit 261, ⟨Value.type "tuple", none, Data.seq #[], #[]⟩) ::
  (nat_lit 263, ⟨Value.type "code", none, Data.fields #[Value.str (Str.ofString "floor") 691, Value.str (Str.ofString "Number.floor") 692, Value.str (Str.ofString "/claim/cut.py") 693, Value.int 89 0, Value.int 1 0, Value.int 0 0, Value.int 0 0, Value.int 3 0, Value.ref 258, Value.bool true, Value.int 370 0, Value.ref 259, Value.none, Value.ref 260, Value.ref 261, Value.ref 262, Value.int 695 0, Value.int 89 0, Value.str (Str.ofString "/claim/cut.py") 696], #[]⟩) ::
  (nat_lit 264, ⟨Value.type "function", none, Data.func (fnOf (Str.ofString "floor") (Str.ofString "Number.floor") (defArgs (inClass (top 22) 7)) (defBody (inClass (top 22) 7)) (defScope (inClass (top 22) 7)) Value.none Value.none Value.none (Value.str (Str.ofString "pieceround.base.numbers") 578) none (Value.ref 263) Value.none), #[]⟩) ::
  (nat_lit 265, ⟨Value.type "property", none, Data.fields #[Value.ref 264, Value.none, Value.none, Value.none, Value.str (Str.ofString "floor") 698, Value.bool false], #[]⟩) ::
  (nat_lit 266, ⟨Value.type "tuple", none, Data.seq #[], #[]⟩) ::
  (nat_lit 268, ⟨Value.type "tuple", none, Data.seq #[Value.str (Str.ofString "self") 702], #[]⟩) ::
  (nat_lit 269, ⟨Value.type "tuple", none, Data.seq #[], #[]⟩) ::
  (nat_lit 271, ⟨Value.type "code", none, Data.fields #[Value.str (Str.ofString "mirror") 699, Value.str (Str.ofString "Number.mirror") 700, Value.str (Str.ofString "/claim/cut.py") 701, Value.int 93 0, Value.int 1 0, Value.int 0 0, Value.int 0 0, Value.int 3 0, Value.ref 266, Value.bool true, Value.int 370 0, Value.ref 267, Value.none, Value.ref 268, Value.ref 269, Value.ref 270, Value.int 703 0, Value.int 93 0, Value.str (Str.ofString "/claim/cut.py") 704], #[]⟩) ::
  (nat_lit 272, ⟨Value.type "function", none, Data.func (fnOf (Str.ofString "mirror") (Str.ofString "Number.mirror") (defArgs (inClass (top 22) 8)) (defBody (inClass (top 22) 8)) (defScope (inClass (top 22) 8)) Value.none Value.none Value.none (Value.str (Str.ofString "pieceround.base.numbers") 578) none (Value.ref 271) Value.none), #[]⟩) ::
  (nat_lit 273, ⟨Value.type "property", none, Data.fields #[Value.ref 272, Value.none, Value.none, Value.none, Value.str (Str.ofString "mirror") 706, Value.bool false], #[]⟩) ::
  (nat_lit 274, ⟨Value.type "tuple", none, Data.seq #[], #[]⟩) ::
  (nat_lit 276, ⟨Value.type "tuple", none, Data.seq #[Value.str (Str.ofString "self") 710], #[]⟩) ::
  (nat_lit 277, ⟨Value.type "tuple", none, Data.seq #[], #[]⟩) ::
  (nat_lit 279, ⟨Value.type "code", none, Data.fields #[Value.str (Str.ofString "norm") 707, Value.str (Str.ofString "Number.norm") 708, Value.str (Str.ofString "/claim/cut.py") 709, Value.int 97 0, Value.int 1 0, Value.int 0 0, Value.int 0 0, Value.int 3 0, Value.ref 274, Value.bool true, Value.int 370 0, Value.ref 275, Value.none, Value.ref 276, Value.ref 277, Value.ref 278, Value.int 711 0, Value.int 97 0, Value.str (Str.ofString "/claim/cut.py") 712], #[]⟩) ::
  (nat_lit 280, ⟨Value.type "function", none, Data.func (fnOf (Str.ofString "norm") (Str.ofString "Number.norm") (defArgs (inClass (top 22) 9)) (defBody (inClass (top 22) 9)) (defScope (inClass (top 22) 9)) Value.none Value.none Value.none (Value.str (Str.ofString "pieceround.base.numbers") 578) none (Value.ref 279) Value.none), #[]⟩) ::
  (nat_lit 281, ⟨Value.type "property", none, Data.fields #[Value.ref 280, Value.none, Value.none, Value.none, Value.str (Str.ofString "norm") 714, Value.bool false], #[]⟩) ::
  (nat_lit 282, ⟨Value.type "tuple", none, Data.seq #[], #[]⟩) ::
  (nat_lit 284, ⟨Value.type "tuple", none, Data.seq #[Value.str (Str.ofString "self") 718, Value.str (Str.ofString "other") 719, Value.str (Str.ofString "number") 720, Value.str (Str.ofString "root") 721, Value.str (Str.ofString "top") 722, Value.str (Str.ofString "part") 723], #[]⟩) ::
  (nat_lit 285, ⟨Value.type "tuple", none, Data.seq #[], #[]⟩) ::
  (nat_lit 287, ⟨Value.type "code", none, Data.fields #[Value.str (Str.ofString "__add__") 715, Value.str (Str.ofString "Number.__add__") 716, Value.str (Str.ofString "/claim/cut.py") 717, Value.int 101 0, Value.int 2 0, Value.int 0 0, Value.int 0 0, Value.int 3 0, Value.ref 282, Value.bool true, Value.int 370 0, Value.ref 283, Value.none, Value.ref 284, Value.ref 285, Value.ref 286, Value.int 724 0, Value.int 101 0, Value.str (Str.ofString "/claim/cut.py") 725], #[]⟩) ::
  (nat_lit 288, ⟨Value.type "function", none, Data.func (fnOf (Str.ofString "__add__") (Str.ofString "Number.__add__") (defArgs (inClass (top 22) 10)) (defBody (inClass (top 22) 10)) (defScope (inClass (top 22) 10)) Value.none Value.none Value.none (Value.str (Str.ofString "pieceround.base.numbers") 578) none (Value.ref 287) Value.none), #[]⟩) ::
  (nat_lit 289, ⟨Value.type "tuple", none, Data.seq #[], #[]⟩) ::
  (nat_lit 291, ⟨Value.type "tuple", none, Data.seq #[Value.str (Str.ofString "self") 730, Value.str (Str.ofString "other") 731, Value.str (Str.ofString "number") 732, Value.str (Str.ofString "root") 733, Value.str (Str.ofString "top") 734, Value.str (Str.ofString "part") 735], #[]⟩) ::
  (nat_lit 292, ⟨Value.type "tuple", none, Data.seq #[], #[]⟩) ::
  (nat_lit 294, ⟨Value.type "code", none, Data.fields #[Value.str (Str.ofString "__sub__") 727, Value.str (Str.ofString "Number.__sub__") 728, Value.str (Str.ofString "/claim/cut.py") 729, Value.int 108 0, Value.int 2 0, Value.int 0 0, Value.int 0 0, Value.int 3 0, Value.ref 289, Value.bool true, Value.int 370 0, Value.ref 290, Value.none, Value.ref 291, Value.ref 292, Value.ref 293, Value.int 736 0, Value.int 108 0, Value.str (Str.ofString "/claim/cut.py") 737], #[]⟩) ::
  (nat_lit 295, ⟨Value.type "function", none, Data.func (fnOf (Str.ofString "__sub__") (Str.ofString "Number.__sub__") (defArgs (inClass (top 22) 11)) (defBody (inClass (top 22) 11)) (defScope (inClass (top 22) 11)) Value.none Value.none Value.none (Value.str (Str.ofString "pieceround.base.numbers") 578) none (Value.ref 294) Value.none), #[]⟩) ::
  (nat_lit 296, ⟨Value.type "tuple", none, Data.seq #[], #[]⟩) ::
  (nat_lit 298, ⟨Value.type "tuple", none, Data.seq #[Value.str (Str.ofString "self") 742, Value.str (Str.ofString "other") 743, Value.str (Str.ofString "number") 744, Value.str (Str.ofString "root") 745, Value.str (Str.ofString "top") 746, Value.str (Str.ofString "part") 747], #[]⟩) ::
  (nat_lit 299, ⟨Value.type "tuple", none, Data.seq #[], #[]⟩) ::
  (nat_lit 301, ⟨Value.type "code", none, Data.fields #[Value.str (Str.ofString "__mul__") 739, Value.str (Str.ofString "Number.__mul__") 740, Value.str (Str.ofString "/claim/cut.py") 741, Value.int 114 0, Value.int 2 0, Value.int 0 0, Value.int 0 0, Value.int 3 0, Value.ref 296, Value.bool true, Value.int 370 0, Value.ref 297, Value.none, Value.ref 298, Value.ref 299, Value.ref 300, Value.int 748 0, Value.int 114 0, Value.str (Str.ofString "/claim/cut.py") 749], #[]⟩) ::
  (nat_lit 302, ⟨Value.type "function", none, Data.func (fnOf (Str.ofString "__mul__") (Str.ofString "Number.__mul__") (defArgs (inClass (top 22) 12)) (defBody (inClass (top 22) 12)) (defScope (inClass (top 22) 12)) Value.none Value.none Value.none (Value.str (Str.ofString "pieceround.base.numbers") 578) none (Value.ref 301) Value.none), #[]⟩) ::
  (nat_lit 303, ⟨Value.type "tuple", none, Data.seq #[], #[]⟩) ::
  (nat_lit 305, ⟨Value.type "tuple", none, Data.seq #[Value.str (Str.ofString "self") 754], #[]⟩) ::
  (nat_lit 306, ⟨Value.type "tuple", none, Data.seq #[], #[]⟩) ::
  (nat_lit 308, ⟨Value.type "code", none, Data.fields #[Value.str (Str.ofString "__neg__") 751, Value.str (Str.ofString "Number.__neg__") 752, Value.str (Str.ofString "/claim/cut.py") 753, Value.int 121 0, Value.int 1 0, Value.int 0 0, Value.int 0 0, Value.int 3 0, Value.ref 303, Value.bool true, Value.int 370 0, Value.ref 304, Value.none, Value.ref 305, Value.ref 306, Value.ref 307, Value.int 755 0, Value.int 121 0, Value.str (Str.ofString "/claim/cut.py") 756], #[]⟩) ::
  (nat_lit 309, ⟨Value.type "function", none, Data.func (fnOf (Str.ofString "__neg__") (Str.ofString "Number.__neg__") (defArgs (inClass (top 22) 13)) (defBody (inClass (top 22) 13)) (defScope (inClass (top 22) 13)) Value.none Value.none Value.none (Value.str (Str.ofString "pieceround.base.numbers") 578) none (Value.ref 308) Value.none), #[]⟩) ::
  (nat_lit 310, ⟨Value.type "tuple", none, Data.seq #[], #[]⟩) ::
  (nat_lit 312, ⟨Value.type "tuple", none, Data.seq #[Value.str (Str.ofString "self") 761, Value.str (Str.ofString "other") 762, Value.str (Str.ofString "number") 763, Value.str (Str.ofString "root") 764, Value.str (Str.ofString "top") 765, Value.str (Str.ofString "part") 766], #[]⟩) ::
  (nat_lit 313, ⟨Value.type "tuple", none, Data.seq #[], #[]⟩) ::
  (nat_lit 315, ⟨Value.type "code", none, Data.fields #[Value.str (Str.ofString "over") 758, Value.str (Str.ofString "Number.over") 759, Value.str (Str.ofString "/claim/cut.py") 760, Value.int 124 0, Value.int 2 0, Value.int 0 0, Value.int 0 0, Value.int 3 0, Value.ref 310, Value.bool true, Value.int 370 0, Value.ref 311, Value.none, Value.ref 312, Value.ref 313, Value.ref 314, Value.int 767 0, Value.int 124 0, Value.str (Str.ofString "/claim/cut.py") 768], #[]⟩) ::
  (nat_lit 316, ⟨Value.type "function", none, Data.func (fnOf (Str.ofString "over") (Str.ofString "Number.over") (defArgs (inClass (top 22) 14)) (defBody (inClass (top 22) 14)) (defScope (inClass (top 22) 14)) Value.none Value.none Value.none (Value.str (Str.ofString "pieceround.base.numbers") 578) none (Value.ref 315) Value.none), #[]⟩) ::
  (nat_lit 317, ⟨Value.type "tuple", none, Data.seq #[], #[]⟩) ::
  (nat_lit 319, ⟨Value.type "tuple", none, Data.seq #[Value.str (Str.ofString "self") 773, Value.str (Str.ofString "other") 774, Value.str (Str.ofString "number") 775, Value.str (Str.ofString "root") 776, Value.str (Str.ofString "top") 777, Value.str (Str.ofString "part") 778], #[]⟩) ::
  (nat_lit 320, ⟨Value.type "tuple", none, Data.seq #[], #[]⟩) ::
  (nat_lit 322, ⟨Value.type "code", none, Data.fields #[Value.str (Str.ofString "compared") 770, Value.str (Str.ofString "Number.compared") 771, Value.str (Str.ofString "/claim/cut.py") 772, Value.int 133 0, Value.int 2 0, Value.int 0 0, Value.int 0 0, Value.int 3 0, Value.ref 317, Value.bool true, Value.int 370 0, Value.ref 318, Value.none, Value.ref 319, Value.ref 320, Value.ref 321, Value.int 779 0, Value.int 133 0, Value.str (Str.ofString "/claim/cut.py") 780], #[]⟩) ::
  (nat_lit 323, ⟨Value.type "function", none, Data.func (fnOf (Str.ofString "compared") (Str.ofString "Number.compared") (defArgs (inClass (top 22) 15)) (defBody (inClass (top 22) 15)) (defScope (inClass (top 22) 15)) Value.none Value.none Value.none (Value.str (Str.ofString "pieceround.base.numbers") 578) none (Value.ref 322) Value.none), #[]⟩) ::
  (nat_lit 324, ⟨Value.type "tuple", none, Data.seq #[], #[]⟩) ::
  (nat_lit 326, ⟨Value.type "tuple", none, Data.seq #[Value.str (Str.ofString "self") 785, Value.str (Str.ofString "other") 786], #[]⟩) ::
  (nat_lit 327, ⟨Value.type "tuple", none, Data.seq #[], #[]⟩) ::
  (nat_lit 329, ⟨Value.type "code", none, Data.fields #[Value.str (Str.ofString "__eq__") 782, Value.str (Str.ofString "Number.__eq__") 783, Value.str (Str.ofString "/claim/cut.py") 784, Value.int 139 0, Value.int 2 0, Value.int 0 0, Value.int 0 0, Value.int 3 0, Value.ref 324, Value.bool true, Value.int 370 0, Value.ref 325, Value.none, Value.ref 326, Value.ref 327, Value.ref 328, Value.int 787 0, Value.int 139 0, Value.str (Str.ofString "/claim/cut.py") 788], #[]⟩) ::
  (nat_lit 330, ⟨Value.type "function", none, Data.func (fnOf (Str.ofString "__eq__") (Str.ofString "Number.__eq__") (defArgs (inClass (top 22) 16)) (defBody (inClass (top 22) 16)) (defScope (inClass (top 22) 16)) Value.none Value.none Value.none (Value.str (Str.ofString "pieceround.base.numbers") 578) none (Value.ref 329) Value.none), #[]⟩) ::
  (nat_lit 331, ⟨Value.type "tuple", none, Data.seq #[], #[]⟩) ::
  (nat_lit 333, ⟨Value.type "tuple", none, Data.seq #[Value.str (Str.ofString "self") 793], #[]⟩) ::
  (nat_lit 334, ⟨Value.type "tuple", none, Data.seq #[], #[]⟩) ::
  (nat_lit 336, ⟨Value.type "code", none, Data.fields #[Value.str (Str.ofString "__str__") 790, Value.str (Str.ofString "Number.__str__") 791, Value.str (Str.ofString "/claim/cut.py") 792, Value.int 142 0, Value.int 1 0, Value.int 0 0, Value.int 0 0, Value.int 3 0, Value.ref 331, Value.bool true, Value.int 370 0, Value.ref 332, Value.none, Value.ref 333, Value.ref 334, Value.ref 335, Value.int 794 0, Value.int 142 0, Value.str (Str.ofString "/claim/cut.py") 795], #[]⟩) ::
  (nat_lit 337, ⟨Value.type "function", none, Data.func (fnOf (Str.ofString "__str__") (Str.ofString "Number.__str__") (defArgs (inClass (top 22) 17)) (defBody (inClass (top 22) 17)) (defScope (inClass (top 22) 17)) Value.none Value.none Value.none (Value.str (Str.ofString "pieceround.base.numbers") 578) none (Value.ref 336) Value.none), #[]⟩) ::
  (nat_lit 338, ⟨Value.type "tuple", none, Data.seq #[Value.str (Str.ofString "_bottom") 797, Value.str (Str.ofString "_part") 798, Value.str (Str.ofString "_root") 799, Value.str (Str.ofString "_top") 800], #[]⟩) ::
  (nat_lit 339, ⟨Value.type "dict", none, Data.dict #[{ hash := PyData.keyHash P (Str.ofString "__module__"), key := Value.str (Str.ofString "__module__") 603, val := Value.str (Str.ofString "pieceround.base.numbers") 578 }, { hash := PyData.keyHash P (Str.ofString "__firstlineno__"), key := Value.str (Str.ofString "__firstlineno__") 607, val := Value.int 43 606 }, { hash := PyData.keyHash P (Str.ofString "__init__"), key := Value.str (Str.ofString "__init__") 624, val := Value.ref 207 }, { hash := PyData.keyHash P (Str.ofString "read"), key := Value.str (Str.ofString "read") 650, val := Value.ref 216 }, { hash := PyData.keyHash P (Str.ofString "top"), key := Value.str (Str.ofString "top") 658, val := Value.ref 225 }, { hash := PyData.keyHash P (Str.ofString "part"), key := Value.str (Str.ofString "part") 666, val := Value.ref 233 }, { hash := PyData.keyHash P (Str.ofString "root"), key := Value.str (Str.ofString "root") 674, val := Value.ref 241 }, { hash := PyData.keyHash P (Str.ofString "bottom"), key := Value.str (Str.ofString "bottom") 682, val := Value.ref 249 }, { hash := PyData.keyHash P (Str.ofString "sign"), key := Value.str (Str.ofString "sign") 690, val := Value.ref 257 }, { hash := PyData.keyHash P (Str.ofString "floor"), key := Value.str (Str.ofString "floor") 698, val := Value.ref 265 }, { hash := PyData.keyHash P (Str.ofString "mirror"), key := Value.str (Str.ofString "mirror") 706, val := Value.ref 273 }, { hash := PyData.keyHash P (Str.ofString "norm"), key := Value.str (Str.ofString "norm") 714, val := Value.ref 281 }, { hash := PyData.keyHash P (Str.ofString "__add__"), key := Value.str (Str.ofString "__add__") 726, val := Value.ref 288 }, { hash := PyData.keyHash P (Str.ofString "__sub__"), key := Value.str (Str.ofString "__sub__") 738, val := Value.ref 295 }, { hash := PyData.keyHash P (Str.ofString "__mul__"), key := Value.str (Str.ofString "__mul__") 750, val := Value.ref 302 }, { hash := PyData.keyHash P (Str.ofString "__neg__"), key := Value.str (Str.ofString "__neg__") 757, val := Value.ref 309 }, { hash := PyData.keyHash P (Str.ofString "over"), key := Value.str (Str.ofString "over") 769, val := Value.ref 316 }, { hash := PyData.keyHash P (Str.ofString "compared"), key := Value.str (Str.ofString "compared") 781, val := Value.ref 323 }, { hash := PyData.keyHash P (Str.ofString "__eq__"), key := Value.str (Str.ofString "__eq__") 789, val := Value.ref 330 }, { hash := PyData.keyHash P (Str.ofString "__str__"), key := Value.str (Str.ofString "__str__") 796, val := Value.ref 337 }, { hash := PyData.keyHash P (Str.ofString "__static_attributes__"), key := Value.str (Str.ofString "__static_attributes__") 801, val := Value.ref 338 }, { hash := PyData.keyHash P (Str.ofString "__dict__"), key := Value.str (Str.ofString "__dict__") 803, val := Value.ref 341 }, { hash := PyData.keyHash P (Str.ofString "__weakref__"), key := Value.str (Str.ofString "__weakref__") 805, val := Value.ref 342 }, { hash := PyData.keyHash P (Str.ofString "__doc__"), key := Value.str (Str.ofString "__doc__") 806, val := Value.none }, { hash := PyData.keyHash P (Str.ofString "__hash__"), key := Value.str (Str.ofString "__hash__") 807, val := Value.none }] 5, #[]⟩) ::
  (nat_lit 340, ⟨Value.type "type", none, Data.cls { name := Str.ofString "Number", bases := [Value.type "object"], mro := [Value.ref 340, Value.type "object"], ns := 339, qualname := Str.ofString "Number" }, #[none, none, some (Value.str (Str.ofString "Number") 596), some (Value.str (Str.ofString "Number") 604), some (Value.builtin "object.__new__"), some (Value.bool true)]⟩) ::
  (nat_lit 341, ⟨Value.type "getset_descriptor", none, Data.fields #[Value.str (Str.ofString "__dict__") 802, Value.ref 340, Value.builtin "function.__dict__", Value.builtin "function.__dict__#set"], #[]⟩) ::
  (nat_lit 342, ⟨Value.type "getset_descriptor", none, Data.fields #[Value.str (Str.ofString "__weakref__") 804, Value.ref 340, Value.builtin "ExceptionGroup.__weakref__", Value.none], #[]⟩) ::
  (nat_lit 345, ⟨Value.type "tuple", none, Data.seq #[], #[]⟩) ::
  (nat_lit 348, ⟨Value.type "code", none, Data.fields #[Value.str (Str.ofString "have_one_root") 810, Value.str (Str.ofString "have_one_root") 811, Value.str (Str.ofString "/claim/cut.py") 812, Value.int 144 0, Value.int 1 0, Value.int 0 0, Value.int 0 0, Value.int 3 0, Value.ref 345, Value.bool true, Value.int 370 0, Value.ref 346, Value.none, Value.none, Value.none, Value.ref 347, Value.int 813 0, Value.int 144 0, Value.str (Str.ofString "/claim/cut.py") 814], #[]⟩) ::
  (nat_lit 349, ⟨Value.type "function", none, Data.func (fnOf (Str.ofString "have_one_root") (Str.ofString "have_one_root") (defArgs (top 23)) (defBody (top 23)) (defScope (top 23)) Value.none Value.none Value.none (Value.str (Str.ofString "pieceround.base.numbers") 578) none (Value.ref 348) Value.none), #[]⟩) ::
  (nat_lit 350, ⟨Value.type "tuple", none, Data.seq #[], #[]⟩) ::
  (nat_lit 353, ⟨Value.type "code", none, Data.fields #[Value.str (Str.ofString "_are_valid") 816, Value.str (Str.ofString "_are_valid") 817, Value.str (Str.ofString "/claim/cut.py") 818, Value.int 148 0, Value.int 4 0, Value.int 0 0, Value.int 0 0, Value.int 3 0, Value.ref 350, Value.bool true, Value.int 370 0, Value.ref 351, Value.none, Value.none, Value.none, Value.ref 352, Value.int 819 0, Value.int 148 0, Value.str (Str.ofString "/claim/cut.py") 820], #[]⟩) ::
  (nat_lit 354, ⟨Value.type "function", none, Data.func (fnOf (Str.ofString "_are_valid") (Str.ofString "_are_valid") (defArgs (top 24)) (defBody (top 24)) (defScope (top 24)) Value.none Value.none Value.none (Value.str (Str.ofString "pieceround.base.numbers") 578) none (Value.ref 353) Value.none), #[]⟩) ::
  (nat_lit 355, ⟨Value.type "tuple", none, Data.seq #[], #[]⟩) ::
  (nat_lit 357, ⟨Value.type "tuple", none, Data.seq #[Value.str (Str.ofString "value") 825], #[]⟩) ::
  (nat_lit 358, ⟨Value.type "tuple", none, Data.seq #[], #[]⟩) ::
  (nat_lit 360, ⟨Value.type "code", none, Data.fields #[Value.str (Str.ofString "_as_number") 822, Value.str (Str.ofString "_as_number") 823, Value.str (Str.ofString "/claim/cut.py") 824, Value.int 156 0, Value.int 1 0, Value.int 0 0, Value.int 0 0, Value.int 3 0, Value.ref 355, Value.bool true, Value.int 370 0, Value.ref 356, Value.none, Value.ref 357, Value.ref 358, Value.ref 359, Value.int 826 0, Value.int 156 0, Value.str (Str.ofString "/claim/cut.py") 827], #[]⟩) ::
  (nat_lit 361, ⟨Value.type "function", none, Data.func (fnOf (Str.ofString "_as_number") (Str.ofString "_as_number") (defArgs (top 25)) (defBody (top 25)) (defScope (top 25)) Value.none Value.none Value.none (Value.str (Str.ofString "pieceround.base.numbers") 578) none (Value.ref 360) Value.none), #[]⟩) ::
  (nat_lit 362, ⟨Value.type "tuple", none, Data.seq #[], #[]⟩) ::
  (nat_lit 364, ⟨Value.type "tuple", none, Data.seq #[Value.str (Str.ofString "value") 832, Value.str (Str.ofString "number") 833], #[]⟩) ::
  (nat_lit 365, ⟨Value.type "tuple", none, Data.seq #[], #[]⟩) ::
  (nat_lit 367, ⟨Value.type "code", none, Data.fields #[Value.str (Str.ofString "_operand") 829, Value.str (Str.ofString "_operand") 830, Value.str (Str.ofString "/claim/cut.py") 831, Value.int 160 0, Value.int 1 0, Value.int 0 0, Value.int 0 0, Value.int 3 0, Value.ref 362, Value.bool true, Value.int 370 0, Value.ref 363, Value.none, Value.ref 364, Value.ref 365, Value.ref 366, Value.int 834 0, Value.int 160 0, Value.str (Str.ofString "/claim/cut.py") 835], #[]⟩) ::
  (nat_lit 368, ⟨Value.type "function", none, Data.func (fnOf (Str.ofString "_operand") (Str.ofString "_operand") (defArgs (top 26)) (defBody (top 26)) (defScope (top 26)) Value.none Value.none Value.none (Value.str (Str.ofString "pieceround.base.numbers") 578) none (Value.ref 367) Value.none), #[]⟩) ::
  (nat_lit 369, ⟨Value.type "tuple", none, Data.seq #[], #[]⟩) ::
  (nat_lit 371, ⟨Value.type "tuple", none, Data.seq #[Value.str (Str.ofString "value") 840, Value.str (Str.ofString "number") 841], #[]⟩) ::
  (nat_lit 372, ⟨Value.type "tuple", none, Data.seq #[], #[]⟩) ::
  (nat_lit 374, ⟨Value.type "code", none, Data.fields #[Value.str (Str.ofString "_argument") 837, Value.str (Str.ofString "_argument") 838, Value.str (Str.ofString "/claim/cut.py") 839, Value.int 165 0, Value.int 1 0, Value.int 0 0, Value.int 0 0, Value.int 3 0, Value.ref 369, Value.bool true, Value.int 370 0, Value.ref 370, Value.none, Value.ref 371, Value.ref 372, Value.ref 373, Value.int 842 0, Value.int 165 0, Value.str (Str.ofString "/claim/cut.py") 843], #[]⟩) ::
  (nat_lit 375, ⟨Value.type "function", none, Data.func (fnOf (Str.ofString "_argument") (Str.ofString "_argument") (defArgs (top 27)) (defBody (top 27)) (defScope (top 27)) Value.none Value.none Value.none (Value.str (Str.ofString "pieceround.base.numbers") 578) none (Value.ref 374) Value.none), #[]⟩) ::
  (nat_lit 376, ⟨Value.type "tuple", none, Data.seq #[], #[]⟩) ::
  (nat_lit 378, ⟨Value.type "tuple", none, Data.seq #[Value.str (Str.ofString "one") 848, Value.str (Str.ofString "other") 849], #[]⟩) ::
  (nat_lit 379, ⟨Value.type "tuple", none, Data.seq #[], #[]⟩) ::
  (nat_lit 381, ⟨Value.type "code", none, Data.fields #[Value.str (Str.ofString "_common_root") 845, Value.str (Str.ofString "_common_root") 846, Value.str (Str.ofString "/claim/cut.py") 847, Value.int 170 0, Value.int 2 0, Value.int 0 0, Value.int 0 0, Value.int 3 0, Value.ref 376, Value.bool true, Value.int 370 0, Value.ref 377, Value.none, Value.ref 378, Value.ref 379, Value.ref 380, Value.int 850 0, Value.int 170 0, Value.str (Str.ofString "/claim/cut.py") 851], #[]⟩) ::
  (nat_lit 382, ⟨Value.type "function", none, Data.func (fnOf (Str.ofString "_common_root") (Str.ofString "_common_root") (defArgs (top 28)) (defBody (top 28)) (defScope (top 28)) Value.none Value.none Value.none (Value.str (Str.ofString "pieceround.base.numbers") 578) none (Value.ref 381) Value.none), #[]⟩) ::
  (nat_lit 383, ⟨Value.type "tuple", none, Data.seq #[], #[]⟩) ::
  (nat_lit 385, ⟨Value.type "tuple", none, Data.seq #[Value.str (Str.ofString "one") 856, Value.str (Str.ofString "other") 857, Value.str (Str.ofString "top") 858, Value.str (Str.ofString "part") 859], #[]⟩) ::
  (nat_lit 386, ⟨Value.type "tuple", none, Data.seq #[], #[]⟩) ::
  (nat_lit 388, ⟨Value.type "code", none, Data.fields #[Value.str (Str.ofString "_difference_above") 853, Value.str (Str.ofString "_difference_above") 854, Value.str (Str.ofString "/claim/cut.py") 855, Value.int 174 0, Value.int 2 0, Value.int 0 0, Value.int 0 0, Value.int 3 0, Value.ref 383, Value.bool true, Value.int 370 0, Value.ref 384, Value.none, Value.ref 385, Value.ref 386, Value.ref 387, Value.int 860 0, Value.int 174 0, Value.str (Str.ofString "/claim/cut.py") 861], #[]⟩) ::
  (nat_lit 389, ⟨Value.type "function", none, Data.func (fnOf (Str.ofString "_difference_above") (Str.ofString "_difference_above") (defArgs (top 29)) (defBody (top 29)) (defScope (top 29)) Value.none Value.none Value.none (Value.str (Str.ofString "pieceround.base.numbers") 578) none (Value.ref 388) Value.none), #[]⟩) ::
  (nat_lit 390, ⟨Value.type "tuple", none, Data.seq #[], #[]⟩) ::
  (nat_lit 392, ⟨Value.type "tuple", none, Data.seq #[Value.str (Str.ofString "number") 866], #[]⟩) ::
  (nat_lit 393, ⟨Value.type "tuple", none, Data.seq #[], #[]⟩) ::
  (nat_lit 395, ⟨Value.type "code", none, Data.fields #[Value.str (Str.ofString "_norm_above") 863, Value.str (Str.ofString "_norm_above") 864, Value.str (Str.ofString "/claim/cut.py") 865, Value.int 178 0, Value.int 1 0, Value.int 0 0, Value.int 0 0, Value.int 3 0, Value.ref 390, Value.bool true, Value.int 370 0, Value.ref 391, Value.none, Value.ref 392, Value.ref 393, Value.ref 394, Value.int 867 0, Value.int 178 0, Value.str (Str.ofString "/claim/cut.py") 868], #[]⟩) ::
  (nat_lit 396, ⟨Value.type "function", none, Data.func (fnOf (Str.ofString "_norm_above") (Str.ofString "_norm_above") (defArgs (top 30)) (defBody (top 30)) (defScope (top 30)) Value.none Value.none Value.none (Value.str (Str.ofString "pieceround.base.numbers") 578) none (Value.ref 395) Value.none), #[]⟩) ::
  (nat_lit 397, ⟨Value.type "tuple", none, Data.seq #[], #[]⟩) ::
  (nat_lit 399, ⟨Value.type "tuple", none, Data.seq #[Value.str (Str.ofString "value") 873], #[]⟩) ::
  (nat_lit 400, ⟨Value.type "tuple", none, Data.seq #[], #[]⟩) ::
  (nat_lit 402, ⟨Value.type "code", none, Data.fields #[Value.str (Str.ofString "_sign_of_integer") 870, Value.str (Str.ofString "_sign_of_integer") 871, Value.str (Str.ofString "/claim/cut.py") 872, Value.int 180 0, Value.int 1 0, Value.int 0 0, Value.int 0 0, Value.int 3 0, Value.ref 397, Value.bool true, Value.int 370 0, Value.ref 398, Value.none, Value.ref 399, Value.ref 400, Value.ref 401, Value.int 874 0, Value.int 180 0, Value.str (Str.ofString "/claim/cut.py") 875], #[]⟩) ::
  (nat_lit 403, ⟨Value.type "function", none, Data.func (fnOf (Str.ofString "_sign_of_integer") (Str.ofString "_sign_of_integer") (defArgs (top 31)) (defBody (top 31)) (defScope (top 31)) Value.none Value.none Value.none (Value.str (Str.ofString "pieceround.base.numbers") 578) none (Value.ref 402) Value.none), #[]⟩) ::
  (nat_lit 404, ⟨Value.type "tuple", none, Data.seq #[], #[]⟩) ::
  (nat_lit 406, ⟨Value.type "tuple", none, Data.seq #[Value.str (Str.ofString "top") 880, Value.str (Str.ofString "part") 881, Value.str (Str.ofString "root") 882, Value.str (Str.ofString "above") 883, Value.str (Str.ofString "beside") 884], #[]⟩) ::
  (nat_lit 407, ⟨Value.type "tuple", none, Data.seq #[], #[]⟩) ::
  (nat_lit 409, ⟨Value.type "code", none, Data.fields #[Value.str (Str.ofString "sign_of_sum") 877, Value.str (Str.ofString "sign_of_sum") 878, Value.str (Str.ofString "/claim/cut.py") 879, Value.int 184 0, Value.int 3 0, Value.int 0 0, Value.int 0 0, Value.int 3 0, Value.ref 404, Value.bool true, Value.int 370 0, Value.ref 405, Value.none, Value.ref 406, Value.ref 407, Value.ref 408, Value.int 885 0, Value.int 184 0, Value.str (Str.ofString "/claim/cut.py") 886], #[]⟩) ::
  (nat_lit 410, ⟨Value.type "function", none, Data.func (fnOf (Str.ofString "sign_of_sum") (Str.ofString "sign_of_sum") (defArgs (top 32)) (defBody (top 32)) (defScope (top 32)) Value.none Value.none Value.none (Value.str (Str.ofString "pieceround.base.numbers") 578) none (Value.ref 409) Value.none), #[]⟩) ::
  (nat_lit 411, ⟨Value.type "tuple", none, Data.seq #[], #[]⟩) ::
  (nat_lit 413, ⟨Value.type "tuple", none, Data.seq #[Value.str (Str.ofString "top") 891, Value.str (Str.ofString "part") 892, Value.str (Str.ofString "root") 893], #[]⟩) ::
  (nat_lit 414, ⟨Value.type "tuple", none, Data.seq #[], #[]⟩) ::
  (nat_lit 416, ⟨Value.type "code", none, Data.fields #[Value.str (Str.ofString "_sum_text") 888, Value.str (Str.ofString "_sum_text") 889, Value.str (Str.ofString "/claim/cut.py") 890, Value.int 189 0, Value.int 3 0, Value.int 0 0, Value.int 0 0, Value.int 3 0, Value.ref 411, Value.bool true, Value.int 370 0, Value.ref 412, Value.none, Value.ref 413, Value.ref 414, Value.ref 415, Value.int 894 0, Value.int 189 0, Value.str (Str.ofString "/claim/cut.py") 895], #[]⟩) ::
  (nat_lit 417, ⟨Value.type "function", none, Data.func (fnOf (Str.ofString "_sum_text") (Str.ofString "_sum_text") (defArgs (top 33)) (defBody (top 33)) (defScope (top 33)) Value.none Value.none Value.none (Value.str (Str.ofString "pieceround.base.numbers") 578) none (Value.ref 416) Value.none), #[]⟩) ::
  (nat_lit 418, ⟨Value.type "tuple", none, Data.seq #[], #[]⟩) ::
  (nat_lit 420, ⟨Value.type "tuple", none, Data.seq #[Value.str (Str.ofString "top") 900, Value.str (Str.ofString "part") 901, Value.str (Str.ofString "root") 902, Value.str (Str.ofString "bottom") 903, Value.str (Str.ofString "above") 904], #[]⟩) ::
  (nat_lit 421, ⟨Value.type "tuple", none, Data.seq #[], #[]⟩) ::
  (nat_lit 423, ⟨Value.type "code", none, Data.fields #[Value.str (Str.ofString "_number_text") 897, Value.str (Str.ofString "_number_text") 898, Value.str (Str.ofString "/claim/cut.py") 899, Value.int 195 0, Value.int 4 0, Value.int 0 0, Value.int 0 0, Value.int 3 0, Value.ref 418, Value.bool true, Value.int 370 0, Value.ref 419, Value.none, Value.ref 420, Value.ref 421, Value.ref 422, Value.int 905 0, Value.int 195 0, Value.str (Str.ofString "/claim/cut.py") 906], #[]⟩) ::
  (nat_lit 424, ⟨Value.type "function", none, Data.func (fnOf (Str.ofString "_number_text") (Str.ofString "_number_text") (defArgs (top 34)) (defBody (top 34)) (defScope (top 34)) Value.none Value.none Value.none (Value.str (Str.ofString "pieceround.base.numbers") 578) none (Value.ref 423) Value.none), #[]⟩) ::
  (nat_lit 425, ⟨Value.type "tuple", none, Data.seq #[], #[]⟩) ::
  (nat_lit 428, ⟨Value.type "code", none, Data.fields #[Value.str (Str.ofString "_integers_in") 908, Value.str (Str.ofString "_integers_in") 909, Value.str (Str.ofString "/claim/cut.py") 910, Value.int 202 0, Value.int 1 0, Value.int 0 0, Value.int 0 0, Value.int 3 0, Value.ref 425, Value.bool true, Value.int 370 0, Value.ref 426, Value.none, Value.none, Value.none, Value.ref 427, Value.int 911 0, Value.int 202 0, Value.str (Str.ofString "/claim/cut.py") 912], #[]⟩) ::
  (nat_lit 429, ⟨Value.type "function", none, Data.func (fnOf (Str.ofString "_integers_in") (Str.ofString "_integers_in") (defArgs (top 35)) (defBody (top 35)) (defScope (top 35)) Value.none Value.none Value.none (Value.str (Str.ofString "pieceround.base.numbers") 578) none (Value.ref 428) Value.none), #[]⟩) ::
  (nat_lit 430, ⟨Value.type "tuple", none, Data.seq #[], #[]⟩) ::
  (nat_lit 432, ⟨Value.type "tuple", none, Data.seq #[Value.str (Str.ofString "text") 917, Value.str (Str.ofString "above") 918, Value.str (Str.ofString "slash") 919, Value.str (Str.ofString "bottom") 920, Value.str (Str.ofString "front") 921, Value.str (Str.ofString "letter") 922, Value.str (Str.ofString "root") 923, Value.str (Str.ofString "cut") 924], #[]⟩) ::
  (nat_lit 433, ⟨Value.type "tuple", none, Data.seq #[], #[]⟩) ::
  (nat_lit 435, ⟨Value.type "code", none, Data.fields #[Value.str (Str.ofString "_words_in") 914, Value.str (Str.ofString "_words_in") 915, Value.str (Str.ofString "/claim/cut.py") 916, Value.int 209 0, Value.int 1 0, Value.int 0 0, Value.int 0 0, Value.int 3 0, Value.ref 430, Value.bool true, Value.int 370 0, Value.ref 431, Value.none, Value.ref 432, Value.ref 433, Value.ref 434, Value.int 925 0, Value.int 209 0, Value.str (Str.ofString "/claim/cut.py") 926], #[]⟩) ::
  (nat_lit 436, ⟨Value.type "function", none, Data.func (fnOf (Str.ofString "_words_in") (Str.ofString "_words_in") (defArgs (top 36)) (defBody (top 36)) (defScope (top 36)) Value.none Value.none Value.none (Value.str (Str.ofString "pieceround.base.numbers") 578) none (Value.ref 435) Value.none), #[]⟩) ::
  (nat_lit 437, ⟨Value.type "tuple", none, Data.seq #[], #[]⟩) ::
  (nat_lit 439, ⟨Value.type "tuple", none, Data.seq #[Value.str (Str.ofString "word") 931, Value.str (Str.ofString "figures") 932], #[]⟩) ::
  (nat_lit 440, ⟨Value.type "tuple", none, Data.seq #[], #[]⟩) ::
  (nat_lit 442, ⟨Value.type "code", none, Data.fields #[Value.str (Str.ofString "_is_readable") 928, Value.str (Str.ofString "_is_readable") 929, Value.str (Str.ofString "/claim/cut.py") 930, Value.int 220 0, Value.int 1 0, Value.int 0 0, Value.int 0 0, Value.int 3 0, Value.ref 437, Value.bool true, Value.int 370 0, Value.ref 438, Value.none, Value.ref 439, Value.ref 440, Value.ref 441, Value.int 933 0, Value.int 220 0, Value.str (Str.ofString "/claim/cut.py") 934], #[]⟩) ::
  (nat_lit 443, ⟨Value.type "function", none, Data.func (fnOf (Str.ofString "_is_readable") (Str.ofString "_is_readable") (defArgs (top 37)) (defBody (top 37)) (defScope (top 37)) Value.none Value.none Value.none (Value.str (Str.ofString "pieceround.base.numbers") 578) none (Value.ref 442) Value.none), #[]⟩) ::
  (nat_lit 451, ⟨Value.type "tuple", none, Data.seq #[], #[]⟩) ::
  (nat_lit 454, ⟨Value.type "code", none, Data.fields #[Value.str (Str.ofString "__init__") 952, Value.str (Str.ofString "Order.__init__") 953, Value.str (Str.ofString "/claim/cut.py") 954, Value.int 227 0, Value.int 3 0, Value.int 0 0, Value.int 0 0, Value.int 3 0, Value.ref 451, Value.bool true, Value.int 370 0, Value.ref 452, Value.none, Value.none, Value.none, Value.ref 453, Value.int 955 0, Value.int 227 0, Value.str (Str.ofString "/claim/cut.py") 956], #[]⟩) ::
  (nat_lit 455, ⟨Value.type "function", none, Data.func (fnOf (Str.ofString "__init__") (Str.ofString "Order.__init__") (defArgs (inClass (top 40) 0)) (defBody (inClass (top 40) 0)) (defScope (inClass (top 40) 0)) Value.none Value.none Value.none (Value.str (Str.ofString "pieceround.base.orders") 936) none (Value.ref 454) Value.none), #[]⟩) ::
  (nat_lit 456, ⟨Value.type "tuple", none, Data.seq #[], #[]⟩) ::
  (nat_lit 458, ⟨Value.type "tuple", none, Data.seq #[Value.str (Str.ofString "cls") 961, Value.str (Str.ofString "upper") 962, Value.str (Str.ofString "lower") 963], #[]⟩) ::
  (nat_lit 459, ⟨Value.type "tuple", none, Data.seq #[], #[]⟩) ::
  (nat_lit 461, ⟨Value.type "code", none, Data.fields #[Value.str (Str.ofString "read") 958, Value.str (Str.ofString "Order.read") 959, Value.str (Str.ofString "/claim/cut.py") 960, Value.int 235 0, Value.int 3 0, Value.int 0 0, Value.int 0 0, Value.int 3 0, Value.ref 456, Value.bool true, Value.int 370 0, Value.ref 457, Value.none, Value.ref 458, Value.ref 459, Value.ref 460, Value.int 964 0, Value.int 235 0, Value.str (Str.ofString "/claim/cut.py") 965], #[]⟩) ::
  (nat_lit 462, ⟨Value.type "function", none, Data.func (fnOf (Str.ofString "read") (Str.ofString "Order.read") (defArgs (inClass (top 40) 1)) (defBody (inClass (top 40) 1)) (defScope (inClass (top 40) 1)) Value.none Value.none Value.none (Value.str (Str.ofString "pieceround.base.orders") 936) (some 465) (Value.ref 461) Value.none), #[]⟩) ::
  (nat_lit 463, ⟨Value.type "dict", none, Data.dict #[{ hash := PyData.keyHash P (Str.ofString "__module__"), key := Value.str (Str.ofString "__module__") 967, val := Value.str (Str.ofString "pieceround.base.orders") 936 }, { hash := PyData.keyHash P (Str.ofString "__name__"), key := Value.str (Str.ofString "__name__") 970, val := Value.str (Str.ofString "read") 969 }, { hash := PyData.keyHash P (Str.ofString "__qualname__"), key := Value.str (Str.ofString "__qualname__") 973, val := Value.str (Str.ofString "Order.read") 972 }, { hash := PyData.keyHash P (Str.ofString "__doc__"), key := Value.str (Str.ofString "__doc__") 975, val := Value.none }, { hash := PyData.keyHash P (Str.ofString "__annotations__"), key := Value.str (Str.ofString "__annotations__") 977, val := Value.ref 465 }] 5, #[]⟩) ::
  (nat_lit 464, ⟨Value.type "classmethod", some 463, Data.fields #[Value.ref 462, Value.bool false], #[]⟩) ::
  (nat_lit 465, ⟨Value.type "dict", none, Data.dict #[], #[]⟩) ::
  (nat_lit 466, ⟨Value.type "tuple", none, Data.seq #[], #[]⟩) ::
  (nat_lit 468, ⟨Value.type "tuple", none, Data.seq #[Value.str (Str.ofString "self") 982], #[]⟩) ::
  (nat_lit 469, ⟨Value.type "tuple", none, Data.seq #[], #[]⟩) ::
  (nat_lit 471, ⟨Value.type "code", none, Data.fields #[Value.str (Str.ofString "above") 979, Value.str (Str.ofString "Order.above") 980, Value.str (Str.ofString "/claim/cut.py") 981, Value.int 241 0, Value.int 1 0, Value.int 0 0, Value.int 0 0, Value.int 3 0, Value.ref 466, Value.bool true, Value.int 370 0, Value.ref 467, Value.none, Value.ref 468, Value.ref 469, Value.ref 470, Value.int 983 0, Value.int 241 0, Value.str (Str.ofString "/claim/cut.py") 984], #[]⟩) ::
  (nat_lit 472, ⟨Value.type "function", none, Data.func (fnOf (Str.ofString "above") (Str.ofString "Order.above") (defArgs (inClass (top 40) 2)) (defBody (inClass (top 40) 2)) (defScope (inClass (top 40) 2)) Value.none Value.none Value.none (Value.str (Str.ofString "pieceround.base.orders") 936) none (Value.ref 471) Value.none), #[]⟩) ::
  (nat_lit 473, ⟨Value.type "property", none, Data.fields #[Value.ref 472, Value.none, Value.none, Value.none, Value.str (Str.ofString "above") 986, Value.bool false], #[]⟩) ::
  (nat_lit 474, ⟨Value.type "tuple", none, Data.seq #[], #[]⟩) ::
  (nat_lit 476, ⟨Value.type "tuple", none, Data.seq #[Value.str (Str.ofString "self") 990], #[]⟩) ::
  (nat_lit 477, ⟨Value.type "tuple", none, Data.seq #[], #[]⟩) ::
  (nat_lit 479, ⟨Value.type "code", none, Data.fields #[Value.str (Str.ofString "below") 987, Value.str (Str.ofString "Order.below") 988, Value.str (Str.ofString "/claim/cut.py") 989, Value.int 245 0, Value.int 1 0, Value.int 0 0, Value.int 0 0, Value.int 3 0, Value.ref 474, Value.bool true, Value.int 370 0, Value.ref 475, Value.none, Value.ref 476, Value.ref 477, Value.ref 478, Value.int 991 0, Value.int 245 0, Value.str (Str.ofString "/claim/cut.py") 992], #[]⟩) ::
  (nat_lit 480, ⟨Value.type "function", none, Data.func (fnOf (Str.ofString "below") (Str.ofString "Order.below") (defArgs (inClass (top 40) 3)) (defBody (inClass (top 40) 3)) (defScope (inClass (top 40) 3)) Value.none Value.none Value.none (Value.str (Str.ofString "pieceround.base.orders") 936) none (Value.ref 479) Value.none), #[]⟩) ::
  (nat_lit 481, ⟨Value.type "property", none, Data.fields #[Value.ref 480, Value.none, Value.none, Value.none, Value.str (Str.ofString "below") 994, Value.bool false], #[]⟩) ::
  (nat_lit 482, ⟨Value.type "tuple", none, Data.seq #[], #[]⟩) ::
  (nat_lit 484, ⟨Value.type "tuple", none, Data.seq #[Value.str (Str.ofString "self") 998], #[]⟩) ::
  (nat_lit 485, ⟨Value.type "tuple", none, Data.seq #[], #[]⟩) ::
  (nat_lit 487, ⟨Value.type "code", none, Data.fields #[Value.str (Str.ofString "names") 995, Value.str (Str.ofString "Order.names") 996, Value.str (Str.ofString "/claim/cut.py") 997, Value.int 249 0, Value.int 1 0, Value.int 0 0, Value.int 0 0, Value.int 3 0, Value.ref 482, Value.bool true, Value.int 370 0, Value.ref 483, Value.none, Value.ref 484, Value.ref 485, Value.ref 486, Value.int 999 0, Value.int 249 0, Value.str (Str.ofString "/claim/cut.py") 1000], #[]⟩) ::
  (nat_lit 488, ⟨Value.type "function", none, Data.func (fnOf (Str.ofString "names") (Str.ofString "Order.names") (defArgs (inClass (top 40) 4)) (defBody (inClass (top 40) 4)) (defScope (inClass (top 40) 4)) Value.none Value.none Value.none (Value.str (Str.ofString "pieceround.base.orders") 936) none (Value.ref 487) Value.none), #[]⟩) ::
  (nat_lit 489, ⟨Value.type "property", none, Data.fields #[Value.ref 488, Value.none, Value.none, Value.none, Value.str (Str.ofString "names") 1002, Value.bool false], #[]⟩) ::
  (nat_lit 490, ⟨Value.type "tuple", none, Data.seq #[], #[]⟩) ::
  (nat_lit 492, ⟨Value.type "tuple", none, Data.seq #[Value.str (Str.ofString "self") 1006], #[]⟩) ::
  (nat_lit 493, ⟨Value.type "tuple", none, Data.seq #[], #[]⟩) ::
  (nat_lit 495, ⟨Value.type "code", none, Data.fields #[Value.str (Str.ofString "many") 1003, Value.str (Str.ofString "Order.many") 1004, Value.str (Str.ofString "/claim/cut.py") 1005, Value.int 253 0, Value.int 1 0, Value.int 0 0, Value.int 0 0, Value.int 3 0, Value.ref 490, Value.bool true, Value.int 370 0, Value.ref 491, Value.none, Value.ref 492, Value.ref 493, Value.ref 494, Value.int 1007 0, Value.int 253 0, Value.str (Str.ofString "/claim/cut.py") 1008], #[]⟩) ::
  (nat_lit 496, ⟨Value.type "function", none, Data.func (fnOf (Str.ofString "many") (Str.ofString "Order.many") (defArgs (inClass (top 40) 5)) (defBody (inClass (top 40) 5)) (defScope (inClass (top 40) 5)) Value.none Value.none Value.none (Value.str (Str.ofString "pieceround.base.orders") 936) none (Value.ref 495) Value.none), #[]⟩) ::
  (nat_lit 497, ⟨Value.type "property", none, Data.fields #[Value.ref 496, Value.none, Value.none, Value.none, Value.str (Str.ofString "many") 1010, Value.bool false], #[]⟩) ::
  (nat_lit 498, ⟨Value.type "tuple", none, Data.seq #[], #[]⟩) ::
  (nat_lit 500, ⟨Value.type "tuple", none, Data.seq #[Value.str (Str.ofString "self") 1014], #[]⟩) ::
  (nat_lit 501, ⟨Value.type "tuple", none, Data.seq #[], #[]⟩) ::
  (nat_lit 503, ⟨Value.type "code", none, Data.fields #[Value.str (Str.ofString "places") 1011, Value.str (Str.ofString "Order.places") 1012, Value.str (Str.ofString "/claim/cut.py") 1013, Value.int 257 0, Value.int 1 0, Value.int 0 0, Value.int 0 0, Value.int 3 0, Value.ref 498, Value.bool true, Value.int 370 0, Value.ref 499, Value.none, Value.ref 500, Value.ref 501, Value.ref 502, Value.int 1015 0, Value.int 257 0, Value.str (Str.ofString "/claim/cut.py") 1016], #[]⟩) ::
  (nat_lit 504, ⟨Value.type "function", none, Data.func (fnOf (Str.ofString "places") (Str.ofString "Order.places") (defArgs (inClass (top 40) 6)) (defBody (inClass (top 40) 6)) (defScope (inClass (top 40) 6)) Value.none Value.none Value.none (Value.str (Str.ofString "pieceround.base.orders") 936) none (Value.ref 503) Value.none), #[]⟩) ::
  (nat_lit 505, ⟨Value.type "property", none, Data.fields #[Value.ref 504, Value.none, Value.none, Value.none, Value.str (Str.ofString "places") 1018, Value.bool false], #[]⟩) ::
  (nat_lit 506, ⟨Value.type "tuple", none, Data.seq #[], #[]⟩) ::
  (nat_lit 508, ⟨Value.type "tuple", none, Data.seq #[Value.str (Str.ofString "self") 1022], #[]⟩) ::
  (nat_lit 509, ⟨Value.type "tuple", none, Data.seq #[], #[]⟩) ::
  (nat_lit 511, ⟨Value.type "code", none, Data.fields #[Value.str (Str.ofString "is_whole") 1019, Value.str (Str.ofString "Order.is_whole") 1020, Value.str (Str.ofString "/claim/cut.py") 1021, Value.int 261 0, Value.int 1 0, Value.int 0 0, Value.int 0 0, Value.int 3 0, Value.ref 506, Value.bool true, Value.int 370 0, Value.ref 507, Value.none, Value.ref 508, Value.ref 509, Value.ref 510, Value.int 1023 0, Value.int 261 0, Value.str (Str.ofString "/claim/cut.py") 1024], #[]⟩) ::
  (nat_lit 512, ⟨Value.type "function", none, Data.func (fnOf (Str.ofString "is_whole") (Str.ofString "Order.is_whole") (defArgs (inClass (top 40) 7)) (defBody (inClass (top 40) 7)) (defScope (inClass (top 40) 7)) Value.none Value.none Value.none (Value.str (Str.ofString "pieceround.base.orders") 936) none (Value.ref 511) Value.none), #[]⟩) ::
  (nat_lit 513, ⟨Value.type "property", none, Data.fields #[Value.ref 512, Value.none, Value.none, Value.none, Value.str (Str.ofString "is_whole") 1026, Value.bool false], #[]⟩) ::
  (nat_lit 514, ⟨Value.type "tuple", none, Data.seq #[], #[]⟩) ::
  (nat_lit 517, ⟨Value.type "code", none, Data.fields #[Value.str (Str.ofString "blocks") 1027, Value.str (Str.ofString "Order.blocks") 1028, Value.str (Str.ofString "/claim/cut.py") 1029, Value.int 265 0, Value.int 1 0, Value.int 0 0, Value.int 0 0, Value.int 3 0, Value.ref 514, Value.bool true, Value.int 370 0, Value.ref 515, Value.none, Value.none, Value.none, Value.ref 516, Value.int 1030 0, Value.int 265 0, Value.str (Str.ofString "/claim/cut.py") 1031], #[]⟩) ::
  (nat_lit 518, ⟨Value.type "function", none, Data.func (fnOf (Str.ofString "blocks") (Str.ofString "Order.blocks") (defArgs (inClass (top 40) 8)) (defBody (inClass (top 40) 8)) (defScope (inClass (top 40) 8)) Value.none Value.none Value.none (Value.str (Str.ofString "pieceround.base.orders") 936) none (Value.ref 517) Value.none), #[]⟩) ::
  (nat_lit 519, ⟨Value.type "tuple", none, Data.seq #[], #[]⟩) ::
  (nat_lit 521, ⟨Value.type "tuple", none, Data.seq #[Value.str (Str.ofString "self") 1036, Value.str (Str.ofString "pairs") 1037, Value.str (Str.ofString "index") 1038], #[]⟩) ::
  (nat_lit 522, ⟨Value.type "tuple", none, Data.seq #[], #[]⟩) ::
  (nat_lit 524, ⟨Value.type "code", none, Data.fields #[Value.str (Str.ofString "needless") 1033, Value.str (Str.ofString "Order.needless") 1034, Value.str (Str.ofString "/claim/cut.py") 1035, Value.int 270 0, Value.int 1 0, Value.int 0 0, Value.int 0 0, Value.int 3 0, Value.ref 519, Value.bool true, Value.int 370 0, Value.ref 520, Value.none, Value.ref 521, Value.ref 522, Value.ref 523, Value.int 1039 0, Value.int 270 0, Value.str (Str.ofString "/claim/cut.py") 1040], #[]⟩) ::
  (nat_lit 525, ⟨Value.type "function", none, Data.func (fnOf (Str.ofString "needless") (Str.ofString "Order.needless") (defArgs (inClass (top 40) 9)) (defBody (inClass (top 40) 9)) (defScope (inClass (top 40) 9)) Value.none Value.none Value.none (Value.str (Str.ofString "pieceround.base.orders") 936) none (Value.ref 524) Value.none), #[]⟩) ::
  (nat_lit 526, ⟨Value.type "property", none, Data.fields #[Value.ref 525, Value.none, Value.none, Value.none, Value.str (Str.ofString "needless") 1042, Value.bool false], #[]⟩) ::
  (nat_lit 527, ⟨Value.type "tuple", none, Data.seq #[], #[]⟩) ::
  (nat_lit 529, ⟨Value.type "tuple", none, Data.seq #[Value.str (Str.ofString "self") 1046], #[]⟩) ::
  (nat_lit 530, ⟨Value.type "tuple", none, Data.seq #[], #[]⟩) ::
  (nat_lit 532, ⟨Value.type "code", none, Data.fields #[Value.str (Str.ofString "inverse") 1043, Value.str (Str.ofString "Order.inverse") 1044, Value.str (Str.ofString "/claim/cut.py") 1045, Value.int 278 0, Value.int 1 0, Value.int 0 0, Value.int 0 0, Value.int 3 0, Value.ref 527, Value.bool true, Value.int 370 0, Value.ref 528, Value.none, Value.ref 529, Value.ref 530, Value.ref 531, Value.int 1047 0, Value.int 278 0, Value.str (Str.ofString "/claim/cut.py") 1048], #[]⟩) ::
  (nat_lit 533, ⟨Value.type "function", none, Data.func (fnOf (Str.ofString "inverse") (Str.ofString "Order.inverse") (defArgs (inClass (top 40) 10)) (defBody (inClass (top 40) 10)) (defScope (inClass (top 40) 10)) Value.none Value.none Value.none (Value.str (Str.ofString "pieceround.base.orders") 936) none (Value.ref 532) Value.none), #[]⟩) ::
  (nat_lit 534, ⟨Value.type "tuple", none, Data.seq #[], #[]⟩) ::
  (nat_lit 536, ⟨Value.type "tuple", none, Data.seq #[Value.str (Str.ofString "self") 1053], #[]⟩) ::
  (nat_lit 537, ⟨Value.type "tuple", none, Data.seq #[], #[]⟩) ::
  (nat_lit 539, ⟨Value.type "code", none, Data.fields #[Value.str (Str.ofString "backwards") 1050, Value.str (Str.ofString "Order.backwards") 1051, Value.str (Str.ofString "/claim/cut.py") 1052, Value.int 281 0, Value.int 1 0, Value.int 0 0, Value.int 0 0, Value.int 3 0, Value.ref 534, Value.bool true, Value.int 370 0, Value.ref 535, Value.none, Value.ref 536, Value.ref 537, Value.ref 538, Value.int 1054 0, Value.int 281 0, Value.str (Str.ofString "/claim/cut.py") 1055], #[]⟩) ::
  (nat_lit 540, ⟨Value.type "function", none, Data.func (fnOf (Str.ofString "backwards") (Str.ofString "Order.backwards") (defArgs (inClass (top 40) 11)) (defBody (inClass (top 40) 11)) (defScope (inClass (top 40) 11)) Value.none Value.none Value.none (Value.str (Str.ofString "pieceround.base.orders") 936) none (Value.ref 539) Value.none), #[]⟩) ::
  (nat_lit 541, ⟨Value.type "tuple", none, Data.seq #[], #[]⟩) ::
  (nat_lit 543, ⟨Value.type "tuple", none, Data.seq #[Value.str (Str.ofString "self") 1060, Value.str (Str.ofString "one") 1061, Value.str (Str.ofString "other") 1062, Value.str (Str.ofString "name") 1063, Value.str (Str.ofString "is_ahead_above") 1064, Value.str (Str.ofString "is_ahead_below") 1065], #[]⟩) ::
  (nat_lit 544, ⟨Value.type "tuple", none, Data.seq #[], #[]⟩) ::
  (nat_lit 546, ⟨Value.type "code", none, Data.fields #[Value.str (Str.ofString "form") 1057, Value.str (Str.ofString "Order.form") 1058, Value.str (Str.ofString "/claim/cut.py") 1059, Value.int 284 0, Value.int 3 0, Value.int 0 0, Value.int 0 0, Value.int 3 0, Value.ref 541, Value.bool true, Value.int 370 0, Value.ref 542, Value.none, Value.ref 543, Value.ref 544, Value.ref 545, Value.int 1066 0, Value.int 284 0, Value.str (Str.ofString "/claim/cut.py") 1067], #[]⟩) ::
  (nat_lit 547, ⟨Value.type "function", none, Data.func (fnOf (Str.ofString "form") (Str.ofString "Order.form") (defArgs (inClass (top 40) 12)) (defBody (inClass (top 40) 12)) (defScope (inClass (top 40) 12)) Value.none Value.none Value.none (Value.str (Str.ofString "pieceround.base.orders") 936) none (Value.ref 546) Value.none), #[]⟩) ::
  (nat_lit 548, ⟨Value.type "tuple", none, Data.seq #[], #[]⟩) ::
  (nat_lit 550, ⟨Value.type "tuple", none, Data.seq #[Value.str (Str.ofString "self") 1072, Value.str (Str.ofString "names") 1073], #[]⟩) ::
  (nat_lit 551, ⟨Value.type "tuple", none, Data.seq #[], #[]⟩) ::
  (nat_lit 553, ⟨Value.type "code", none, Data.fields #[Value.str (Str.ofString "renamed") 1069, Value.str (Str.ofString "Order.renamed") 1070, Value.str (Str.ofString "/claim/cut.py") 1071, Value.int 292 0, Value.int 2 0, Value.int 0 0, Value.int 0 0, Value.int 3 0, Value.ref 548, Value.bool true, Value.int 370 0, Value.ref 549, Value.none, Value.ref 550, Value.ref 551, Value.ref 552, Value.int 1074 0, Value.int 292 0, Value.str (Str.ofString "/claim/cut.py") 1075], #[]⟩) ::
  (nat_lit 554, ⟨Value.type "function", none, Data.func (fnOf (Str.ofString "renamed") (Str.ofString "Order.renamed") (defArgs (inClass (top 40) 13)) (defBody (inClass (top 40) 13)) (defScope (inClass (top 40) 13)) Value.none Value.none Value.none (Value.str (Str.ofString "pieceround.base.orders") 936) none (Value.ref 553) Value.none), #[]⟩) ::
  (nat_lit 555, ⟨Value.type "tuple", none, Data.seq #[], #[]⟩) ::
  (nat_lit 558, ⟨Value.type "code", none, Data.fields #[Value.str (Str.ofString "joined") 1077, Value.str (Str.ofString "Order.joined") 1078, Value.str (Str.ofString "/claim/cut.py") 1079, Value.int 295 0, Value.int 1 0, Value.int 0 0, Value.int 0 0, Value.int 3 0, Value.ref 555, Value.bool true, Value.int 370 0, Value.ref 556, Value.none, Value.none, Value.none, Value.ref 557, Value.int 1080 0, Value.int 295 0, Value.str (Str.ofString "/claim/cut.py") 1081], #[]⟩) ::
  (nat_lit 559, ⟨Value.type "function", none, Data.func (fnOf (Str.ofString "joined") (Str.ofString "Order.joined") (defArgs (inClass (top 40) 14)) (defBody (inClass (top 40) 14)) (defScope (inClass (top 40) 14)) Value.none Value.none Value.none (Value.str (Str.ofString "pieceround.base.orders") 936) none (Value.ref 558) Value.none), #[]⟩) ::
  (nat_lit 560, ⟨Value.type "tuple", none, Data.seq #[], #[]⟩) ::
  (nat_lit 562, ⟨Value.type "tuple", none, Data.seq #[Value.str (Str.ofString "self") 1086, Value.str (Str.ofString "other") 1087], #[]⟩) ::
  (nat_lit 563, ⟨Value.type "tuple", none, Data.seq #[], #[]⟩) ::
  (nat_lit 565, ⟨Value.type "code", none, Data.fields #[Value.str (Str.ofString "__eq__") 1083, Value.str (Str.ofString "Order.__eq__") 1084, Value.str (Str.ofString "/claim/cut.py") 1085, Value.int 301 0, Value.int 2 0, Value.int 0 0, Value.int 0 0, Value.int 3 0, Value.ref 560, Value.bool true, Value.int 370 0, Value.ref 561, Value.none, Value.ref 562, Value.ref 563, Value.ref 564, Value.int 1088 0, Value.int 301 0, Value.str (Str.ofString "/claim/cut.py") 1089], #[]⟩) ::
  (nat_lit 566, ⟨Value.type "function", none, Data.func (fnOf (Str.ofString "__eq__") (Str.ofString "Order.__eq__") (defArgs (inClass (top 40) 15)) (defBody (inClass (top 40) 15)) (defScope (inClass (top 40) 15)) Value.none Value.none Value.none (Value.str (Str.ofString "pieceround.base.orders") 936) none (Value.ref 565) Value.none), #[]⟩) ::
  (nat_lit 567, ⟨Value.type "tuple", none, Data.seq #[], #[]⟩) ::
  (nat_lit 569, ⟨Value.type "tuple", none, Data.seq #[Value.str (Str.ofString "self") 1094], #[]⟩) ::
  (nat_lit 570, ⟨Value.type "tuple", none, Data.seq #[], #[]⟩) ::
  (nat_lit 572, ⟨Value.type "code", none, Data.fields #[Value.str (Str.ofString "__len__") 1091, Value.str (Str.ofString "Order.__len__") 1092, Value.str (Str.ofString "/claim/cut.py") 1093, Value.int 304 0, Value.int 1 0, Value.int 0 0, Value.int 0 0, Value.int 3 0, Value.ref 567, Value.bool true, Value.int 370 0, Value.ref 568, Value.none, Value.ref 569, Value.ref 570, Value.ref 571, Value.int 1095 0, Value.int 304 0, Value.str (Str.ofString "/claim/cut.py") 1096], #[]⟩) ::
  (nat_lit 573, ⟨Value.type "function", none, Data.func (fnOf (Str.ofString "__len__") (Str.ofString "Order.__len__") (defArgs (inClass (top 40) 16)) (defBody (inClass (top 40) 16)) (defScope (inClass (top 40) 16)) Value.none Value.none Value.none (Value.str (Str.ofString "pieceround.base.orders") 936) none (Value.ref 572) Value.none), #[]⟩) ::
  (nat_lit 574, ⟨Value.type "tuple", none, Data.seq #[], #[]⟩) ::
  (nat_lit 576, ⟨Value.type "tuple", none, Data.seq #[Value.str (Str.ofString "self") 1101, Value.str (Str.ofString "value") 1102], #[]⟩) ::
  (nat_lit 577, ⟨Value.type "tuple", none, Data.seq #[], #[]⟩) ::
  (nat_lit 579, ⟨Value.type "code", none, Data.fields #[Value.str (Str.ofString "__contains__") 1098, Value.str (Str.ofString "Order.__contains__") 1099, Value.str (Str.ofString "/claim/cut.py") 1100, Value.int 307 0, Value.int 2 0, Value.int 0 0, Value.int 0 0, Value.int 3 0, Value.ref 574, Value.bool true, Value.int 370 0, Value.ref 575, Value.none, Value.ref 576, Value.ref 577, Value.ref 578, Value.int 1103 0, Value.int 307 0, Value.str (Str.ofString "/claim/cut.py") 1104], #[]⟩) ::
  (nat_lit 580, ⟨Value.type "function", none, Data.func (fnOf (Str.ofString "__contains__") (Str.ofString "Order.__contains__") (defArgs (inClass (top 40) 17)) (defBody (inClass (top 40) 17)) (defScope (inClass (top 40) 17)) Value.none Value.none Value.none (Value.str (Str.ofString "pieceround.base.orders") 936) none (Value.ref 579) Value.none), #[]⟩) ::
  (nat_lit 581, ⟨Value.type "tuple", none, Data.seq #[], #[]⟩) ::
  (nat_lit 583, ⟨Value.type "tuple", none, Data.seq #[Value.str (Str.ofString "self") 1109], #[]⟩) ::
  (nat_lit 584, ⟨Value.type "tuple", none, Data.seq #[], #[]⟩) ::
  (nat_lit 586, ⟨Value.type "code", none, Data.fields #[Value.str (Str.ofString "__iter__") 1106, Value.str (Str.ofString "Order.__iter__") 1107, Value.str (Str.ofString "/claim/cut.py") 1108, Value.int 310 0, Value.int 1 0, Value.int 0 0, Value.int 0 0, Value.int 3 0, Value.ref 581, Value.bool true, Value.int 370 0, Value.ref 582, Value.none, Value.ref 583, Value.ref 584, Value.ref 585, Value.int 1110 0, Value.int 310 0, Value.str (Str.ofString "/claim/cut.py") 1111], #[]⟩) ::
  (nat_lit 587, ⟨Value.type "function", none, Data.func (fnOf (Str.ofString "__iter__") (Str.ofString "Order.__iter__") (defArgs (inClass (top 40) 18)) (defBody (inClass (top 40) 18)) (defScope (inClass (top 40) 18)) Value.none Value.none Value.none (Value.str (Str.ofString "pieceround.base.orders") 936) none (Value.ref 586) Value.none), #[]⟩) ::
  (nat_lit 588, ⟨Value.type "tuple", none, Data.seq #[], #[]⟩) ::
  (nat_lit 590, ⟨Value.type "tuple", none, Data.seq #[Value.str (Str.ofString "self") 1116, Value.str (Str.ofString "told") 1117, Value.str (Str.ofString "name") 1118], #[]⟩) ::
  (nat_lit 591, ⟨Value.type "tuple", none, Data.seq #[], #[]⟩) ::
  (nat_lit 593, ⟨Value.type "code", none, Data.fields #[Value.str (Str.ofString "__str__") 1113, Value.str (Str.ofString "Order.__str__") 1114, Value.str (Str.ofString "/claim/cut.py") 1115, Value.int 313 0, Value.int 1 0, Value.int 0 0, Value.int 0 0, Value.int 3 0, Value.ref 588, Value.bool true, Value.int 370 0, Value.ref 589, Value.none, Value.ref 590, Value.ref 591, Value.ref 592, Value.int 1119 0, Value.int 313 0, Value.str (Str.ofString "/claim/cut.py") 1120], #[]⟩) ::
  (nat_lit 594, ⟨Value.type "function", none, Data.func (fnOf (Str.ofString "__str__") (Str.ofString "Order.__str__") (defArgs (inClass (top 40) 19)) (defBody (inClass (top 40) 19)) (defScope (inClass (top 40) 19)) Value.none Value.none Value.none (Value.str (Str.ofString "pieceround.base.orders") 936) none (Value.ref 593) Value.none), #[]⟩) ::
  (nat_lit 595, ⟨Value.type "tuple", none, Data.seq #[Value.str (Str.ofString "_above") 1122, Value.str (Str.ofString "_below") 1123, Value.str (Str.ofString "_places") 1124], #[]⟩) ::
  (nat_lit 596, ⟨Value.type "dict", none, Data.dict #[{ hash := PyData.keyHash P (Str.ofString "__module__"), key := Value.str (Str.ofString "__module__") 947, val := Value.str (Str.ofString "pieceround.base.orders") 936 }, { hash := PyData.keyHash P (Str.ofString "__firstlineno__"), key := Value.str (Str.ofString "__firstlineno__") 951, val := Value.int 225 950 }, { hash := PyData.keyHash P (Str.ofString "__init__"), key := Value.str (Str.ofString "__init__") 957, val := Value.ref 455 }, { hash := PyData.keyHash P (Str.ofString "read"), key := Value.str (Str.ofString "read") 978, val := Value.ref 464 }, { hash := PyData.keyHash P (Str.ofString "above"), key := Value.str (Str.ofString "above") 986, val := Value.ref 473 }, { hash := PyData.keyHash P (Str.ofString "below"), key := Value.str (Str.ofString "below") 994, val := Value.ref 481 }, { hash := PyData.keyHash P (Str.ofString "names"), key := Value.str (Str.ofString "names") 1002, val := Value.ref 489 }, { hash := PyData.keyHash P (Str.ofString "many"), key := Value.str (Str.ofString "many") 1010, val := Value.ref 497 }, { hash := PyData.keyHash P (Str.ofString "places"), key := Value.str (Str.ofString "places") 1018, val := Value.ref 505 }, { hash := PyData.keyHash P (Str.ofString "is_whole"), key := Value.str (Str.ofString "is_whole") 1026, val := Value.ref 513 }, { hash := PyData.keyHash P (Str.ofString "blocks"), key := Value.str (Str.ofString "blocks") 1032, val := Value.ref 518 }, { hash := PyData.keyHash P (Str.ofString "needless"), key := Value.str (Str.ofString "needless") 1042, val := Value.ref 526 }, { hash := PyData.keyHash P (Str.ofString "inverse"), key := Value.str (Str.ofString "inverse") 1049, val := Value.ref 533 }, { hash := PyData.keyHash P (Str.ofString "backwards"), key := Value.str (Str.ofString "backwards") 1056, val := Value.ref 540 }, { hash := PyData.keyHash P (Str.ofString "form"), key := Value.str (Str.ofString "form") 1068, val := Value.ref 547 }, { hash := PyData.keyHash P (Str.ofString "renamed"), key := Value.str (Str.ofString "renamed") 1076, val := Value.ref 554 }, { hash := PyData.keyHash P (Str.ofString "joined"), key := Value.str (Str.ofString "joined") 1082, val := Value.ref 559 }, { hash := PyData.keyHash P (Str.ofString "__eq__"), key := Value.str (Str.ofString "__eq__") 1090, val := Value.ref 566 }, { hash := PyData.keyHash P (Str.ofString "__len__"), key := Value.str (Str.ofString "__len__") 1097, val := Value.ref 573 }, { hash := PyData.keyHash P (Str.ofString "__contains__"), key := Value.str (Str.ofString "__contains__") 1105, val := Value.ref 580 }, { hash := PyData.keyHash P (Str.ofString "__iter__"), key := Value.str (Str.ofString "__iter__") 1112, val := Value.ref 587 }, { hash := PyData.keyHash P (Str.ofString "__str__"), key := Value.str (Str.ofString "__str__") 1121, val := Value.ref 594 }, { hash := PyData.keyHash P (Str.ofString "__static_attributes__"), key := Value.str (Str.ofString "__static_attributes__") 1125, val := Value.ref 595 }, { hash := PyData.keyHash P (Str.ofString "__dict__"), key := Value.str (Str.ofString "__dict__") 1127, val := Value.ref 598 }, { hash := PyData.keyHash P (Str.ofString "__weakref__"), key := Value.str (Str.ofString "__weakref__") 1129, val := Value.ref 599 }, { hash := PyData.keyHash P (Str.ofString "__doc__"), key := Value.str (Str.ofString "__doc__") 1130, val := Value.none }, { hash := PyData.keyHash P (Str.ofString "__hash__"), key := Value.str (Str.ofString "__hash__") 1131, val := Value.none }] 5, #[]⟩) ::
  (nat_lit 597, ⟨Value.type "type", none, Data.cls { name := Str.ofString "Order", bases := [Value.type "object"], mro := [Value.ref 597, Value.type "object"], ns := 596, qualname := Str.ofString "Order" }, #[none, none, some (Value.str (Str.ofString "Order") 940), some (Value.str (Str.ofString "Order") 948), some (Value.builtin "object.__new__"), some (Value.bool true)]⟩) ::
  (nat_lit 598, ⟨Value.type "getset_descriptor", none, Data.fields #[Value.str (Str.ofString "__dict__") 1126, Value.ref 597, Value.builtin "function.__dict__", Value.builtin "function.__dict__#set"], #[]⟩) ::
  (nat_lit 599, ⟨Value.type "getset_descriptor", none, Data.fields #[Value.str (Str.ofString "__weakref__") 1128, Value.ref 597, Value.builtin "ExceptionGroup.__weakref__", Value.none], #[]⟩) ::
  (nat_lit 602, ⟨Value.type "tuple", none, Data.seq #[], #[]⟩) ::
  (nat_lit 604, ⟨Value.type "tuple", none, Data.seq #[Value.str (Str.ofString "value") 1137], #[]⟩) ::
  (nat_lit 605, ⟨Value.type "tuple", none, Data.seq #[], #[]⟩) ::
  (nat_lit 607, ⟨Value.type "code", none, Data.fields #[Value.str (Str.ofString "require_order") 1134, Value.str (Str.ofString "require_order") 1135, Value.str (Str.ofString "/claim/cut.py") 1136, Value.int 321 0, Value.int 1 0, Value.int 0 0, Value.int 0 0, Value.int 3 0, Value.ref 602, Value.bool true, Value.int 370 0, Value.ref 603, Value.none, Value.ref 604, Value.ref 605, Value.ref 606, Value.int 1138 0, Value.int 321 0, Value.str (Str.ofString "/claim/cut.py") 1139], #[]⟩) ::
  (nat_lit 608, ⟨Value.type "function", none, Data.func (fnOf (Str.ofString "require_order") (Str.ofString "require_order") (defArgs (top 41)) (defBody (top 41)) (defScope (top 41)) Value.none Value.none Value.none (Value.str (Str.ofString "pieceround.base.orders") 936) none (Value.ref 607) Value.none), #[]⟩) ::
  (nat_lit 609, ⟨Value.type "tuple", none, Data.seq #[], #[]⟩) ::
  (nat_lit 611, ⟨Value.type "tuple", none, Data.seq #[Value.str (Str.ofString "names") 1144], #[]⟩) ::
  (nat_lit 612, ⟨Value.type "tuple", none, Data.seq #[], #[]⟩) ::
  (nat_lit 614, ⟨Value.type "code", none, Data.fields #[Value.str (Str.ofString "_are_different") 1141, Value.str (Str.ofString "_are_different") 1142, Value.str (Str.ofString "/claim/cut.py") 1143, Value.int 324 0, Value.int 1 0, Value.int 0 0, Value.int 0 0, Value.int 3 0, Value.ref 609, Value.bool true, Value.int 370 0, Value.ref 610, Value.none, Value.ref 611, Value.ref 612, Value.ref 613, Value.int 1145 0, Value.int 324 0, Value.str (Str.ofString "/claim/cut.py") 1146], #[]⟩) ::
  (nat_lit 615, ⟨Value.type "function", none, Data.func (fnOf (Str.ofString "_are_different") (Str.ofString "_are_different") (defArgs (top 42)) (defBody (top 42)) (defScope (top 42)) Value.none Value.none Value.none (Value.str (Str.ofString "pieceround.base.orders") 936) none (Value.ref 614) Value.none), #[]⟩) ::
  (nat_lit 616, ⟨Value.type "tuple", none, Data.seq #[], #[]⟩) ::
  (nat_lit 618, ⟨Value.type "tuple", none, Data.seq #[Value.str (Str.ofString "upper") 1151, Value.str (Str.ofString "lower") 1152], #[]⟩) ::
  (nat_lit 619, ⟨Value.type "tuple", none, Data.seq #[], #[]⟩) ::
  (nat_lit 621, ⟨Value.type "code", none, Data.fields #[Value.str (Str.ofString "_are_rows") 1148, Value.str (Str.ofString "_are_rows") 1149, Value.str (Str.ofString "/claim/cut.py") 1150, Value.int 326 0, Value.int 2 0, Value.int 0 0, Value.int 0 0, Value.int 3 0, Value.ref 616, Value.bool true, Value.int 370 0, Value.ref 617, Value.none, Value.ref 618, Value.ref 619, Value.ref 620, Value.int 1153 0, Value.int 326 0, Value.str (Str.ofString "/claim/cut.py") 1154], #[]⟩) ::
  (nat_lit 622, ⟨Value.type "function", none, Data.func (fnOf (Str.ofString "_are_rows") (Str.ofString "_are_rows") (defArgs (top 43)) (defBody (top 43)) (defScope (top 43)) Value.none Value.none Value.none (Value.str (Str.ofString "pieceround.base.orders") 936) none (Value.ref 621) Value.none), #[]⟩) ::
  (nat_lit 623, ⟨Value.type "tuple", none, Data.seq #[], #[]⟩) ::
  (nat_lit 625, ⟨Value.type "tuple", none, Data.seq #[Value.str (Str.ofString "places") 1159, Value.str (Str.ofString "ends") 1160, Value.str (Str.ofString "furthest") 1161, Value.str (Str.ofString "index") 1162, Value.str (Str.ofString "place") 1163], #[]⟩) ::
  (nat_lit 626, ⟨Value.type "tuple", none, Data.seq #[], #[]⟩) ::
  (nat_lit 628, ⟨Value.type "code", none, Data.fields #[Value.str (Str.ofString "block_ends") 1156, Value.str (Str.ofString "block_ends") 1157, Value.str (Str.ofString "/claim/cut.py") 1158, Value.int 330 0, Value.int 1 0, Value.int 0 0, Value.int 0 0, Value.int 3 0, Value.ref 623, Value.bool true, Value.int 370 0, Value.ref 624, Value.none, Value.ref 625, Value.ref 626, Value.ref 627, Value.int 1164 0, Value.int 330 0, Value.str (Str.ofString "/claim/cut.py") 1165], #[]⟩) ::
  (nat_lit 629, ⟨Value.type "function", none, Data.func (fnOf (Str.ofString "block_ends") (Str.ofString "block_ends") (defArgs (top 44)) (defBody (top 44)) (defScope (top 44)) Value.none Value.none Value.none (Value.str (Str.ofString "pieceround.base.orders") 936) none (Value.ref 628) Value.none), #[]⟩) ::
  (nat_lit 637, ⟨Value.type "tuple", none, Data.seq #[], #[]⟩) ::
  (nat_lit 640, ⟨Value.type "code", none, Data.fields #[Value.str (Str.ofString "__init__") 1181, Value.str (Str.ofString "Exchange.__init__") 1182, Value.str (Str.ofString "/claim/cut.py") 1183, Value.int 341 0, Value.int 3 0, Value.int 0 0, Value.int 0 0, Value.int 3 0, Value.ref 637, Value.bool true, Value.int 370 0, Value.ref 638, Value.none, Value.none, Value.none, Value.ref 639, Value.int 1184 0, Value.int 341 0, Value.str (Str.ofString "/claim/cut.py") 1185], #[]⟩) ::
  (nat_lit 641, ⟨Value.type "function", none, Data.func (fnOf (Str.ofString "__init__") (Str.ofString "Exchange.__init__") (defArgs (inClass (top 46) 0)) (defBody (inClass (top 46) 0)) (defScope (inClass (top 46) 0)) Value.none Value.none Value.none (Value.str (Str.ofString "pieceround.piece.exchanges") 1167) none (Value.ref 640) Value.none), #[]⟩) ::
  (nat_lit 642, ⟨Value.type "tuple", none, Data.seq #[], #[]⟩) ::
  (nat_lit 645, ⟨Value.type "code", none, Data.fields #[Value.str (Str.ofString "read") 1187, Value.str (Str.ofString "Exchange.read") 1188, Value.str (Str.ofString "/claim/cut.py") 1189, Value.int 359 0, Value.int 3 0, Value.int 0 0, Value.int 0 0, Value.int 7 0, Value.ref 642, Value.bool true, Value.int 370 0, Value.ref 643, Value.none, Value.none, Value.none, Value.ref 644, Value.int 1190 0, Value.int 359 0, Value.str (Str.ofString "/claim/cut.py") 1191], #[]⟩) ::
  (nat_lit 646, ⟨Value.type "function", none, Data.func (fnOf (Str.ofString "read") (Str.ofString "Exchange.read") (defArgs (inClass (top 46) 1)) (defBody (inClass (top 46) 1)) (defScope (inClass (top 46) 1)) Value.none Value.none Value.none (Value.str (Str.ofString "pieceround.piece.exchanges") 1167) (some 649) (Value.ref 645) Value.none), #[]⟩) ::
  (nat_lit 647, ⟨Value.type "dict", none, Data.dict #[{ hash := PyData.keyHash P (Str.ofString "__module__"), key := Value.str (Str.ofString "__module__") 1193, val := Value.str (Str.ofString "pieceround.piece.exchanges") 1167 }, { hash := PyData.keyHash P (Str.ofString "__name__"), key := Value.str (Str.ofString "__name__") 1196, val := Value.str (Str.ofString "read") 1195 }, { hash := PyData.keyHash P (Str.ofString "__qualname__"), key := Value.str (Str.ofString "__qualname__") 1199, val := Value.str (Str.ofString "Exchange.read") 1198 }, { hash := PyData.keyHash P (Str.ofString "__doc__"), key := Value.str (Str.ofString "__doc__") 1201, val := Value.none }, { hash := PyData.keyHash P (Str.ofString "__annotations__"), key := Value.str (Str.ofString "__annotations__") 1203, val := Value.ref 649 }] 5, #[]⟩) ::
  (nat_lit 648, ⟨Value.type "classmethod", some 647, Data.fields #[Value.ref 646, Value.bool false], #[]⟩) ::
  (nat_lit 649, ⟨Value.type "dict", none, Data.dict #[], #[]⟩) ::
  (nat_lit 650, ⟨Value.type "tuple", none, Data.seq #[], #[]⟩) ::
  (nat_lit 652, ⟨Value.type "tuple", none, Data.seq #[Value.str (Str.ofString "self") 1208], #[]⟩) ::
  (nat_lit 653, ⟨Value.type "tuple", none, Data.seq #[], #[]⟩) ::
  (nat_lit 655, ⟨Value.type "code", none, Data.fields #[Value.str (Str.ofString "order") 1205, Value.str (Str.ofString "Exchange.order") 1206, Value.str (Str.ofString "/claim/cut.py") 1207, Value.int 366 0, Value.int 1 0, Value.int 0 0, Value.int 0 0, Value.int 3 0, Value.ref 650, Value.bool true, Value.int 370 0, Value.ref 651, Value.none, Value.ref 652, Value.ref 653, Value.ref 654, Value.int 1209 0, Value.int 366 0, Value.str (Str.ofString "/claim/cut.py") 1210], #[]⟩) ::
  (nat_lit 656, ⟨Value.type "function", none, Data.func (fnOf (Str.ofString "order") (Str.ofString "Exchange.order") (defArgs (inClass (top 46) 2)) (defBody (inClass (top 46) 2)) (defScope (inClass (top 46) 2)) Value.none Value.none Value.none (Value.str (Str.ofString "pieceround.piece.exchanges") 1167) none (Value.ref 655) Value.none), #[]⟩) ::
  (nat_lit 657, ⟨Value.type "property", none, Data.fields #[Value.ref 656, Value.none, Value.none, Value.none, Value.str (Str.ofString "order") 1212, Value.bool false], #[]⟩) ::
  (nat_lit 658, ⟨Value.type "tuple", none, Data.seq #[], #[]⟩) ::
  (nat_lit 660, ⟨Value.type "tuple", none, Data.seq #[Value.str (Str.ofString "self") 1216], #[]⟩) ::
  (nat_lit 661, ⟨Value.type "tuple", none, Data.seq #[], #[]⟩) ::
  (nat_lit 663, ⟨Value.type "code", none, Data.fields #[Value.str (Str.ofString "lengths") 1213, Value.str (Str.ofString "Exchange.lengths") 1214, Value.str (Str.ofString "/claim/cut.py") 1215, Value.int 370 0, Value.int 1 0, Value.int 0 0, Value.int 0 0, Value.int 3 0, Value.ref 658, Value.bool true, Value.int 370 0, Value.ref 659, Value.none, Value.ref 660, Value.ref 661, Value.ref 662, Value.int 1217 0, Value.int 370 0, Value.str (Str.ofString "/claim/cut.py") 1218], #[]⟩) ::
  (nat_lit 664, ⟨Value.type "function", none, Data.func (fnOf (Str.ofString "lengths") (Str.ofString "Exchange.lengths") (defArgs (inClass (top 46) 3)) (defBody (inClass (top 46) 3)) (defScope (inClass (top 46) 3)) Value.none Value.none Value.none (Value.str (Str.ofString "pieceround.piece.exchanges") 1167) none (Value.ref 663) Value.none), #[]⟩) ::
  (nat_lit 665, ⟨Value.type "property", none, Data.fields #[Value.ref 664, Value.none, Value.none, Value.none, Value.str (Str.ofString "lengths") 1220, Value.bool false], #[]⟩) ::
  (nat_lit 666, ⟨Value.type "tuple", none, Data.seq #[], #[]⟩) ::
  (nat_lit 668, ⟨Value.type "tuple", none, Data.seq #[Value.str (Str.ofString "self") 1224], #[]⟩) ::
  (nat_lit 669, ⟨Value.type "tuple", none, Data.seq #[], #[]⟩) ::
  (nat_lit 671, ⟨Value.type "code", none, Data.fields #[Value.str (Str.ofString "total") 1221, Value.str (Str.ofString "Exchange.total") 1222, Value.str (Str.ofString "/claim/cut.py") 1223, Value.int 374 0, Value.int 1 0, Value.int 0 0, Value.int 0 0, Value.int 3 0, Value.ref 666, Value.bool true, Value.int 370 0, Value.ref 667, Value.none, Value.ref 668, Value.ref 669, Value.ref 670, Value.int 1225 0, Value.int 374 0, Value.str (Str.ofString "/claim/cut.py") 1226], #[]⟩) ::
  (nat_lit 672, ⟨Value.type "function", none, Data.func (fnOf (Str.ofString "total") (Str.ofString "Exchange.total") (defArgs (inClass (top 46) 4)) (defBody (inClass (top 46) 4)) (defScope (inClass (top 46) 4)) Value.none Value.none Value.none (Value.str (Str.ofString "pieceround.piece.exchanges") 1167) none (Value.ref 671) Value.none), #[]⟩) ::
  (nat_lit 673, ⟨Value.type "property", none, Data.fields #[Value.ref 672, Value.none, Value.none, Value.none, Value.str (Str.ofString "total") 1228, Value.bool false], #[]⟩) ::
  (nat_lit 674, ⟨Value.type "tuple", none, Data.seq #[], #[]⟩) ::
  (nat_lit 676, ⟨Value.type "tuple", none, Data.seq #[Value.str (Str.ofString "self") 1232], #[]⟩) ::
  (nat_lit 677, ⟨Value.type "tuple", none, Data.seq #[], #[]⟩) ::
  (nat_lit 679, ⟨Value.type "code", none, Data.fields #[Value.str (Str.ofString "root") 1229, Value.str (Str.ofString "Exchange.root") 1230, Value.str (Str.ofString "/claim/cut.py") 1231, Value.int 378 0, Value.int 1 0, Value.int 0 0, Value.int 0 0, Value.int 3 0, Value.ref 674, Value.bool true, Value.int 370 0, Value.ref 675, Value.none, Value.ref 676, Value.ref 677, Value.ref 678, Value.int 1233 0, Value.int 378 0, Value.str (Str.ofString "/claim/cut.py") 1234], #[]⟩) ::
  (nat_lit 680, ⟨Value.type "function", none, Data.func (fnOf (Str.ofString "root") (Str.ofString "Exchange.root") (defArgs (inClass (top 46) 5)) (defBody (inClass (top 46) 5)) (defScope (inClass (top 46) 5)) Value.none Value.none Value.none (Value.str (Str.ofString "pieceround.piece.exchanges") 1167) none (Value.ref 679) Value.none), #[]⟩) ::
  (nat_lit 681, ⟨Value.type "property", none, Data.fields #[Value.ref 680, Value.none, Value.none, Value.none, Value.str (Str.ofString "root") 1236, Value.bool false], #[]⟩) ::
  (nat_lit 682, ⟨Value.type "tuple", none, Data.seq #[], #[]⟩) ::
  (nat_lit 684, ⟨Value.type "tuple", none, Data.seq #[Value.str (Str.ofString "self") 1240], #[]⟩) ::
  (nat_lit 685, ⟨Value.type "tuple", none, Data.seq #[], #[]⟩) ::
  (nat_lit 687, ⟨Value.type "code", none, Data.fields #[Value.str (Str.ofString "begins") 1237, Value.str (Str.ofString "Exchange.begins") 1238, Value.str (Str.ofString "/claim/cut.py") 1239, Value.int 382 0, Value.int 1 0, Value.int 0 0, Value.int 0 0, Value.int 3 0, Value.ref 682, Value.bool true, Value.int 370 0, Value.ref 683, Value.none, Value.ref 684, Value.ref 685, Value.ref 686, Value.int 1241 0, Value.int 382 0, Value.str (Str.ofString "/claim/cut.py") 1242], #[]⟩) ::
  (nat_lit 688, ⟨Value.type "function", none, Data.func (fnOf (Str.ofString "begins") (Str.ofString "Exchange.begins") (defArgs (inClass (top 46) 6)) (defBody (inClass (top 46) 6)) (defScope (inClass (top 46) 6)) Value.none Value.none Value.none (Value.str (Str.ofString "pieceround.piece.exchanges") 1167) none (Value.ref 687) Value.none), #[]⟩) ::
  (nat_lit 689, ⟨Value.type "property", none, Data.fields #[Value.ref 688, Value.none, Value.none, Value.none, Value.str (Str.ofString "begins") 1244, Value.bool false], #[]⟩) ::
  (nat_lit 690, ⟨Value.type "tuple", none, Data.seq #[], #[]⟩) ::
  (nat_lit 692, ⟨Value.type "tuple", none, Data.seq #[Value.str (Str.ofString "self") 1248], #[]⟩) ::
  (nat_lit 693, ⟨Value.type "tuple", none, Data.seq #[], #[]⟩) ::
  (nat_lit 695, ⟨Value.type "code", none, Data.fields #[Value.str (Str.ofString "begins_below") 1245, Value.str (Str.ofString "Exchange.begins_below") 1246, Value.str (Str.ofString "/claim/cut.py") 1247, Value.int 386 0, Value.int 1 0, Value.int 0 0, Value.int 0 0, Value.int 3 0, Value.ref 690, Value.bool true, Value.int 370 0, Value.ref 691, Value.none, Value.ref 692, Value.ref 693, Value.ref 694, Value.int 1249 0, Value.int 386 0, Value.str (Str.ofString "/claim/cut.py") 1250], #[]⟩) ::
  (nat_lit 696, ⟨Value.type "function", none, Data.func (fnOf (Str.ofString "begins_below") (Str.ofString "Exchange.begins_below") (defArgs (inClass (top 46) 7)) (defBody (inClass (top 46) 7)) (defScope (inClass (top 46) 7)) Value.none Value.none Value.none (Value.str (Str.ofString "pieceround.piece.exchanges") 1167) none (Value.ref 695) Value.none), #[]⟩) ::
  (nat_lit 697, ⟨Value.type "property", none, Data.fields #[Value.ref 696, Value.none, Value.none, Value.none, Value.str (Str.ofString "begins_below") 1252, Value.bool false], #[]⟩) ::
  (nat_lit 698, ⟨Value.type "tuple", none, Data.seq #[], #[]⟩) ::
  (nat_lit 700, ⟨Value.type "tuple", none, Data.seq #[Value.str (Str.ofString "self") 1256], #[]⟩) ::
  (nat_lit 701, ⟨Value.type "tuple", none, Data.seq #[], #[]⟩) ::
  (nat_lit 703, ⟨Value.type "code", none, Data.fields #[Value.str (Str.ofString "shifts") 1253, Value.str (Str.ofString "Exchange.shifts") 1254, Value.str (Str.ofString "/claim/cut.py") 1255, Value.int 390 0, Value.int 1 0, Value.int 0 0, Value.int 0 0, Value.int 3 0, Value.ref 698, Value.bool true, Value.int 370 0, Value.ref 699, Value.none, Value.ref 700, Value.ref 701, Value.ref 702, Value.int 1257 0, Value.int 390 0, Value.str (Str.ofString "/claim/cut.py") 1258], #[]⟩) ::
  (nat_lit 704, ⟨Value.type "function", none, Data.func (fnOf (Str.ofString "shifts") (Str.ofString "Exchange.shifts") (defArgs (inClass (top 46) 8)) (defBody (inClass (top 46) 8)) (defScope (inClass (top 46) 8)) Value.none Value.none Value.none (Value.str (Str.ofString "pieceround.piece.exchanges") 1167) none (Value.ref 703) Value.none), #[]⟩) ::
  (nat_lit 705, ⟨Value.type "property", none, Data.fields #[Value.ref 704, Value.none, Value.none, Value.none, Value.str (Str.ofString "shifts") 1260, Value.bool false], #[]⟩) ::
  (nat_lit 706, ⟨Value.type "tuple", none, Data.seq #[], #[]⟩) ::
  (nat_lit 708, ⟨Value.type "tuple", none, Data.seq #[Value.str (Str.ofString "self") 1264], #[]⟩) ::
  (nat_lit 709, ⟨Value.type "tuple", none, Data.seq #[], #[]⟩) ::
  (nat_lit 711, ⟨Value.type "code", none, Data.fields #[Value.str (Str.ofString "upper_cuts") 1261, Value.str (Str.ofString "Exchange.upper_cuts") 1262, Value.str (Str.ofString "/claim/cut.py") 1263, Value.int 394 0, Value.int 1 0, Value.int 0 0, Value.int 0 0, Value.int 3 0, Value.ref 706, Value.bool true, Value.int 370 0, Value.ref 707, Value.none, Value.ref 708, Value.ref 709, Value.ref 710, Value.int 1265 0, Value.int 394 0, Value.str (Str.ofString "/claim/cut.py") 1266], #[]⟩) ::
  (nat_lit 712, ⟨Value.type "function", none, Data.func (fnOf (Str.ofString "upper_cuts") (Str.ofString "Exchange.upper_cuts") (defArgs (inClass (top 46) 9)) (defBody (inClass (top 46) 9)) (defScope (inClass (top 46) 9)) Value.none Value.none Value.none (Value.str (Str.ofString "pieceround.piece.exchanges") 1167) none (Value.ref 711) Value.none), #[]⟩) ::
  (nat_lit 713, ⟨Value.type "property", none, Data.fields #[Value.ref 712, Value.none, Value.none, Value.none, Value.str (Str.ofString "upper_cuts") 1268, Value.bool false], #[]⟩) ::
  (nat_lit 714, ⟨Value.type "tuple", none, Data.seq #[], #[]⟩) ::
  (nat_lit 716, ⟨Value.type "tuple", none, Data.seq #[Value.str (Str.ofString "self") 1272], #[]⟩) ::
  (nat_lit 717, ⟨Value.type "tuple", none, Data.seq #[], #[]⟩) ::
  (nat_lit 719, ⟨Value.type "code", none, Data.fields #[Value.str (Str.ofString "lower_cuts") 1269, Value.str (Str.ofString "Exchange.lower_cuts") 1270, Value.str (Str.ofString "/claim/cut.py") 1271, Value.int 398 0, Value.int 1 0, Value.int 0 0, Value.int 0 0, Value.int 3 0, Value.ref 714, Value.bool true, Value.int 370 0, Value.ref 715, Value.none, Value.ref 716, Value.ref 717, Value.ref 718, Value.int 1273 0, Value.int 398 0, Value.str (Str.ofString "/claim/cut.py") 1274], #[]⟩) ::
  (nat_lit 720, ⟨Value.type "function", none, Data.func (fnOf (Str.ofString "lower_cuts") (Str.ofString "Exchange.lower_cuts") (defArgs (inClass (top 46) 10)) (defBody (inClass (top 46) 10)) (defScope (inClass (top 46) 10)) Value.none Value.none Value.none (Value.str (Str.ofString "pieceround.piece.exchanges") 1167) none (Value.ref 719) Value.none), #[]⟩) ::
  (nat_lit 721, ⟨Value.type "property", none, Data.fields #[Value.ref 720, Value.none, Value.none, Value.none, Value.str (Str.ofString "lower_cuts") 1276, Value.bool false], #[]⟩) ::
  (nat_lit 722, ⟨Value.type "tuple", none, Data.seq #[], #[]⟩) ::
  (nat_lit 724, ⟨Value.type "tuple", none, Data.seq #[Value.str (Str.ofString "self") 1280, Value.str (Str.ofString "point") 1281], #[]⟩) ::
  (nat_lit 725, ⟨Value.type "tuple", none, Data.seq #[], #[]⟩) ::
  (nat_lit 727, ⟨Value.type "code", none, Data.fields #[Value.str (Str.ofString "__call__") 1277, Value.str (Str.ofString "Exchange.__call__") 1278, Value.str (Str.ofString "/claim/cut.py") 1279, Value.int 402 0, Value.int 2 0, Value.int 0 0, Value.int 0 0, Value.int 3 0, Value.ref 722, Value.bool true, Value.int 370 0, Value.ref 723, Value.none, Value.ref 724, Value.ref 725, Value.ref 726, Value.int 1282 0, Value.int 402 0, Value.str (Str.ofString "/claim/cut.py") 1283], #[]⟩) ::
  (nat_lit 728, ⟨Value.type "function", none, Data.func (fnOf (Str.ofString "__call__") (Str.ofString "Exchange.__call__") (defArgs (inClass (top 46) 11)) (defBody (inClass (top 46) 11)) (defScope (inClass (top 46) 11)) Value.none Value.none Value.none (Value.str (Str.ofString "pieceround.piece.exchanges") 1167) none (Value.ref 727) Value.none), #[]⟩) ::
  (nat_lit 729, ⟨Value.type "tuple", none, Data.seq #[], #[]⟩) ::
  (nat_lit 731, ⟨Value.type "tuple", none, Data.seq #[Value.str (Str.ofString "self") 1288, Value.str (Str.ofString "point") 1289], #[]⟩) ::
  (nat_lit 732, ⟨Value.type "tuple", none, Data.seq #[], #[]⟩) ::
  (nat_lit 734, ⟨Value.type "code", none, Data.fields #[Value.str (Str.ofString "back") 1285, Value.str (Str.ofString "Exchange.back") 1286, Value.str (Str.ofString "/claim/cut.py") 1287, Value.int 405 0, Value.int 2 0, Value.int 0 0, Value.int 0 0, Value.int 3 0, Value.ref 729, Value.bool true, Value.int 370 0, Value.ref 730, Value.none, Value.ref 731, Value.ref 732, Value.ref 733, Value.int 1290 0, Value.int 405 0, Value.str (Str.ofString "/claim/cut.py") 1291], #[]⟩) ::
  (nat_lit 735, ⟨Value.type "function", none, Data.func (fnOf (Str.ofString "back") (Str.ofString "Exchange.back") (defArgs (inClass (top 46) 12)) (defBody (inClass (top 46) 12)) (defScope (inClass (top 46) 12)) Value.none Value.none Value.none (Value.str (Str.ofString "pieceround.piece.exchanges") 1167) none (Value.ref 734) Value.none), #[]⟩) ::
  (nat_lit 736, ⟨Value.type "tuple", none, Data.seq #[], #[]⟩) ::
  (nat_lit 738, ⟨Value.type "tuple", none, Data.seq #[Value.str (Str.ofString "self") 1296, Value.str (Str.ofString "point") 1297], #[]⟩) ::
  (nat_lit 739, ⟨Value.type "tuple", none, Data.seq #[], #[]⟩) ::
  (nat_lit 741, ⟨Value.type "code", none, Data.fields #[Value.str (Str.ofString "piece_at") 1293, Value.str (Str.ofString "Exchange.piece_at") 1294, Value.str (Str.ofString "/claim/cut.py") 1295, Value.int 409 0, Value.int 2 0, Value.int 0 0, Value.int 0 0, Value.int 3 0, Value.ref 736, Value.bool true, Value.int 370 0, Value.ref 737, Value.none, Value.ref 738, Value.ref 739, Value.ref 740, Value.int 1298 0, Value.int 409 0, Value.str (Str.ofString "/claim/cut.py") 1299], #[]⟩) ::
  (nat_lit 742, ⟨Value.type "function", none, Data.func (fnOf (Str.ofString "piece_at") (Str.ofString "Exchange.piece_at") (defArgs (inClass (top 46) 13)) (defBody (inClass (top 46) 13)) (defScope (inClass (top 46) 13)) Value.none Value.none Value.none (Value.str (Str.ofString "pieceround.piece.exchanges") 1167) none (Value.ref 741) Value.none), #[]⟩) ::
  (nat_lit 743, ⟨Value.type "tuple", none, Data.seq #[], #[]⟩) ::
  (nat_lit 745, ⟨Value.type "tuple", none, Data.seq #[Value.str (Str.ofString "self") 1304], #[]⟩) ::
  (nat_lit 746, ⟨Value.type "tuple", none, Data.seq #[], #[]⟩) ::
  (nat_lit 748, ⟨Value.type "code", none, Data.fields #[Value.str (Str.ofString "inverse") 1301, Value.str (Str.ofString "Exchange.inverse") 1302, Value.str (Str.ofString "/claim/cut.py") 1303, Value.int 413 0, Value.int 1 0, Value.int 0 0, Value.int 0 0, Value.int 3 0, Value.ref 743, Value.bool true, Value.int 370 0, Value.ref 744, Value.none, Value.ref 745, Value.ref 746, Value.ref 747, Value.int 1305 0, Value.int 413 0, Value.str (Str.ofString "/claim/cut.py") 1306], #[]⟩) ::
  (nat_lit 749, ⟨Value.type "function", none, Data.func (fnOf (Str.ofString "inverse") (Str.ofString "Exchange.inverse") (defArgs (inClass (top 46) 14)) (defBody (inClass (top 46) 14)) (defScope (inClass (top 46) 14)) Value.none Value.none Value.none (Value.str (Str.ofString "pieceround.piece.exchanges") 1167) none (Value.ref 748) Value.none), #[]⟩) ::
  (nat_lit 750, ⟨Value.type "tuple", none, Data.seq #[], #[]⟩) ::
  (nat_lit 752, ⟨Value.type "tuple", none, Data.seq #[Value.str (Str.ofString "self") 1311], #[]⟩) ::
  (nat_lit 753, ⟨Value.type "tuple", none, Data.seq #[], #[]⟩) ::
  (nat_lit 755, ⟨Value.type "code", none, Data.fields #[Value.str (Str.ofString "backwards") 1308, Value.str (Str.ofString "Exchange.backwards") 1309, Value.str (Str.ofString "/claim/cut.py") 1310, Value.int 416 0, Value.int 1 0, Value.int 0 0, Value.int 0 0, Value.int 3 0, Value.ref 750, Value.bool true, Value.int 370 0, Value.ref 751, Value.none, Value.ref 752, Value.ref 753, Value.ref 754, Value.int 1312 0, Value.int 416 0, Value.str (Str.ofString "/claim/cut.py") 1313], #[]⟩) ::
  (nat_lit 756, ⟨Value.type "function", none, Data.func (fnOf (Str.ofString "backwards") (Str.ofString "Exchange.backwards") (defArgs (inClass (top 46) 15)) (defBody (inClass (top 46) 15)) (defScope (inClass (top 46) 15)) Value.none Value.none Value.none (Value.str (Str.ofString "pieceround.piece.exchanges") 1167) none (Value.ref 755) Value.none), #[]⟩) ::
  (nat_lit 757, ⟨Value.type "tuple", none, Data.seq #[], #[]⟩) ::
  (nat_lit 759, ⟨Value.type "tuple", none, Data.seq #[Value.str (Str.ofString "self") 1318, Value.str (Str.ofString "number") 1319], #[]⟩) ::
  (nat_lit 760, ⟨Value.type "tuple", none, Data.seq #[], #[]⟩) ::
  (nat_lit 762, ⟨Value.type "code", none, Data.fields #[Value.str (Str.ofString "scaled") 1315, Value.str (Str.ofString "Exchange.scaled") 1316, Value.str (Str.ofString "/claim/cut.py") 1317, Value.int 419 0, Value.int 2 0, Value.int 0 0, Value.int 0 0, Value.int 3 0, Value.ref 757, Value.bool true, Value.int 370 0, Value.ref 758, Value.none, Value.ref 759, Value.ref 760, Value.ref 761, Value.int 1320 0, Value.int 419 0, Value.str (Str.ofString "/claim/cut.py") 1321], #[]⟩) ::
  (nat_lit 763, ⟨Value.type "function", none, Data.func (fnOf (Str.ofString "scaled") (Str.ofString "Exchange.scaled") (defArgs (inClass (top 46) 16)) (defBody (inClass (top 46) 16)) (defScope (inClass (top 46) 16)) Value.none Value.none Value.none (Value.str (Str.ofString "pieceround.piece.exchanges") 1167) none (Value.ref 762) Value.none), #[]⟩) ::
  (nat_lit 764, ⟨Value.type "tuple", none, Data.seq #[], #[]⟩) ::
  (nat_lit 766, ⟨Value.type "tuple", none, Data.seq #[Value.str (Str.ofString "self") 1326, Value.str (Str.ofString "other") 1327], #[]⟩) ::
  (nat_lit 767, ⟨Value.type "tuple", none, Data.seq #[], #[]⟩) ::
  (nat_lit 769, ⟨Value.type "code", none, Data.fields #[Value.str (Str.ofString "__eq__") 1323, Value.str (Str.ofString "Exchange.__eq__") 1324, Value.str (Str.ofString "/claim/cut.py") 1325, Value.int 422 0, Value.int 2 0, Value.int 0 0, Value.int 0 0, Value.int 3 0, Value.ref 764, Value.bool true, Value.int 370 0, Value.ref 765, Value.none, Value.ref 766, Value.ref 767, Value.ref 768, Value.int 1328 0, Value.int 422 0, Value.str (Str.ofString "/claim/cut.py") 1329], #[]⟩) ::
  (nat_lit 770, ⟨Value.type "function", none, Data.func (fnOf (Str.ofString "__eq__") (Str.ofString "Exchange.__eq__") (defArgs (inClass (top 46) 17)) (defBody (inClass (top 46) 17)) (defScope (inClass (top 46) 17)) Value.none Value.none Value.none (Value.str (Str.ofString "pieceround.piece.exchanges") 1167) none (Value.ref 769) Value.none), #[]⟩) ::
  (nat_lit 771, ⟨Value.type "tuple", none, Data.seq #[], #[]⟩) ::
  (nat_lit 773, ⟨Value.type "tuple", none, Data.seq #[Value.str (Str.ofString "self") 1334], #[]⟩) ::
  (nat_lit 774, ⟨Value.type "tuple", none, Data.seq #[], #[]⟩) ::
  (nat_lit 776, ⟨Value.type "code", none, Data.fields #[Value.str (Str.ofString "__len__") 1331, Value.str (Str.ofString "Exchange.__len__") 1332, Value.str (Str.ofString "/claim/cut.py") 1333, Value.int 425 0, Value.int 1 0, Value.int 0 0, Value.int 0 0, Value.int 3 0, Value.ref 771, Value.bool true, Value.int 370 0, Value.ref 772, Value.none, Value.ref 773, Value.ref 774, Value.ref 775, Value.int 1335 0, Value.int 425 0, Value.str (Str.ofString "/claim/cut.py") 1336], #[]⟩) ::
  (nat_lit 777, ⟨Value.type "function", none, Data.func (fnOf (Str.ofString "__len__") (Str.ofString "Exchange.__len__") (defArgs (inClass (top 46) 18)) (defBody (inClass (top 46) 18)) (defScope (inClass (top 46) 18)) Value.none Value.none Value.none (Value.str (Str.ofString "pieceround.piece.exchanges") 1167) none (Value.ref 776) Value.none), #[]⟩) ::
  (nat_lit 778, ⟨Value.type "tuple", none, Data.seq #[], #[]⟩) ::
  (nat_lit 780, ⟨Value.type "tuple", none, Data.seq #[Value.str (Str.ofString "self") 1341, Value.str (Str.ofString "value") 1342], #[]⟩) ::
  (nat_lit 781, ⟨Value.type "tuple", none, Data.seq #[], #[]⟩) ::
  (nat_lit 783, ⟨Value.type "code", none, Data.fields #[Value.str (Str.ofString "__contains__") 1338, Value.str (Str.ofString "Exchange.__contains__") 1339, Value.str (Str.ofString "/claim/cut.py") 1340, Value.int 428 0, Value.int 2 0, Value.int 0 0, Value.int 0 0, Value.int 3 0, Value.ref 778, Value.bool true, Value.int 370 0, Value.ref 779, Value.none, Value.ref 780, Value.ref 781, Value.ref 782, Value.int 1343 0, Value.int 428 0, Value.str (Str.ofString "/claim/cut.py") 1344], #[]⟩) ::
  (nat_lit 784, ⟨Value.type "function", none, Data.func (fnOf (Str.ofString "__contains__") (Str.ofString "Exchange.__contains__") (defArgs (inClass (top 46) 19)) (defBody (inClass (top 46) 19)) (defScope (inClass (top 46) 19)) Value.none Value.none Value.none (Value.str (Str.ofString "pieceround.piece.exchanges") 1167) none (Value.ref 783) Value.none), #[]⟩) ::
  (nat_lit 785, ⟨Value.type "tuple", none, Data.seq #[], #[]⟩) ::
  (nat_lit 787, ⟨Value.type "tuple", none, Data.seq #[Value.str (Str.ofString "self") 1349], #[]⟩) ::
  (nat_lit 788, ⟨Value.type "tuple", none, Data.seq #[], #[]⟩) ::
  (nat_lit 790, ⟨Value.type "code", none, Data.fields #[Value.str (Str.ofString "__iter__") 1346, Value.str (Str.ofString "Exchange.__iter__") 1347, Value.str (Str.ofString "/claim/cut.py") 1348, Value.int 431 0, Value.int 1 0, Value.int 0 0, Value.int 0 0, Value.int 3 0, Value.ref 785, Value.bool true, Value.int 370 0, Value.ref 786, Value.none, Value.ref 787, Value.ref 788, Value.ref 789, Value.int 1350 0, Value.int 431 0, Value.str (Str.ofString "/claim/cut.py") 1351], #[]⟩) ::
  (nat_lit 791, ⟨Value.type "function", none, Data.func (fnOf (Str.ofString "__iter__") (Str.ofString "Exchange.__iter__") (defArgs (inClass (top 46) 20)) (defBody (inClass (top 46) 20)) (defScope (inClass (top 46) 20)) Value.none Value.none Value.none (Value.str (Str.ofString "pieceround.piece.exchanges") 1167) none (Value.ref 790) Value.none), #[]⟩) ::
  (nat_lit 792, ⟨Value.type "tuple", none, Data.seq #[], #[]⟩) ::
  (nat_lit 794, ⟨Value.type "tuple", none, Data.seq #[Value.str (Str.ofString "self") 1356, Value.str (Str.ofString "told") 1357, Value.str (Str.ofString "mark") 1358, Value.str (Str.ofString "name") 1359], #[]⟩) ::
  (nat_lit 795, ⟨Value.type "tuple", none, Data.seq #[], #[]⟩) ::
  (nat_lit 797, ⟨Value.type "code", none, Data.fields #[Value.str (Str.ofString "__str__") 1353, Value.str (Str.ofString "Exchange.__str__") 1354, Value.str (Str.ofString "/claim/cut.py") 1355, Value.int 434 0, Value.int 1 0, Value.int 0 0, Value.int 0 0, Value.int 3 0, Value.ref 792, Value.bool true, Value.int 370 0, Value.ref 793, Value.none, Value.ref 794, Value.ref 795, Value.ref 796, Value.int 1360 0, Value.int 434 0, Value.str (Str.ofString "/claim/cut.py") 1361], #[]⟩) ::
  (nat_lit 798, ⟨Value.type "function", none, Data.func (fnOf (Str.ofString "__str__") (Str.ofString "Exchange.__str__") (defArgs (inClass (top 46) 21)) (defBody (inClass (top 46) 21)) (defScope (inClass (top 46) 21)) Value.none Value.none Value.none (Value.str (Str.ofString "pieceround.piece.exchanges") 1167) none (Value.ref 797) Value.none), #[]⟩) ::
  (nat_lit 799, ⟨Value.type "tuple", none, Data.seq #[Value.str (Str.ofString "_above") 1363, Value.str (Str.ofString "_begins") 1364, Value.str (Str.ofString "_begins_below") 1365, Value.str (Str.ofString "_below") 1366, Value.str (Str.ofString "_lengths") 1367, Value.str (Str.ofString "_order") 1368, Value.str (Str.ofString "_root") 1369, Value.str (Str.ofString "_shifts") 1370, Value.str (Str.ofString "_starts") 1371, Value.str (Str.ofString "_starts_below") 1372, Value.str (Str.ofString "_total") 1373], #[]⟩) ::
  (nat_lit 800, ⟨Value.type "dict", none, Data.dict #[{ hash := PyData.keyHash P (Str.ofString "__module__"), key := Value.str (Str.ofString "__module__") 1176, val := Value.str (Str.ofString "pieceround.piece.exchanges") 1167 }, { hash := PyData.keyHash P (Str.ofString "__firstlineno__"), key := Value.str (Str.ofString "__firstlineno__") 1180, val := Value.int 339 1179 }, { hash := PyData.keyHash P (Str.ofString "__init__"), key := Value.str (Str.ofString "__init__") 1186, val := Value.ref 641 }, { hash := PyData.keyHash P (Str.ofString "read"), key := Value.str (Str.ofString "read") 1204, val := Value.ref 648 }, { hash := PyData.keyHash P (Str.ofString "order"), key := Value.str (Str.ofString "order") 1212, val := Value.ref 657 }, { hash := PyData.keyHash P (Str.ofString "lengths"), key := Value.str (Str.ofString "lengths") 1220, val := Value.ref 665 }, { hash := PyData.keyHash P (Str.ofString "total"), key := Value.str (Str.ofString "total") 1228, val := Value.ref 673 }, { hash := PyData.keyHash P (Str.ofString "root"), key := Value.str (Str.ofString "root") 1236, val := Value.ref 681 }, { hash := PyData.keyHash P (Str.ofString "begins"), key := Value.str (Str.ofString "begins") 1244, val := Value.ref 689 }, { hash := PyData.keyHash P (Str.ofString "begins_below"), key := Value.str (Str.ofString "begins_below") 1252, val := Value.ref 697 }, { hash := PyData.keyHash P (Str.ofString "shifts"), key := Value.str (Str.ofString "shifts") 1260, val := Value.ref 705 }, { hash := PyData.keyHash P (Str.ofString "upper_cuts"), key := Value.str (Str.ofString "upper_cuts") 1268, val := Value.ref 713 }, { hash := PyData.keyHash P (Str.ofString "lower_cuts"), key := Value.str (Str.ofString "lower_cuts") 1276, val := Value.ref 721 }, { hash := PyData.keyHash P (Str.ofString "__call__"), key := Value.str (Str.ofString "__call__") 1284, val := Value.ref 728 }, { hash := PyData.keyHash P (Str.ofString "back"), key := Value.str (Str.ofString "back") 1292, val := Value.ref 735 }, { hash := PyData.keyHash P (Str.ofString "piece_at"), key := Value.str (Str.ofString "piece_at") 1300, val := Value.ref 742 }, { hash := PyData.keyHash P (Str.ofString "inverse"), key := Value.str (Str.ofString "inverse") 1307, val := Value.ref 749 }, { hash := PyData.keyHash P (Str.ofString "backwards"), key := Value.str (Str.ofString "backwards") 1314, val := Value.ref 756 }, { hash := PyData.keyHash P (Str.ofString "scaled"), key := Value.str (Str.ofString "scaled") 1322, val := Value.ref 763 }, { hash := PyData.keyHash P (Str.ofString "__eq__"), key := Value.str (Str.ofString "__eq__") 1330, val := Value.ref 770 }, { hash := PyData.keyHash P (Str.ofString "__len__"), key := Value.str (Str.ofString "__len__") 1337, val := Value.ref 777 }, { hash := PyData.keyHash P (Str.ofString "__contains__"), key := Value.str (Str.ofString "__contains__") 1345, val := Value.ref 784 }, { hash := PyData.keyHash P (Str.ofString "__iter__"), key := Value.str (Str.ofString "__iter__") 1352, val := Value.ref 791 }, { hash := PyData.keyHash P (Str.ofString "__str__"), key := Value.str (Str.ofString "__str__") 1362, val := Value.ref 798 }, { hash := PyData.keyHash P (Str.ofString "__static_attributes__"), key := Value.str (Str.ofString "__static_attributes__") 1374, val := Value.ref 799 }, { hash := PyData.keyHash P (Str.ofString "__dict__"), key := Value.str (Str.ofString "__dict__") 1376, val := Value.ref 802 }, { hash := PyData.keyHash P (Str.ofString "__weakref__"), key := Value.str (Str.ofString "__weakref__") 1378, val := Value.ref 803 }, { hash := PyData.keyHash P (Str.ofString "__doc__"), key := Value.str (Str.ofString "__doc__") 1379, val := Value.none }, { hash := PyData.keyHash P (Str.ofString "__hash__"), key := Value.str (Str.ofString "__hash__") 1380, val := Value.none }] 5, #[]⟩) ::
  (nat_lit 801, ⟨Value.type "type", none, Data.cls { name := Str.ofString "Exchange", bases := [Value.type "object"], mro := [Value.ref 801, Value.type "object"], ns := 800, qualname := Str.ofString "Exchange" }, #[none, none, some (Value.str (Str.ofString "Exchange") 1169), some (Value.str (Str.ofString "Exchange") 1177), some (Value.builtin "object.__new__"), some (Value.bool true)]⟩) ::
  (nat_lit 802, ⟨Value.type "getset_descriptor", none, Data.fields #[Value.str (Str.ofString "__dict__") 1375, Value.ref 801, Value.builtin "function.__dict__", Value.builtin "function.__dict__#set"], #[]⟩) ::
  (nat_lit 803, ⟨Value.type "getset_descriptor", none, Data.fields #[Value.str (Str.ofString "__weakref__") 1377, Value.ref 801, Value.builtin "ExceptionGroup.__weakref__", Value.none], #[]⟩) ::
  (nat_lit 806, ⟨Value.type "tuple", none, Data.seq #[], #[]⟩) ::
  (nat_lit 809, ⟨Value.type "code", none, Data.fields #[Value.str (Str.ofString "are_numbers") 1383, Value.str (Str.ofString "are_numbers") 1384, Value.str (Str.ofString "/claim/cut.py") 1385, Value.int 441 0, Value.int 2 0, Value.int 0 0, Value.int 0 0, Value.int 3 0, Value.ref 806, Value.bool true, Value.int 370 0, Value.ref 807, Value.none, Value.none, Value.none, Value.ref 808, Value.int 1386 0, Value.int 441 0, Value.str (Str.ofString "/claim/cut.py") 1387], #[]⟩) ::
  (nat_lit 810, ⟨Value.type "function", none, Data.func (fnOf (Str.ofString "are_numbers") (Str.ofString "are_numbers") (defArgs (top 47)) (defBody (top 47)) (defScope (top 47)) Value.none Value.none Value.none (Value.str (Str.ofString "pieceround.piece.exchanges") 1167) none (Value.ref 809) Value.none), #[]⟩) ::
  (nat_lit 811, ⟨Value.type "tuple", none, Data.seq #[], #[]⟩) ::
  (nat_lit 814, ⟨Value.type "code", none, Data.fields #[Value.str (Str.ofString "are_lengths") 1389, Value.str (Str.ofString "are_lengths") 1390, Value.str (Str.ofString "/claim/cut.py") 1391, Value.int 446 0, Value.int 2 0, Value.int 0 0, Value.int 0 0, Value.int 3 0, Value.ref 811, Value.bool true, Value.int 370 0, Value.ref 812, Value.none, Value.none, Value.none, Value.ref 813, Value.int 1392 0, Value.int 446 0, Value.str (Str.ofString "/claim/cut.py") 1393], #[]⟩) ::
  (nat_lit 815, ⟨Value.type "function", none, Data.func (fnOf (Str.ofString "are_lengths") (Str.ofString "are_lengths") (defArgs (top 48)) (defBody (top 48)) (defScope (top 48)) Value.none Value.none Value.none (Value.str (Str.ofString "pieceround.piece.exchanges") 1167) none (Value.ref 814) Value.none), #[]⟩) ::
  (nat_lit 816, ⟨Value.type "tuple", none, Data.seq #[], #[]⟩) ::
  (nat_lit 818, ⟨Value.type "tuple", none, Data.seq #[Value.str (Str.ofString "one") 1398, Value.str (Str.ofString "other") 1399], #[]⟩) ::
  (nat_lit 819, ⟨Value.type "tuple", none, Data.seq #[], #[]⟩) ::
  (nat_lit 821, ⟨Value.type "code", none, Data.fields #[Value.str (Str.ofString "fits_root") 1395, Value.str (Str.ofString "fits_root") 1396, Value.str (Str.ofString "/claim/cut.py") 1397, Value.int 448 0, Value.int 2 0, Value.int 0 0, Value.int 0 0, Value.int 3 0, Value.ref 816, Value.bool true, Value.int 370 0, Value.ref 817, Value.none, Value.ref 818, Value.ref 819, Value.ref 820, Value.int 1400 0, Value.int 448 0, Value.str (Str.ofString "/claim/cut.py") 1401], #[]⟩) ::
  (nat_lit 822, ⟨Value.type "function", none, Data.func (fnOf (Str.ofString "fits_root") (Str.ofString "fits_root") (defArgs (top 49)) (defBody (top 49)) (defScope (top 49)) Value.none Value.none Value.none (Value.str (Str.ofString "pieceround.piece.exchanges") 1167) none (Value.ref 821) Value.none), #[]⟩) ::
  (nat_lit 823, ⟨Value.type "tuple", none, Data.seq #[], #[]⟩) ::
  (nat_lit 825, ⟨Value.type "tuple", none, Data.seq #[Value.str (Str.ofString "exchange") 1406, Value.str (Str.ofString "value") 1407], #[]⟩) ::
  (nat_lit 826, ⟨Value.type "tuple", none, Data.seq #[], #[]⟩) ::
  (nat_lit 828, ⟨Value.type "code", none, Data.fields #[Value.str (Str.ofString "is_point") 1403, Value.str (Str.ofString "is_point") 1404, Value.str (Str.ofString "/claim/cut.py") 1405, Value.int 450 0, Value.int 2 0, Value.int 0 0, Value.int 0 0, Value.int 3 0, Value.ref 823, Value.bool true, Value.int 370 0, Value.ref 824, Value.none, Value.ref 825, Value.ref 826, Value.ref 827, Value.int 1408 0, Value.int 450 0, Value.str (Str.ofString "/claim/cut.py") 1409], #[]⟩) ::
  (nat_lit 829, ⟨Value.type "function", none, Data.func (fnOf (Str.ofString "is_point") (Str.ofString "is_point") (defArgs (top 50)) (defBody (top 50)) (defScope (top 50)) Value.none Value.none Value.none (Value.str (Str.ofString "pieceround.piece.exchanges") 1167) none (Value.ref 828) Value.none), #[]⟩) ::
  (nat_lit 830, ⟨Value.type "tuple", none, Data.seq #[], #[]⟩) ::
  (nat_lit 832, ⟨Value.type "tuple", none, Data.seq #[Value.str (Str.ofString "value") 1414], #[]⟩) ::
  (nat_lit 833, ⟨Value.type "tuple", none, Data.seq #[], #[]⟩) ::
  (nat_lit 835, ⟨Value.type "code", none, Data.fields #[Value.str (Str.ofString "require_exchange") 1411, Value.str (Str.ofString "require_exchange") 1412, Value.str (Str.ofString "/claim/cut.py") 1413, Value.int 454 0, Value.int 1 0, Value.int 0 0, Value.int 0 0, Value.int 3 0, Value.ref 830, Value.bool true, Value.int 370 0, Value.ref 831, Value.none, Value.ref 832, Value.ref 833, Value.ref 834, Value.int 1415 0, Value.int 454 0, Value.str (Str.ofString "/claim/cut.py") 1416], #[]⟩) ::
  (nat_lit 836, ⟨Value.type "function", none, Data.func (fnOf (Str.ofString "require_exchange") (Str.ofString "require_exchange") (defArgs (top 51)) (defBody (top 51)) (defScope (top 51)) Value.none Value.none Value.none (Value.str (Str.ofString "pieceround.piece.exchanges") 1167) none (Value.ref 835) Value.none), #[]⟩) ::
  (nat_lit 837, ⟨Value.type "tuple", none, Data.seq #[], #[]⟩) ::
  (nat_lit 839, ⟨Value.type "tuple", none, Data.seq #[Value.str (Str.ofString "exchange") 1421, Value.str (Str.ofString "value") 1422], #[]⟩) ::
  (nat_lit 840, ⟨Value.type "tuple", none, Data.seq #[], #[]⟩) ::
  (nat_lit 842, ⟨Value.type "code", none, Data.fields #[Value.str (Str.ofString "require_point") 1418, Value.str (Str.ofString "require_point") 1419, Value.str (Str.ofString "/claim/cut.py") 1420, Value.int 457 0, Value.int 2 0, Value.int 0 0, Value.int 0 0, Value.int 3 0, Value.ref 837, Value.bool true, Value.int 370 0, Value.ref 838, Value.none, Value.ref 839, Value.ref 840, Value.ref 841, Value.int 1423 0, Value.int 457 0, Value.str (Str.ofString "/claim/cut.py") 1424], #[]⟩) ::
  (nat_lit 843, ⟨Value.type "function", none, Data.func (fnOf (Str.ofString "require_point") (Str.ofString "require_point") (defArgs (top 52)) (defBody (top 52)) (defScope (top 52)) Value.none Value.none Value.none (Value.str (Str.ofString "pieceround.piece.exchanges") 1167) none (Value.ref 842) Value.none), #[]⟩) ::
  (nat_lit 844, ⟨Value.type "tuple", none, Data.seq #[], #[]⟩) ::
  (nat_lit 846, ⟨Value.type "tuple", none, Data.seq #[Value.str (Str.ofString "exchange") 1429, Value.str (Str.ofString "order") 1430, Value.str (Str.ofString "told") 1431, Value.str (Str.ofString "lengths") 1432, Value.str (Str.ofString "head") 1433, Value.str (Str.ofString "name") 1434], #[]⟩) ::
  (nat_lit 847, ⟨Value.type "tuple", none, Data.seq #[], #[]⟩) ::
  (nat_lit 849, ⟨Value.type "code", none, Data.fields #[Value.str (Str.ofString "joined") 1426, Value.str (Str.ofString "joined") 1427, Value.str (Str.ofString "/claim/cut.py") 1428, Value.int 460 0, Value.int 1 0, Value.int 0 0, Value.int 0 0, Value.int 3 0, Value.ref 844, Value.bool true, Value.int 370 0, Value.ref 845, Value.none, Value.ref 846, Value.ref 847, Value.ref 848, Value.int 1435 0, Value.int 460 0, Value.str (Str.ofString "/claim/cut.py") 1436], #[]⟩) ::
  (nat_lit 850, ⟨Value.type "function", none, Data.func (fnOf (Str.ofString "joined") (Str.ofString "joined") (defArgs (top 53)) (defBody (top 53)) (defScope (top 53)) Value.none Value.none Value.none (Value.str (Str.ofString "pieceround.piece.exchanges") 1167) none (Value.ref 849) Value.none), #[]⟩) ::
  (nat_lit 851, ⟨Value.type "tuple", none, Data.seq #[], #[]⟩) ::
  (nat_lit 853, ⟨Value.type "tuple", none, Data.seq #[Value.str (Str.ofString "names") 1441, Value.str (Str.ofString "lengths") 1442, Value.str (Str.ofString "sums") 1443, Value.str (Str.ofString "name") 1444], #[]⟩) ::
  (nat_lit 854, ⟨Value.type "tuple", none, Data.seq #[], #[]⟩) ::
  (nat_lit 856, ⟨Value.type "code", none, Data.fields #[Value.str (Str.ofString "_sums") 1438, Value.str (Str.ofString "_sums") 1439, Value.str (Str.ofString "/claim/cut.py") 1440, Value.int 471 0, Value.int 2 0, Value.int 0 0, Value.int 0 0, Value.int 3 0, Value.ref 851, Value.bool true, Value.int 370 0, Value.ref 852, Value.none, Value.ref 853, Value.ref 854, Value.ref 855, Value.int 1445 0, Value.int 471 0, Value.str (Str.ofString "/claim/cut.py") 1446], #[]⟩) ::
  (nat_lit 857, ⟨Value.type "function", none, Data.func (fnOf (Str.ofString "_sums") (Str.ofString "_sums") (defArgs (top 54)) (defBody (top 54)) (defScope (top 54)) Value.none Value.none Value.none (Value.str (Str.ofString "pieceround.piece.exchanges") 1167) none (Value.ref 856) Value.none), #[]⟩) ::
  (nat_lit 858, ⟨Value.type "tuple", none, Data.seq #[], #[]⟩) ::
  (nat_lit 860, ⟨Value.type "tuple", none, Data.seq #[Value.str (Str.ofString "text") 1451], #[]⟩) ::
  (nat_lit 861, ⟨Value.type "tuple", none, Data.seq #[], #[]⟩) ::
  (nat_lit 863, ⟨Value.type "code", none, Data.fields #[Value.str (Str.ofString "_read_length") 1448, Value.str (Str.ofString "_read_length") 1449, Value.str (Str.ofString "/claim/cut.py") 1450, Value.int 476 0, Value.int 1 0, Value.int 0 0, Value.int 0 0, Value.int 3 0, Value.ref 858, Value.bool true, Value.int 370 0, Value.ref 859, Value.none, Value.ref 860, Value.ref 861, Value.ref 862, Value.int 1452 0, Value.int 476 0, Value.str (Str.ofString "/claim/cut.py") 1453], #[]⟩) ::
  (nat_lit 864, ⟨Value.type "function", none, Data.func (fnOf (Str.ofString "_read_length") (Str.ofString "_read_length") (defArgs (top 55)) (defBody (top 55)) (defScope (top 55)) Value.none Value.none Value.none (Value.str (Str.ofString "pieceround.piece.exchanges") 1167) none (Value.ref 863) Value.none), #[]⟩) ::
  (nat_lit 865, ⟨Value.type "tuple", none, Data.seq #[], #[]⟩) ::
  (nat_lit 867, ⟨Value.type "tuple", none, Data.seq #[Value.str (Str.ofString "starts") 1458, Value.str (Str.ofString "point") 1459, Value.str (Str.ofString "low") 1460, Value.str (Str.ofString "high") 1461, Value.str (Str.ofString "middle") 1462], #[]⟩) ::
  (nat_lit 868, ⟨Value.type "tuple", none, Data.seq #[], #[]⟩) ::
  (nat_lit 870, ⟨Value.type "code", none, Data.fields #[Value.str (Str.ofString "_index_of_last") 1455, Value.str (Str.ofString "_index_of_last") 1456, Value.str (Str.ofString "/claim/cut.py") 1457, Value.int 481 0, Value.int 2 0, Value.int 0 0, Value.int 0 0, Value.int 3 0, Value.ref 865, Value.bool true, Value.int 370 0, Value.ref 866, Value.none, Value.ref 867, Value.ref 868, Value.ref 869, Value.int 1463 0, Value.int 481 0, Value.str (Str.ofString "/claim/cut.py") 1464], #[]⟩) ::
  (nat_lit 871, ⟨Value.type "function", none, Data.func (fnOf (Str.ofString "_index_of_last") (Str.ofString "_index_of_last") (defArgs (top 56)) (defBody (top 56)) (defScope (top 56)) Value.none Value.none Value.none (Value.str (Str.ofString "pieceround.piece.exchanges") 1167) none (Value.ref 870) Value.none), #[]⟩) ::
  (nat_lit 872, ⟨Value.type "tuple", none, Data.seq #[], #[]⟩) ::
  (nat_lit 874, ⟨Value.type "tuple", none, Data.seq #[Value.str (Str.ofString "_law_script") 1471, Value.str (Str.ofString "_law_spot") 1472, Value.str (Str.ofString "_law_cell") 1473, Value.str (Str.ofString "_law_left") 1474], #[]⟩) ::
  (nat_lit 875, ⟨Value.type "tuple", none, Data.seq #[], #[]⟩) ::
  (nat_lit 877, ⟨Value.type "code", none, Data.fields #[Value.str (Str.ofString "_law_dice") 1468, Value.str (Str.ofString "_law_dice") 1469, Value.str (Str.ofString "/claim/cut.py") 1470, Value.int 491 0, Value.int 2 0, Value.int 0 0, Value.int 0 0, Value.int 3 0, Value.ref 872, Value.bool true, Value.int 370 0, Value.ref 873, Value.none, Value.ref 874, Value.ref 875, Value.ref 876, Value.int 1475 0, Value.int 491 0, Value.str (Str.ofString "/claim/cut.py") 1476], #[]⟩) ::
  (nat_lit 878, ⟨Value.type "function", none, Data.func (fnOf (Str.ofString "_law_dice") (Str.ofString "_law_dice") (defArgs (top 58)) (defBody (top 58)) (defScope (top 58)) Value.none Value.none Value.none (Value.str (Str.ofString "law_pieceround_k08_whole_forms_and_shifts") 1466) none (Value.ref 877) Value.none), #[]⟩) ::
  (nat_lit 879, ⟨Value.type "tuple", none, Data.seq #[], #[]⟩) ::
  (nat_lit 881, ⟨Value.type "tuple", none, Data.seq #[Value.str (Str.ofString "_law_dice_here") 1481, Value.str (Str.ofString "_law_total") 1482, Value.str (Str.ofString "_law_found") 1483, Value.str (Str.ofString "_law_one") 1484, Value.str (Str.ofString "_law_two") 1485], #[]⟩) ::
  (nat_lit 882, ⟨Value.type "tuple", none, Data.seq #[], #[]⟩) ::
  (nat_lit 884, ⟨Value.type "code", none, Data.fields #[Value.str (Str.ofString "_law_roll") 1478, Value.str (Str.ofString "_law_roll") 1479, Value.str (Str.ofString "/claim/cut.py") 1480, Value.int 495 0, Value.int 2 0, Value.int 0 0, Value.int 0 0, Value.int 3 0, Value.ref 879, Value.bool true, Value.int 370 0, Value.ref 880, Value.none, Value.ref 881, Value.ref 882, Value.ref 883, Value.int 1486 0, Value.int 495 0, Value.str (Str.ofString "/claim/cut.py") 1487], #[]⟩) ::
  (nat_lit 885, ⟨Value.type "function", none, Data.func (fnOf (Str.ofString "_law_roll") (Str.ofString "_law_roll") (defArgs (top 59)) (defBody (top 59)) (defScope (top 59)) Value.none Value.none Value.none (Value.str (Str.ofString "law_pieceround_k08_whole_forms_and_shifts") 1466) none (Value.ref 884) Value.none), #[]⟩) ::
  (nat_lit 886, ⟨Value.type "tuple", none, Data.seq #[], #[]⟩) ::
  (nat_lit 888, ⟨Value.type "tuple", none, Data.seq #[Value.str (Str.ofString "_law_dice_here") 1492, Value.str (Str.ofString "_law_items") 1493], #[]⟩) ::
  (nat_lit 889, ⟨Value.type "tuple", none, Data.seq #[], #[]⟩) ::
  (nat_lit 891, ⟨Value.type "code", none, Data.fields #[Value.str (Str.ofString "_law_pick") 1489, Value.str (Str.ofString "_law_pick") 1490, Value.str (Str.ofString "/claim/cut.py") 1491, Value.int 504 0, Value.int 2 0, Value.int 0 0, Value.int 0 0, Value.int 3 0, Value.ref 886, Value.bool true, Value.int 370 0, Value.ref 887, Value.none, Value.ref 888, Value.ref 889, Value.ref 890, Value.int 1494 0, Value.int 504 0, Value.str (Str.ofString "/claim/cut.py") 1495], #[]⟩) ::
  (nat_lit 892, ⟨Value.type "function", none, Data.func (fnOf (Str.ofString "_law_pick") (Str.ofString "_law_pick") (defArgs (top 60)) (defBody (top 60)) (defScope (top 60)) Value.none Value.none Value.none (Value.str (Str.ofString "law_pieceround_k08_whole_forms_and_shifts") 1466) none (Value.ref 891) Value.none), #[]⟩) ::
  (nat_lit 893, ⟨Value.type "tuple", none, Data.seq #[], #[]⟩) ::
  (nat_lit 895, ⟨Value.type "tuple", none, Data.seq #[Value.str (Str.ofString "_law_dice_here") 1500, Value.str (Str.ofString "_law_items") 1501, Value.str (Str.ofString "_law_left") 1502, Value.str (Str.ofString "_law_found") 1503, Value.str (Str.ofString "_law_turn") 1504], #[]⟩) ::
  (nat_lit 896, ⟨Value.type "tuple", none, Data.seq #[], #[]⟩) ::
  (nat_lit 898, ⟨Value.type "code", none, Data.fields #[Value.str (Str.ofString "_law_mixed") 1497, Value.str (Str.ofString "_law_mixed") 1498, Value.str (Str.ofString "/claim/cut.py") 1499, Value.int 506 0, Value.int 2 0, Value.int 0 0, Value.int 0 0, Value.int 3 0, Value.ref 893, Value.bool true, Value.int 370 0, Value.ref 894, Value.none, Value.ref 895, Value.ref 896, Value.ref 897, Value.int 1505 0, Value.int 506 0, Value.str (Str.ofString "/claim/cut.py") 1506], #[]⟩) ::
  (nat_lit 899, ⟨Value.type "function", none, Data.func (fnOf (Str.ofString "_law_mixed") (Str.ofString "_law_mixed") (defArgs (top 61)) (defBody (top 61)) (defScope (top 61)) Value.none Value.none Value.none (Value.str (Str.ofString "law_pieceround_k08_whole_forms_and_shifts") 1466) none (Value.ref 898) Value.none), #[]⟩) ::
  (nat_lit 900, ⟨Value.type "tuple", none, Data.seq #[], #[]⟩) ::
  (nat_lit 902, ⟨Value.type "tuple", none, Data.seq #[Value.str (Str.ofString "_law_dice_here") 1511, Value.str (Str.ofString "_law_times") 1512], #[]⟩) ::
  (nat_lit 903, ⟨Value.type "tuple", none, Data.seq #[], #[]⟩) ::
  (nat_lit 905, ⟨Value.type "code", none, Data.fields #[Value.str (Str.ofString "_law_names_drawn") 1508, Value.str (Str.ofString "_law_names_drawn") 1509, Value.str (Str.ofString "/claim/cut.py") 1510, Value.int 511 0, Value.int 2 0, Value.int 0 0, Value.int 0 0, Value.int 3 0, Value.ref 900, Value.bool true, Value.int 370 0, Value.ref 901, Value.none, Value.ref 902, Value.ref 903, Value.ref 904, Value.int 1513 0, Value.int 511 0, Value.str (Str.ofString "/claim/cut.py") 1514], #[]⟩) ::
  (nat_lit 906, ⟨Value.type "function", none, Data.func (fnOf (Str.ofString "_law_names_drawn") (Str.ofString "_law_names_drawn") (defArgs (top 62)) (defBody (top 62)) (defScope (top 62)) Value.none Value.none Value.none (Value.str (Str.ofString "law_pieceround_k08_whole_forms_and_shifts") 1466) none (Value.ref 905) Value.none), #[]⟩) ::
  (nat_lit 907, ⟨Value.type "tuple", none, Data.seq #[], #[]⟩) ::
  (nat_lit 909, ⟨Value.type "tuple", none, Data.seq #[Value.str (Str.ofString "_law_dice_here") 1519, Value.str (Str.ofString "_law_root") 1520], #[]⟩) ::
  (nat_lit 910, ⟨Value.type "tuple", none, Data.seq #[], #[]⟩) ::
  (nat_lit 912, ⟨Value.type "code", none, Data.fields #[Value.str (Str.ofString "_law_length") 1516, Value.str (Str.ofString "_law_length") 1517, Value.str (Str.ofString "/claim/cut.py") 1518, Value.int 513 0, Value.int 2 0, Value.int 0 0, Value.int 0 0, Value.int 3 0, Value.ref 907, Value.bool true, Value.int 370 0, Value.ref 908, Value.none, Value.ref 909, Value.ref 910, Value.ref 911, Value.int 1521 0, Value.int 513 0, Value.str (Str.ofString "/claim/cut.py") 1522], #[]⟩) ::
  (nat_lit 913, ⟨Value.type "function", none, Data.func (fnOf (Str.ofString "_law_length") (Str.ofString "_law_length") (defArgs (top 63)) (defBody (top 63)) (defScope (top 63)) Value.none Value.none Value.none (Value.str (Str.ofString "law_pieceround_k08_whole_forms_and_shifts") 1466) none (Value.ref 912) Value.none), #[]⟩) ::
  (nat_lit 914, ⟨Value.type "tuple", none, Data.seq #[], #[]⟩) ::
  (nat_lit 916, ⟨Value.type "tuple", none, Data.seq #[Value.str (Str.ofString "_law_pair") 1527, Value.str (Str.ofString "_law_root") 1528], #[]⟩) ::
  (nat_lit 917, ⟨Value.type "tuple", none, Data.seq #[], #[]⟩) ::
  (nat_lit 919, ⟨Value.type "code", none, Data.fields #[Value.str (Str.ofString "_law_number") 1524, Value.str (Str.ofString "_law_number") 1525, Value.str (Str.ofString "/claim/cut.py") 1526, Value.int 517 0, Value.int 2 0, Value.int 0 0, Value.int 0 0, Value.int 3 0, Value.ref 914, Value.bool true, Value.int 370 0, Value.ref 915, Value.none, Value.ref 916, Value.ref 917, Value.ref 918, Value.int 1529 0, Value.int 517 0, Value.str (Str.ofString "/claim/cut.py") 1530], #[]⟩) ::
  (nat_lit 920, ⟨Value.type "function", none, Data.func (fnOf (Str.ofString "_law_number") (Str.ofString "_law_number") (defArgs (top 64)) (defBody (top 64)) (defScope (top 64)) Value.none Value.none Value.none (Value.str (Str.ofString "law_pieceround_k08_whole_forms_and_shifts") 1466) none (Value.ref 919) Value.none), #[]⟩) ::
  (nat_lit 921, ⟨Value.type "tuple", none, Data.seq #[], #[]⟩) ::
  (nat_lit 923, ⟨Value.type "tuple", none, Data.seq #[Value.str (Str.ofString "_law_world") 1535, Value.str (Str.ofString "_law_lengths") 1536, Value.str (Str.ofString "_law_name") 1537], #[]⟩) ::
  (nat_lit 924, ⟨Value.type "tuple", none, Data.seq #[], #[]⟩) ::
  (nat_lit 926, ⟨Value.type "code", none, Data.fields #[Value.str (Str.ofString "_law_exchange") 1532, Value.str (Str.ofString "_law_exchange") 1533, Value.str (Str.ofString "/claim/cut.py") 1534, Value.int 519 0, Value.int 1 0, Value.int 0 0, Value.int 0 0, Value.int 3 0, Value.ref 921, Value.bool true, Value.int 370 0, Value.ref 922, Value.none, Value.ref 923, Value.ref 924, Value.ref 925, Value.int 1538 0, Value.int 519 0, Value.str (Str.ofString "/claim/cut.py") 1539], #[]⟩) ::
  (nat_lit 927, ⟨Value.type "function", none, Data.func (fnOf (Str.ofString "_law_exchange") (Str.ofString "_law_exchange") (defArgs (top 65)) (defBody (top 65)) (defScope (top 65)) Value.none Value.none Value.none (Value.str (Str.ofString "law_pieceround_k08_whole_forms_and_shifts") 1466) none (Value.ref 926) Value.none), #[]⟩) ::
  (nat_lit 928, ⟨Value.type "tuple", none, Data.seq #[], #[]⟩) ::
  (nat_lit 930, ⟨Value.type "tuple", none, Data.seq #[Value.str (Str.ofString "_law_one") 1544, Value.str (Str.ofString "_law_other") 1545], #[]⟩) ::
  (nat_lit 931, ⟨Value.type "tuple", none, Data.seq #[], #[]⟩) ::
  (nat_lit 933, ⟨Value.type "code", none, Data.fields #[Value.str (Str.ofString "_law_plus") 1541, Value.str (Str.ofString "_law_plus") 1542, Value.str (Str.ofString "/claim/cut.py") 1543, Value.int 524 0, Value.int 2 0, Value.int 0 0, Value.int 0 0, Value.int 3 0, Value.ref 928, Value.bool true, Value.int 370 0, Value.ref 929, Value.none, Value.ref 930, Value.ref 931, Value.ref 932, Value.int 1546 0, Value.int 524 0, Value.str (Str.ofString "/claim/cut.py") 1547], #[]⟩) ::
  (nat_lit 934, ⟨Value.type "function", none, Data.func (fnOf (Str.ofString "_law_plus") (Str.ofString "_law_plus") (defArgs (top 66)) (defBody (top 66)) (defScope (top 66)) Value.none Value.none Value.none (Value.str (Str.ofString "law_pieceround_k08_whole_forms_and_shifts") 1466) none (Value.ref 933) Value.none), #[]⟩) ::
  (nat_lit 935, ⟨Value.type "tuple", none, Data.seq #[], #[]⟩) ::
  (nat_lit 937, ⟨Value.type "tuple", none, Data.seq #[Value.str (Str.ofString "_law_one") 1552, Value.str (Str.ofString "_law_other") 1553], #[]⟩) ::
  (nat_lit 938, ⟨Value.type "tuple", none, Data.seq #[], #[]⟩) ::
  (nat_lit 940, ⟨Value.type "code", none, Data.fields #[Value.str (Str.ofString "_law_minus") 1549, Value.str (Str.ofString "_law_minus") 1550, Value.str (Str.ofString "/claim/cut.py") 1551, Value.int 526 0, Value.int 2 0, Value.int 0 0, Value.int 0 0, Value.int 3 0, Value.ref 935, Value.bool true, Value.int 370 0, Value.ref 936, Value.none, Value.ref 937, Value.ref 938, Value.ref 939, Value.int 1554 0, Value.int 526 0, Value.str (Str.ofString "/claim/cut.py") 1555], #[]⟩) ::
  (nat_lit 941, ⟨Value.type "function", none, Data.func (fnOf (Str.ofString "_law_minus") (Str.ofString "_law_minus") (defArgs (top 67)) (defBody (top 67)) (defScope (top 67)) Value.none Value.none Value.none (Value.str (Str.ofString "law_pieceround_k08_whole_forms_and_shifts") 1466) none (Value.ref 940) Value.none), #[]⟩) ::
  (nat_lit 942, ⟨Value.type "tuple", none, Data.seq #[], #[]⟩) ::
  (nat_lit 944, ⟨Value.type "tuple", none, Data.seq #[Value.str (Str.ofString "_law_row") 1560, Value.str (Str.ofString "_law_lengths") 1561, Value.str (Str.ofString "_law_found") 1562, Value.str (Str.ofString "_law_at") 1563, Value.str (Str.ofString "_law_name") 1564], #[]⟩) ::
  (nat_lit 945, ⟨Value.type "tuple", none, Data.seq #[], #[]⟩) ::
  (nat_lit 947, ⟨Value.type "code", none, Data.fields #[Value.str (Str.ofString "_law_begins") 1557, Value.str (Str.ofString "_law_begins") 1558, Value.str (Str.ofString "/claim/cut.py") 1559, Value.int 528 0, Value.int 2 0, Value.int 0 0, Value.int 0 0, Value.int 3 0, Value.ref 942, Value.bool true, Value.int 370 0, Value.ref 943, Value.none, Value.ref 944, Value.ref 945, Value.ref 946, Value.int 1565 0, Value.int 528 0, Value.str (Str.ofString "/claim/cut.py") 1566], #[]⟩) ::
  (nat_lit 948, ⟨Value.type "function", none, Data.func (fnOf (Str.ofString "_law_begins") (Str.ofString "_law_begins") (defArgs (top 68)) (defBody (top 68)) (defScope (top 68)) Value.none Value.none Value.none (Value.str (Str.ofString "law_pieceround_k08_whole_forms_and_shifts") 1466) none (Value.ref 947) Value.none), #[]⟩) ::
  (nat_lit 949, ⟨Value.type "tuple", none, Data.seq #[], #[]⟩) ::
  (nat_lit 951, ⟨Value.type "tuple", none, Data.seq #[Value.str (Str.ofString "_law_dice_here") 1571, Value.str (Str.ofString "_law_most") 1572, Value.str (Str.ofString "_law_upper") 1573, Value.str (Str.ofString "_law_lower") 1574, Value.str (Str.ofString "_law_at") 1575, Value.str (Str.ofString "_law_is_cut") 1576, Value.str (Str.ofString "_law_turn") 1577, Value.str (Str.ofString "_law_size") 1578], #[]⟩) ::
  (nat_lit 952, ⟨Value.type "tuple", none, Data.seq #[], #[]⟩) ::
  (nat_lit 954, ⟨Value.type "code", none, Data.fields #[Value.str (Str.ofString "_law_any_rows") 1568, Value.str (Str.ofString "_law_any_rows") 1569, Value.str (Str.ofString "/claim/cut.py") 1570, Value.int 534 0, Value.int 2 0, Value.int 0 0, Value.int 0 0, Value.int 3 0, Value.ref 949, Value.bool true, Value.int 370 0, Value.ref 950, Value.none, Value.ref 951, Value.ref 952, Value.ref 953, Value.int 1579 0, Value.int 534 0, Value.str (Str.ofString "/claim/cut.py") 1580], #[]⟩) ::
  (nat_lit 955, ⟨Value.type "function", none, Data.func (fnOf (Str.ofString "_law_any_rows") (Str.ofString "_law_any_rows") (defArgs (top 69)) (defBody (top 69)) (defScope (top 69)) Value.none Value.none Value.none (Value.str (Str.ofString "law_pieceround_k08_whole_forms_and_shifts") 1466) none (Value.ref 954) Value.none), #[]⟩) ::
  (nat_lit 956, ⟨Value.type "tuple", none, Data.seq #[], #[]⟩) ::
  (nat_lit 959, ⟨Value.type "code", none, Data.fields #[Value.str (Str.ofString "_law_any_world") 1582, Value.str (Str.ofString "_law_any_world") 1583, Value.str (Str.ofString "/claim/cut.py") 1584, Value.int 549 0, Value.int 2 0, Value.int 0 0, Value.int 0 0, Value.int 3 0, Value.ref 956, Value.bool true, Value.int 370 0, Value.ref 957, Value.none, Value.none, Value.none, Value.ref 958, Value.int 1585 0, Value.int 549 0, Value.str (Str.ofString "/claim/cut.py") 1586], #[]⟩) ::
  (nat_lit 960, ⟨Value.type "function", none, Data.func (fnOf (Str.ofString "_law_any_world") (Str.ofString "_law_any_world") (defArgs (top 70)) (defBody (top 70)) (defScope (top 70)) Value.none Value.none Value.none (Value.str (Str.ofString "law_pieceround_k08_whole_forms_and_shifts") 1466) none (Value.ref 959) Value.none), #[]⟩) ::
  (nat_lit 961, ⟨Value.type "tuple", none, Data.seq #[], #[]⟩) ::
  (nat_lit 963, ⟨Value.type "tuple", none, Data.seq #[Value.str (Str.ofString "_law_dice_here") 1591, Value.str (Str.ofString "_law_world") 1592, Value.str (Str.ofString "_law_begins_here") 1593, Value.str (Str.ofString "_law_found") 1594, Value.str (Str.ofString "_law_name") 1595, Value.str (Str.ofString "_law_begin") 1596, Value.str (Str.ofString "_law_length_here") 1597, Value.str (Str.ofString "_law_twice") 1598], #[]⟩) ::
  (nat_lit 964, ⟨Value.type "tuple", none, Data.seq #[], #[]⟩) ::
  (nat_lit 966, ⟨Value.type "code", none, Data.fields #[Value.str (Str.ofString "_law_points") 1588, Value.str (Str.ofString "_law_points") 1589, Value.str (Str.ofString "/claim/cut.py") 1590, Value.int 558 0, Value.int 2 0, Value.int 0 0, Value.int 0 0, Value.int 3 0, Value.ref 961, Value.bool true, Value.int 370 0, Value.ref 962, Value.none, Value.ref 963, Value.ref 964, Value.ref 965, Value.int 1599 0, Value.int 558 0, Value.str (Str.ofString "/claim/cut.py") 1600], #[]⟩) ::
  (nat_lit 967, ⟨Value.type "function", none, Data.func (fnOf (Str.ofString "_law_points") (Str.ofString "_law_points") (defArgs (top 71)) (defBody (top 71)) (defScope (top 71)) Value.none Value.none Value.none (Value.str (Str.ofString "law_pieceround_k08_whole_forms_and_shifts") 1466) none (Value.ref 966) Value.none), #[]⟩) ::
  (nat_lit 968, ⟨Value.type "tuple", none, Data.seq #[], #[]⟩) ::
  (nat_lit 970, ⟨Value.type "tuple", none, Data.seq #[Value.str (Str.ofString "_law_world") 1605, Value.str (Str.ofString "_law_name") 1606, Value.str (Str.ofString "_law_above") 1607, Value.str (Str.ofString "_law_below") 1608], #[]⟩) ::
  (nat_lit 971, ⟨Value.type "tuple", none, Data.seq #[], #[]⟩) ::
  (nat_lit 973, ⟨Value.type "code", none, Data.fields #[Value.str (Str.ofString "_law_shift") 1602, Value.str (Str.ofString "_law_shift") 1603, Value.str (Str.ofString "/claim/cut.py") 1604, Value.int 568 0, Value.int 2 0, Value.int 0 0, Value.int 0 0, Value.int 3 0, Value.ref 968, Value.bool true, Value.int 370 0, Value.ref 969, Value.none, Value.ref 970, Value.ref 971, Value.ref 972, Value.int 1609 0, Value.int 568 0, Value.str (Str.ofString "/claim/cut.py") 1610], #[]⟩) ::
  (nat_lit 974, ⟨Value.type "function", none, Data.func (fnOf (Str.ofString "_law_shift") (Str.ofString "_law_shift") (defArgs (top 72)) (defBody (top 72)) (defScope (top 72)) Value.none Value.none Value.none (Value.str (Str.ofString "law_pieceround_k08_whole_forms_and_shifts") 1466) none (Value.ref 973) Value.none), #[]⟩) ::
  (nat_lit 975, ⟨Value.type "tuple", none, Data.seq #[], #[]⟩) ::
  (nat_lit 977, ⟨Value.type "tuple", none, Data.seq #[Value.str (Str.ofString "_law_order") 1615, Value.str (Str.ofString "_law_world") 1616, Value.str (Str.ofString "_law_name") 1617, Value.str (Str.ofString "_law_found") 1618, Value.str (Str.ofString "_law_other") 1619, Value.str (Str.ofString "_law_sign") 1620, Value.str (Str.ofString "_law_length_here") 1621], #[]⟩) ::
  (nat_lit 978, ⟨Value.type "tuple", none, Data.seq #[], #[]⟩) ::
  (nat_lit 980, ⟨Value.type "code", none, Data.fields #[Value.str (Str.ofString "_law_by_forms") 1612, Value.str (Str.ofString "_law_by_forms") 1613, Value.str (Str.ofString "/claim/cut.py") 1614, Value.int 571 0, Value.int 3 0, Value.int 0 0, Value.int 0 0, Value.int 3 0, Value.ref 975, Value.bool true, Value.int 370 0, Value.ref 976, Value.none, Value.ref 977, Value.ref 978, Value.ref 979, Value.int 1622 0, Value.int 571 0, Value.str (Str.ofString "/claim/cut.py") 1623], #[]⟩) ::
  (nat_lit 981, ⟨Value.type "function", none, Data.func (fnOf (Str.ofString "_law_by_forms") (Str.ofString "_law_by_forms") (defArgs (top 73)) (defBody (top 73)) (defScope (top 73)) Value.none Value.none Value.none (Value.str (Str.ofString "law_pieceround_k08_whole_forms_and_shifts") 1466) none (Value.ref 980) Value.none), #[]⟩) ::
  (nat_lit 982, ⟨Value.type "tuple", none, Data.seq #[], #[]⟩) ::
  (nat_lit 984, ⟨Value.type "tuple", none, Data.seq #[Value.str (Str.ofString "_law_dice_here") 1628, Value.str (Str.ofString "_law_world") 1629, Value.str (Str.ofString "_law_exchange_here") 1630, Value.str (Str.ofString "_law_order") 1631, Value.str (Str.ofString "_law_name") 1632, Value.str (Str.ofString "_law_shift_here") 1633, Value.str (Str.ofString "_law_other") 1634, Value.str (Str.ofString "_law_form") 1635, Value.str (Str.ofString "_law_above") 1636, Value.str (Str.ofString "_law_below") 1637, Value.str (Str.ofString "_law_block") 1638, Value.str (Str.ofString "_law_less") 1639, Value.str (Str.ofString "_law_point") 1640], #[]⟩) ::
  (nat_lit 985, ⟨Value.type "tuple", none, Data.seq #[], #[]⟩) ::
  (nat_lit 987, ⟨Value.type "code", none, Data.fields #[Value.str (Str.ofString "_law_right") 1625, Value.str (Str.ofString "_law_right") 1626, Value.str (Str.ofString "/claim/cut.py") 1627, Value.int 577 0, Value.int 1 0, Value.int 0 0, Value.int 0 0, Value.int 3 0, Value.ref 982, Value.bool true, Value.int 370 0, Value.ref 983, Value.none, Value.ref 984, Value.ref 985, Value.ref 986, Value.int 1641 0, Value.int 577 0, Value.str (Str.ofString "/claim/cut.py") 1642], #[]⟩) ::
  (nat_lit 988, ⟨Value.type "function", none, Data.func (fnOf (Str.ofString "_law_right") (Str.ofString "_law_right") (defArgs (top 74)) (defBody (top 74)) (defScope (top 74)) Value.none Value.none Value.none (Value.str (Str.ofString "law_pieceround_k08_whole_forms_and_shifts") 1466) none (Value.ref 987) Value.none), #[]⟩) ::
  (nat_lit 989, ⟨Value.type "tuple", none, Data.seq #[], #[]⟩) ::
  (nat_lit 992, ⟨Value.type "code", none, Data.fields #[Value.str (Str.ofString "law") 1644, Value.str (Str.ofString "law") 1645, Value.str (Str.ofString "/claim/cut.py") 1646, Value.int 603 0, Value.int 1 0, Value.int 0 0, Value.int 0 0, Value.int 3 0, Value.ref 989, Value.bool true, Value.int 370 0, Value.ref 990, Value.none, Value.none, Value.none, Value.ref 991, Value.int 1647 0, Value.int 603 0, Value.str (Str.ofString "/claim/cut.py") 1648], #[]⟩) ::
  (nat_lit 993, ⟨Value.type "function", none, Data.func (fnOf (Str.ofString "law") (Str.ofString "law") (defArgs (top 75)) (defBody (top 75)) (defScope (top 75)) Value.none Value.none Value.none (Value.str (Str.ofString "law_pieceround_k08_whole_forms_and_shifts") 1466) none (Value.ref 992) Value.none), #[]⟩) :: []
def hA : List Addr := [2, 3, 43, 45, 46, 48, 49, 50, 57, 58, 59, 60, 63, 70, 71, 72, 75, 82, 83, 84, 87, 94, 95, 96, 99, 106, 107, 108, 111, 118, 119, 120, 123, 130, 131, 132, 135, 142, 144, 145, 147, 148, 149, 150, 151, 154, 161, 163, 164, 166, 167, 168, 169, 170, 171, 174, 176, 177, 179, 180, 181, 184, 185, 186, 189, 190, 191, 199, 200, 201, 203, 204, 206, 207, 208, 210, 211, 213, 214, 215, 216, 217, 218, 220, 221, 223, 224, 225, 226, 228, 229, 231, 232, 233, 234, 236, 237, 239, 240, 241, 242, 244, 245, 247, 248, 249, 250, 252, 253, 255, 256, 257, 258, 260, 261, 263, 264, 265, 266, 268, 269, 271, 272, 273, 274, 276, 277, 279, 280, 281, 282, 284, 285, 287, 288, 289, 291, 292, 294, 295, 296, 298, 299, 301, 302, 303, 305, 306, 308, 309, 310, 312, 313, 315, 316, 317, 319, 320, 322, 323, 324, 326, 327, 329, 330, 331, 333, 334, 336, 337, 338, 339, 340, 341, 342, 345, 348, 349, 350, 353, 354, 355, 357, 358, 360, 361, 362, 364, 365, 367, 368, 369, 371, 372, 374, 375, 376, 378, 379, 381, 382, 383, 385, 386, 388, 389, 390, 392, 393, 395, 396, 397, 399, 400, 402, 403, 404, 406, 407, 409, 410, 411, 413, 414, 416, 417, 418, 420, 421, 423, 424, 425, 428, 429, 430, 432, 433, 435, 436, 437, 439, 440, 442, 443, 451, 454, 455, 456, 458, 459, 461, 462, 463, 464, 465, 466, 468, 469, 471, 472, 473, 474, 476, 477, 479, 480, 481, 482, 484, 485, 487, 488, 489, 490, 492, 493, 495, 496, 497, 498, 500, 501, 503, 504, 505, 506, 508, 509, 511, 512, 513, 514, 517, 518, 519, 521, 522, 524, 525, 526, 527, 529, 530, 532, 533, 534, 536, 537, 539, 540, 541, 543, 544, 546, 547, 548, 550, 551, 553, 554, 555, 558, 559, 560, 562, 563, 565, 566, 567, 569, 570, 572, 573, 574, 576, 577, 579, 580, 581, 583, 584, 586, 587, 588, 590, 591, 593, 594, 595, 596, 597, 598, 599, 602, 604, 605, 607, 608, 609, 611, 612, 614, 615, 616, 618, 619, 621, 622, 623, 625, 626, 628, 629, 637, 640, 641, 642, 645, 646, 647, 648, 649, 650, 652, 653, 655, 656, 657, 658, 660, 661, 663, 664, 665, 666, 668, 669, 671, 672, 673, 674, 676, 677, 679, 680, 681, 682, 684, 685, 687, 688, 689, 690, 692, 693, 695, 696, 697, 698, 700, 701, 703, 704, 705, 706, 708, 709, 711, 712, 713, 714, 716, 717, 719, 720, 721, 722, 724, 725, 727, 728, 729, 731, 732, 734, 735, 736, 738, 739, 741, 742, 743, 745, 746, 748, 749, 750, 752, 753, 755, 756, 757, 759, 760, 762, 763, 764, 766, 767, 769, 770, 771, 773, 774, 776, 777, 778, 780, 781, 783, 784, 785, 787, 788, 790, 791, 792, 794, 795, 797, 798, 799, 800, 801, 802, 803, 806, 809, 810, 811, 814, 815, 816, 818, 819, 821, 822, 823, 825, 826, 828, 829, 830, 832, 833, 835, 836, 837, 839, 840, 842, 843, 844, 846, 847, 849, 850, 851, 853, 854, 856, 857, 858, 860, 861, 863, 864, 865, 867, 868, 870, 871, 872, 874, 875, 877, 878, 879, 881, 882, 884, 885, 886, 888, 889, 891, 892, 893, 895, 896, 898, 899, 900, 902, 903, 905, 906, 907, 909, 910, 912, 913, 914, 916, 917, 919, 920, 921, 923, 924, 926, 927, 928, 930, 931, 933, 934, 935, 937, 938, 940, 941, 942, 944, 945, 947, 948, 949, 951, 952, 954, 955, 956, 959, 960, 961, 963, 964, 966, 967, 968, 970, 971, 973, 974, 975, 977, 978, 980, 981, 982, 984, 985, 987, 988, 989, 992, 993]
theorem hE (P : Params) : hA = (hK P).map fun x => x.1 := rfl
noncomputable abbrev hS (w : World) : Option (Shared × SharedT) := HeadRun.wholeF (fun p => HeadRun.stepQ (HeadRun.denQ HeadRun.tabQ) p w) HeadRun.fenceQ 12000 HR.prog
abbrev hX (s : Shared) : Bool := xlAt hV [] s && recOk HR.records s
theorem run1 (w : World) : (hS w).map (fun x => HeadRun.looksF HR.prog x.1.heap x.2.abs) = some true := by
  kernel_rfl
theorem run2 (w : World) : (hS w).map (fun x => HeadRun.seenQ hV hL (importedModules HR.prog.main.body) hX x.2.abs) = some (openGood hV hL) := by
  kernel_rfl
theorem run3 (w : World) : (hS w).map (fun x => hA.map (HeadRun.getT x.2)) = some ((hK w.params).map fun p => some p.2) := by
  kernel_rfl
theorem runs (w : World) : HeadRun.RunEqI HR hV (kHook hK hA hE) (fun s => hA.map (HeadRun.getT s)) 12000 hL w := by
  have a := run1 w
  have b := run2 w
  have c := run3 w
  show (hS w).map _ = _
  cases e : hS w with
  | none => rw [e] at a; cases a
  | some s =>
    rw [e] at a b c
    exact congrArg some (Prod.ext (Option.some.inj a) (Prod.ext (Option.some.inj b) (Option.some.inj c)))
end My
namespace My
open PySem PySem.Spec PyProof.Rows L2
section
variable {K : PySem.W.Frag} {a D : Addr} {xs : List V} {te : TE} {vs : List Nat} {σ : L2.St} {H1 : Hp} {j : Nat}
theorem take_next {α : Type} {l : List α} {i : Nat} {x : α} (h : l[i]? = some x) : l.take (i + 1) = l.take i ++ [x] := by
  rw [List.take_succ, h]
  rfl
/-- what a comprehension without a test has made behind i turns -/
def Made (H1 : Hp) (D : Addr) (f : Nat → V → V) (xs : List V) (i : Nat) (H' : Hp) : Prop := H1 D = none ∧ Ext H1 H' ∧ H' D = some (.lst ((xs.take i).mapIdx f))
theorem made_turn {f : Nat → V → V} {i : Nat} {x : V} {H' : Hp} {σ2 : L2.St} (hz : xs.length ≤ 1000000) (hi : xs[i]? = some x) (p : Made H1 D f xs i H') (he : ∀ Q' : VK, (∀ H'', Ext H' H'' → Q' (f i x) H'') → te σ2 H' Q') :
    tYes σ2 H' fun b H3 => if b = true then te σ2 H3 fun y H4 => ∃ acc, H4 D = some (.lst acc) ∧ acc.length < sizeLine ∧ Made H1 D f xs (i + 1) (upd H4 D (.lst (acc ++ [y]))) else Made H1 D f xs (i + 1) H3 := by
  obtain ⟨p1, p2, p3⟩ := p
  unfold tYes
  dsimp only
  rw [if_pos rfl]
  refine he _ fun H'' e => ⟨_, e _ _ p3, ?_, p1, ext_mut (p2.trans e) p1, ?_⟩
  · rw [List.length_mapIdx, List.length_take]
    exact Nat.lt_of_le_of_lt (Nat.le_trans (Nat.min_le_right _ _) hz) (by decide)
  · have hl : i < xs.length := (List.getElem?_eq_some_iff.mp hi).1
    rw [upd_same, take_next hi, List.mapIdx_append]
    have e1 : (xs.take i).length = i := by rw [List.length_take]; omega
    simp [e1]
abbrev Block (J : It) (g : TG) (tt : TT) (te : TE) (vs : List Nat) (σ : L2.St) (H1 : Hp) (D : Addr) (Qd : Hp → Prop) : Prop := ∃ W : Nat → Nat → Hp → Prop, (∃ m, W 0 m (upd H1 D (.lst []))) ∧ ∀ i m H, W i m H →
  (J.stop i H ∧ Qd H) ∨ (J.go i H ∧ ∃ Nx : Hp → Prop, (∀ H', Nx H' → ∃ m', m' < m ∧ W (i + 1) m' H') ∧ ∀ x H', J.yld i H x H' → g x (wipe σ vs) H' fun σ2 H2 => wipe σ2 vs = wipe σ vs ∧ tt σ2 H2 fun b H3 =>
    if b = true then te σ2 H3 fun y H4 => ∃ acc, H4 D = some (.lst acc) ∧ acc.length < sizeLine ∧ Nx (upd H4 D (.lst (acc ++ [y]))) else Nx H3)
theorem map_list {Qd : Hp → Prop} (f : Nat → V → V) (hx : SqL K H1 a xs) (hD : H1 D = none) (hz : xs.length ≤ 1000000) (hw : ∀ x, wipe ((wipe σ vs).set j (some x)) vs = wipe σ vs)
    (he : ∀ i x H', xs[i]? = some x → Ext H1 H' → ∀ Q' : VK, (∀ H'', Ext H' H'' → Q' (f i x) H'') → te ((wipe σ vs).set j (some x)) H' Q') (hd : ∀ H', Ext H1 H' → H' D = some (.lst (xs.mapIdx f)) → Qd H') :
    Block (Itl K a) (gName j) tYes te vs σ H1 D Qd :=
  lc_list (xs := xs) (Made H1 D f xs) ⟨hD, ext_new (ext_refl H1) hD, upd_same⟩ (fun i H' _ p => hx.ext p.2.1) (fun i x H' hi p => ⟨hw x, made_turn hz hi p (he i x H' hi p.2.1)⟩) fun H' p => hd H' p.2.1 (by have q := p.2.2; rw [List.take_length] at q; exact q)
theorem map_tup {Qd : Hp → Prop} (f : Nat → V → V) (hx : SqT K H1 a xs) (hD : H1 D = none) (hz : xs.length ≤ 1000000) (hw : ∀ x, wipe ((wipe σ vs).set j (some x)) vs = wipe σ vs)
    (he : ∀ i x H', xs[i]? = some x → Ext H1 H' → ∀ Q' : VK, (∀ H'', Ext H' H'' → Q' (f i x) H'') → te ((wipe σ vs).set j (some x)) H' Q') (hd : ∀ H', Ext H1 H' → H' D = some (.lst (xs.mapIdx f)) → Qd H') :
    Block (Itt K a) (gName j) tYes te vs σ H1 D Qd :=
  lc_tup (xs := xs) (Made H1 D f xs) ⟨hD, ext_new (ext_refl H1) hD, upd_same⟩ (fun i H' _ p => hx.ext p.2.1) (fun i x H' hi p => ⟨hw x, made_turn hz hi p (he i x H' hi p.2.1)⟩) fun H' p => hd H' p.2.1 (by have q := p.2.2; rw [List.take_length] at q; exact q)
end
end My
namespace My
open PySem PySem.Spec PyProof.Rows L2
structure PropT (K : PySem.W.Frag) (C : Addr) (x : Str) (qual : Str) (st : Stmt) : Prop where
  ex : ∃ (p g : Addr) (fd : FuncData), PropOf K C x p g ∧ Fun K x qual st g fd
structure MethT (K : PySem.W.Frag) (C : Addr) (x : Str) (qual : Str) (st : Stmt) : Prop where
  ex : ∃ (f : Addr) (fd : FuncData), Meth K C x f ∧ PySem.W.isFn K (.ref f) = true ∧ Fun K x qual st f fd
structure OpT (K : PySem.W.Frag) (C : Addr) (op : Operator) (x qual : Str) (st : Stmt) : Prop where
  ex : ∃ (f : Addr) (fd : FuncData), OwnOp K C op f ∧ Fun K x qual st f fd
structure SpT (K : PySem.W.Frag) (C : Addr) (x qual : Str) (st : Stmt) : Prop where
  ex : ∃ (f : Addr) (fd : FuncData), PySem.W.findIn K (.ref C) x = some (some (.ref f)) ∧ PySem.W.isFn K (.ref f) = true ∧ Fun K x qual st f fd
/-- the promises of these -/
structure PropAt (P : Program) (w : World) (K : PySem.W.Frag) (mg : Str → Option Value) (base : Heap) (k : Nat) (C : Addr) (x : Str) (sp : Sp) : Prop where
  ex : ∃ (p g : Addr) (fd : FuncData), PropOf K C x p g ∧ Binds K fd ["self"] [] ∧ FnOk P w K mg base CX0 k g fd ["self"] sp
structure MethAt (P : Program) (w : World) (K : PySem.W.Frag) (mg : Str → Option Value) (base : Heap) (k : Nat) (C : Addr) (x : Str) (ps : List Str) (sp : Sp) : Prop where
  ex : ∃ (f : Addr) (fd : FuncData), Meth K C x f ∧ Binds K fd ps [] ∧ FnOk P w K mg base CX0 k f fd ps sp
structure OpAt (P : Program) (w : World) (K : PySem.W.Frag) (mg : Str → Option Value) (base : Heap) (k : Nat) (C : Addr) (op : Operator) (sp : Sp) : Prop where
  ex : ∃ (f : Addr) (fd : FuncData), OwnOp K C op f ∧ Binds K fd ["self", "other"] [] ∧ FnOk P w K mg base CX0 k f fd ["self", "other"] sp
structure SpAt (P : Program) (w : World) (K : PySem.W.Frag) (mg : Str → Option Value) (base : Heap) (k : Nat) (C : Addr) (x : Str) (ps : List Str) (sp : Sp) : Prop where
  ex : ∃ (f : Addr) (fd : FuncData), PySem.W.findIn K (.ref C) x = some (some (.ref f)) ∧ PySem.W.isFn K (.ref f) = true ∧ Binds K fd ps [] ∧ FnOk P w K mg base CX0 k f fd ps sp
section
variable {X : Cx} {k n : Nat} {C : Addr} {x : Str} {ps : List Str} {sp : Sp} {p pos apos : Pos} {e o : Expr} {es : List Expr} {t : TA} {ta to : TE}
theorem propA (F : PropAt X.prog X.w X.K X.mg X.base k C x sp) (c : Cls X.K C) (hr : Room (k + 1) X.A) (he : PE X e ta) (hab : attributeBase e x X.env (eval e X.env) = eval e X.env := by rfl) : PE X (.Attribute e x pos) (tProp C sp [] E0 ta) := by
  obtain ⟨q, g, fd, hp, hb, G⟩ := F.ex
  exact pe_prop he c hp G hr hb .nil pass0 hab
theorem opA {op : Operator} (F : OpAt X.prog X.w X.K X.mg X.base k C op sp) (hr : Room k X.A) : OpR X (binaryOp op) (rOwn C sp E0) := by
  obtain ⟨f, fd, W, hb, G⟩ := F.ex
  exact op_own W G hr hb pass0
theorem eqA (F : SpAt X.prog X.w X.K X.mg X.base k C "__eq__" ["self", "other"] sp) (hr : Room k X.A) : OpR X (compareOp .Eq) (rOwnEq C sp E0) := by
  obtain ⟨f, fd, hs, hf, hb, G⟩ := F.ex
  exact op_ownEq hs hf G hr hb pass0
end
section
variable {P : Program} {w : World} {K : PySem.W.Frag} {mg : Str → Option Value} {base : Heap} {C : Addr}
theorem propAt {x qual : Str} {st : Stmt} {N : List Str} {k : Nat} {sp : Sp} (D : PropT K C x qual st) (S : FnScope N ["self"] (defScope st))
    (hbind : ∀ (kV doc pm : Value) (an : Option Addr) (cdv ct : Value) (us : List Value), us.length = 1 → bindArgs (PySem.W.fnOf x qual (defArgs st) (defBody st) (defScope st) .none kV doc pm an cdv ct) ⟨us, []⟩ = pure ((["self"] : List Str).zip us))
    (len : ∀ vs H Q E, sp vs H Q E → vs.length = 1)
    (hbody : ∀ (f : Addr) (cdv : Value) (A : Around) (outer : List Env) (s : Shared) (H : Hp) (vs : List V) (Q : VK) (E : XK), Room k (A.deeper (envOfC qual (defScope st) s.heap.objs.size f cdv)) → sp vs H Q E →
      ∃ t, PSs (cxOf CX0 P w K mg base N qual (defScope st) f cdv A outer s H E).nox (defBody st) t ∧ t { nx := fun _ H' => Q .non H', rt := Q } (start N vs) H) : PropAt P w K mg base (k + 1) C x sp := by
  obtain ⟨p, g, fd, hp, F⟩ := D.ex
  exact ⟨p, g, fd, hp, F.binds hbind, F.ok S len fun cdv A outer s H vs Q E hr h => hbody g cdv A outer s H vs Q E hr h⟩
theorem spAt {x qual : Str} {st : Stmt} {N ps : List Str} {k : Nat} {sp : Sp} (D : SpT K C x qual st) (S : FnScope N ps (defScope st))
    (hbind : ∀ (kV doc pm : Value) (an : Option Addr) (cdv ct : Value) (us : List Value), us.length = ps.length → bindArgs (PySem.W.fnOf x qual (defArgs st) (defBody st) (defScope st) .none kV doc pm an cdv ct) ⟨us, []⟩ = pure (ps.zip us))
    (len : ∀ vs H Q E, sp vs H Q E → vs.length = ps.length)
    (hbody : ∀ (f : Addr) (cdv : Value) (A : Around) (outer : List Env) (s : Shared) (H : Hp) (vs : List V) (Q : VK) (E : XK), Room k (A.deeper (envOfC qual (defScope st) s.heap.objs.size f cdv)) → sp vs H Q E →
      ∃ t, PSs (cxOf CX0 P w K mg base N qual (defScope st) f cdv A outer s H E).nox (defBody st) t ∧ t { nx := fun _ H' => Q .non H', rt := Q } (start N vs) H) : SpAt P w K mg base (k + 1) C x ps sp := by
  obtain ⟨f, fd, hs, hf, F⟩ := D.ex
  exact ⟨f, fd, hs, hf, F.binds hbind, F.ok S len fun cdv A outer s H vs Q E hr h => hbody f cdv A outer s H vs Q E hr h⟩
theorem opAt {op : Operator} {x qual : Str} {st : Stmt} {N : List Str} {k : Nat} {sp : Sp} (D : OpT K C op x qual st) (S : FnScope N ["self", "other"] (defScope st))
    (hbind : ∀ (kV doc pm : Value) (an : Option Addr) (cdv ct : Value) (us : List Value), us.length = 2 → bindArgs (PySem.W.fnOf x qual (defArgs st) (defBody st) (defScope st) .none kV doc pm an cdv ct) ⟨us, []⟩ = pure ((["self", "other"] : List Str).zip us))
    (len : ∀ vs H Q E, sp vs H Q E → vs.length = 2)
    (hbody : ∀ (f : Addr) (cdv : Value) (A : Around) (outer : List Env) (s : Shared) (H : Hp) (vs : List V) (Q : VK) (E : XK), Room k (A.deeper (envOfC qual (defScope st) s.heap.objs.size f cdv)) → sp vs H Q E →
      ∃ t, PSs (cxOf CX0 P w K mg base N qual (defScope st) f cdv A outer s H E).nox (defBody st) t ∧ t { nx := fun _ H' => Q .non H', rt := Q } (start N vs) H) : OpAt P w K mg base (k + 1) C op sp := by
  obtain ⟨f, fd, hs, F⟩ := D.ex
  exact ⟨f, fd, hs, F.binds hbind, F.ok S len fun cdv A outer s H vs Q E hr h => hbody f cdv A outer s H vs Q E hr h⟩
theorem methAt {x qual : Str} {st : Stmt} {N ps : List Str} {k : Nat} {sp : Sp} (D : MethT K C x qual st) (S : FnScope N ps (defScope st))
    (hbind : ∀ (kV doc pm : Value) (an : Option Addr) (cdv ct : Value) (us : List Value), us.length = ps.length → bindArgs (PySem.W.fnOf x qual (defArgs st) (defBody st) (defScope st) .none kV doc pm an cdv ct) ⟨us, []⟩ = pure (ps.zip us))
    (len : ∀ vs H Q E, sp vs H Q E → vs.length = ps.length)
    (hbody : ∀ (f : Addr) (cdv : Value) (A : Around) (outer : List Env) (s : Shared) (H : Hp) (vs : List V) (Q : VK) (E : XK), Room k (A.deeper (envOfC qual (defScope st) s.heap.objs.size f cdv)) → sp vs H Q E →
      ∃ t, PSs (cxOf CX0 P w K mg base N qual (defScope st) f cdv A outer s H E).nox (defBody st) t ∧ t { nx := fun _ H' => Q .non H', rt := Q } (start N vs) H) : MethAt P w K mg base (k + 1) C x ps sp := by
  obtain ⟨f, fd, hs, hf, F⟩ := D.ex
  exact ⟨f, fd, hs, F.binds hbind, F.ok S len fun cdv A outer s H vs Q E hr h => hbody f cdv A outer s H vs Q E hr h⟩
end
end My
namespace My
open PySem PySem.Spec PyProof.Rows L2
local macro_rules | `(tactic| walk_at "side") => `(tactic| first | assumption | decide | exact Or.inl ⟨by decide, by decide⟩ | exact Or.inr ⟨by decide, by decide⟩ | exact ⟨by decide, by decide, by decide⟩ | omega | (unfold CMulW; decide +kernel) | (dsimp only; first | assumption | omega | decide +kernel) | exact len_ok (Nat.le_of_ble_eq_true rfl) | fail "side")
local macro_rules | `(tactic| walk_at "rd") => `(tactic| first
  | refine ⟨_, _, _, _, rfl, rfl, SqL.of upd_same, atI_nat (j := 0) rfl, ?_⟩ | refine ⟨_, _, _, _, rfl, rfl, SqL.of upd_same, atI_nat (j := 1) rfl, ?_⟩ | refine ⟨_, _, _, _, rfl, rfl, SqL.of upd_same, atI_nat (j := 2) rfl, ?_⟩
  | refine ⟨_, _, _, _, rfl, rfl, upd_same, rfl, ?_⟩
  | refine ⟨_, _, rfl, rfl, ?_⟩ | refine ⟨_, rfl, ?_⟩ | refine ⟨_, _, rfl, ?_⟩ | refine Or.inl ⟨_, rfl, ?_⟩ | refine Or.inr ⟨_, rfl, ?_⟩ | refine ⟨(by walk_at "side"), ?_⟩ | fail "rd")
structure Nm where
  t : Int
  p : Int
  r : Int
  b : Int
  deriving DecidableEq
def nf (n : Nm) : List (Str × V) := [("_top", .int n.t), ("_part", .int n.p), ("_root", .int n.r), ("_bottom", .int n.b)]
theorem nf_top (n : Nm) : (nf n).lookup ("_top" : Str) = some (.int n.t) := rfl
theorem nf_part (n : Nm) : (nf n).lookup ("_part" : Str) = some (.int n.p) := rfl
theorem nf_root (n : Nm) : (nf n).lookup ("_root" : Str) = some (.int n.r) := rfl
theorem nf_bottom (n : Nm) : (nf n).lookup ("_bottom" : Str) = some (.int n.b) := rfl
def NumAt (CN : Addr) (H : Hp) (a : Addr) (n : Nm) : Prop := ∃ dx, H a = some (.ins CN dx (nf n))
theorem NumAt.ext {CN : Addr} {H H' : Hp} {a : Addr} {n : Nm} (h : NumAt CN H a n) (e : Ext H H') : NumAt CN H' a n := let ⟨dx, q⟩ := h; ⟨dx, e _ _ q⟩
def squares : List Int := [4, 9, 25, 49, 121, 169, 289, 361, 529, 841, 961]
def rootOk (r : Int) : Bool := (decide (2 ≤ r) && decide (r ≤ 999)) && squares.all fun q => !decide (r.fmod q = 0)
def validN (t p r b : Int) : Bool := if b = 0 then false else if r = 0 then decide (p = 0) else rootOk r
def com (t p b : Int) : Int := ((Nat.gcd (Nat.gcd b.natAbs p.natAbs) t.natAbs : Nat) : Int)
def coms (t p b : Int) : Int := if b < 0 then -com t p b else com t p b
def lst (t p r b : Int) : Nm := ⟨t.fdiv (coms t p b), p.fdiv (coms t p b), if p = 0 then 0 else r, b.fdiv (coms t p b)⟩
section
variable {P : Program} {w : World} {K : PySem.W.Frag} {mg : Str → Option Value} {base : Heap} {CN : Addr}
abbrev s_isint : Stmt := top 15
theorem sc_isint : FnScope ["value"] ["value"] (defScope s_isint) := ⟨rfl, rfl, rfl, by decide +kernel, rfl, by decide +kernel, by decide +kernel⟩
abbrev s_valid : Stmt := top 24
theorem sc_valid : FnScope ["top", "part", "root", "bottom", "value", "square"] ["top", "part", "root", "bottom"] (defScope s_valid) := ⟨rfl, rfl, rfl, by decide +kernel, rfl, by decide +kernel, by decide +kernel⟩
/-- its kind is told; ints are ints -/
def spIsInt : Sp := fun vs H Q _ => ∃ i : Int, vs = [.int i] ∧ Q (.bl true) H
theorem kit_int : kitB "int" "int" = some true := by decide +kernel
theorem kit_intbool : kitB "int" "bool" = some false := by decide +kernel
theorem ok_isint (T : Bn mg) (D : DefAt K mg "is_any_integer" s_isint) : FnAt P w K mg base 1 "is_any_integer" ["value"] spIsInt := by
  refine fnAt D sc_isint (fun _ _ _ _ _ _ us hl => match us, hl with | [_], _ => rfl) (fun vs H Q E h => ?_) fun f cdv A outer s H vs Q E hr h => ?_
  · obtain ⟨i, rfl, _⟩ := h
    rfl
  obtain ⟨i, rfl, k⟩ := h
  refine ⟨_, (pss_one (ps_ret (pe_and (pe_callB call_isi (by rfl) T.b_isinstance (by decide +kernel) (pa_cons (pv 0) (pa_cons (pe_bltn (v := .ty "int") (by rfl) T.b_int (by decide +kernel) rfl) pa_nil))) (pe_one (pe_not (pe_callB call_isi (by rfl) T.b_isinstance (by decide +kernel) (pa_cons (pv 0) (pa_cons (pe_bltn (v := .ty "bool") (by rfl) T.b_bool (by decide +kernel) rfl) pa_nil)))))))), ?_⟩
  refine ⟨_, rfl, _, _, _, _, true, rfl, .ty _, .base (.int _), kit_ty kit_int, _, rfl, ?_⟩
  refine iteT ?_
  refine ⟨_, rfl, _, _, _, _, false, rfl, .ty _, .base (.int _), kit_ty kit_intbool, _, rfl, ?_⟩
  exact k
def spValid : Sp := fun vs H Q _ => ∃ t p r b : Int, vs = [.int t, .int p, .int r, .int b] ∧ ∀ H', Ext H H' → Q (.bl (validN t p r b)) H'
/-- the module's constants -/
structure NumK (K : PySem.W.Frag) (mg : Str → Option Value) : Prop where
  g_MAX_ROOT : ∃ t, mg "MAX_ROOT" = some (.int 999 t)
  g_SQ : ∃ q : Addr, mg "PRIME_SQUARES" = some (.ref q) ∧ ∀ H : Hp, SqT K H q (squares.map V.int)
theorem ok_valid (T : Bn mg) (N : NumK K mg) (D : DefAt K mg "_are_valid" s_valid) (F_is_any_integer : FnAt P w K mg base 1 "is_any_integer" ["value"] spIsInt) : FnAt P w K mg base 2 "_are_valid" ["top", "part", "root", "bottom"] spValid := by
  refine fnAt D sc_valid (fun _ _ _ _ _ _ us hl => match us, hl with | [_, _, _, _], _ => rfl) (fun vs H Q E h => ?_) fun f cdv A outer s H vs Q E hr h => ?_
  · obtain ⟨t, p, r, b, rfl, _⟩ := h
    rfl
  obtain ⟨t, p, r, b, rfl, k⟩ := h
  obtain ⟨tk, g1⟩ := N.g_MAX_ROOT
  obtain ⟨sq, g2, g3⟩ := N.g_SQ
  refine ⟨_, (pss_cons (ps_if (pt_not (pt_val (pe_callB (cr_all rfl) (by rfl) T.b_all (by decide +kernel) (pa_cons (pe_lc (own := [("value", 4)]) (g := gName 4) (tt := tYes) rfl sc_valid.nd (pi_tup (pe_tup (pa_cons (pv 0) (pa_cons (pv 1) (pa_cons (pv 2) (pa_cons (pv 3) pa_nil)))))) (blkOk_by (N := ["top", "part", "root", "bottom", "value", "square"]) (sc := defScope s_valid) (by decide +kernel)) (fun _ _ _ _ _ => pg_name (i := 4) sc_valid.nd rfl (Or.inl rfl)) (fun _ _ _ _ _ => pts_nil) (fun _ _ _ _ _ => (callA F_is_any_integer (hr.mono (by decide)) rfl (pa_cons (pv 4) pa_nil)))) pa_nil)))) (pss_one (ps_ret pe_bl)) pss_nil)
    (pss_cons (ps_if (pt_cmpR op_eq (pv 3) pe_int (nomark _)) (pss_one (ps_ret pe_bl)) pss_nil)
    (pss_cons (ps_if (pt_cmpR op_eq (pv 2) pe_int (nomark _)) (pss_one (ps_ret (pe_cmpR op_eq (pv 1) pe_int (nomark _)))) pss_nil)
    (pss_one (ps_ret (pe_and (pe_chain op_le op_le pe_int (pv 2) (pe_glob (v := .int 999) rfl g1 ⟨_, rfl⟩)) (pe_one (pe_callB (cr_all rfl) (by rfl) T.b_all (by decide +kernel) (pa_cons (pe_lc (own := [("square", 5)]) (g := gName 5) (tt := tYes) rfl sc_valid.nd (pi_tup (pe_glob (v := .ref sq) rfl g2 rfl)) (blkOk_by (N := ["top", "part", "root", "bottom", "value", "square"]) (sc := defScope s_valid) (by decide +kernel)) (fun _ _ _ _ _ => pg_name (i := 5) sc_valid.nd rfl (Or.inl rfl)) (fun _ _ _ _ _ => pts_nil) (fun _ _ _ _ _ => (pe_cmpR op_ne (pe_op op_modN (pv 2) (pv 5)) pe_int (nomark _)))) pa_nil))))))))), ?_⟩
  refine ⟨_, rfl, _, rfl, _, rfl, _, rfl, len_ok (Nat.le_of_ble_eq_true rfl), fun q hq => ?_⟩
  refine ⟨q, rfl, ⟨_, SqT.of upd_same⟩, fun D hD => map_tup (xs := [.int t, .int p, .int r, .int b]) (fun _ _ => .bl true) (SqT.of upd_same) hD (Nat.le_of_ble_eq_true rfl) (fun _ => rfl) (fun i x H' hi e Q' k' => ?_) fun H' e hl => ?_⟩
  · refine ⟨x, rfl, ?_⟩
    have hx : ∃ z : Int, x = .int z := by
      match i, hi with
      | 0, hi => exact ⟨_, (Option.some.inj hi).symm⟩
      | 1, hi => exact ⟨_, (Option.some.inj hi).symm⟩
      | 2, hi => exact ⟨_, (Option.some.inj hi).symm⟩
      | 3, hi => exact ⟨_, (Option.some.inj hi).symm⟩
      | i + 4, hi => simp at hi
    obtain ⟨z, rfl⟩ := hx
    exact ⟨z, rfl, k' H' (ext_refl _)⟩
  have e0 : Ext H H' := (ext_new (ext_refl H) hq).trans e
  refine ⟨D, [true, true, true, true], rfl, SqL.of hl, _, rfl, ?_⟩
  refine iteF ?_
  refine ⟨_, rfl, rfl, _, rfl, ite2 (fun hb => ?_) (fun hb => ?_)⟩
  · have hb' : b = 0 := V.int.inj (of_decide_eq_true hb)
    have ev : validN t p r b = false := by unfold validN; rw [if_pos hb']
    exact ev ▸ k H' e0
  have nb : ¬ b = 0 := fun z => hb (decide_eq_true (by rw [z]))
  refine ⟨_, rfl, rfl, _, rfl, ite2 (fun hb => ?_) (fun hb => ?_)⟩
  · have hr' : r = 0 := V.int.inj (of_decide_eq_true hb)
    have ev : validN t p r b = decide (V.int p = V.int 0) := by
      unfold validN
      rw [if_neg nb, if_pos hr']
      exact decide_eq_decide.mpr ⟨fun z => by rw [z], fun z => V.int.inj z⟩
    refine ⟨_, rfl, rfl, ?_⟩
    exact ev ▸ k H' e0
  have nr : ¬ r = 0 := fun z => hb (decide_eq_true (by rw [z]))
  have ev : validN t p r b = rootOk r := by unfold validN; rw [if_neg nb, if_neg nr]
  rw [ev] at k
  refine ⟨_, rfl, _, _, rfl, rfl, _, rfl, ite2 (fun h2 => ?_) (fun h2 => ?_)⟩
  · refine ⟨_, _, rfl, rfl, _, rfl, ite2 (fun h9 => ?_) (fun h9 => ?_)⟩
    · refine ⟨sq, rfl, ⟨_, g3 _⟩, fun D2 hD2 => map_tup (xs := squares.map V.int) (fun _ x => match x with | .int q => .bl (!decide (r.fmod q = 0)) | _ => .non) (g3 _) hD2 (by decide) (fun _ => rfl) (fun i x H2 hi e2 Q' k' => ?_) fun H2 e2 hl2 => ?_⟩
      · rw [List.getElem?_map] at hi
        cases hq : squares[i]? with
        | none => rw [hq] at hi; cases hi
        | some z =>
          rw [hq] at hi
          cases (Option.some.inj hi)
          have hz : z ≠ 0 := by
            have hm := List.mem_of_getElem? hq
            intro z0
            rw [z0] at hm
            exact absurd hm (by decide)
          refine ⟨_, rfl, _, rfl, _, _, rfl, rfl, hz, rfl, ?_⟩
          have e5 : (!decide (V.int (r.fmod z) = V.int 0)) = !decide (r.fmod z = 0) := congrArg (!·) (decide_eq_decide.mpr ⟨fun z => V.int.inj z, fun z => by rw [z]⟩)
          show Q' (.bl (!decide (V.int (r.fmod z) = V.int 0))) _
          rw [e5]
          exact k' H2 (ext_refl _)
      · refine ⟨D2, squares.map (fun q => !decide (r.fmod q = 0)), rfl, SqL.of ?_, ?_⟩
        · rw [hl2]
          rfl
        · have e6 : (squares.map (fun q => !decide (r.fmod q = 0))).all id = rootOk r := by
            unfold rootOk
            rw [h2, h9, List.all_map]
            rfl
          show Q (.bl ((squares.map (fun q => !decide (r.fmod q = 0))).all id)) H2
          rw [e6]
          exact k H2 (e0.trans e2)
    · have e7 : rootOk r = false := by unfold rootOk; rw [decide_eq_false (fun z => h9 (decide_eq_true z)), Bool.and_false]; rfl
      exact e7 ▸ k H' e0
  · have e7 : rootOk r = false := by unfold rootOk; rw [decide_eq_false (fun z => h2 (decide_eq_true z))]; rfl
    refine ⟨_, rfl, iteF ?_⟩
    exact e7 ▸ k H' e0
end
end My
namespace My
open PySem PySem.Spec PyProof.Rows L2
local macro_rules | `(tactic| walk_at "side") => `(tactic| first | assumption | decide | exact Or.inl ⟨by decide, by decide⟩ | exact Or.inr ⟨by decide, by decide⟩ | exact ⟨by decide, by decide, by decide⟩ | omega | (unfold CMulW; decide +kernel) | (dsimp only; first | assumption | omega | decide +kernel) | exact len_ok (Nat.le_of_ble_eq_true rfl) | fail "side")
local macro_rules | `(tactic| walk_at "rd") => `(tactic| first
  | refine ⟨_, _, _, _, rfl, rfl, SqL.of upd_same, atI_nat (j := 0) rfl, ?_⟩ | refine ⟨_, _, _, _, rfl, rfl, SqL.of upd_same, atI_nat (j := 1) rfl, ?_⟩ | refine ⟨_, _, _, _, rfl, rfl, SqL.of upd_same, atI_nat (j := 2) rfl, ?_⟩
  | refine ⟨_, _, _, _, rfl, rfl, upd_same, rfl, ?_⟩
  | refine ⟨_, _, rfl, rfl, ?_⟩ | refine ⟨_, rfl, ?_⟩ | refine ⟨_, _, rfl, ?_⟩ | refine Or.inl ⟨_, rfl, ?_⟩ | refine Or.inr ⟨_, rfl, ?_⟩ | refine ⟨(by walk_at "side"), ?_⟩ | fail "rd")
abbrev s_ninit : Stmt := inClass (top 22) 0
theorem sc_ninit : FnScope ["self", "top", "part", "root", "bottom", "common"] ["self", "top", "part", "root", "bottom"] (defScope s_ninit) := ⟨rfl, rfl, rfl, by decide +kernel, rfl, by decide +kernel, by decide +kernel⟩
abbrev s_ntop : Stmt := inClass (top 22) 2
theorem sc_ntop : FnScope ["self"] ["self"] (defScope s_ntop) := ⟨rfl, rfl, rfl, by decide +kernel, rfl, by decide +kernel, by decide +kernel⟩
abbrev s_npart : Stmt := inClass (top 22) 3
theorem sc_npart : FnScope ["self"] ["self"] (defScope s_npart) := ⟨rfl, rfl, rfl, by decide +kernel, rfl, by decide +kernel, by decide +kernel⟩
abbrev s_nroot : Stmt := inClass (top 22) 4
theorem sc_nroot : FnScope ["self"] ["self"] (defScope s_nroot) := ⟨rfl, rfl, rfl, by decide +kernel, rfl, by decide +kernel, by decide +kernel⟩
abbrev s_nbottom : Stmt := inClass (top 22) 5
theorem sc_nbottom : FnScope ["self"] ["self"] (defScope s_nbottom) := ⟨rfl, rfl, rfl, by decide +kernel, rfl, by decide +kernel, by decide +kernel⟩
/-- the class Number as the top has made it -/
structure NumT (K : PySem.W.Frag) (mg : Str → Option Value) (CN : Addr) : Prop where
  g : mg "Number" = some (.ref CN)
  cl : Cls K CN
  nT : NoAttr K CN "_top"
  nP : NoAttr K CN "_part"
  nR : NoAttr K CN "_root"
  nB : NoAttr K CN "_bottom"
  ini : ∃ f fd, Mk K CN f ∧ FunD K "__init__" "Number.__init__" (defArgs s_ninit) (defBody s_ninit) (defScope s_ninit) [.int 0] [("root", .int 0), ("bottom", .int 1)] f fd
  m_gcd : mg "gcd" = some (.builtin "math.gcd")
/-- arguments of a number: right, and not too long -/
structure NV (t p r b : Int) : Prop where
  ok : validN t p r b = true
  zb : Sz 9000 b
theorem NV.b0 {t p r b : Int} (h : NV t p r b) : b ≠ 0 := fun z => by
  have := h.ok
  unfold validN at this
  rw [if_pos z] at this
  cases this
def spInit (CN : Addr) : Sp := fun vs H Q _ => ∃ (x dx : Addr) (t p r b : Int), vs = [.ref x, .int t, .int p, .int r, .int b] ∧ H x = some (.ins CN dx []) ∧ NV t p r b ∧
  ∀ H', (∀ a o, H a = some o → a ≠ x → H' a = some o) → H' x = some (.ins CN dx (nf (lst t p r b))) → Q .non H'
structure InitAt (P : Program) (w : World) (K : PySem.W.Frag) (mg : Str → Option Value) (base : Heap) (k : Nat) (CN : Addr) (sp : Sp) : Prop where
  ex : ∃ (f : Addr) (fd : FuncData), Mk K CN f ∧ FnOk P w K mg base CX0 k f fd ["self", "top", "part", "root", "bottom"] sp ∧
    (∃ g, KBn K fd ["self", "top", "part", "root", "bottom"] 3 ["root", "bottom"] g (fun vs zs => vs ++ zs)) ∧
    (∃ g, KBn K fd ["self", "top", "part", "root", "bottom"] 2 ["bottom"] g (fun vs zs => vs ++ (.int 0 :: .int 0 :: zs))) ∧
    (∃ ds, Vals [.int 0, .int 0, .int 1] ds ∧ Binds K fd ["self", "top", "part", "root", "bottom"] ds) ∧
    ∃ g, KBn K fd ["self", "top", "part", "root", "bottom"] 3 ["root"] g (fun vs zs => vs ++ (zs ++ [.int 1]))
theorem com_pos {t p b : Int} (h : b ≠ 0) : 0 < com t p b := by
  unfold com
  have h1 : 0 < Nat.gcd b.natAbs p.natAbs := Nat.gcd_pos_of_pos_left _ (by omega)
  have h2 : 0 < Nat.gcd (Nat.gcd b.natAbs p.natAbs) t.natAbs := Nat.gcd_pos_of_pos_left _ h1
  omega
theorem com_le {t p b : Int} (h : b ≠ 0) : (com t p b).natAbs ≤ b.natAbs := by
  unfold com
  rw [Int.natAbs_natCast]
  exact Nat.le_trans (Nat.le_of_dvd (Nat.gcd_pos_of_pos_left _ (by omega)) (Nat.gcd_dvd_left _ _)) (Nat.le_of_dvd (by omega) (Nat.gcd_dvd_left _ _))
theorem coms_abs {t p b : Int} : (coms t p b).natAbs = (com t p b).natAbs := by
  unfold coms
  split
  · rw [Int.natAbs_neg]
  · rfl
theorem coms_ne {t p b : Int} (h : b ≠ 0) : coms t p b ≠ 0 := fun z => by
  have := com_pos (t := t) (p := p) h
  have e := coms_abs (t := t) (p := p) (b := b)
  rw [z] at e
  omega
theorem NV.div {t p r b : Int} (h : NV t p r b) (i : Int) : CDivX i (coms t p b) :=
  Sz.cdiv (coms_ne h.b0) (Sz.ofLt (by rw [coms_abs]; exact com_le h.b0) h.zb) (by decide) (by decide)
section
variable {P : Program} {w : World} {K : PySem.W.Frag} {mg : Str → Option Value} {base : Heap} {CN : Addr}
theorem ok_init (T : Bn mg) (NC : NumT K mg CN) (F__are_valid : FnAt P w K mg base 2 "_are_valid" ["top", "part", "root", "bottom"] spValid) : InitAt P w K mg base 3 CN (spInit CN) := by
  obtain ⟨f, fd, M, F⟩ := NC.ini
  refine ⟨f, fd, M, F.ok sc_ninit (fun vs H Q E h => ?_) (fun cdv A outer s H vs Q E hr h => ?_), ?_, ?_, ?_, ?_⟩
  · obtain ⟨x, dx, t, p, r, b, rfl, _⟩ := h
    rfl
  · obtain ⟨x, dx, t, p, r, b, rfl, hx, hv, k⟩ := h
    refine ⟨_, PSs.nox (pss_cons (ps_if (pt_not (pt_val (callA F__are_valid (hr.mono (by decide)) rfl (pa_cons (pv 1) (pa_cons (pv 2) (pa_cons (pv 3) (pa_cons (pv 4) pa_nil))))))) (pss_one ps_never) pss_nil)
    (pss_cons (ps_set (i := 5) sc_ninit.nd rfl (Or.inl rfl) (pe_callBfun cr_gcd3 (by rfl) NC.m_gcd (pa_cons (pv 4) (pa_cons (pv 2) (pa_cons (pv 1) pa_nil)))))
    (Evl.pss_cut (ps_if (pt_cmpR op_lt (pv 4) pe_int (nomark _)) (pss_one (ps_set (i := 5) sc_ninit.nd rfl (Or.inl rfl) (pe_un un_neg (pv 5)))) pss_nil)
    (pss_cons (ps_fld (pv 0) (pe_op op_fdivX (pv 1) (pv 5)) rfl)
    (pss_cons (ps_fld (pv 0) (pe_op op_fdivX (pv 2) (pv 5)) rfl)
    (pss_cons (ps_fld (pv 0) (pe_ifExp (pt_cmpR op_ne (pv 2) pe_int (nomark _)) (pv 3) pe_int) rfl)
    (pss_one (ps_fld (pv 0) (pe_op op_fdivX (pv 4) (pv 5)) rfl)))))))), ?_⟩
    refine ⟨_, rfl, _, rfl, _, rfl, _, rfl, t, p, r, b, rfl, fun H1 e1 => ?_⟩
    rw [hv.ok]
    refine ⟨_, rfl, iteF ?_⟩
    refine ⟨_, rfl, _, rfl, _, rfl, _, _, _, rfl, ?_⟩
    refine ⟨fun σ' H' => σ' = [some (.ref x), some (.int t), some (.int p), some (.int r), some (.int b), some (.int (coms t p b))] ∧ H' = H1, ⟨_, rfl, _, _, rfl, rfl, _, rfl, ite2 (fun hb => ?_) (fun hb => ?_)⟩, ?_⟩
    · refine ⟨_, rfl, _, rfl, ?_, rfl⟩
      have e : coms t p b = -com t p b := if_pos (of_decide_eq_true hb)
      rw [e]
      rfl
    · refine ⟨?_, rfl⟩
      have e : coms t p b = com t p b := if_neg (fun z => hb (decide_eq_true z))
      rw [e]
      rfl
    rintro σ' H' ⟨rfl, rfl⟩
    have hx1 : H' x = some (.ins CN dx []) := e1 _ _ hx
    refine ⟨_, rfl, _, rfl, _, _, rfl, rfl, hv.div _, _, rfl, x, CN, dx, _, rfl, hx1, NC.cl, NC.nT, (by show 0 < 1000; decide), ?_⟩
    refine ⟨_, rfl, _, rfl, _, _, rfl, rfl, hv.div _, _, rfl, x, CN, dx, _, rfl, upd_same, NC.cl, NC.nP, (by show 1 < 1000; decide), ?_⟩
    refine ⟨_, rfl, rfl, _, rfl, ?_⟩
    refine ite2 (fun hp => ?a) (fun hp => ?b)
    case' a =>
      have el : lst t p r b = ⟨t.fdiv (coms t p b), p.fdiv (coms t p b), r, b.fdiv (coms t p b)⟩ := by
        unfold lst
        rw [if_neg (fun z => by rw [z] at hp; exact absurd hp (by decide))]
      refine ⟨_, rfl, _, rfl, x, CN, dx, _, rfl, upd_same, NC.cl, NC.nR, (by show 2 < 1000; decide), ?_⟩
    case' b =>
      have el : lst t p r b = ⟨t.fdiv (coms t p b), p.fdiv (coms t p b), 0, b.fdiv (coms t p b)⟩ := by
        unfold lst
        rw [if_pos (Classical.byContradiction fun z => hp (by rw [decide_eq_false (fun y => z (V.int.inj y))]; rfl))]
      refine ⟨_, rfl, x, CN, dx, _, rfl, upd_same, NC.cl, NC.nR, (by show 2 < 1000; decide), ?_⟩
    all_goals
      refine ⟨_, rfl, _, rfl, _, _, rfl, rfl, hv.div _, _, rfl, x, CN, dx, _, rfl, upd_same, NC.cl, NC.nB, (by show 3 < 1000; decide), ?_⟩
      rw [el] at k
      exact k _ (fun a o e hne => by rw [upd_ne hne, upd_ne hne, upd_ne hne, upd_ne hne]; exact e1 _ _ e) upd_same
  · obtain ⟨its, mv, hb⟩ := F.kbinds 3 ["root", "bottom"] [] (fun us its mv ws => us ++ ws) (by simp) (by simp) (fun q hq => by cases hq) (fun r1 _ _ r2 => r1.append r2) (fun T D doc pm an cdv ct us its mv ws h1 h2 h3 h4 =>
      match us, its, mv, ws, h1, h2, h3, h4 with | [_, _, _], [_], [], [_, _], _, _, _, _ => ⟨_, rfl, (by show _ = pure _; first | (with_unfolding_all rfl) | kernel_rfl)⟩)
    exact ⟨_, hb⟩
  · obtain ⟨its, mv, hb⟩ := F.kbinds 2 ["bottom"] [("root", .int 0)] (fun us its mv ws => us ++ (its ++ (mv ++ ws))) (by simp) (by simp) (fun q hq => by simp at hq; simp [hq]) (fun r1 r2 r3 r4 => r1.append (r2.append (r3.append r4))) (fun T D doc pm an cdv ct us its mv ws h1 h2 h3 h4 =>
      match us, its, mv, ws, h1, h2, h3, h4 with | [_, _], [_], [_], [_], _, _, _, _ => ⟨_, rfl, ⟨_, _, _, _, _, _, rfl, rfl, (by show _ = pure _; first | (with_unfolding_all rfl) | kernel_rfl)⟩⟩)
    exact ⟨_, hb⟩
  · exact F.binds 2 0 (by simp) rfl (fun T D doc pm an cdv ct us its ks h1 h2 h3 =>
      match us, its, ks, h1, h2, h3 with | [_, _], [_], [_, _], _, _, _ => ⟨_, rfl, ⟨_, _, _, _, _, _, rfl, rfl, ⟨_, _, _, _, _, _, rfl, rfl, rfl⟩⟩⟩) (by simp)
  · obtain ⟨its, mv, hb⟩ := F.kbinds 3 ["root"] [("bottom", .int 1)] (fun us its mv ws => us ++ (ws ++ mv)) (by simp) (by simp) (fun q hq => by simp at hq; simp [hq]) (fun r1 _ r3 r4 => r1.append (r4.append r3)) (fun T D doc pm an cdv ct us its mv ws h1 h2 h3 h4 =>
      match us, its, mv, ws, h1, h2, h3, h4 with | [_, _, _], [_], [_], [_], _, _, _, _ => ⟨_, rfl, ⟨_, _, _, _, _, _, rfl, rfl, (by show _ = pure _; first | (with_unfolding_all rfl) | kernel_rfl)⟩⟩)
    exact ⟨_, hb⟩
end
end My
namespace My
open PySem
theorem com_dt {t p b : Int} : com t p b ∣ t := by
  unfold com
  exact Int.natAbs_dvd_natAbs.mp (by rw [Int.natAbs_natCast]; exact Nat.gcd_dvd_right _ _)
theorem com_dp {t p b : Int} : com t p b ∣ p := by
  unfold com
  exact Int.natAbs_dvd_natAbs.mp (by rw [Int.natAbs_natCast]; exact Nat.dvd_trans (Nat.gcd_dvd_left _ _) (Nat.gcd_dvd_right _ _))
theorem com_db {t p b : Int} : com t p b ∣ b := by
  unfold com
  exact Int.natAbs_dvd_natAbs.mp (by rw [Int.natAbs_natCast]; exact Nat.dvd_trans (Nat.gcd_dvd_left _ _) (Nat.gcd_dvd_left _ _))
theorem coms_dvd {t p b x : Int} (h : com t p b ∣ x) : coms t p b ∣ x := by
  unfold coms
  split
  · exact Int.neg_dvd.mpr h
  · exact h
theorem fdiv_of_dvd {x c : Int} (h : c ∣ x) : x.fdiv c * c = x := by
  rw [Int.fdiv_eq_ediv_of_dvd h]
  exact Int.ediv_mul_cancel h
/-- what lst divides by, and its four parts -/
structure LstIs (t p r b c : Int) (n : Nm) : Prop where
  c0 : c ≠ 0
  ht : n.t * c = t
  hp : n.p * c = p
  hb : n.b * c = b
  hr : n.r = if p = 0 then 0 else r
  b1 : 1 ≤ n.b
  cop : com n.t n.p n.b = 1
theorem abs_mul_right {a b : Int} : (a * b).natAbs = a.natAbs * b.natAbs := Int.natAbs_mul a b
theorem lst_is {t p r b : Int} (h : b ≠ 0) : LstIs t p r b (coms t p b) (lst t p r b) := by
  have c0 := coms_ne (t := t) (p := p) h
  have ht : (lst t p r b).t * coms t p b = t := fdiv_of_dvd (coms_dvd com_dt)
  have hp : (lst t p r b).p * coms t p b = p := fdiv_of_dvd (coms_dvd com_dp)
  have hb : (lst t p r b).b * coms t p b = b := fdiv_of_dvd (coms_dvd com_db)
  refine ⟨c0, ht, hp, hb, rfl, ?_, ?_⟩
  · have hc := com_pos (t := t) (p := p) h
    have hs : coms t p b = if b < 0 then -com t p b else com t p b := rfl
    generalize (lst t p r b).b = x at *
    generalize hcc : coms t p b = c at *
    by_cases hneg : b < 0
    · rw [if_pos hneg] at hs
      have : c < 0 := by omega
      refine Classical.byContradiction fun hx => ?_
      have hx' : x ≤ 0 := by omega
      have := Int.mul_nonneg_of_nonpos_of_nonpos hx' (by omega : c ≤ 0)
      omega
    · rw [if_neg hneg] at hs
      refine Classical.byContradiction fun hx => ?_
      have hx' : x ≤ 0 := by omega
      have := Int.mul_nonpos_of_nonpos_of_nonneg hx' (by omega : 0 ≤ c)
      omega
  · have e : (coms t p b).natAbs = Nat.gcd (Nat.gcd b.natAbs p.natAbs) t.natAbs := by
      rw [coms_abs]
      unfold com
      rw [Int.natAbs_natCast]
    have et : t.natAbs = (lst t p r b).t.natAbs * (coms t p b).natAbs := by rw [← abs_mul_right, ht]
    have ep : p.natAbs = (lst t p r b).p.natAbs * (coms t p b).natAbs := by rw [← abs_mul_right, hp]
    have eb : b.natAbs = (lst t p r b).b.natAbs * (coms t p b).natAbs := by rw [← abs_mul_right, hb]
    have e2 : Nat.gcd (Nat.gcd b.natAbs p.natAbs) t.natAbs = Nat.gcd (Nat.gcd (lst t p r b).b.natAbs (lst t p r b).p.natAbs) (lst t p r b).t.natAbs * (coms t p b).natAbs := by
      conv => lhs; rw [et, ep, eb]
      rw [Nat.gcd_mul_right, Nat.gcd_mul_right]
    rw [← e] at e2
    have hc : 0 < (coms t p b).natAbs := by omega
    have e3 : Nat.gcd (Nat.gcd (lst t p r b).b.natAbs (lst t p r b).p.natAbs) (lst t p r b).t.natAbs = 1 := by
      have : 1 * (coms t p b).natAbs = Nat.gcd (Nat.gcd (lst t p r b).b.natAbs (lst t p r b).p.natAbs) (lst t p r b).t.natAbs * (coms t p b).natAbs := by rw [Nat.one_mul]; exact e2
      exact (Nat.eq_of_mul_eq_mul_right hc this).symm
    unfold com
    rw [e3]
    rfl
/-- a number as it is kept: least, of at most k bits -/
structure Good (k : Nat) (n : Nm) : Prop where
  t : Sz k n.t
  p : Sz k n.p
  b : Sz k n.b
  b1 : 1 ≤ n.b
  cop : com n.t n.p n.b = 1
  rt : n.r = 0 ∧ n.p = 0 ∨ n.p ≠ 0 ∧ rootOk n.r = true
theorem Good.mono {k m : Nat} {n : Nm} (h : Good k n) (l : k ≤ m) : Good m n := ⟨h.t.mono l, h.p.mono l, h.b.mono l, h.b1, h.cop, h.rt⟩
theorem rootOk_ge {r : Int} (h : rootOk r = true) : 2 ≤ r ∧ r ≤ 999 := by
  unfold rootOk at h
  simp only [Bool.and_eq_true, decide_eq_true_eq] at h
  exact h.1
theorem sz_of_dvd {k : Nat} {x c y : Int} (h : x * c = y) (c0 : c ≠ 0) (hy : Sz k y) : Sz k x := by
  refine Sz.ofLt ?_ hy
  rw [← h, Int.natAbs_mul]
  exact Nat.le_mul_of_pos_right _ (by omega)
theorem lst_good {k : Nat} {t p r b : Int} (h : validN t p r b = true) (zt : Sz k t) (zp : Sz k p) (zb : Sz k b) : Good k (lst t p r b) := by
  have hb : b ≠ 0 := fun z => by unfold validN at h; rw [if_pos z] at h; cases h
  have A := lst_is (t := t) (p := p) (r := r) hb
  refine ⟨sz_of_dvd A.ht A.c0 zt, sz_of_dvd A.hp A.c0 zp, sz_of_dvd A.hb A.c0 zb, A.b1, A.cop, ?_⟩
  by_cases hp : p = 0
  · left
    refine ⟨by rw [A.hr, if_pos hp], ?_⟩
    exact (Int.mul_eq_zero.mp (A.hp.trans hp)).resolve_right A.c0
  · right
    refine ⟨fun z => hp (by rw [← A.hp, z, Int.zero_mul]), ?_⟩
    rw [A.hr, if_neg hp]
    unfold validN at h
    rw [if_neg hb] at h
    by_cases hr : r = 0
    · rw [if_pos hr] at h
      exact absurd (of_decide_eq_true h) hp
    · rw [if_neg hr] at h
      exact h
end My
namespace My
open PySem PySem.Spec PyProof.Rows L2
local macro_rules | `(tactic| walk_at "side") => `(tactic| first | assumption | decide | exact Or.inl ⟨by decide, by decide⟩ | exact Or.inr ⟨by decide, by decide⟩ | exact ⟨by decide, by decide, by decide⟩ | omega | (unfold CMulW; decide +kernel) | (dsimp only; first | assumption | omega | decide +kernel) | exact len_ok (Nat.le_of_ble_eq_true rfl) | fail "side")
local macro_rules | `(tactic| walk_at "rd") => `(tactic| first
  | refine ⟨_, _, _, _, rfl, rfl, SqL.of upd_same, atI_nat (j := 0) rfl, ?_⟩ | refine ⟨_, _, _, _, rfl, rfl, SqL.of upd_same, atI_nat (j := 1) rfl, ?_⟩ | refine ⟨_, _, _, _, rfl, rfl, SqL.of upd_same, atI_nat (j := 2) rfl, ?_⟩
  | refine ⟨_, _, _, _, rfl, rfl, upd_same, rfl, ?_⟩
  | refine ⟨_, _, rfl, rfl, ?_⟩ | refine ⟨_, rfl, ?_⟩ | refine ⟨_, _, rfl, ?_⟩ | refine Or.inl ⟨_, rfl, ?_⟩ | refine Or.inr ⟨_, rfl, ?_⟩ | refine ⟨(by walk_at "side"), ?_⟩ | fail "rd")
/-- what isinstance finds of the class -/
structure NumI (K : PySem.W.Frag) (CN : Addr) : Prop where
  kInt : PySem.W.kitOne K (.ref CN) (.type "int") = some false
  kNum : PySem.W.kitOne K (.ref CN) (.ref CN) = some true
  ha : PySem.W.findIn K (.ref CN) "__class__" = some (some (.builtin "object.__class__"))
  hn : PySem.W.specialIn K (.builtin "object.__class__") "__get__" = some (some (.builtin "getset_descriptor.__get__"))
  htk : PySem.W.takesIn K (.builtin "object.__class__") = some true
  hm : PySem.W.mroIn K CN (.type "object") = some true
theorem NumAt.ty {K : PySem.W.Frag} {H : Hp} {CN a : Addr} {n : Nm} (h : NumAt CN H a n) (c : Cls K CN) (I : NumI K CN) : TyX K H (.ref a) (.ref CN) := let ⟨dx, e⟩ := h; .base (.ins e c I.ha I.hn I.htk I.hm)
theorem prop_use {CN a : Addr} {H : Hp} {n : Nm} {sp : Sp} {Q : VK} {E : XK} (h : NumAt CN H a n) (q : sp [.ref a] H Q E) : ∃ a' dx fs, V.ref a = .ref a' ∧ H a' = some (.ins CN dx fs) ∧ sp (.ref a' :: []) H Q E := let ⟨dx, e⟩ := h; ⟨a, dx, _, rfl, e, q⟩
theorem mk4_use {CN : Addr} {H2 : Hp} {Q : VK} {t p r b : Int} (hv : NV t p r b) (k : ∀ x H3, H2 x = none → Ext H2 H3 → NumAt CN H3 x (lst t p r b) → Q (.ref x) H3) : ([V.int t, V.int p] : List V).length = 2 ∧ ([V.int r, V.int b] : List V).length = 2 ∧
    ∀ x dx, H2 x = none → H2 dx = none → dx ≠ x → spInit CN ((fun vs zs => vs ++ zs) (V.ref x :: [V.int t, V.int p]) [V.int r, V.int b]) (upd (upd H2 dx (.own x)) x (.ins CN dx [])) (fun v H3 => v = .non ∧ Q (.ref x) H3) E0 :=
  ⟨rfl, rfl, fun x dx hx hdx hne => ⟨x, dx, t, p, r, b, rfl, upd_same, hv, fun H' keep hn => ⟨rfl, k x H' hx (fun a o e => keep a o (by rw [upd_ne (ne_of_none e hx), upd_ne (ne_of_none e hdx)]; exact e) (ne_of_none e hx)) ⟨dx, hn⟩⟩⟩⟩
theorem mk1_use {CN : Addr} {H2 : Hp} {Q : VK} {t : Int} (k : ∀ x H3, H2 x = none → Ext H2 H3 → NumAt CN H3 x (lst t 0 0 1) → Q (.ref x) H3) : 
    ∀ x dx, H2 x = none → H2 dx = none → dx ≠ x → spInit CN (V.ref x :: ([V.int t] ++ [.int 0, .int 0, .int 1])) (upd (upd H2 dx (.own x)) x (.ins CN dx [])) (fun v H3 => v = .non ∧ Q (.ref x) H3) E0 :=
  fun x dx hx hdx hne => ⟨x, dx, t, 0, 0, 1, rfl, upd_same, ⟨rfl, by show (1 : Int).natAbs < 2 ^ 9000; decide +kernel⟩, fun H' keep hn => ⟨rfl, k x H' hx (fun a o e => keep a o (by rw [upd_ne (ne_of_none e hx), upd_ne (ne_of_none e hdx)]; exact e) (ne_of_none e hx)) ⟨dx, hn⟩⟩⟩
section
variable {X : Cx} {k : Nat} {CN : Addr} {p pos : Pos} {e : Expr} {es : List Expr} {kws : List Keyword} {t tk : TA}
theorem mk4A (F : InitAt X.prog X.w X.K X.mg X.base k CN (spInit CN)) (g : X.mg "Number" = some (.ref CN)) (hr : Room (k + 1) X.A) (hg : Gl X "Number") (ha : PA X (e :: es) t) (hkw : PK X kws tk)
    (hall : (backToKw pos (keywordEach kws X.env)).all (·.1.isSome) = true := by rfl) (hks : (backToKw pos (keywordEach kws X.env)).filterMap (·.1) = (["root", "bottom"] : List Str) := by rfl)
    (he : starEach (e :: es) X.env = (false, eval e X.env) :: starEach es X.env := by rfl) (hpl : ((backTo pos (starEach (e :: es) X.env)).any (·.1) || (backToKw pos (keywordEach kws X.env)).any (·.1.isNone)) = false := by rfl) :
    PE X (.Call (.Name "Number" p) (e :: es) kws pos) (tMakeK CN 2 2 (spInit CN) (fun vs zs => vs ++ zs) E0 t tk) := by
  obtain ⟨f, fd, M, G, ⟨g4, h4⟩, _, _⟩ := F.ex
  exact pe_makeK (n := 2) M G hr hg g h4 pass0 ha hkw hall hks (by decide) he hpl
theorem mkRA (F : InitAt X.prog X.w X.K X.mg X.base k CN (spInit CN)) (g : X.mg "Number" = some (.ref CN)) (hr : Room (k + 1) X.A) (hg : Gl X "Number") (ha : PA X (e :: es) t) (hkw : PK X kws tk)
    (hall : (backToKw pos (keywordEach kws X.env)).all (·.1.isSome) = true := by rfl) (hks : (backToKw pos (keywordEach kws X.env)).filterMap (·.1) = (["root"] : List Str) := by rfl)
    (he : starEach (e :: es) X.env = (false, eval e X.env) :: starEach es X.env := by rfl) (hpl : ((backTo pos (starEach (e :: es) X.env)).any (·.1) || (backToKw pos (keywordEach kws X.env)).any (·.1.isNone)) = false := by rfl) :
    PE X (.Call (.Name "Number" p) (e :: es) kws pos) (tMakeK CN 2 1 (spInit CN) (fun vs zs => vs ++ (zs ++ [.int 1])) E0 t tk) := by
  obtain ⟨f, fd, M, G, _, _, _, g4, h4⟩ := F.ex
  exact pe_makeK (n := 2) M G hr hg g h4 pass0 ha hkw hall hks (by decide) he hpl
theorem mk1A (F : InitAt X.prog X.w X.K X.mg X.base k CN (spInit CN)) (g : X.mg "Number" = some (.ref CN)) (hr : Room (k + 1) X.A) (hg : Gl X "Number") (ha : PA X (e :: es) t)
    (he : starEach (e :: es) X.env = (false, eval e X.env) :: starEach es X.env := by rfl) (hpl : (backTo pos (starEach es X.env)).any (·.1) = false := by rfl) :
    PE X (.Call (.Name "Number" p) (e :: es) [] pos) (tMake CN (spInit CN) [.int 0, .int 0, .int 1] E0 t) := by
  obtain ⟨f, fd, M, G, _, _, ⟨ds, hd, hb⟩, _⟩ := F.ex
  exact pe_make M G hr hg g hb hd pass0 ha (by decide) he hpl
end
def spProp (CN : Addr) (g : Nm → V) : Sp := fun vs H Q _ => ∃ a n, vs = [.ref a] ∧ NumAt CN H a n ∧ Q (g n) H
/-- what stands for a number: one, or an int -/
def Opd (CN : Addr) (H : Hp) (v : V) (n : Nm) : Prop := (∃ a, v = .ref a ∧ NumAt CN H a n) ∨ (∃ i, v = .int i ∧ n = ⟨i, 0, 0, 1⟩)
theorem Opd.ext {CN : Addr} {H H' : Hp} {v : V} {n : Nm} (h : Opd CN H v n) (e : Ext H H') : Opd CN H' v n := by
  rcases h with ⟨a, rfl, h⟩ | ⟨i, rfl, rfl⟩
  · exact .inl ⟨a, rfl, h.ext e⟩
  · exact .inr ⟨i, rfl, rfl⟩
def spIsInt2 (CN : Addr) : Sp := fun vs H Q _ => (∃ i : Int, vs = [.int i] ∧ Q (.bl true) H) ∨ ∃ a n, vs = [.ref a] ∧ NumAt CN H a n ∧ Q (.bl false) H
def spOpd (CN : Addr) : Sp := fun vs H Q _ => ∃ v n, vs = [v] ∧ Opd CN H v n ∧ ∀ a H', Ext H H' → NumAt CN H' a n → Q (.ref a) H'
def spSgI : Sp := fun vs H Q _ => ∃ i, vs = [.int i] ∧ Q (.int (if i = 0 then 0 else if 0 < i then 1 else -1)) H
def sgI (i : Int) : Int := if i = 0 then 0 else if 0 < i then 1 else -1
def sgn (t p r : Int) : Int := if sgI t = sgI p ∨ sgI p = 0 then sgI t else if p * p * r < t * t then sgI t else sgI p
def spSgn : Sp := fun vs H Q _ => ∃ t p r, vs = [.int t, .int p, .int r] ∧ Sz 5000 t ∧ Sz 5000 p ∧ Sz 10 r ∧ ∀ H', Ext H H' → Q (.int (sgn t p r)) H'
section
variable {P : Program} {w : World} {K : PySem.W.Frag} {mg : Str → Option Value} {base : Heap} {CN : Addr}
theorem ok_ntop (D : PropT K CN "top" "Number.top" s_ntop) (NC : NumT K mg CN) : PropAt P w K mg base 1 CN "top" (spProp CN fun n => .int n.t) := by
  refine propAt D sc_ntop (fun _ _ _ _ _ _ us hl => match us, hl with | [_], _ => rfl) (fun vs H Q E h => ?_) fun f cdv A outer s H vs Q E hr h => ?_
  · obtain ⟨a, n, rfl, _⟩ := h
    rfl
  obtain ⟨a, n, rfl, ⟨dx, e⟩, k⟩ := h
  exact ⟨_, (pss_one (ps_ret (pe_fld (pv 0) rfl))), _, rfl, a, CN, dx, _, _, rfl, e, NC.cl, NC.nT, nf_top n, k⟩
theorem ok_npart (D : PropT K CN "part" "Number.part" s_npart) (NC : NumT K mg CN) : PropAt P w K mg base 1 CN "part" (spProp CN fun n => .int n.p) := by
  refine propAt D sc_npart (fun _ _ _ _ _ _ us hl => match us, hl with | [_], _ => rfl) (fun vs H Q E h => ?_) fun f cdv A outer s H vs Q E hr h => ?_
  · obtain ⟨a, n, rfl, _⟩ := h
    rfl
  obtain ⟨a, n, rfl, ⟨dx, e⟩, k⟩ := h
  exact ⟨_, (pss_one (ps_ret (pe_fld (pv 0) rfl))), _, rfl, a, CN, dx, _, _, rfl, e, NC.cl, NC.nP, nf_part n, k⟩
theorem ok_nroot (D : PropT K CN "root" "Number.root" s_nroot) (NC : NumT K mg CN) : PropAt P w K mg base 1 CN "root" (spProp CN fun n => .int n.r) := by
  refine propAt D sc_nroot (fun _ _ _ _ _ _ us hl => match us, hl with | [_], _ => rfl) (fun vs H Q E h => ?_) fun f cdv A outer s H vs Q E hr h => ?_
  · obtain ⟨a, n, rfl, _⟩ := h
    rfl
  obtain ⟨a, n, rfl, ⟨dx, e⟩, k⟩ := h
  exact ⟨_, (pss_one (ps_ret (pe_fld (pv 0) rfl))), _, rfl, a, CN, dx, _, _, rfl, e, NC.cl, NC.nR, nf_root n, k⟩
theorem ok_nbottom (D : PropT K CN "bottom" "Number.bottom" s_nbottom) (NC : NumT K mg CN) : PropAt P w K mg base 1 CN "bottom" (spProp CN fun n => .int n.b) := by
  refine propAt D sc_nbottom (fun _ _ _ _ _ _ us hl => match us, hl with | [_], _ => rfl) (fun vs H Q E h => ?_) fun f cdv A outer s H vs Q E hr h => ?_
  · obtain ⟨a, n, rfl, _⟩ := h
    rfl
  obtain ⟨a, n, rfl, ⟨dx, e⟩, k⟩ := h
  exact ⟨_, (pss_one (ps_ret (pe_fld (pv 0) rfl))), _, rfl, a, CN, dx, _, _, rfl, e, NC.cl, NC.nB, nf_bottom n, k⟩
theorem ok_isint2 (T : Bn mg) (NC : NumT K mg CN) (NI : NumI K CN) (D : DefAt K mg "is_any_integer" s_isint) : FnAt P w K mg base 1 "is_any_integer" ["value"] (spIsInt2 CN) := by
  refine fnAt D sc_isint (fun _ _ _ _ _ _ us hl => match us, hl with | [_], _ => rfl) (fun vs H Q E h => ?_) fun f cdv A outer s H vs Q E hr h => ?_
  · rcases h with ⟨i, rfl, _⟩ | ⟨a, n, rfl, _⟩ <;> rfl
  refine ⟨_, (pss_one (ps_ret (pe_and (pe_callB call_isi (by rfl) T.b_isinstance (by decide +kernel) (pa_cons (pv 0) (pa_cons (pe_bltn (v := .ty "int") (by rfl) T.b_int (by decide +kernel) rfl) pa_nil))) (pe_one (pe_not (pe_callB call_isi (by rfl) T.b_isinstance (by decide +kernel) (pa_cons (pv 0) (pa_cons (pe_bltn (v := .ty "bool") (by rfl) T.b_bool (by decide +kernel) rfl) pa_nil)))))))), ?_⟩
  rcases h with ⟨i, rfl, k⟩ | ⟨a, n, rfl, hn, k⟩
  · refine ⟨_, rfl, _, _, _, _, true, rfl, .ty _, .base (.int _), kit_ty kit_int, _, rfl, iteT ?_⟩
    exact ⟨_, rfl, _, _, _, _, false, rfl, .ty _, .base (.int _), kit_ty kit_intbool, _, rfl, k⟩
  · exact ⟨_, rfl, _, _, _, _, false, rfl, .ty _, hn.ty NC.cl NI, NI.kInt, _, rfl, iteF k⟩
abbrev s_sgi : Stmt := top 31
theorem sc_sgi : FnScope ["value"] ["value"] (defScope s_sgi) := ⟨rfl, rfl, rfl, by decide +kernel, rfl, by decide +kernel, by decide +kernel⟩
abbrev s_sgn : Stmt := top 32
theorem sc_sgn : FnScope ["top", "part", "root", "above", "beside"] ["top", "part", "root"] (defScope s_sgn) := ⟨rfl, rfl, rfl, by decide +kernel, rfl, by decide +kernel, by decide +kernel⟩
theorem ok_sgi (T : Bn mg) (D : DefAt K mg "_sign_of_integer" s_sgi) : FnAt P w K mg base 1 "_sign_of_integer" ["value"] spSgI := by
  refine fnAt D sc_sgi (fun _ _ _ _ _ _ us hl => match us, hl with | [_], _ => rfl) (fun vs H Q E h => ?_) fun f cdv A outer s H vs Q E hr h => ?_
  · obtain ⟨i, rfl, _⟩ := h
    rfl
  obtain ⟨i, rfl, k⟩ := h
  refine ⟨_, (pss_cons (ps_if (pt_cmpR op_eq (pv 0) pe_int (nomark _)) (pss_one (ps_ret pe_int)) pss_nil)
    (pss_one (ps_ret (pe_ifExp (pt_cmpR op_gt (pv 0) pe_int (nomark _)) pe_int (pe_un un_neg pe_int))))), ?_⟩
  refine ⟨_, rfl, rfl, _, rfl, ite2 (fun h0 => ?_) (fun h0 => ?_)⟩
  · have e : i = 0 := V.int.inj (of_decide_eq_true h0)
    rw [if_pos e] at k
    exact k
  · have e : ¬ i = 0 := fun z => h0 (by rw [z]; rfl)
    rw [if_neg e] at k
    refine ⟨_, rfl, _, _, rfl, rfl, _, rfl, ite2 (fun h1 => ?_) (fun h1 => ?_)⟩
    · rw [if_pos (of_decide_eq_true h1)] at k
      exact k
    · rw [if_neg (fun z => h1 (decide_eq_true z))] at k
      exact ⟨_, rfl, k⟩
theorem ok_sgn (T : Bn mg) (D : DefAt K mg "sign_of_sum" s_sgn) (F__sign_of_integer : FnAt P w K mg base 1 "_sign_of_integer" ["value"] spSgI) : FnAt P w K mg base 2 "sign_of_sum" ["top", "part", "root"] spSgn := by
  refine fnAt D sc_sgn (fun _ _ _ _ _ _ us hl => match us, hl with | [_, _, _], _ => rfl) (fun vs H Q E h => ?_) fun f cdv A outer s H vs Q E hr h => ?_
  · obtain ⟨t, p, r, rfl, _⟩ := h
    rfl
  obtain ⟨t, p, r, rfl, zt, zp, zr, k⟩ := h
  have k0 := k H (ext_refl H)
  refine ⟨_, (pss_cons (ps_par (i := 3) (j := 4) rfl sc_sgn.nd rfl rfl (by decide) rfl rfl (pa_cons (callA F__sign_of_integer (hr.mono (by decide)) rfl (pa_cons (pv 0) pa_nil)) (pa_cons (callA F__sign_of_integer (hr.mono (by decide)) rfl (pa_cons (pv 1) pa_nil)) pa_nil)) (by rfl))
    (pss_cons (ps_if (PW.pt (pw_or (pt_cmpR op_eq (pv 3) (pv 4) (nomark _)) (pw_or1 (pt_cmpR op_eq (pv 4) pe_int (nomark _))))) (pss_one (ps_ret (pv 3))) pss_nil)
    (pss_one (ps_ret (pe_ifExp (pt_cmpR op_gt (pe_op op_mulW (pv 0) (pv 0)) (pe_op op_mulW (pe_op op_mulW (pv 1) (pv 1)) (pv 2)) (nomark _)) (pv 3) (pv 4)))))), ?_⟩
  refine ⟨_, rfl, t, rfl, _, rfl, p, rfl, _, _, rfl, ?_⟩
  have e1 : ∀ a b : Int, decide (V.int a = V.int b) = decide (a = b) := fun a b => decide_eq_decide.mpr ⟨fun z => V.int.inj z, fun z => by rw [z]⟩
  refine ⟨_, rfl, _, rfl, rfl, _, rfl, ite2 (fun h0 => ?_) (fun h0 => ?_)⟩
  · have h0' : sgI t = sgI p := V.int.inj (of_decide_eq_true h0)
    refine iteT ⟨_, rfl, ?_⟩
    have e : sgn t p r = sgI t := if_pos (.inl h0')
    rw [e] at k0
    exact k0
  · refine ⟨_, rfl, rfl, _, rfl, ite2 (fun h1 => ?_) (fun h1 => ?_)⟩
    · have h1' : sgI p = 0 := V.int.inj (of_decide_eq_true h1)
      refine ⟨_, rfl, ?_⟩
      have e : sgn t p r = sgI t := if_pos (.inr h1')
      rw [e] at k0
      exact k0
    · have hn : ¬ (sgI t = sgI p ∨ sgI p = 0) := fun z => z.elim (fun z => h0 (decide_eq_true (congrArg V.int z))) (fun z => h1 (decide_eq_true (congrArg V.int z)))
      refine ⟨_, rfl, _, rfl, _, _, rfl, rfl, zt.cmul zt (by decide) (by decide) (by decide), _, rfl, _, rfl, _, _, rfl, rfl, zp.cmul zp (by decide) (by decide) (by decide), _, rfl, _, _, rfl, rfl, (zp.mul zp).cmul zr (by decide) (by decide) (by decide), _, _, rfl, rfl, _, rfl, ite2 (fun h2 => ?_) (fun h2 => ?_)⟩
      · have e : sgn t p r = sgI t := by
          unfold sgn
          rw [if_neg hn, if_pos (of_decide_eq_true h2)]
        rw [e] at k0
        exact ⟨_, rfl, k0⟩
      · have e : sgn t p r = sgI p := by
          unfold sgn
          rw [if_neg hn, if_neg (fun z => h2 (decide_eq_true z))]
        rw [e] at k0
        exact ⟨_, rfl, k0⟩
end
end My
namespace My
open PySem
def rt1 (n m : Nm) : Int := if m.r > n.r then m.r else n.r
def normA (n : Nm) : Int := n.t * n.t - n.p * n.p * n.r
def addN (n m : Nm) : Nm := lst (n.t * m.b + m.t * n.b) (n.p * m.b + m.p * n.b) (rt1 n m) (n.b * m.b)
def subN (n m : Nm) : Nm := lst (n.t * m.b - m.t * n.b) (n.p * m.b - m.p * n.b) (rt1 n m) (n.b * m.b)
def overN (n m : Nm) : Nm := lst ((n.t * m.t - n.p * m.p * rt1 n m) * m.b) ((n.p * m.t - n.t * m.p) * m.b) (rt1 n m) (n.b * normA m)
def OneRoot (n m : Nm) : Prop := n.r = 0 ∨ m.r = 0 ∨ n.r = m.r
theorem Good.r0 {k : Nat} {n : Nm} (h : Good k n) : 0 ≤ n.r ∧ n.r ≤ 999 := by
  rcases h.rt with ⟨a, _⟩ | ⟨_, a⟩
  · omega
  · have := rootOk_ge a; omega
theorem Good.zr {k : Nat} {n : Nm} (h : Good k n) : Sz 10 n.r := by
  have := h.r0
  unfold Sz
  omega
theorem Good.b0 {k : Nat} {n : Nm} (h : Good k n) : n.b ≠ 0 := by have := h.b1; omega
theorem rt1_is {k : Nat} {n m : Nm} (h : Good k n) (g : Good k m) : (rt1 n m = 0 ∧ n.p = 0 ∧ m.p = 0) ∨ rootOk (rt1 n m) = true := by
  unfold rt1
  rcases h.rt with ⟨a, b⟩ | ⟨a, b⟩
  · rcases g.rt with ⟨c, d⟩ | ⟨c, d⟩
    · left; rw [a, c]; exact ⟨rfl, b, d⟩
    · right
      have := rootOk_ge d
      rw [if_pos (by omega)]
      exact d
  · right
    rcases g.rt with ⟨c, d⟩ | ⟨c, d⟩
    · have := rootOk_ge b
      rw [if_neg (by omega)]
      exact b
    · split
      · exact d
      · exact b
theorem rt1_zr {k : Nat} {n m : Nm} (h : Good k n) (g : Good k m) : Sz 10 (rt1 n m) := by
  unfold rt1
  split
  · exact g.zr
  · exact h.zr
theorem valid_of {t p r b : Int} (hb : b ≠ 0) (h : (r = 0 ∧ p = 0) ∨ rootOk r = true) : validN t p r b = true := by
  unfold validN
  rw [if_neg hb]
  rcases h with ⟨a, b⟩ | h
  · rw [if_pos a, b]; rfl
  · have := rootOk_ge h
    rw [if_neg (by omega)]
    exact h
/-- no square is a root -/
theorem root_nosq : ∀ r : Nat, r < 1000 → rootOk (r : Int) = true → ∀ s : Nat, s < 32 → s * s ≠ r := by decide +kernel
theorem sq_root {t p r : Int} (hr : rootOk r = true) (h : t * t = p * p * r) : t = 0 ∧ p = 0 := by
  have hg := rootOk_ge hr
  by_cases hp : p = 0
  · refine ⟨?_, hp⟩
    rw [hp, Int.zero_mul, Int.zero_mul] at h
    exact (Int.mul_eq_zero.mp h).elim id id
  exfalso
  obtain ⟨s, rfl⟩ : ∃ s : Nat, r = (s : Int) := ⟨r.toNat, by omega⟩
  have e : t.natAbs * t.natAbs = p.natAbs * p.natAbs * s := by
    have := congrArg Int.natAbs h
    rw [Int.natAbs_mul, Int.natAbs_mul, Int.natAbs_mul, Int.natAbs_natCast] at this
    exact this
  have hpp : 0 < p.natAbs := by omega
  generalize t.natAbs = a at *
  generalize p.natAbs = b at *
  have hg0 : 0 < Nat.gcd a b := Nat.gcd_pos_of_pos_right _ hpp
  obtain ⟨a', ha⟩ := Nat.gcd_dvd_left a b
  obtain ⟨b', hb⟩ := Nat.gcd_dvd_right a b
  have hc : Nat.gcd a' b' = 1 := by
    have key : Nat.gcd (Nat.gcd a b * a') (Nat.gcd a b * b') = Nat.gcd a b * Nat.gcd a' b' := Nat.gcd_mul_left _ _ _
    rw [← ha, ← hb] at key
    have : Nat.gcd a b * 1 = Nat.gcd a b * Nat.gcd a' b' := by rw [Nat.mul_one]; exact key
    exact (Nat.eq_of_mul_eq_mul_left hg0 this).symm
  generalize Nat.gcd a b = g at *
  have e2 : a' * a' = b' * b' * s := by
    have : (g * g) * (a' * a') = (g * g) * (b' * b' * s) := by
      have e' := e
      rw [ha, hb] at e'
      grind
    exact Nat.eq_of_mul_eq_mul_left (Nat.mul_pos hg0 hg0) this
  have d1 : b' ∣ a' * a' := by rw [e2, Nat.mul_assoc]; exact Nat.dvd_mul_right _ _
  have cop : Nat.Coprime b' a' := by
    show Nat.gcd b' a' = 1
    rw [Nat.gcd_comm]
    exact hc
  have d2 : b' ∣ a' := cop.dvd_of_dvd_mul_left d1
  have d3 : b' ∣ 1 := by
    rw [← hc]
    exact Nat.dvd_gcd d2 (Nat.dvd_refl _)
  have b1 : b' = 1 := Nat.dvd_one.mp d3
  rw [b1] at e2
  have hs : s < 1000 := by omega
  have ha32 : a' < 32 := by
    refine Classical.byContradiction fun z => ?_
    have z' : 32 ≤ a' := by omega
    have := Nat.mul_le_mul z' z'
    omega
  exact root_nosq s hs hr a' ha32 (by omega)
theorem normA_ne {k : Nat} {n : Nm} (h : Good k n) (hn : ¬ (n.t = 0 ∧ n.p = 0)) : normA n ≠ 0 := fun z => by
  unfold normA at z
  have e : n.t * n.t = n.p * n.p * n.r := by omega
  rcases h.rt with ⟨a, b⟩ | ⟨a, b⟩
  · refine hn ⟨?_, b⟩
    rw [b, Int.zero_mul, Int.zero_mul] at e
    exact (Int.mul_eq_zero.mp e).elim id id
  · exact hn (sq_root b e)
theorem sq_nonneg (p : Int) : 0 ≤ p * p := by
  rcases Int.le_total 0 p with z | z
  · exact Int.mul_nonneg z z
  · exact Int.mul_nonneg_of_nonpos_of_nonpos z z
theorem sgI_zero {i : Int} : sgI i = 0 ↔ i = 0 := by
  unfold sgI
  constructor
  · intro h
    split at h
    · assumption
    · split at h <;> omega
  · intro h
    rw [if_pos h]
theorem sgn_ne {t p r : Int} (hr : 0 ≤ r) (hn : ¬ (t = 0 ∧ p = 0)) : sgn t p r ≠ 0 := by
  unfold sgn
  split
  · rename_i h
    intro z
    have t0 := sgI_zero.mp z
    rcases h with h | h
    · rw [z] at h
      exact hn ⟨t0, sgI_zero.mp h.symm⟩
    · exact hn ⟨t0, sgI_zero.mp h⟩
  · rename_i h
    split
    · rename_i h2
      intro z
      have t0 := sgI_zero.mp z
      rw [t0] at h2
      have := Int.mul_nonneg (sq_nonneg p) hr
      omega
    · intro z
      exact h (.inr z)
end My
namespace My
open PySem PySem.Spec PyProof.Rows L2
local macro_rules | `(tactic| walk_at "side") => `(tactic| first | assumption | decide | exact Or.inl ⟨by decide, by decide⟩ | exact Or.inr ⟨by decide, by decide⟩ | exact ⟨by decide, by decide, by decide⟩ | omega | (unfold CMulW; decide +kernel) | (dsimp only; first | assumption | omega | decide +kernel) | exact len_ok (Nat.le_of_ble_eq_true rfl) | fail "side")
local macro_rules | `(tactic| walk_at "rd") => `(tactic| first
  | refine ⟨_, _, _, _, rfl, rfl, SqL.of upd_same, atI_nat (j := 0) rfl, ?_⟩ | refine ⟨_, _, _, _, rfl, rfl, SqL.of upd_same, atI_nat (j := 1) rfl, ?_⟩ | refine ⟨_, _, _, _, rfl, rfl, SqL.of upd_same, atI_nat (j := 2) rfl, ?_⟩
  | refine ⟨_, _, _, _, rfl, rfl, upd_same, rfl, ?_⟩
  | refine ⟨_, _, rfl, rfl, ?_⟩ | refine ⟨_, rfl, ?_⟩ | refine ⟨_, _, rfl, ?_⟩ | refine Or.inl ⟨_, rfl, ?_⟩ | refine Or.inr ⟨_, rfl, ?_⟩ | refine ⟨(by walk_at "side"), ?_⟩ | fail "rd")
abbrev s_nsign : Stmt := inClass (top 22) 6
theorem sc_nsign : FnScope ["self"] ["self"] (defScope s_nsign) := ⟨rfl, rfl, rfl, by decide +kernel, rfl, by decide +kernel, by decide +kernel⟩
abbrev s_nadd : Stmt := inClass (top 22) 10
theorem sc_nadd : FnScope ["self", "other", "number", "root", "top", "part"] ["self", "other"] (defScope s_nadd) := ⟨rfl, rfl, rfl, by decide +kernel, rfl, by decide +kernel, by decide +kernel⟩
abbrev s_nsub : Stmt := inClass (top 22) 11
theorem sc_nsub : FnScope ["self", "other", "number", "root", "top", "part"] ["self", "other"] (defScope s_nsub) := ⟨rfl, rfl, rfl, by decide +kernel, rfl, by decide +kernel, by decide +kernel⟩
abbrev s_nover : Stmt := inClass (top 22) 14
theorem sc_nover : FnScope ["self", "other", "number", "root", "top", "part"] ["self", "other"] (defScope s_nover) := ⟨rfl, rfl, rfl, by decide +kernel, rfl, by decide +kernel, by decide +kernel⟩
abbrev s_neq : Stmt := inClass (top 22) 16
theorem sc_neq : FnScope ["self", "other"] ["self", "other"] (defScope s_neq) := ⟨rfl, rfl, rfl, by decide +kernel, rfl, by decide +kernel, by decide +kernel⟩
abbrev s_asnum : Stmt := top 25
theorem sc_asnum : FnScope ["value"] ["value"] (defScope s_asnum) := ⟨rfl, rfl, rfl, by decide +kernel, rfl, by decide +kernel, by decide +kernel⟩
abbrev s_operand : Stmt := top 26
theorem sc_operand : FnScope ["value", "number"] ["value"] (defScope s_operand) := ⟨rfl, rfl, rfl, by decide +kernel, rfl, by decide +kernel, by decide +kernel⟩
abbrev s_argument : Stmt := top 27
theorem sc_argument : FnScope ["value", "number"] ["value"] (defScope s_argument) := ⟨rfl, rfl, rfl, by decide +kernel, rfl, by decide +kernel, by decide +kernel⟩
abbrev s_croot : Stmt := top 28
theorem sc_croot : FnScope ["one", "other"] ["one", "other"] (defScope s_croot) := ⟨rfl, rfl, rfl, by decide +kernel, rfl, by decide +kernel, by decide +kernel⟩
abbrev s_diff : Stmt := top 29
theorem sc_diff : FnScope ["one", "other", "top", "part"] ["one", "other"] (defScope s_diff) := ⟨rfl, rfl, rfl, by decide +kernel, rfl, by decide +kernel, by decide +kernel⟩
abbrev s_norma : Stmt := top 30
theorem sc_norma : FnScope ["number"] ["number"] (defScope s_norma) := ⟨rfl, rfl, rfl, by decide +kernel, rfl, by decide +kernel, by decide +kernel⟩
def spPropE (CN : Addr) (k : Nat) (g : Nm → V) : Sp := fun vs H Q _ => ∃ a n, vs = [.ref a] ∧ NumAt CN H a n ∧ Good k n ∧ ∀ H', Ext H H' → Q (g n) H'
def spBin (CN : Addr) (g : Nm → Nm → Nm) : Sp := fun vs H Q _ => ∃ a v n m, vs = [.ref a, v] ∧ NumAt CN H a n ∧ Opd CN H v m ∧ Good 2000 n ∧ Good 2000 m ∧ OneRoot n m ∧ ∀ x H', Ext H H' → NumAt CN H' x (g n m) → Q (.ref x) H'
def spOver (CN : Addr) : Sp := fun vs H Q _ => ∃ a v n m, vs = [.ref a, v] ∧ NumAt CN H a n ∧ Opd CN H v m ∧ Good 2000 n ∧ Good 2000 m ∧ OneRoot n m ∧ ¬ (m.t = 0 ∧ m.p = 0) ∧ ∀ x H', Ext H H' → NumAt CN H' x (overN n m) → Q (.ref x) H'
def spCRoot (CN : Addr) : Sp := fun vs H Q _ => ∃ a b n m, vs = [.ref a, .ref b] ∧ NumAt CN H a n ∧ NumAt CN H b m ∧ OneRoot n m ∧ Q (.int (rt1 n m)) H
def spNormA (CN : Addr) : Sp := fun vs H Q _ => ∃ a n, vs = [.ref a] ∧ NumAt CN H a n ∧ Good 2000 n ∧ Q (.int (normA n)) H
def spDiff (CN : Addr) : Sp := fun vs H Q _ => ∃ a b n m, vs = [.ref a, .ref b] ∧ NumAt CN H a n ∧ NumAt CN H b m ∧ Good 2000 n ∧ Good 2000 m ∧ ∀ q H', Ext H H' → H' q = some (.tup [.int (n.t * m.b - m.t * n.b), .int (n.p * m.b - m.p * n.b)]) → Q (.ref q) H'
def spEqN (CN : Addr) : Sp := fun vs H Q _ => ∃ a b n m, vs = [.ref a, .ref b] ∧ NumAt CN H a n ∧ NumAt CN H b m ∧ Q (.bl (decide (n = m))) H
section
variable {P : Program} {w : World} {K : PySem.W.Frag} {mg : Str → Option Value} {base : Heap} {CN : Addr}
theorem ok_nsign (D : PropT K CN "sign" "Number.sign" s_nsign) (NC : NumT K mg CN) (F_sign_of_sum : FnAt P w K mg base 2 "sign_of_sum" ["top", "part", "root"] spSgn) : PropAt P w K mg base 3 CN "sign" (spPropE CN 5000 fun n => .int (sgn n.t n.p n.r)) := by
  refine propAt D sc_nsign (fun _ _ _ _ _ _ us hl => match us, hl with | [_], _ => rfl) (fun vs H Q E h => ?_) fun f cdv A outer s H vs Q E hr h => ?_
  · obtain ⟨a, n, rfl, _⟩ := h
    rfl
  obtain ⟨a, n, rfl, ⟨dx, e⟩, g, k⟩ := h
  exact ⟨_, (pss_one (ps_ret (callA F_sign_of_sum (hr.mono (by decide)) rfl (pa_cons (pe_fld (pv 0) rfl) (pa_cons (pe_fld (pv 0) rfl) (pa_cons (pe_fld (pv 0) rfl) pa_nil)))))), _, rfl, a, CN, dx, _, _, rfl, e, NC.cl, NC.nT, nf_top n, _, rfl, a, CN, dx, _, _, rfl, e, NC.cl, NC.nP, nf_part n, _, rfl, a, CN, dx, _, _, rfl, e, NC.cl, NC.nR, nf_root n, n.t, n.p, n.r, rfl, g.t, g.p, g.zr, k⟩
theorem ok_norma (D : DefAt K mg "_norm_above" s_norma) (NC : NumT K mg CN) (F_top : PropAt P w K mg base 1 CN "top" (spProp CN fun n => .int n.t)) (F_part : PropAt P w K mg base 1 CN "part" (spProp CN fun n => .int n.p)) (F_root : PropAt P w K mg base 1 CN "root" (spProp CN fun n => .int n.r)) :
    FnAt P w K mg base 3 "_norm_above" ["number"] (spNormA CN) := by
  refine fnAt D sc_norma (fun _ _ _ _ _ _ us hl => match us, hl with | [_], _ => rfl) (fun vs H Q E h => ?_) fun f cdv A outer s H vs Q E hr h => ?_
  · obtain ⟨a, n, rfl, _⟩ := h
    rfl
  obtain ⟨a, n, rfl, hn, g, k⟩ := h
  have pu : ∀ {gg : Nm → V} {Q : VK}, Q (gg n) H → ∃ a' dx fs, V.ref a = .ref a' ∧ H a' = some (.ins CN dx fs) ∧ spProp CN gg (.ref a' :: []) H Q E0 := fun q => prop_use hn ⟨a, n, rfl, hn, q⟩
  refine ⟨_, (pss_one (ps_ret (pe_op op_sub (pe_op op_mulW (propA F_top NC.cl (hr.mono (by decide)) (pv 0)) (propA F_top NC.cl (hr.mono (by decide)) (pv 0))) (pe_op op_mulW (pe_op op_mulW (propA F_part NC.cl (hr.mono (by decide)) (pv 0)) (propA F_part NC.cl (hr.mono (by decide)) (pv 0))) (propA F_root NC.cl (hr.mono (by decide)) (pv 0)))))), _, rfl, pu ⟨_, rfl, pu ⟨_, _, rfl, rfl, g.t.cmul g.t (by decide) (by decide) (by decide), ?_⟩⟩⟩
  refine ⟨_, rfl, pu ⟨_, rfl, pu ⟨_, _, rfl, rfl, g.p.cmul g.p (by decide) (by decide) (by decide), _, rfl, pu ?_⟩⟩⟩
  exact ⟨_, _, rfl, rfl, (g.p.mul g.p).cmul g.zr (by decide) (by decide) (by decide), _, _, rfl, rfl, k⟩
theorem ok_asnum (T : Bn mg) (D : DefAt K mg "_as_number" s_asnum) (NC : NumT K mg CN) (NI : NumI K CN) (F_init : InitAt P w K mg base 3 CN (spInit CN)) (F_is_any_integer : FnAt P w K mg base 1 "is_any_integer" ["value"] (spIsInt2 CN)) : FnAt P w K mg base 5 "_as_number" ["value"] (spOpd CN) := by
  refine fnAt D sc_asnum (fun _ _ _ _ _ _ us hl => match us, hl with | [_], _ => rfl) (fun vs H Q E h => ?_) fun f cdv A outer s H vs Q E hr h => ?_
  · obtain ⟨v, n, rfl, _⟩ := h
    rfl
  obtain ⟨v, n, rfl, h, k⟩ := h
  refine ⟨_, (pss_cons (ps_if (pt_val (callA F_is_any_integer (hr.mono (by decide)) rfl (pa_cons (pv 0) pa_nil))) (pss_one (ps_ret (mk1A F_init NC.g (hr.mono (by decide)) rfl (pa_cons (pv 0) pa_nil)))) pss_nil)
    (pss_one (ps_ret (pe_ifExp (pt_val (pe_callB call_isi (by rfl) T.b_isinstance (by decide +kernel) (pa_cons (pv 0) (pa_cons (pe_glob (v := .ref CN) rfl NC.g rfl) pa_nil)))) (pv 0) pe_non)))), ?_⟩
  rcases h with ⟨a, rfl, hn⟩ | ⟨i, rfl, rfl⟩
  · refine ⟨_, rfl, .inr ⟨a, n, rfl, hn, _, rfl, iteF ?_⟩⟩
    exact ⟨_, rfl, _, _, _, _, true, rfl, .own CN, hn.ty NC.cl NI, NI.kNum, _, rfl, iteT ⟨_, rfl, k a H (ext_refl H) hn⟩⟩
  · refine ⟨_, rfl, .inl ⟨i, rfl, _, rfl, iteT ⟨_, rfl, mk1_use fun x H3 hx ex hn => ?_⟩⟩⟩
    have el : lst i 0 0 1 = ⟨i, 0, 0, 1⟩ := by
      have c1 : coms i 0 1 = 1 := by
        unfold coms com
        rw [if_neg (by decide)]
        simp
      unfold lst
      rw [c1]
      simp
    rw [el] at hn
    exact k x H3 ex hn
theorem ok_operand (T : Bn mg) (D : DefAt K mg "_operand" s_operand) (F__as_number : FnAt P w K mg base 5 "_as_number" ["value"] (spOpd CN)) : FnAt P w K mg base 6 "_operand" ["value"] (spOpd CN) := by
  refine fnAt D sc_operand (fun _ _ _ _ _ _ us hl => match us, hl with | [_], _ => rfl) (fun vs H Q E h => ?_) fun f cdv A outer s H vs Q E hr h => ?_
  · obtain ⟨v, n, rfl, _⟩ := h
    rfl
  obtain ⟨v, n, rfl, h, k⟩ := h
  exact ⟨_, (pss_cons (ps_set (i := 1) sc_operand.nd rfl (Or.inl rfl) (callA F__as_number (hr.mono (by decide)) rfl (pa_cons (pv 0) pa_nil)))
    (pss_cons (ps_if (pt_cmpR op_isN (pv 1) pe_non (nomark _)) (pss_one ps_never) pss_nil)
    (pss_one (ps_ret (pv 1))))), _, rfl, v, n, rfl, h, fun x H1 e1 hn => ⟨_, rfl, rfl, _, rfl, iteF ⟨_, rfl, k x H1 e1 hn⟩⟩⟩
theorem ok_argument (T : Bn mg) (D : DefAt K mg "_argument" s_argument) (F__as_number : FnAt P w K mg base 5 "_as_number" ["value"] (spOpd CN)) : FnAt P w K mg base 6 "_argument" ["value"] (spOpd CN) := by
  refine fnAt D sc_argument (fun _ _ _ _ _ _ us hl => match us, hl with | [_], _ => rfl) (fun vs H Q E h => ?_) fun f cdv A outer s H vs Q E hr h => ?_
  · obtain ⟨v, n, rfl, _⟩ := h
    rfl
  obtain ⟨v, n, rfl, h, k⟩ := h
  exact ⟨_, (pss_cons (ps_set (i := 1) sc_argument.nd rfl (Or.inl rfl) (callA F__as_number (hr.mono (by decide)) rfl (pa_cons (pv 0) pa_nil)))
    (pss_cons (ps_if (pt_cmpR op_isN (pv 1) pe_non (nomark _)) (pss_one ps_never) pss_nil)
    (pss_one (ps_ret (pv 1))))), _, rfl, v, n, rfl, h, fun x H1 e1 hn => ⟨_, rfl, rfl, _, rfl, iteF ⟨_, rfl, k x H1 e1 hn⟩⟩⟩
theorem e_int (a b : Int) : decide (V.int a = V.int b) = decide (a = b) := decide_eq_decide.mpr ⟨fun z => V.int.inj z, fun z => by rw [z]⟩
theorem ok_croot (T : Bn mg) (D : DefAt K mg "_common_root" s_croot) (NC : NumT K mg CN) (F_root : PropAt P w K mg base 1 CN "root" (spProp CN fun n => .int n.r)) : FnAt P w K mg base 3 "_common_root" ["one", "other"] (spCRoot CN) := by
  refine fnAt D sc_croot (fun _ _ _ _ _ _ us hl => match us, hl with | [_, _], _ => rfl) (fun vs H Q E h => ?_) fun f cdv A outer s H vs Q E hr h => ?_
  · obtain ⟨a, b, n, m, rfl, _⟩ := h
    rfl
  obtain ⟨a, b, n, m, rfl, hn, hm, h1, k⟩ := h
  have pu : ∀ {gg : Nm → V} {Q : VK}, Q (gg n) H → ∃ a' dx fs, V.ref a = .ref a' ∧ H a' = some (.ins CN dx fs) ∧ spProp CN gg (.ref a' :: []) H Q E0 := fun q => prop_use hn ⟨a, n, rfl, hn, q⟩
  have pv_ : ∀ {gg : Nm → V} {Q : VK}, Q (gg m) H → ∃ a' dx fs, V.ref b = .ref a' ∧ H a' = some (.ins CN dx fs) ∧ spProp CN gg (.ref a' :: []) H Q E0 := fun q => prop_use hm ⟨b, m, rfl, hm, q⟩
  refine ⟨_, Evl.pss_cut (ps_if (PW.pt (pw_and (pt_cmpR op_ne (propA F_root NC.cl (hr.mono (by decide)) (pv 0)) pe_int (nomark _)) (pw_and (pt_cmpR op_ne (propA F_root NC.cl (hr.mono (by decide)) (pv 1)) pe_int (nomark _)) (pw_and1 (pt_cmpR op_ne (propA F_root NC.cl (hr.mono (by decide)) (pv 0)) (propA F_root NC.cl (hr.mono (by decide)) (pv 1)) (nomark _)))))) (pss_one ps_never) pss_nil) (pss_one (ps_ret (pe_callB (call_max2 rfl) (by rfl) T.b_max (by decide +kernel) (pa_cons (propA F_root NC.cl (hr.mono (by decide)) (pv 0)) (pa_cons (propA F_root NC.cl (hr.mono (by decide)) (pv 1)) pa_nil))))), fun σ' H' => σ' = [some (.ref a), some (.ref b)] ∧ H' = H, ?_, ?_⟩
  · refine ⟨_, rfl, pu ⟨rfl, _, rfl, ite2 (fun c1 => ?_) (fun c1 => ?_)⟩⟩
    · refine ⟨_, rfl, pv_ ⟨rfl, _, rfl, ite2 (fun c2 => ?_) (fun c2 => ?_)⟩⟩
      · refine ⟨_, rfl, pu ⟨_, rfl, pv_ ⟨rfl, _, rfl, ?_⟩⟩⟩
        rcases h1 with z | z | z
        · rw [z] at c1; exact absurd c1 (by decide)
        · rw [z] at c2; exact absurd c2 (by decide)
        · rw [z]
          simp only [decide_true, Bool.not_true]
          exact iteF ⟨rfl, rfl⟩
      · exact iteF ⟨rfl, rfl⟩
    · exact iteF ⟨rfl, rfl⟩
  · rintro σ' H' ⟨rfl, rfl⟩
    exact ⟨_, rfl, pu ⟨_, rfl, pv_ ⟨_, _, rfl, k⟩⟩⟩
end
end My
namespace My
open PySem PySem.Spec PyProof.Rows L2
local macro_rules | `(tactic| walk_at "side") => `(tactic| first | assumption | decide | exact Or.inl ⟨by decide, by decide⟩ | exact Or.inr ⟨by decide, by decide⟩ | exact ⟨by decide, by decide, by decide⟩ | omega | (unfold CMulW; decide +kernel) | (dsimp only; first | assumption | omega | decide +kernel) | exact len_ok (Nat.le_of_ble_eq_true rfl) | fail "side")
local macro_rules | `(tactic| walk_at "rd") => `(tactic| first
  | refine ⟨_, _, _, _, rfl, rfl, SqL.of upd_same, atI_nat (j := 0) rfl, ?_⟩ | refine ⟨_, _, _, _, rfl, rfl, SqL.of upd_same, atI_nat (j := 1) rfl, ?_⟩ | refine ⟨_, _, _, _, rfl, rfl, SqL.of upd_same, atI_nat (j := 2) rfl, ?_⟩
  | refine ⟨_, _, _, _, rfl, rfl, upd_same, rfl, ?_⟩
  | refine ⟨_, _, rfl, rfl, ?_⟩ | refine ⟨_, rfl, ?_⟩ | refine ⟨_, _, rfl, ?_⟩ | refine Or.inl ⟨_, rfl, ?_⟩ | refine Or.inr ⟨_, rfl, ?_⟩ | refine ⟨(by walk_at "side"), ?_⟩ | fail "rd")
theorem rt1_valid {k : Nat} {n m : Nm} {t p b : Int} (g : Good k n) (g' : Good k m) (hb : b ≠ 0) (hp : n.p = 0 → m.p = 0 → p = 0) : validN t p (rt1 n m) b = true :=
  valid_of hb ((rt1_is g g').elim (fun z => .inl ⟨z.1, hp z.2.1 z.2.2⟩) .inr)
section
variable {P : Program} {w : World} {K : PySem.W.Frag} {mg : Str → Option Value} {base : Heap} {CN : Addr}
theorem pu {CN a : Addr} {H : Hp} {n : Nm} {gg : Nm → V} {Q : VK} (hn : NumAt CN H a n) (q : Q (gg n) H) : ∃ a' dx fs, V.ref a = .ref a' ∧ H a' = some (.ins CN dx fs) ∧ spProp CN gg (.ref a' :: []) H Q E0 := prop_use hn ⟨a, n, rfl, hn, q⟩
theorem ok_diff (D : DefAt K mg "_difference_above" s_diff) (NC : NumT K mg CN) (F_top : PropAt P w K mg base 1 CN "top" (spProp CN fun n => .int n.t)) (F_part : PropAt P w K mg base 1 CN "part" (spProp CN fun n => .int n.p)) (F_bottom : PropAt P w K mg base 1 CN "bottom" (spProp CN fun n => .int n.b)) :
    FnAt P w K mg base 3 "_difference_above" ["one", "other"] (spDiff CN) := by
  refine fnAt D sc_diff (fun _ _ _ _ _ _ us hl => match us, hl with | [_, _], _ => rfl) (fun vs H Q E h => ?_) fun f cdv A outer s H vs Q E hr h => ?_
  · obtain ⟨a, b, n, m, rfl, _⟩ := h
    rfl
  obtain ⟨a, b, n, m, rfl, hn, hm, g, g', k⟩ := h
  refine ⟨_, (pss_cons (ps_set (i := 2) sc_diff.nd rfl (Or.inl rfl) (pe_op op_sub (pe_op op_mulW (propA F_top NC.cl (hr.mono (by decide)) (pv 0)) (propA F_bottom NC.cl (hr.mono (by decide)) (pv 1))) (pe_op op_mulW (propA F_top NC.cl (hr.mono (by decide)) (pv 1)) (propA F_bottom NC.cl (hr.mono (by decide)) (pv 0)))))
    (pss_cons (ps_set (i := 3) sc_diff.nd rfl (Or.inl rfl) (pe_op op_sub (pe_op op_mulW (propA F_part NC.cl (hr.mono (by decide)) (pv 0)) (propA F_bottom NC.cl (hr.mono (by decide)) (pv 1))) (pe_op op_mulW (propA F_part NC.cl (hr.mono (by decide)) (pv 1)) (propA F_bottom NC.cl (hr.mono (by decide)) (pv 0)))))
    (pss_one (ps_ret (pe_tup (pa_cons (pv 2) (pa_cons (pv 3) pa_nil))))))), ?_⟩
  refine ⟨_, rfl, pu hn ⟨_, rfl, pu hm ⟨_, _, rfl, rfl, g.t.cmul g'.b (by decide) (by decide) (by decide), _, rfl, pu hm ⟨_, rfl, pu hn ⟨_, _, rfl, rfl, g'.t.cmul g.b (by decide) (by decide) (by decide), _, _, rfl, rfl, ?_⟩⟩⟩⟩⟩
  refine ⟨_, rfl, pu hn ⟨_, rfl, pu hm ⟨_, _, rfl, rfl, g.p.cmul g'.b (by decide) (by decide) (by decide), _, rfl, pu hm ⟨_, rfl, pu hn ⟨_, _, rfl, rfl, g'.p.cmul g.b (by decide) (by decide) (by decide), _, _, rfl, rfl, ?_⟩⟩⟩⟩⟩
  exact ⟨_, rfl, _, rfl, len_ok (Nat.le_of_ble_eq_true rfl), fun q hq => k q _ (ext_new (ext_refl H) hq) upd_same⟩
theorem ok_nadd (D : OpT K CN .Add "__add__" "Number.__add__" s_nadd) (NC : NumT K mg CN) (F_init : InitAt P w K mg base 3 CN (spInit CN)) (F__operand : FnAt P w K mg base 6 "_operand" ["value"] (spOpd CN)) (F__common_root : FnAt P w K mg base 3 "_common_root" ["one", "other"] (spCRoot CN))
    (F_top : PropAt P w K mg base 1 CN "top" (spProp CN fun n => .int n.t)) (F_part : PropAt P w K mg base 1 CN "part" (spProp CN fun n => .int n.p)) (F_bottom : PropAt P w K mg base 1 CN "bottom" (spProp CN fun n => .int n.b)) : OpAt P w K mg base 7 CN .Add (spBin CN addN) := by
  refine opAt D sc_nadd (fun _ _ _ _ _ _ us hl => match us, hl with | [_, _], _ => rfl) (fun vs H Q E h => ?_) fun f cdv A outer s H vs Q E hr h => ?_
  · obtain ⟨a, v, n, m, rfl, _⟩ := h
    rfl
  obtain ⟨a, v, n, m, rfl, hn, hv, g, g', h1, k⟩ := h
  refine ⟨_, (pss_cons (ps_set (i := 2) sc_nadd.nd rfl (Or.inl rfl) (callA F__operand (hr.mono (by decide)) rfl (pa_cons (pv 1) pa_nil)))
    (pss_cons (ps_set (i := 3) sc_nadd.nd rfl (Or.inl rfl) (callA F__common_root (hr.mono (by decide)) rfl (pa_cons (pv 0) (pa_cons (pv 2) pa_nil))))
    (pss_cons (ps_set (i := 4) sc_nadd.nd rfl (Or.inl rfl) (pe_op op_add (pe_op op_mulW (pe_fld (pv 0) rfl) (propA F_bottom NC.cl (hr.mono (by decide)) (pv 2))) (pe_op op_mulW (propA F_top NC.cl (hr.mono (by decide)) (pv 2)) (pe_fld (pv 0) rfl))))
    (pss_cons (ps_set (i := 5) sc_nadd.nd rfl (Or.inl rfl) (pe_op op_add (pe_op op_mulW (pe_fld (pv 0) rfl) (propA F_bottom NC.cl (hr.mono (by decide)) (pv 2))) (pe_op op_mulW (propA F_part NC.cl (hr.mono (by decide)) (pv 2)) (pe_fld (pv 0) rfl))))
    (pss_one (ps_ret (mk4A F_init NC.g (hr.mono (by decide)) rfl (pa_cons (pv 4) (pa_cons (pv 5) pa_nil)) (pk_cons (pv 3) (pk_cons (pe_op op_mulW (pe_fld (pv 0) rfl) (propA F_bottom NC.cl (hr.mono (by decide)) (pv 2))) pk_nil))))))))), _, rfl, v, m, rfl, hv, fun b H1 e1 hm => ?_⟩
  have hn1 := hn.ext e1
  have hn2 := hn1
  obtain ⟨dx, q⟩ := hn2
  refine ⟨_, rfl, _, rfl, a, b, n, m, rfl, hn1, hm, h1, ?_⟩
  refine ⟨_, rfl, a, CN, dx, _, _, rfl, q, NC.cl, NC.nT, nf_top n, _, rfl, pu hm ⟨_, _, rfl, rfl, g.t.cmul g'.b (by decide) (by decide) (by decide), _, rfl, pu hm ⟨_, rfl, a, CN, dx, _, _, rfl, q, NC.cl, NC.nB, nf_bottom n, _, _, rfl, rfl, g'.t.cmul g.b (by decide) (by decide) (by decide), _, _, rfl, rfl, ?_⟩⟩⟩
  refine ⟨_, rfl, a, CN, dx, _, _, rfl, q, NC.cl, NC.nP, nf_part n, _, rfl, pu hm ⟨_, _, rfl, rfl, g.p.cmul g'.b (by decide) (by decide) (by decide), _, rfl, pu hm ⟨_, rfl, a, CN, dx, _, _, rfl, q, NC.cl, NC.nB, nf_bottom n, _, _, rfl, rfl, g'.p.cmul g.b (by decide) (by decide) (by decide), _, _, rfl, rfl, ?_⟩⟩⟩
  refine ⟨_, rfl, _, rfl, _, rfl, _, rfl, a, CN, dx, _, _, rfl, q, NC.cl, NC.nB, nf_bottom n, _, rfl, pu hm ⟨_, _, rfl, rfl, g.b.cmul g'.b (by decide) (by decide) (by decide), ?_⟩⟩
  exact mk4_use ⟨rt1_valid g g' (Int.mul_ne_zero g.b0 g'.b0) (fun x y => by rw [x, y]; simp), (g.b.mul g'.b).mono (by decide)⟩ fun x H3 hx ex hz => k x H3 (e1.trans ex) hz
theorem ok_nsub (D : OpT K CN .Sub "__sub__" "Number.__sub__" s_nsub) (NC : NumT K mg CN) (F_init : InitAt P w K mg base 3 CN (spInit CN)) (F__operand : FnAt P w K mg base 6 "_operand" ["value"] (spOpd CN)) (F__common_root : FnAt P w K mg base 3 "_common_root" ["one", "other"] (spCRoot CN))
    (F__difference_above : FnAt P w K mg base 3 "_difference_above" ["one", "other"] (spDiff CN)) (F_bottom : PropAt P w K mg base 1 CN "bottom" (spProp CN fun n => .int n.b)) : OpAt P w K mg base 7 CN .Sub (spBin CN subN) := by
  refine opAt D sc_nsub (fun _ _ _ _ _ _ us hl => match us, hl with | [_, _], _ => rfl) (fun vs H Q E h => ?_) fun f cdv A outer s H vs Q E hr h => ?_
  · obtain ⟨a, v, n, m, rfl, _⟩ := h
    rfl
  obtain ⟨a, v, n, m, rfl, hn, hv, g, g', h1, k⟩ := h
  refine ⟨_, (pss_cons (ps_set (i := 2) sc_nsub.nd rfl (Or.inl rfl) (callA F__operand (hr.mono (by decide)) rfl (pa_cons (pv 1) pa_nil)))
    (pss_cons (ps_set (i := 3) sc_nsub.nd rfl (Or.inl rfl) (callA F__common_root (hr.mono (by decide)) rfl (pa_cons (pv 0) (pa_cons (pv 2) pa_nil))))
    (pss_cons (ps_asg (callA F__difference_above (hr.mono (by decide)) rfl (pa_cons (pv 0) (pa_cons (pv 2) pa_nil))) (pg_tup (by rfl) (pgs_cons (pg_name (i := 4) sc_nsub.nd rfl (Or.inl rfl)) (pgs_cons (pg_name (i := 5) sc_nsub.nd rfl (Or.inl rfl)) pgs_nil))))
    (pss_one (ps_ret (mk4A F_init NC.g (hr.mono (by decide)) rfl (pa_cons (pv 4) (pa_cons (pv 5) pa_nil)) (pk_cons (pv 3) (pk_cons (pe_op op_mulW (pe_fld (pv 0) rfl) (propA F_bottom NC.cl (hr.mono (by decide)) (pv 2))) pk_nil)))))))), _, rfl, v, m, rfl, hv, fun b H1 e1 hm => ?_⟩
  have hn1 := hn.ext e1
  refine ⟨_, rfl, _, rfl, a, b, n, m, rfl, hn1, hm, h1, ?_⟩
  refine ⟨_, rfl, _, rfl, a, b, n, m, rfl, hn1, hm, g, g', fun q H2 e2 hq => ?_⟩
  have hm2 := hm.ext e2
  obtain ⟨dx, hq2⟩ := hn1.ext e2
  refine ⟨q, _, rfl, SqT.of hq, rfl, _, _, rfl, _, _, rfl, rfl, ?_⟩
  refine ⟨_, rfl, _, rfl, _, rfl, _, rfl, a, CN, dx, _, _, rfl, hq2, NC.cl, NC.nB, nf_bottom n, _, rfl, pu hm2 ⟨_, _, rfl, rfl, g.b.cmul g'.b (by decide) (by decide) (by decide), ?_⟩⟩
  exact mk4_use ⟨rt1_valid g g' (Int.mul_ne_zero g.b0 g'.b0) (fun x y => by rw [x, y]; simp), (g.b.mul g'.b).mono (by decide)⟩ fun x H3 hx ex hz => k x H3 ((e1.trans e2).trans ex) hz
theorem ok_nover (D : MethT K CN "over" "Number.over" s_nover) (NC : NumT K mg CN) (F_init : InitAt P w K mg base 3 CN (spInit CN)) (F__argument : FnAt P w K mg base 6 "_argument" ["value"] (spOpd CN)) (F__common_root : FnAt P w K mg base 3 "_common_root" ["one", "other"] (spCRoot CN))
    (F_sign : PropAt P w K mg base 3 CN "sign" (spPropE CN 5000 fun n => .int (sgn n.t n.p n.r))) (F__norm_above : FnAt P w K mg base 3 "_norm_above" ["number"] (spNormA CN))
    (F_top : PropAt P w K mg base 1 CN "top" (spProp CN fun n => .int n.t)) (F_part : PropAt P w K mg base 1 CN "part" (spProp CN fun n => .int n.p)) (F_bottom : PropAt P w K mg base 1 CN "bottom" (spProp CN fun n => .int n.b)) : MethAt P w K mg base 7 CN "over" ["self", "other"] (spOver CN) := by
  refine methAt D sc_nover (fun _ _ _ _ _ _ us hl => match us, hl with | [_, _], _ => rfl) (fun vs H Q E h => ?_) fun f cdv A outer s H vs Q E hr h => ?_
  · obtain ⟨a, v, n, m, rfl, _⟩ := h
    rfl
  obtain ⟨a, v, n, m, rfl, hn, hv, g, g', h1, h0, k⟩ := h
  refine ⟨_, (pss_cons (ps_set (i := 2) sc_nover.nd rfl (Or.inl rfl) (callA F__argument (hr.mono (by decide)) rfl (pa_cons (pv 1) pa_nil)))
    (pss_cons (ps_set (i := 3) sc_nover.nd rfl (Or.inl rfl) (callA F__common_root (hr.mono (by decide)) rfl (pa_cons (pv 0) (pa_cons (pv 2) pa_nil))))
    (pss_cons (ps_if (pt_cmpR op_eq (propA F_sign NC.cl (hr.mono (by decide)) (pv 2)) pe_int (nomark _)) (pss_one ps_never) pss_nil)
    (pss_cons (ps_set (i := 4) sc_nover.nd rfl (Or.inl rfl) (pe_op op_mulW (pe_op op_sub (pe_op op_mulW (pe_fld (pv 0) rfl) (propA F_top NC.cl (hr.mono (by decide)) (pv 2))) (pe_op op_mulW (pe_op op_mulW (pe_fld (pv 0) rfl) (propA F_part NC.cl (hr.mono (by decide)) (pv 2))) (pv 3))) (propA F_bottom NC.cl (hr.mono (by decide)) (pv 2))))
    (pss_cons (ps_set (i := 5) sc_nover.nd rfl (Or.inl rfl) (pe_op op_mulW (pe_op op_sub (pe_op op_mulW (pe_fld (pv 0) rfl) (propA F_top NC.cl (hr.mono (by decide)) (pv 2))) (pe_op op_mulW (pe_fld (pv 0) rfl) (propA F_part NC.cl (hr.mono (by decide)) (pv 2)))) (propA F_bottom NC.cl (hr.mono (by decide)) (pv 2))))
    (pss_one (ps_ret (mk4A F_init NC.g (hr.mono (by decide)) rfl (pa_cons (pv 4) (pa_cons (pv 5) pa_nil)) (pk_cons (pv 3) (pk_cons (pe_op op_mulW (pe_fld (pv 0) rfl) (callA F__norm_above (hr.mono (by decide)) rfl (pa_cons (pv 2) pa_nil))) pk_nil)))))))))), _, rfl, v, m, rfl, hv, fun b H1 e1 hm => ?_⟩
  refine ⟨_, rfl, _, rfl, a, b, n, m, rfl, hn.ext e1, hm, h1, ?_⟩
  refine ⟨_, rfl, prop_use hm ⟨b, m, rfl, hm, g'.mono (by decide), fun H2 e2 => ⟨rfl, _, rfl, ?_⟩⟩⟩
  have s0 : decide (V.int (sgn m.t m.p m.r) = V.int 0) = false := by
    rw [e_int]
    exact decide_eq_false (sgn_ne g'.r0.1 h0)
  rw [s0]
  refine iteF ?_
  have hm := hm.ext e2
  obtain ⟨dx, q⟩ := (hn.ext e1).ext e2
  have zr := rt1_zr g g'
  have na := normA_ne g' h0
  have zn : Sz 4011 (normA m) := (((g'.t.mul g'.t).mono (by decide)).sub ((g'.p.mul g'.p).mul g'.zr) : Sz (4010 + 1) _)
  refine ⟨_, rfl, a, CN, dx, _, _, rfl, q, NC.cl, NC.nT, nf_top n, _, rfl, pu hm ⟨_, _, rfl, rfl, g.t.cmul g'.t (by decide) (by decide) (by decide), _, rfl, a, CN, dx, _, _, rfl, q, NC.cl, NC.nP, nf_part n, _, rfl, pu hm ⟨_, _, rfl, rfl, g.p.cmul g'.p (by decide) (by decide) (by decide), _, rfl, _, _, rfl, rfl, (g.p.mul g'.p).cmul zr (by decide) (by decide) (by decide), _, _, rfl, rfl, ?_⟩⟩⟩
  refine ⟨_, rfl, pu hm ⟨_, _, rfl, rfl, ((((g.t.mul g'.t).mono (by decide)).sub ((g.p.mul g'.p).mul zr)) : Sz (4010 + 1) _).cmul g'.b (by decide) (by decide) (by decide), ?_⟩⟩
  refine ⟨_, rfl, a, CN, dx, _, _, rfl, q, NC.cl, NC.nP, nf_part n, _, rfl, pu hm ⟨_, _, rfl, rfl, g.p.cmul g'.t (by decide) (by decide) (by decide), _, rfl, a, CN, dx, _, _, rfl, q, NC.cl, NC.nT, nf_top n, _, rfl, pu hm ⟨_, _, rfl, rfl, g.t.cmul g'.p (by decide) (by decide) (by decide), _, _, rfl, rfl, ?_⟩⟩⟩
  refine ⟨_, rfl, pu hm ⟨_, _, rfl, rfl, ((g.p.mul g'.t).sub (g.t.mul g'.p)).cmul g'.b (by decide) (by decide) (by decide), ?_⟩⟩
  refine ⟨_, rfl, _, rfl, _, rfl, _, rfl, a, CN, dx, _, _, rfl, q, NC.cl, NC.nB, nf_bottom n, _, rfl, b, m, rfl, hm, g', _, _, rfl, rfl, g.b.cmul zn (by decide) (by decide) (by decide), ?_⟩
  exact mk4_use ⟨rt1_valid g g' (Int.mul_ne_zero g.b0 na) (fun x y => by rw [x, y]; simp), (g.b.mul zn).mono (by decide)⟩ fun x H3 hx ex hz => k x H3 ((e1.trans e2).trans ex) hz
theorem ok_neq (T : Bn mg) (D : SpT K CN "__eq__" "Number.__eq__" s_neq) (NC : NumT K mg CN) (NI : NumI K CN) : SpAt P w K mg base 1 CN "__eq__" ["self", "other"] (spEqN CN) := by
  refine spAt D sc_neq (fun _ _ _ _ _ _ us hl => match us, hl with | [_, _], _ => rfl) (fun vs H Q E h => ?_) fun f cdv A outer s H vs Q E hr h => ?_
  · obtain ⟨a, b, n, m, rfl, _⟩ := h
    rfl
  obtain ⟨a, b, n, m, rfl, hn, hm, k⟩ := h
  obtain ⟨dx, q⟩ := id hn
  obtain ⟨dy, q'⟩ := id hm
  have ne : ∀ {x y : Int}, n ≠ m → True := fun _ => True.intro
  refine ⟨_, (pss_one (ps_ret (pe_and (pe_callB call_isi (by rfl) T.b_isinstance (by decide +kernel) (pa_cons (pv 1) (pa_cons (pe_glob (v := .ref CN) rfl NC.g rfl) pa_nil))) (pe_and (pe_cmpR op_eq (pe_fld (pv 0) rfl) (pe_fld (pv 1) rfl) (nomark _)) (pe_and (pe_cmpR op_eq (pe_fld (pv 0) rfl) (pe_fld (pv 1) rfl) (nomark _)) (pe_and (pe_cmpR op_eq (pe_fld (pv 0) rfl) (pe_fld (pv 1) rfl) (nomark _)) (pe_one (pe_cmpR op_eq (pe_fld (pv 0) rfl) (pe_fld (pv 1) rfl) (nomark _))))))))), _, rfl, _, _, _, _, true, rfl, .own CN, hm.ty NC.cl NI, NI.kNum, _, rfl, iteT ?_⟩
  refine ⟨_, rfl, a, CN, dx, _, _, rfl, q, NC.cl, NC.nT, nf_top n, _, rfl, b, CN, dy, _, _, rfl, q', NC.cl, NC.nT, nf_top m, rfl, _, rfl, ?_⟩
  rw [e_int]
  refine ite2 (fun c1 => ?_) (fun c1 => ?_)
  · refine ⟨_, rfl, a, CN, dx, _, _, rfl, q, NC.cl, NC.nP, nf_part n, _, rfl, b, CN, dy, _, _, rfl, q', NC.cl, NC.nP, nf_part m, rfl, _, rfl, ?_⟩
    rw [e_int]
    refine ite2 (fun c2 => ?_) (fun c2 => ?_)
    · refine ⟨_, rfl, a, CN, dx, _, _, rfl, q, NC.cl, NC.nR, nf_root n, _, rfl, b, CN, dy, _, _, rfl, q', NC.cl, NC.nR, nf_root m, rfl, _, rfl, ?_⟩
      rw [e_int]
      refine ite2 (fun c3 => ?_) (fun c3 => ?_)
      · refine ⟨_, rfl, a, CN, dx, _, _, rfl, q, NC.cl, NC.nB, nf_bottom n, _, rfl, b, CN, dy, _, _, rfl, q', NC.cl, NC.nB, nf_bottom m, rfl, ?_⟩
        have e : decide (n = m) = decide (V.int n.b = V.int m.b) := by
          rw [e_int]
          refine decide_eq_decide.mpr ⟨fun z => by rw [z], fun z => ?_⟩
          have x1 := of_decide_eq_true c1
          have x2 := of_decide_eq_true c2
          have x3 := of_decide_eq_true c3
          cases n; cases m
          simp only at x1 x2 x3 z
          rw [x1, x2, x3, z]
        rw [e] at k
        exact k
      · have e : decide (n = m) = false := decide_eq_false fun z => c3 (by rw [z]; exact decide_eq_true rfl)
        rw [e] at k
        exact k
    · have e : decide (n = m) = false := decide_eq_false fun z => c2 (by rw [z]; exact decide_eq_true rfl)
      rw [e] at k
      exact k
  · have e : decide (n = m) = false := decide_eq_false fun z => c1 (by rw [z]; exact decide_eq_true rfl)
    rw [e] at k
    exact k
end
end My
namespace My
open PySem PySem.Spec PyProof.Rows L2
local macro_rules | `(tactic| walk_at "side") => `(tactic| first | assumption | decide | exact Or.inl ⟨by decide, by decide⟩ | exact Or.inr ⟨by decide, by decide⟩ | exact ⟨by decide, by decide, by decide⟩ | omega | (unfold CMulW; decide +kernel) | (dsimp only; first | assumption | omega | decide +kernel) | exact len_ok (Nat.le_of_ble_eq_true rfl) | fail "side")
local macro_rules | `(tactic| walk_at "rd") => `(tactic| first
  | refine ⟨_, _, _, _, rfl, rfl, SqL.of upd_same, atI_nat (j := 0) rfl, ?_⟩ | refine ⟨_, _, _, _, rfl, rfl, SqL.of upd_same, atI_nat (j := 1) rfl, ?_⟩ | refine ⟨_, _, _, _, rfl, rfl, SqL.of upd_same, atI_nat (j := 2) rfl, ?_⟩
  | refine ⟨_, _, _, _, rfl, rfl, upd_same, rfl, ?_⟩
  | refine ⟨_, _, rfl, rfl, ?_⟩ | refine ⟨_, rfl, ?_⟩ | refine ⟨_, _, rfl, ?_⟩ | refine Or.inl ⟨_, rfl, ?_⟩ | refine Or.inr ⟨_, rfl, ?_⟩ | refine ⟨(by walk_at "side"), ?_⟩ | fail "rd")
abbrev emptyS (w : World) : Obj := ⟨.type "set", none, .set #[] 0 (.fresh 0 0 (!w.params.followText "set-order")), #[]⟩
/-- what is made behind each turn: W, by the turn and what is left to do -/
abbrev SBlock (w : World) (J : It) (g : TG) (tt : TT) (te : TE) (vs : List Nat) (σ : L2.St) (H1 : Hp) (D : Addr) (Qd : Hp → Prop) : Prop :=
  ∃ W : Nat → Nat → Hp → Prop, (∃ m, W 0 m (upd H1 D (SetO w D (fun _ => false) 0))) ∧ ∀ i m H, W i m H →
    (J.stop i H ∧ Qd H) ∨ (J.go i H ∧ ∃ Nx : Hp → Prop, (∀ H', Nx H' → ∃ m', m' < m ∧ W (i + 1) m' H') ∧
      ∀ x H', J.yld i H x H' → g x (wipe σ vs) H' fun σ2 H2 => wipe σ2 vs = wipe σ vs ∧ tt σ2 H2 fun b H3 => if b = true then te σ2 H3 fun y H4 => rSAdd w (.ref D) [y] H4 fun _ H5 => Nx H5 else Nx H3)
def tScI (w : World) (wi : TI) (g : TG) (tt : TT) (te : TE) (vs : List Nat) : TE := fun σ H Q => wi σ H fun J H1 => ∀ D, H1 D = none → SBlock w J g tt te vs σ H1 D fun H' => Q (.ref D) H'
section
variable {X : Cx}
theorem pe_scI {elt tg iter : Expr} {ifs : List Expr} {scope : Scope} {own : List (PySem.Str × Nat)} {pos : Pos} {wi : TI} {g : TG} {tt : TT} {te : TE} (hc : X.calm = true) (hN : X.N.Nodup) (hi : PI X tg iter wi) (ok : BlkOk X.N X.env.scope scope own)
    (hg : ∀ (sb : Shared) (Hb : Hp) (L : Addr) (cs : List (PySem.Str × Addr)) (fb : List Addr), PG (X.blk sb Hb scope (compEnvC scope cs L X.env) fb) tg g)
    (ht : ∀ (sb : Shared) (Hb : Hp) (L : Addr) (cs : List (PySem.Str × Addr)) (fb : List Addr), PTs (X.blk sb Hb scope (compEnvC scope cs L X.env) fb) ifs tt)
    (he : ∀ (sb : Shared) (Hb : Hp) (L : Addr) (cs : List (PySem.Str × Addr)) (fb : List Addr), PE (X.blk sb Hb scope (compEnvC scope cs L X.env) fb) elt te)
    (hs : ∀ x, foldedSetIterable iter X.env x = pure x := by intro _; rfl) : PE X (.SetComp elt [⟨tg, iter, ifs, 0⟩] scope pos) (tScI X.w wi g tt te (own.map (·.2))) := by
  refine ⟨fun pins s σ H Q I h => ?_⟩
  rw [PpSet.eval_SetComp]
  have cells : ∀ y ∈ scope.names, y.2 = .free → ∃ c, X.env.cells.lookup y.1 = some c := fun y hy e => (ok.free y hy e).elim (fun z => I.ok.has _ (.inl z)) fun z => I.ok.has _ (.inr z)
  refine wpAny_comprehension_free rfl hs (closure_ok cells) ok.kind (fun y hy e => (ok.uniq y hy).trans (congrArg some e)) ?_
  refine thn (hi.run pins s σ H _ I h) fun _ _ hx => thn hx fun _ sI hIt => ?_
  obtain ⟨it, fb, tn, J, HI, rfl, iI, T, tn0, ff, blk⟩ := hIt
  refine PpSet.newSet_ok (newEnv_comp ?_)
  obtain ⟨W, ⟨mW, w0⟩, turn⟩ := blk sI.heap.objs.size (iI.hok.fresh (Nat.le_refl _))
  -- with the new set
  have lt : ∀ b ∈ fb, b < sI.heap.objs.size := fun b hb => let ⟨_, e, _⟩ := T.obj _ _ tn0 b hb; Heap.lt_size e
  have sR : SetR X.w (sI.heap.push (emptyS X.w)) sI.heap.objs.size (fun _ => false) 0 := setR_fresh X.w
  generalize eD : sI.heap.objs.size = D at *
  generalize eN : sI.heap.push (emptyS X.w) = hN2 at *
  have szN : hN2.objs.size = D + 1 := by rw [← eN, Heap.size_push, eD]
  have kN : ∀ b o, sI.heap.get? b = some o → hN2.get? b = some o := fun b o e => by rw [← eN]; exact Heap.get?_push_of_some _ e
  generalize eS : ({ sI with heap := hN2 } : Shared) = sN
  have eSh : sN.heap = hN2 := by rw [← eS]
  generalize eH : upd HI D (SetO X.w D (fun _ => false) 0) = HN at *
  have iN : Inv X pins σ HN sN := by
    rw [← eH, ← eS]
    exact iI.laid (t' := sI.toks) kN (Nat.le_of_eq eD) (setO_new sR)
  have fN : ∀ b ∈ fb, FpOk X pins HN b ∧ b < sN.heap.objs.size := fun b hb => by
    have l : b < D := lt b hb
    have f := ff b hb
    refine ⟨⟨?_, f.2⟩, by rw [eSh, szN]; exact Nat.lt_succ_of_lt l⟩
    rw [← eH, upd_ne (Nat.ne_of_lt l)]
    exact f.1
  have tN : tn 0 sN.heap := T.keep _ _ _ tn0 fun b _ o e => by rw [eSh]; exact kN b o e
  have iB := block_start iN ok hN fN
  have pg := hg sN HN sN.heap.objs.size (cellsFrom (sN.heap.objs.size + 1) scope.names (cloFrom X.env.cells scope.names [])) fb
  have pt := ht sN HN sN.heap.objs.size (cellsFrom (sN.heap.objs.size + 1) scope.names (cloFrom X.env.cells scope.names [])) fb
  have pe := he sN HN sN.heap.objs.size (cellsFrom (sN.heap.objs.size + 1) scope.names (cloFrom X.env.cells scope.names [])) fb
  have goal : ∀ eb : Env, eb = compEnvC scope (cellsFrom (sN.heap.objs.size + 1) scope.names (cloFrom X.env.cells scope.names [])) sN.heap.objs.size X.env →
      codeAny (model X.prog X.w) X.A (.compStart (.SetComp elt [⟨tg, iter, ifs, 0⟩] scope pos) 0 (.ref it) (.ref D) eb) (compPost (model X.prog X.w) X.A X.xe none (EP X pins σ Q) (.ref D) sN.heap.objs.size)
        { sN with heap := pushCells (sN.heap.push { cls := .type "dict", data := .dict #[] }) scope.names } := by
    intro eb hb
    rw [← hb] at iB pg pt pe
    have locB : eb.locals = sN.heap.objs.size := by rw [hb]; rfl
    generalize eB : ({ sN with heap := pushCells (sN.heap.push { cls := .type "dict", data := .dict #[] }) scope.names } : Shared) = sB at iB ⊢
    have tB : tn 0 sB.heap := T.keep _ _ _ tN fun b _ o e => by rw [← eB]; exact pushCells_keeps _ _ _ _ (Heap.get?_push_of_some _ e)
    have still : ∀ {σz : L2.St} {Hz : Hp} {sz : Shared}, Inv (X.blk sN HN scope eb fb) [] σz Hz sz → (∀ b ∈ fb, Hz b = none) → ∀ b ∈ fb, FpOk (X.blk sN HN scope eb fb) [] Hz b := fun iz nz b hb =>
      ⟨nz b hb, (iz.ok.exf b hb).1, iz.ok.exfs b hb, .inl hb, fun x c e => (iz.ok.exf b hb).2 x c e, fun p hp => nomatch (show p ∈ ([] : List (Addr × Obj)) ++ [] from hp)⟩
    have loop : codeAny (model X.prog X.w) X.A (.compLoop (.SetComp elt [⟨tg, iter, ifs, 0⟩] scope pos) 0 (.ref it) (.ref D) eb) (compPost (model X.prog X.w) X.A X.xe none (EP X pins σ Q) (.ref D) sN.heap.objs.size) sB := by
      refine PpSet.compLoopS_any (fun m sz => ∃ i Hz, W i m Hz ∧ tn i sz.heap ∧ (∀ b ∈ fb, Hz b = none) ∧ Inv (X.blk sN HN scope eb fb) [] (wipe σ (own.map (·.2))) Hz sz) (fun m s5 hI => ?_) mW ⟨0, HN, w0, tB, fun b hb => (fN b hb).1.1, iB⟩
      obtain ⟨i, H5, w5, t5, n5, i5⟩ := hI
      rcases turn i m H5 w5 with ⟨stop, fin⟩ | ⟨go, Nx, less, step⟩
      · refine thnF (T.done (X.blk sN HN scope eb fb) rfl rfl rfl hc i [] s5 _ H5 (fun _ _ => False) i5 (still i5 n5) t5 stop) fun r s6 ⟨er, i6⟩ => ?_
        subst er
        have iX : Inv X pins σ H5 s6 := iN.call' (ch := fb) i6.os i6.base i6.hok i6.bare fun b hb => let f := (fN b hb).1; ⟨f.2.2.2.1, f.2.1, f.2.2.2.2.1, f.2.2.2.2.2⟩
        have free : H5 sN.heap.objs.size = none := locB ▸ (show H5 eb.locals = none from i6.free)
        obtain ⟨mN, hnN, _⟩ := i6.loc
        have hnN : s6.heap.Ns sN.heap.objs.size mN := locB ▸ (show s6.heap.Ns eb.locals mN from hnN)
        obtain ⟨f0, f1, f2, f3, f4, f5⟩ := iN.fpOk (Nat.le_refl _) free
        refine ⟨mN, hnN, fun h'' same => ?_⟩
        exact ⟨.ref D, H5, iX.turned (t' := s6.toks) (fun b o nb e => (same.2 b nb).trans e) f0 f1 f3 f4 f5, rfl, fin⟩
      · refine thnF (T.item (X.blk sN HN scope eb fb) rfl rfl rfl hc i [] s5 _ H5 (fun _ _ => False) i5 (still i5 n5) t5 go) fun r s6 ⟨u, er, h6⟩ => ?_
        subst er
        refine thnF h6 fun _ s7 ⟨x, H7, i7, r7, y7, t7, n7⟩ => ?_
        refine thnF (pg.run _ s7 _ H7 x u _ (i7.pinned (still i7 n7) (T.obj _ _ t7)) r7 (step x H7 y7)) fun _ s8 ⟨σ8, H8, i8, hw, q8⟩ => ?_
        have next : ∀ {sz : Shared} {Hz : Hp}, Inv (X.blk sN HN scope eb fb) ([] ++ pinsAt fb s7.heap) σ8 Hz sz → Nx Hz → ∃ k, k < m ∧ ∃ i Hz, W i k Hz ∧ tn i sz.heap ∧ (∀ b ∈ fb, Hz b = none) ∧ Inv (X.blk sN HN scope eb fb) [] (wipe σ (own.map (·.2))) Hz sz := by
          intro sz Hz iz nz
          have pin : ∀ b ∈ fb, ∀ o, s7.heap.get? b = some o → sz.heap.get? b = some o ∧ Hz b = none := fun b hb o e => by
            have z := iz.pin (b, o) (List.mem_append_right _ (List.mem_append_right _ (mem_pinsAt hb e)))
            exact ⟨z.1, z.2.1⟩
          obtain ⟨k, lk, wk⟩ := less Hz nz
          have ll : (wipe σ (own.map (·.2))).length = σ8.length := by rw [← hw]; exact wipe_length σ8 _
          refine ⟨k, lk, i + 1, Hz, wk, T.keep _ _ _ t7 (fun b hb o e => (pin b hb o e).1), fun b hb => let ⟨o, e, _⟩ := T.obj _ _ t7 b hb; (pin b hb o e).2, (iz.unpinned (pins := [])).weak ll fun j v e => ?_⟩
          rw [← hw] at e
          exact (wipe_some e).1
        refine thnF (pt.run _ s8 σ8 H8 _ i8 q8) fun b s9 ⟨H9, i9, q9⟩ => ?_
        cases b with
        | false => exact next i9 q9
        | true =>
          refine thnF (pe.run _ s9 σ8 H9 _ i9 q9) fun z sA ⟨y, HA, iA, rA, qA⟩ => ?_
          refine thnF (mt_sadd (X := X.blk sN HN scope eb fb) _ sA σ8 HA (.ref D) [y] (.ref D) [z] _ iA rfl (.cons rA .nil) qA) fun _ sC ⟨_, HC, iC, _, qC⟩ => next iC qC
    exact PpSet.codeAny_compStart_set loop (T.self X.A 0 _ _ _ tB loop)
  subst eS
  exact goal _ rfl
end
end My
namespace My
open PySem PySem.Spec PyProof.Rows L2
local macro_rules | `(tactic| walk_at "side") => `(tactic| first | assumption | decide | exact Or.inl ⟨by decide, by decide⟩ | exact Or.inr ⟨by decide, by decide⟩ | exact ⟨by decide, by decide, by decide⟩ | omega | (unfold CMulW; decide +kernel) | (dsimp only; first | assumption | omega | decide +kernel) | exact len_ok (Nat.le_of_ble_eq_true rfl) | fail "side")
local macro_rules | `(tactic| walk_at "rd") => `(tactic| first
  | refine ⟨_, _, _, _, rfl, rfl, SqL.of upd_same, atI_nat (j := 0) rfl, ?_⟩ | refine ⟨_, _, _, _, rfl, rfl, SqL.of upd_same, atI_nat (j := 1) rfl, ?_⟩ | refine ⟨_, _, _, _, rfl, rfl, SqL.of upd_same, atI_nat (j := 2) rfl, ?_⟩
  | refine ⟨_, _, _, _, rfl, rfl, upd_same, rfl, ?_⟩
  | refine ⟨_, _, rfl, rfl, ?_⟩ | refine ⟨_, rfl, ?_⟩ | refine ⟨_, _, rfl, ?_⟩ | refine Or.inl ⟨_, rfl, ?_⟩ | refine Or.inr ⟨_, rfl, ?_⟩ | refine ⟨(by walk_at "side"), ?_⟩ | fail "rd")
abbrev s_hor : Stmt := top 23
theorem sc_hor : FnScope ["numbers", "number"] ["numbers"] (defScope s_hor) := ⟨rfl, rfl, rfl, by decide +kernel, rfl, by decide +kernel, by decide +kernel⟩
def rLenS (w : World) : List V → Hp → VK → Prop := fun vs H Q => ∃ a S n, vs = [.ref a] ∧ H a = some (SetO w a S n) ∧ n < 100000 ∧ Q (.int (n : Nat)) H
/-- how many are different -/
def difs (l : List Int) : Nat := (l.foldl PyProof.Rows.step_dedup []).length
theorem firstMet_fold (ns : List Int) : ∀ i, i ≤ ns.length → PyProof.Rows.firstMet (fun i => ns.getD i 0) i = (ns.take i).foldl PyProof.Rows.step_dedup []
  | 0, _ => rfl
  | i + 1, h => by
    rw [PyProof.Rows.firstMet_succ, firstMet_fold ns i (by omega), List.take_add_one, List.getElem?_eq_getElem (by omega), Option.toList_some, List.foldl_append, List.getD_eq_getElem?_getD, List.getElem?_eq_getElem (by omega)]
    rfl
section
variable {X : Cx}
theorem cr_lenS : CallR X (.builtin "len") (rLenS X.w) := by
  intro pins s σ H vs us Q I r h
  obtain ⟨a, S, n, rfl, ha, hn, q⟩ := h
  cases r with
  | cons r1 r =>
    cases r
    cases r1
    obtain ⟨o, es, ep, t, ho, hex, hd, _, _, _, _, hf, en, _⟩ := setO_get I ha
    exact call_len_set ho hex hd hf (by rw [en]; omega) ⟨.int (n : Nat), H, I.tok _, ⟨_, by rw [en]⟩, q⟩
end
/-- the numbers of a tuple, one by one -/
def AllNum (CN : Addr) (H : Hp) (xs : List V) (ns : List Nm) : Prop := xs.length = ns.length ∧ ∀ (i : Nat) (x : V), xs[i]? = some x → ∃ (a : Addr) (n : Nm), x = V.ref a ∧ ns[i]? = some n ∧ NumAt CN H a n
theorem AllNum.ext {CN : Addr} {H H' : Hp} {xs : List V} {ns : List Nm} (h : AllNum CN H xs ns) (e : Ext H H') : AllNum CN H' xs ns := ⟨h.1, fun i x hi => let ⟨a, n, e1, e2, q⟩ := h.2 i x hi; ⟨a, n, e1, e2, q.ext e⟩⟩
def nz (l : List Int) : List Int := l.filter fun r => !decide (r = 0)
theorem sc_tupI {w : World} {K : PySem.W.Frag} {a : Addr} {xs : List V} {g : TG} {tt : TT} {te : TE} {vs : List Nat} {σ : L2.St} {H1 : Hp} {D : Addr} {Qd : Hp → Prop} (Pv : Nat → Hp → Prop) (h0 : Pv 0 (upd H1 D (SetO w D (fun _ => false) 0))) (hl : ∀ i H, Pv i H → SqT K H a xs)
    (hs : ∀ i x H, xs[i]? = some x → Pv i H → g x (wipe σ vs) H fun σ2 H2 => wipe σ2 vs = wipe σ vs ∧ tt σ2 H2 fun b H3 => if b = true then te σ2 H3 fun y H4 => rSAdd w (.ref D) [y] H4 fun _ H5 => Pv (i + 1) H5 else Pv (i + 1) H3)
    (hd : ∀ H, Pv xs.length H → Qd H) : SBlock w (Itt K a) g tt te vs σ H1 D Qd := by
  refine ⟨fun i m H => m = xs.length - i ∧ i ≤ xs.length ∧ Pv i H, ⟨xs.length, rfl, Nat.zero_le _, h0⟩, fun i m H ⟨em, hi, p⟩ => ?_⟩
  by_cases lt : i < xs.length
  · refine .inr ⟨⟨xs, xs[i], hl i H p, List.getElem?_eq_getElem lt⟩, Pv (i + 1), fun H' p' => ⟨xs.length - (i + 1), by omega, rfl, lt, p'⟩, fun x H' y => ?_⟩
    obtain ⟨rfl, y⟩ := y
    exact hs i x _ (y xs (hl i _ p)) p
  · obtain rfl : i = xs.length := by omega
    exact .inl ⟨⟨xs, hl _ H p, Nat.le_refl _⟩, hd H p⟩
def rootsIn (w : World) (H1 : Hp) (D : Addr) (rs : List Int) (i : Nat) (H : Hp) : Prop := Ext H1 H ∧ ∃ S, H D = some (SetO w D S (difs (nz (rs.take i)))) ∧ ∀ k, S k = decide (k ∈ (nz (rs.take i)).foldl PyProof.Rows.step_dedup [])
theorem foldl_snoc {l : List Int} {k : Int} : (l ++ [k]).foldl PyProof.Rows.step_dedup [] = PyProof.Rows.step_dedup (l.foldl PyProof.Rows.step_dedup []) k := by rw [List.foldl_append]; rfl
theorem step_mem {l : List Int} {k : Int} : PyProof.Rows.step_dedup l k = if k ∈ l then l else l ++ [k] := by
  unfold PyProof.Rows.step_dedup
  by_cases h : k ∈ l
  · rw [if_pos h, if_pos (by simpa using h)]
  · rw [if_neg h, if_neg (by simpa using h)]
theorem nz_take {rs : List Int} {i : Nat} {r : Int} (h : rs[i]? = some r) : nz (rs.take (i + 1)) = if r = 0 then nz (rs.take i) else nz (rs.take i) ++ [r] := by
  unfold nz
  rw [take_next h, List.filter_append]
  by_cases hr : r = 0
  · rw [if_pos hr]; simp [hr]
  · rw [if_neg hr]; simp [hr]
theorem difs_le (l : List Int) : difs l ≤ l.length := by
  have z := PyProof.Rows.firstMet_length_le (fun i => l.getD i 0) l.length
  rw [firstMet_fold l _ (Nat.le_refl _), List.take_length] at z
  exact z
theorem nz_len (l : List Int) : (nz l).length ≤ l.length := List.length_filter_le _ _
section
variable {P : Program} {w : World} {K : PySem.W.Frag} {mg : Str → Option Value} {base : Heap} {CN IN : Addr}
def spHor (CN : Addr) : Sp := fun vs H Q _ => ∃ a xs ns, vs = [.ref a] ∧ H a = some (.tup xs) ∧ AllNum CN H xs ns ∧ xs.length ≤ 1000 ∧ ∀ H', Ext H H' → Q (.bl (decide ((difs (nz (ns.map Nm.r)) : Int) ≤ 1))) H'
theorem kit_tuptup : kitB "tuple" "tuple" = some true := by decide +kernel
theorem ok_hor (T : Bn mg) (D : DefAt K mg "have_one_root" s_hor) (NC : NumT K mg CN) (NI : NumI K CN) (F_root : PropAt P w K mg base 1 CN "root" (spProp CN fun n => .int n.r)) : FnAt P w K mg base 3 "have_one_root" ["numbers"] (spHor CN) := by
  refine fnAt D sc_hor (fun _ _ _ _ _ _ us hl => match us, hl with | [_], _ => rfl) (fun vs H Q E h => ?_) fun f cdv A outer s H vs Q E hr h => ?_
  · obtain ⟨a, xs, ns, rfl, _⟩ := h
    rfl
  obtain ⟨a, xs, ns, rfl, ha, al, hl, k⟩ := h
  refine ⟨_, (pss_cons (ps_if (PW.pt (pw_or (pt_not (pt_val (pe_callB call_isi (by rfl) T.b_isinstance (by decide +kernel) (pa_cons (pv 0) (pa_cons (pe_bltn (v := .ty "tuple") (by rfl) T.b_tuple (by decide +kernel) rfl) pa_nil))))) (pw_or1 (pt_not (pt_val (pe_callB (cr_all rfl) (by rfl) T.b_all (by decide +kernel) (pa_cons (pe_lc (own := [("number", 1)]) (g := gName 1) (tt := tYes) rfl sc_hor.nd (pi_tup (pv 0)) (blkOk_by (N := ["numbers", "number"]) (sc := defScope s_hor) (by decide +kernel)) (fun _ _ _ _ _ => pg_name (i := 1) sc_hor.nd rfl (Or.inl rfl)) (fun _ _ _ _ _ => pts_nil) (fun _ _ _ _ _ => (pe_callB (show CallR _ (.builtin "isinstance") (rIsi K) from call_isi) (by rfl) T.b_isinstance (by decide +kernel) (pa_cons (pv 1) (pa_cons (pe_glob (v := .ref CN) rfl NC.g rfl) pa_nil))))) pa_nil))))))) (pss_one ps_never) pss_nil)
    (pss_one (ps_ret (pe_cmpR op_le (pe_callB cr_lenS (by rfl) T.b_len (by decide +kernel) (pa_cons (pe_scI (own := [("number", 1)]) (g := gName 1) (tt := _) rfl sc_hor.nd (pi_tup (pv 0)) (blkOk_by (N := ["numbers", "number"]) (sc := defScope s_hor) (by decide +kernel)) (fun _ _ _ _ _ => pg_name (i := 1) sc_hor.nd rfl (Or.inl rfl)) (fun _ _ _ _ _ => pts_one (pt_cmpR op_ne (propA F_root NC.cl (hr.mono (by decide)) (pv 1)) pe_int (nomark _))) (fun _ _ _ _ _ => (propA F_root NC.cl (hr.mono (by decide)) (pv 1)))) pa_nil)) pe_int (nomark _))))), ?_⟩
  refine ⟨_, rfl, _, _, _, _, true, rfl, .ty _, .base (.tup ha), kit_ty kit_tuptup, _, rfl, iteF ?_⟩
  refine ⟨_, rfl, a, rfl, ⟨_, SqT.of ha⟩, fun D hD => map_tup (xs := xs) (fun _ _ => .bl true) (SqT.of ha) hD (by omega) (fun _ => rfl) (fun i x H' hi e Q' k' => ?_) fun H' e hl2 => ?_⟩
  · obtain ⟨b, n, rfl, _, hn⟩ := al.2 i x hi
    exact ⟨_, rfl, _, _, _, _, true, rfl, .own CN, (hn.ext e).ty NC.cl NI, NI.kNum, k' H' (ext_refl _)⟩
  have eb : (xs.mapIdx fun _ _ => V.bl true) = (xs.map fun _ => true).map V.bl := by
    rw [List.map_map, List.mapIdx_eq_iff]
    intro i
    rw [List.getElem?_map]
    rfl
  rw [eb] at hl2
  refine ⟨D, xs.map fun _ => true, rfl, SqL.of hl2, _, rfl, ?_⟩
  have ea : (xs.map fun _ => true).all id = true := by simp
  refine ite2 (fun h => absurd h (by rw [ea]; decide)) (fun _ => ?_)
  have ha1 := e _ _ ha
  have al1 := al.ext e
  refine ⟨_, rfl, a, rfl, ⟨_, SqT.of ha1⟩, fun D2 hD2 => sc_tupI (xs := xs) (rootsIn w H' D2 (ns.map Nm.r)) ⟨ext_new (ext_refl _) hD2, fun _ => false, upd_same, fun k => by simp [nz]⟩ (fun i H2 p => (SqT.of ha1).ext p.1) (fun i x H2 hi p => ?_) fun H2 p => ?_⟩
  · obtain ⟨b, n, rfl, en, hn⟩ := al1.2 i x hi
    obtain ⟨e2, S, hS, hm⟩ := p
    have hn2 := hn.ext e2
    have er : (ns.map Nm.r)[i]? = some n.r := by rw [List.getElem?_map, en]; rfl
    have hlt : i < xs.length := (List.getElem?_eq_some_iff.mp hi).1
    have small : difs (nz ((ns.map Nm.r).take i)) ≤ 1000 := Nat.le_trans (difs_le _) (Nat.le_trans (nz_len _) (Nat.le_trans (List.length_take_le _ _) (by omega)))
    refine ⟨rfl, _, rfl, pu hn2 ⟨rfl, ?_⟩⟩
    have e0 : (!decide (V.int n.r = V.int 0)) = !decide (n.r = 0) := by rw [e_int]
    rw [e0]
    by_cases hr0 : n.r = 0
    · rw [decide_eq_true hr0]
      refine ⟨_, rfl, ite2 (fun h => absurd h (by decide)) (fun _ => ⟨e2, S, ?_, fun k => ?_⟩)⟩
      · rw [nz_take er, if_pos hr0]; exact hS
      · rw [nz_take er, if_pos hr0]; exact hm k
    · rw [decide_eq_false hr0]
      refine ⟨_, rfl, ite2 (fun _ => ⟨_, rfl, pu hn2 ⟨D2, n.r, S, _, rfl, rfl, hS, by unfold scanBound; omega, ext_mut e2 hD2, fun j => S j || decide (j = n.r), ?_, fun k => ?_⟩⟩) (fun h => absurd rfl h)⟩
      · rw [upd_same, nz_take er, if_neg hr0]
        unfold difs
        rw [foldl_snoc, step_mem, hm n.r]
        by_cases hin : n.r ∈ (nz ((ns.map Nm.r).take i)).foldl PyProof.Rows.step_dedup []
        · rw [if_pos hin, if_pos (decide_eq_true hin)]; rfl
        · rw [if_neg hin, if_neg (by simpa using hin), List.length_append]; rfl
      · rw [nz_take er, if_neg hr0, foldl_snoc, step_mem]
        show (S k || decide (k = n.r)) = _
        rw [hm k]
        by_cases hin : n.r ∈ (nz ((ns.map Nm.r).take i)).foldl PyProof.Rows.step_dedup []
        · rw [if_pos hin]
          by_cases hk : k = n.r
          · subst hk; simp [hin]
          · simp [hk]
        · rw [if_neg hin]
          simp [List.mem_append, Bool.decide_or]
  · obtain ⟨e2, S, hS, hm⟩ := p
    rw [show (ns.map Nm.r).take xs.length = ns.map Nm.r from List.take_of_length_le (by rw [List.length_map, al.1]; exact Nat.le_refl _)] at hS
    have small : difs (nz (ns.map Nm.r)) ≤ 1000 := Nat.le_trans (difs_le _) (Nat.le_trans (nz_len _) (by rw [List.length_map, ← al.1]; exact hl))
    exact ⟨D2, S, _, rfl, hS, by omega, _, _, rfl, rfl, k _ ((e).trans e2)⟩
end
end My
namespace My
open PySem PySem.Spec PyProof.Rows L2
/-- texts and what they are taken to -/
def zkV (ks : List Str) (ys : List V) : List (Key × V) := (ks.zip ys).map fun p => ((Sum.inr p.1 : Key), p.2)
theorem zkV_len {ks : List Str} {ys : List V} (h : ks.length = ys.length) : (zkV ks ys).length = ks.length := by
  unfold zkV
  rw [List.length_map, List.length_zip, h, Nat.min_self]
theorem zkV_at {ks : List Str} {ys : List V} {i : Nat} {k : Str} {y : V} (hk : ks[i]? = some k) (hy : ys[i]? = some y) : (zkV ks ys)[i]? = some (.inr k, y) := by
  unfold zkV
  rw [List.getElem?_map, List.getElem?_zip_eq_some (z := (k, y)) |>.mpr ⟨hk, hy⟩]
  rfl
end My
namespace My
open PySem PySem.Spec PyProof.Rows L2
section
variable {K : PySem.W.Frag} {a D : Addr} {xs : List V} {te : TE} {vs : List Nat} {σ : L2.St} {H1 : Hp} {j : Nat}
/-- what is said of the list D survives, when only D changes -/
def Keeps (D : Addr) (Pv : List V → Hp → Prop) : Prop := ∀ acc H H', Pv acc H → (∃ l, H D = some (.lst l)) → (∀ a u, H a = some u → a ≠ D → H' a = some u) → Pv acc H'
def MadeP (H1 : Hp) (D : Addr) (Pv : List V → Hp → Prop) (i : Nat) (H' : Hp) : Prop := H1 D = none ∧ Ext H1 H' ∧ ∃ acc, H' D = some (.lst acc) ∧ acc.length = i ∧ Pv acc H'
theorem madeP_turn {Pv : List V → Hp → Prop} {i : Nat} {H' : Hp} {σ2 : L2.St} (hz : i ≤ 1000000) (kp : Keeps D Pv) (p : MadeP H1 D Pv i H')
    (he : ∀ acc, acc.length = i → Pv acc H' → Ext H1 H' → ∀ Q' : VK, (∀ y H'', Ext H' H'' → Pv (acc ++ [y]) H'' → Q' y H'') → te σ2 H' Q') :
    tYes σ2 H' fun b H3 => if b = true then te σ2 H3 fun y H4 => ∃ acc, H4 D = some (.lst acc) ∧ acc.length < sizeLine ∧ MadeP H1 D Pv (i + 1) (upd H4 D (.lst (acc ++ [y]))) else MadeP H1 D Pv (i + 1) H3 := by
  obtain ⟨p1, p2, acc, p3, p4, p5⟩ := p
  unfold tYes
  dsimp only
  rw [if_pos rfl]
  refine he acc p4 p5 p2 _ fun y H'' e pv => ⟨acc, e _ _ p3, ?_, p1, ext_mut (p2.trans e) p1, acc ++ [y], upd_same, by simp [p4], ?_⟩
  · rw [p4]
    exact Nat.lt_of_le_of_lt hz (by decide)
  · exact kp _ _ _ pv ⟨_, e _ _ p3⟩ fun a u q ne => by rw [upd_ne ne]; exact q
end
end My
namespace My
open PySem PySem.Spec PyProof.Rows L2
section
variable {K : PySem.W.Frag} {a D : Addr} {xs : List V} {z : Str} {tt : TT} {te : TE} {vs : List Nat} {σ : L2.St} {H1 : Hp} {j : Nat}
/-- the signs of a text -/
def signs (z : Str) : List V := z.cps.toList.map fun c => .str ⟨#[c]⟩
theorem signs_at {z : Str} {i c : Nat} (h : z.cps[i]? = some c) : (signs z)[i]? = some (.str ⟨#[c]⟩) := by
  unfold signs
  rw [List.getElem?_map, Array.getElem?_toList, h]
  rfl
theorem signs_len (z : Str) : (signs z).length = z.cps.size := by simp [signs]
theorem signs_mem {z : Str} {x : V} (h : x ∈ signs z) : ∃ c, c ∈ z.cps.toList ∧ x = .str ⟨#[c]⟩ := by
  obtain ⟨c, hc, e⟩ := List.mem_map.mp h
  exact ⟨c, hc, e.symm⟩
theorem map_str {Qd : Hp → Prop} (f : Nat → V → V) (hD : H1 D = none) (hz : z.cps.size ≤ 1000000) (hw : ∀ x, wipe ((wipe σ vs).set j (some x)) vs = wipe σ vs)
    (he : ∀ i x H', (signs z)[i]? = some x → Ext H1 H' → ∀ Q' : VK, (∀ H'', Ext H' H'' → Q' (f i x) H'') → te ((wipe σ vs).set j (some x)) H' Q') (hd : ∀ H', Ext H1 H' → H' D = some (.lst ((signs z).mapIdx f)) → Qd H') :
    Block (Its z) (gName j) tYes te vs σ H1 D Qd :=
  lc_it walk_str (Made H1 D f (signs z)) ⟨hD, ext_new (ext_refl H1) hD, upd_same⟩ (fun _ _ _ _ => trivial) (fun i x H H' hi p y => by
      obtain ⟨rfl, c, hc, rfl⟩ := y
      have q := signs_at hc
      exact ⟨hw _, made_turn (by rw [signs_len]; exact hz) q p (he i _ _ q p.2.1)⟩)
    fun H' p => hd H' p.2.1 (by
      have q := p.2.2
      rw [← signs_len, List.take_length] at q
      exact q)
/-- what a comprehension with a known test has kept behind i turns -/
def Filt (H1 : Hp) (D : Addr) (p : V → Bool) (xs : List V) (i : Nat) (H' : Hp) : Prop := H1 D = none ∧ Ext H1 H' ∧ H' D = some (.lst ((xs.take i).filter p))
theorem filt_turn {p : V → Bool} {i : Nat} {x : V} {H' : Hp} {σ2 : L2.St} (hz : xs.length ≤ 1000000) (hi : xs[i]? = some x) (q : Filt H1 D p xs i H') (ht : ∀ Q' : Bool → Hp → Prop, (∀ H'', Ext H' H'' → Q' (p x) H'') → tt σ2 H' Q') (he : ∀ (H : Hp) (Q' : VK), Q' x H → te σ2 H Q') :
    tt σ2 H' fun b H3 => if b = true then te σ2 H3 fun y H4 => ∃ acc, H4 D = some (.lst acc) ∧ acc.length < sizeLine ∧ Filt H1 D p xs (i + 1) (upd H4 D (.lst (acc ++ [y]))) else Filt H1 D p xs (i + 1) H3 := by
  obtain ⟨p1, p2, p3⟩ := q
  refine ht _ fun H'' e => ?_
  by_cases hp : p x = true
  · rw [if_pos hp]
    refine he _ _ ⟨_, e _ _ p3, ?_, p1, ext_mut (p2.trans e) p1, ?_⟩
    · have h1 : ((xs.take i).filter p).length ≤ (xs.take i).length := List.length_filter_le _ _
      rw [List.length_take] at h1
      exact Nat.lt_of_le_of_lt (Nat.le_trans h1 (Nat.le_trans (Nat.min_le_right _ _) hz)) (by decide)
    · rw [upd_same, take_next hi, List.filter_append, List.filter_cons, if_pos hp]
      rfl
  · rw [if_neg hp]
    refine ⟨p1, p2.trans e, ?_⟩
    rw [take_next hi, List.filter_append, List.filter_cons, if_neg hp]
    have := e _ _ p3
    simpa using this
theorem filt_tup {Qd : Hp → Prop} (p : V → Bool) (hx : SqT K H1 a xs) (hD : H1 D = none) (hz : xs.length ≤ 1000000) (hw : ∀ x, wipe ((wipe σ vs).set j (some x)) vs = wipe σ vs)
    (ht : ∀ (i : Nat) x H', xs[i]? = some x → Ext H1 H' → ∀ Q' : Bool → Hp → Prop, (∀ H'', Ext H' H'' → Q' (p x) H'') → tt ((wipe σ vs).set j (some x)) H' Q') (he : ∀ x (H : Hp) (Q' : VK), Q' x H → te ((wipe σ vs).set j (some x)) H Q')
    (hd : ∀ H', Ext H1 H' → H' D = some (.lst (xs.filter p)) → Qd H') : Block (Itt K a) (gName j) tt te vs σ H1 D Qd :=
  lc_tup (xs := xs) (Filt H1 D p xs) ⟨hD, ext_new (ext_refl H1) hD, upd_same⟩ (fun i H' _ q => hx.ext q.2.1) (fun i x H' hi q => ⟨hw x, filt_turn hz hi q (ht i x H' hi q.2.1) (he x)⟩)
    fun H' q => hd H' q.2.1 (by have z := q.2.2; rw [List.take_length] at z; exact z)
end
end My
namespace My
open PySem PySem.Spec PyProof.Rows L2
section
variable {κ : Type} [DecidableEq κ]
/-- one key more, once -/
def stp (acc : List κ) (k : κ) : List κ := if k ∈ acc then acc else acc ++ [k]
def met (val : Nat → κ) (i : Nat) : List κ := ((List.range i).map val).foldl stp []
theorem met_succ (val : Nat → κ) (i : Nat) : met val (i + 1) = stp (met val i) (val i) := by
  unfold met
  rw [List.range_succ, List.map_append, List.foldl_append]
  rfl
theorem stp_mem {acc : List κ} {k x : κ} : x ∈ stp acc k ↔ x ∈ acc ∨ x = k := by
  unfold stp
  split
  · exact ⟨.inl, fun h => h.elim id fun e => by rw [e]; assumption⟩
  · simp
theorem stp_len {acc : List κ} {k : κ} : (stp acc k).length = if k ∈ acc then acc.length else acc.length + 1 := by
  unfold stp
  split <;> simp
theorem met_le (val : Nat → κ) : ∀ i, (met val i).length ≤ i
  | 0 => Nat.le_refl _
  | i + 1 => by
    rw [met_succ, stp_len]
    have := met_le val i
    split <;> omega
theorem met_mem (val : Nat → κ) : ∀ i x, x ∈ met val i ↔ ∃ j, j < i ∧ val j = x
  | 0, x => by simp [met]
  | i + 1, x => by
    rw [met_succ, stp_mem, met_mem val i]
    constructor
    · rintro (⟨j, a, b⟩ | e)
      · exact ⟨j, by omega, b⟩
      · exact ⟨i, by omega, e.symm⟩
    · rintro ⟨j, a, b⟩
      by_cases q : j = i
      · exact .inr (by rw [← b, q])
      · exact .inl ⟨j, by omega, b⟩
end
section
variable {prog : Program} {w : World} {A : Around} {R : Result → Shared → Prop} {κ : Type} [DecidableEq κ] {knd : KeyKind prog w κ} {I : Addr} {fp wr : List Addr} {G : Array GenState → Array GenState → Prop} {n : Nat} {P : Nat → Value → Prop} {St : Nat → Shared → Prop}
theorem setOf_same {h : Heap} {a : Addr} {S S' : κ → Bool} {m m' : Nat} (x : h.SetOf knd a S m) (e : ∀ k, S k = S' k) (em : m = m') : h.SetOf knd a S' m' := by
  have z : S = S' := funext e
  subst z
  subst em
  exact x
/-- the update's turns, whatever the keys -/
theorem update_turns (W : WalksS prog w A.in1 I fp wr G n P St) (a : Addr) (out : a ∉ fp) (val : Nat → κ) (keys : ∀ i v, P i v → knd.is (val i) v = true ∧ v.scannable = true) (room : n + 1 < scanBound) :
    ∀ (left i : Nat) (s : Shared), n - i = left → i ≤ n → St i s → s.heap.SetOf knd a (fun k => decide (k ∈ met val i)) (met val i).length →
      (∀ s', Moved (a :: wr) G s s' → s'.heap.SetOf knd a (fun k => decide (k ∈ met val n)) (met val n).length → R (.ok (.ret .none)) s') →
      codeAny (model prog w) A (.builtin "set.update.loop" ⟨[.ref a, .ref I], []⟩) R s := by
  have outW : a ∉ wr := fun h => out (W.sub _ h)
  have more : ∀ b ∈ wr, b ∈ a :: wr := fun b hb => List.mem_cons_of_mem _ hb
  have kept : ∀ {s s' : Shared} {S : κ → Bool} {m : Nat}, s.heap.SetOf knd a S m → Moved wr G s s' → s'.heap.SetOf knd a S m := fun ⟨o, es, ep, t, ho, r⟩ hm => ⟨o, es, ep, t, hm.heap a _ outW ho, r⟩
  intro left
  induction left with
  | zero =>
    intro i s hk hi st hS fin
    obtain rfl : i = n := by omega
    refine codeAny_builtin F.entry_set_update_loop ?_
    rw [Around.under_plainId F.plain_set_update_loop _]
    refine wpAny_bind (W.done s _ _ st fun s' hm => wpAny_pure (fin s' (hm.mono more) (kept hS hm)))
  | succ left ih =>
    intro i s hk hi st hS fin
    have lt : i < n := by omega
    refine codeAny_builtin F.entry_set_update_loop ?_
    rw [Around.under_plainId F.plain_set_update_loop _]
    refine wpAny_bind (W.item i s _ _ lt st fun v s' hP st' hm => ?_)
    obtain ⟨isK, sc⟩ := keys i v hP
    have hS' := kept hS hm
    show wpAny _ A.in1 (holding [v] (setAdd a v) >>= _) _ _ s'
    refine wpAny_bind (wpAny_holding ?_)
    unfold setAdd
    refine wpAny_holding (wpAny_bind (knd.pyHash (k := val i) isK ?_))
    have fits : (met val i).length + 1 < scanBound := by have := met_le val i; omega
    refine wpAny_setAddHashed_of (knd := knd) (s := { s' with toks := s'.toks + 1 }) isK sc hS' fits fun h' sb hS2 => ?_
    have next : h'.SetOf knd a (fun k => decide (k ∈ met val (i + 1))) (met val (i + 1)).length :=
      setOf_same hS2 (fun k => by rw [met_succ, Bool.eq_iff_iff]; simp [stp_mem]) (by rw [met_succ, stp_len]; simp)
    refine wpAny_pure ⟨plainId_quiet F.plain_set_update_loop _, ih (i + 1) _ (by omega) lt (W.frame _ s' _ _ st' (Nat.le_succ _) fun b hb o e => ?_) next fun s'' hm'' hS'' => ?_⟩
    · rw [sb.2 b (fun h : b = a => out (by rw [← h]; exact hb))]
      exact e
    · refine fin s'' (Moved.trans W.gtrans ((hm.mono more).then_heap (Nat.le_succ _) fun b o hb e => ?_) hm'') hS''
      rw [sb.2 b (fun h : b = a => hb (by rw [h]; exact List.mem_cons_self))]
      exact e
end
end My
set_option maxHeartbeats 8000000
namespace My
open PySem PySem.Spec L2
theorem sub_tup_set : isSubtype (.type "tuple") (.type "set") = pure false := by rw [isSubtype_type]; kernel_rfl
theorem sub_tup_frozenset : isSubtype (.type "tuple") (.type "frozenset") = pure false := by rw [isSubtype_type]; kernel_rfl
theorem sub_lst_set : isSubtype (.type "list") (.type "set") = pure false := by rw [isSubtype_type]; kernel_rfl
theorem sub_lst_frozenset : isSubtype (.type "list") (.type "frozenset") = pure false := by rw [isSubtype_type]; kernel_rfl
section
variable {prog : Program} {w : World} {A : Around} {E : Value → Shared → Prop} {s : Shared} {κ : Type} [DecidableEq κ] {knd : KeyKind prog w κ}
/-- set(xs), a list of keys -/
theorem set_of_list {l : Addr} {items : Array Value} (val : Nat → κ) {Q : Value → Shared → Prop} (calm : A.handled = none) (hl : s.heap.IsList l items) (keys : ∀ i v, items[i]? = some v → knd.is (val i) v = true ∧ v.scannable = true) (room : items.size + 1 < scanBound)
    (go : ∀ (h' : Heap) (tk : Nat), h'.SetOf knd s.heap.objs.size (fun k => decide (k ∈ met val items.size)) (met val items.size).length → (∀ b o, b < s.heap.objs.size → s.heap.get? b = some o → h'.get? b = some o) → Q (.ref s.heap.objs.size) { s with heap := h', toks := tk }) :
    wpAny (model prog w) A (call (.type "set") [.ref l]) Q E s := by
  obtain ⟨c, tl, hmro⟩ := F.called_set.mro
  have made := F.called_set.made
  have sub := F.called_set.sub
  refine wpAny_call (codeAny_of_tree (?_))
  show wpAny _ _ (callAny (.type "set") _) _ _ _
  refine wpAny_pure ⟨Code.quiet_builtin _ (by decide +kernel), codeAny_builtin F.entry_type_call (?_)⟩
  rw [Around.under_plain (weight_type_call_type "set" [.ref l] []) rfl]
  have a1 := F.called_set.notType
  have a2 := F.called_set.canCreate
  have a3 := F.typeCall_set_1 (.ref l)
  repeat (any_goals (first | assumption | wp_step))
  refine codeAny_mono (code_set_new_1 (.ref l) (E := E) (Q₁ := fun obj s1 => ∃ led : Bool, obj = .ref s.heap.objs.size ∧ s1 = { s with heap := s.heap.push { cls := .type "set", dict := none, data := .set #[] 0 (.fresh 0 0 led) } }) fun led => ⟨led, rfl, rfl⟩) fun r s1 back => ?_
  cases r with
  | error e => exact back
  | ok fl =>
    cases fl with
    | ret obj =>
      obtain ⟨led, rfl, rfl⟩ := back
      have atS : (s.heap.push { cls := .type "set", dict := none, data := .set #[] 0 (.fresh 0 0 led) }).get? s.heap.objs.size = some { cls := .type "set", dict := none, data := .set #[] 0 (.fresh 0 0 led) } := Heap.get?_push_size _ rfl
      have isS : Shared.TypeIs { s with heap := s.heap.push { cls := .type "set", dict := none, data := .set #[] 0 (.fresh 0 0 led) } } (.ref s.heap.objs.size) "set" := ⟨_, atS, rfl⟩
      have b1 := F.called_set.init.lookup
      have b2 := F.called_set.init.bind (.ref s.heap.objs.size)
      repeat (any_goals (first | assumption | wp_step))
      refine codeAny_mono (codeAny_call_builtin (R := wants (fun r s2 => r = .none ∧ ∃ h' tk, s2 = { s with heap := h', toks := tk } ∧ h'.SetOf knd s.heap.objs.size (fun k => decide (k ∈ met val items.size)) (met val items.size).length ∧
          ∀ b o, b < s.heap.objs.size → s.heap.get? b = some o → h'.get? b = some o) E) F.called_set.init.plain F.entry_set_init (check_set_init_1 isS (?_))) fun r2 s2 back2 => ?_
      · obtain ⟨ol, hol, hcl, nl, hdl⟩ := hl
        obtain ⟨ocls, odict, odata, oslots⟩ := ol
        simp only at hcl hdl
        subst hcl
        subst hdl
        have hol2 : (s.heap.push { cls := .type "set", dict := none, data := .set #[] 0 (.fresh 0 0 led) }).get? l = some { cls := .type "list", dict := odict, data := .seq items nl, slots := oslots } := Heap.get?_push_of_some _ hol
        have n1 := sub_lst_set
        have n2 := sub_lst_frozenset
        have n3 : (Value.type "list" == Value.type "dict") = false := by decide
        have hl1 : (s.heap.push { cls := .type "set", dict := none, data := .set #[] 0 (.fresh 0 0 led) }).IsList l items := ⟨_, hol2, rfl, nl, rfl⟩
        unfold Builtin.«set.__init__» noKeywords Builtin.Frozenset.updateFrom
        generalize hPI : pyIter = PI
        wp_walk
        subst hPI
        refine wpAny_pyIter_list hl1 (wpAny_bind (wpAny_runValue (?_)))
        have lS : l < s.heap.objs.size := Heap.lt_size hol
        have calm3 : A.in1.in1.in1.handled = none := by simp [calm]
        have neI : l ≠ (s.heap.push { cls := .type "set", dict := none, data := .set #[] 0 (.fresh 0 0 led) }).objs.size := by
          rw [Heap.size_push]
          exact Nat.ne_of_lt (Nat.lt_succ_of_lt lS)
        have outS : s.heap.objs.size ∉ [(s.heap.push { cls := .type "set", dict := none, data := .set #[] 0 (.fresh 0 0 led) }).objs.size, l] := by
          rw [Heap.size_push]
          simp only [List.mem_cons, List.not_mem_nil, or_false, not_or]
          exact ⟨Nat.ne_of_lt (Nat.lt_succ_self _), Nat.ne_of_gt lS⟩
        refine update_turns ((Walks.list calm3 _ l neI items).toS) s.heap.objs.size outS val keys room (items.size - 0) 0 _ (by omega) (Nat.zero_le _) ⟨⟨_, Heap.get?_push_size _ rfl, rfl, rfl⟩, (hl1.push _)⟩ ?first ?last
        case first =>
          have got : ((s.heap.push { cls := .type "set", dict := none, data := .set #[] 0 (.fresh 0 0 led) }).push { cls := .type "list_iterator", data := .fields #[.ref l, .int 0 0] }).get? s.heap.objs.size = some { cls := .type "set", dict := none, data := .set #[] 0 (.fresh 0 0 led) } := Heap.get?_push_of_some _ atS
          exact setOf_same ((PyProof.Rows.setObjOf_fresh (knd := knd) led).setOf got (by unfold scanBound; omega)) (fun _ => rfl) rfl
        case last =>
          intro s' hm hS'
          obtain ⟨h', g', d', tk', os'⟩ := s'
          obtain rfl : g' = s.gens := hm.gens
          obtain rfl : d' = s.drawn := hm.drawn
          obtain rfl : os' = s.os := hm.os
          refine wpAny_pure (wpAny_pure ⟨rfl, h', tk', rfl, hS', fun b o hb e => ?_⟩)
          refine hm.heap b o ?_ (Heap.get?_push_of_some _ (Heap.get?_push_of_some _ e))
          simp only [List.mem_cons, List.not_mem_nil, or_false, not_or]
          exact ⟨Nat.ne_of_lt hb, by rw [Heap.size_push]; exact Nat.ne_of_lt (Nat.lt_succ_of_lt hb)⟩
      · cases r2 with
        | error e => exact back2
        | ok fl2 =>
          cases fl2 with
          | ret r =>
            obtain ⟨rfl, h', tk, rfl, hS', k'⟩ := back2
            repeat (any_goals (first | assumption | wp_step))
            exact go _ _ hS' k'
          | _ => exact back2.elim
    | _ => exact back.elim
/-- set(xs), a tuple of keys -/
theorem set_of_tuple {l : Addr} {items : Array Value} (val : Nat → κ) {Q : Value → Shared → Prop} (calm : A.handled = none) (hl : s.heap.IsTuple l items) (keys : ∀ i v, items[i]? = some v → knd.is (val i) v = true ∧ v.scannable = true) (room : items.size + 1 < scanBound)
    (go : ∀ (h' : Heap) (tk : Nat), h'.SetOf knd s.heap.objs.size (fun k => decide (k ∈ met val items.size)) (met val items.size).length → (∀ b o, b < s.heap.objs.size → s.heap.get? b = some o → h'.get? b = some o) → Q (.ref s.heap.objs.size) { s with heap := h', toks := tk }) :
    wpAny (model prog w) A (call (.type "set") [.ref l]) Q E s := by
  obtain ⟨c, tl, hmro⟩ := F.called_set.mro
  have made := F.called_set.made
  have sub := F.called_set.sub
  refine wpAny_call (codeAny_of_tree (?_))
  show wpAny _ _ (callAny (.type "set") _) _ _ _
  refine wpAny_pure ⟨Code.quiet_builtin _ (by decide +kernel), codeAny_builtin F.entry_type_call (?_)⟩
  rw [Around.under_plain (weight_type_call_type "set" [.ref l] []) rfl]
  have a1 := F.called_set.notType
  have a2 := F.called_set.canCreate
  have a3 := F.typeCall_set_1 (.ref l)
  repeat (any_goals (first | assumption | wp_step))
  refine codeAny_mono (code_set_new_1 (.ref l) (E := E) (Q₁ := fun obj s1 => ∃ led : Bool, obj = .ref s.heap.objs.size ∧ s1 = { s with heap := s.heap.push { cls := .type "set", dict := none, data := .set #[] 0 (.fresh 0 0 led) } }) fun led => ⟨led, rfl, rfl⟩) fun r s1 back => ?_
  cases r with
  | error e => exact back
  | ok fl =>
    cases fl with
    | ret obj =>
      obtain ⟨led, rfl, rfl⟩ := back
      have atS : (s.heap.push { cls := .type "set", dict := none, data := .set #[] 0 (.fresh 0 0 led) }).get? s.heap.objs.size = some { cls := .type "set", dict := none, data := .set #[] 0 (.fresh 0 0 led) } := Heap.get?_push_size _ rfl
      have isS : Shared.TypeIs { s with heap := s.heap.push { cls := .type "set", dict := none, data := .set #[] 0 (.fresh 0 0 led) } } (.ref s.heap.objs.size) "set" := ⟨_, atS, rfl⟩
      have b1 := F.called_set.init.lookup
      have b2 := F.called_set.init.bind (.ref s.heap.objs.size)
      repeat (any_goals (first | assumption | wp_step))
      refine codeAny_mono (codeAny_call_builtin (R := wants (fun r s2 => r = .none ∧ ∃ h' tk, s2 = { s with heap := h', toks := tk } ∧ h'.SetOf knd s.heap.objs.size (fun k => decide (k ∈ met val items.size)) (met val items.size).length ∧
          ∀ b o, b < s.heap.objs.size → s.heap.get? b = some o → h'.get? b = some o) E) F.called_set.init.plain F.entry_set_init (check_set_init_1 isS (?_))) fun r2 s2 back2 => ?_
      · obtain ⟨ol, hol, hcl, nl, hdl⟩ := hl
        obtain ⟨ocls, odict, odata, oslots⟩ := ol
        simp only at hcl hdl
        subst hcl
        subst hdl
        have hol2 : (s.heap.push { cls := .type "set", dict := none, data := .set #[] 0 (.fresh 0 0 led) }).get? l = some { cls := .type "tuple", dict := odict, data := .seq items nl, slots := oslots } := Heap.get?_push_of_some _ hol
        have n1 := sub_tup_set
        have n2 := sub_tup_frozenset
        have n3 : (Value.type "tuple" == Value.type "dict") = false := by decide
        have hl1 : (s.heap.push { cls := .type "set", dict := none, data := .set #[] 0 (.fresh 0 0 led) }).IsTuple l items := ⟨_, hol2, rfl, nl, rfl⟩
        unfold Builtin.«set.__init__» noKeywords Builtin.Frozenset.updateFrom
        generalize hPI : pyIter = PI
        wp_walk
        subst hPI
        refine wpAny_pyIter_tuple hl1 (wpAny_bind (wpAny_runValue (?_)))
        have lS : l < s.heap.objs.size := Heap.lt_size hol
        have calm3 : A.in1.in1.in1.handled = none := by simp [calm]
        have neI : l ≠ (s.heap.push { cls := .type "set", dict := none, data := .set #[] 0 (.fresh 0 0 led) }).objs.size := by
          rw [Heap.size_push]
          exact Nat.ne_of_lt (Nat.lt_succ_of_lt lS)
        have outS : s.heap.objs.size ∉ [(s.heap.push { cls := .type "set", dict := none, data := .set #[] 0 (.fresh 0 0 led) }).objs.size, l] := by
          rw [Heap.size_push]
          simp only [List.mem_cons, List.not_mem_nil, or_false, not_or]
          exact ⟨Nat.ne_of_lt (Nat.lt_succ_self _), Nat.ne_of_gt lS⟩
        refine update_turns ((Walks.tuple calm3 _ l neI items).toS) s.heap.objs.size outS val keys room (items.size - 0) 0 _ (by omega) (Nat.zero_le _) ⟨⟨_, Heap.get?_push_size _ rfl, rfl, rfl⟩, (hl1.push _)⟩ ?first ?last
        case first =>
          have got : ((s.heap.push { cls := .type "set", dict := none, data := .set #[] 0 (.fresh 0 0 led) }).push { cls := .type "tuple_iterator", data := .fields #[.ref l, .int 0 0] }).get? s.heap.objs.size = some { cls := .type "set", dict := none, data := .set #[] 0 (.fresh 0 0 led) } := Heap.get?_push_of_some _ atS
          exact setOf_same ((PyProof.Rows.setObjOf_fresh (knd := knd) led).setOf got (by unfold scanBound; omega)) (fun _ => rfl) rfl
        case last =>
          intro s' hm hS'
          obtain ⟨h', g', d', tk', os'⟩ := s'
          obtain rfl : g' = s.gens := hm.gens
          obtain rfl : d' = s.drawn := hm.drawn
          obtain rfl : os' = s.os := hm.os
          refine wpAny_pure (wpAny_pure ⟨rfl, h', tk', rfl, hS', fun b o hb e => ?_⟩)
          refine hm.heap b o ?_ (Heap.get?_push_of_some _ (Heap.get?_push_of_some _ e))
          simp only [List.mem_cons, List.not_mem_nil, or_false, not_or]
          exact ⟨Nat.ne_of_lt hb, by rw [Heap.size_push]; exact Nat.ne_of_lt (Nat.lt_succ_of_lt hb)⟩
      · cases r2 with
        | error e => exact back2
        | ok fl2 =>
          cases fl2 with
          | ret r =>
            obtain ⟨rfl, h', tk, rfl, hS', k'⟩ := back2
            repeat (any_goals (first | assumption | wp_step))
            exact go _ _ hS' k'
          | _ => exact back2.elim
    | _ => exact back.elim
end
end My
namespace My
open PySem PySem.Spec PyProof.Rows L2
/-- the class has the def at f as __eq__ and no __ne__ -/
structure NeK (K : PySem.W.Frag) (C f : Addr) : Prop where
  cls : ∃ nm q N bs hdct sn sub ab col dd k0 k1 k2 k3 k5 newId, K.lookup C = some (excClassObj nm q C N bs [.type "object"] hdct sn sub ab col dd k0 k1 k2 k3 k5 newId) ∧ PySem.W.nsOkIn K N = true ∧
    PySem.W.nsIn K N "__eq__" = some (some (.ref f)) ∧ PySem.W.nsIn K N "__ne__" = some none
  fn : ∃ od fd sl, K.lookup f = some ⟨.type "function", od, .func fd, sl⟩
theorem ty_eq : ∃ y, typeLookup (.type "object") ("__eq__" : Str) = pure y := ⟨some (.builtin "object.__eq__"), by kernel_rfl⟩
theorem ns_some {K : PySem.W.Frag} {h : Heap} {N : Addr} {mg : Str → Option Value} {n : Str} {v : Value} (X : K.In h) (G : h.Ns N mg) (e : PySem.W.nsIn K N n = some (some v)) : mg n = some v := by
  obtain ⟨o, es, ep, ho, hd, _, hf⟩ := G
  cases q : K.lookup N with
  | none => unfold PySem.W.nsIn at e; rw [q] at e; cases e
  | some on =>
    have z := X _ _ q
    rw [ho] at z
    cases z
    obtain ⟨cl, od, dt, sl⟩ := o
    dsimp only at hd
    subst hd
    unfold PySem.W.nsIn at e
    rw [q] at e
    dsimp only at e
    cases he : es.toList.find? (·.key.isStr n) with
    | none => rw [he] at e; dsimp only at e; split at e <;> cases e
    | some en =>
      rw [he] at e
      cases e
      rw [← hf]
      unfold nsFind findBy
      rw [← Array.find?_toList, he]
      rfl
section
variable {X : Cx} {CX : CXT} {k : Nat} {f C : Addr} {fd : FuncData} {ps : List Str} {sp : Sp} {E : XK}
def rOwnNe (C : Addr) (sp : Sp) (E : XK) : R2 := fun x y H Q => ∃ a dx fs b dy gs, x = .ref a ∧ H a = some (.ins C dx fs) ∧ y = .ref b ∧ H b = some (.ins C dy gs) ∧ sp [.ref a, .ref b] H (fun v H' => ∃ c, v = .bl c ∧ Q (.bl (!c)) H') E
theorem op_ownNe (T : NeK X.K C f) (F : FnOk X.prog X.w X.K X.mg X.base CX k f fd ps sp) (hr : Room (k + 1) X.A) (hb : Binds X.K fd ps []) (hx : Passes CX X E) : OpR X (compareOp .NotEq) (rOwnNe C sp E) := by
  intro pins s σ H x y v u Q I rx ry hq
  obtain ⟨a, dx, fs, b, dy, gs, rfl, ea, rfl, eb, hsp⟩ := hq
  cases rx
  cases ry
  obtain ⟨mA, O, _⟩ := ins_get I.hok ea
  obtain ⟨od, J, _⟩ := O.look
  obtain ⟨mB, O', _⟩ := ins_get I.hok eb
  obtain ⟨od', J', _⟩ := O'.look
  obtain ⟨nm, q, N, bs, hdct, sn, sub, ab, col, dd, k0, k1, k2, k3, k5, nid, hC, hok, heq, hne⟩ := T.cls
  obtain ⟨ofd, fdd, sl, hf⟩ := T.fn
  obtain ⟨yv, hy⟩ := ty_eq
  have X0 := I.kIn
  have hns : s.heap.Ns N (s.heap.nsMap N) := .of_isNs (PySem.W.isNs_of_in X0 hok)
  have Y : s.heap.OwnEqNoNe a C f "object" [.type "object"] :=
    ⟨_, _, nm, q, N, bs, hdct, sn, sub, ab, col, dd, k0, k1, k2, k3, k5, nid, _, yv, J.at_, J.cls, X0 _ _ hC, hns, ns_some X0 hns heq, X0 _ _ hf, rfl, PySem.F.mro_object, hy, PySem.W.ns_none_of X0 hns hne⟩
  obtain ⟨hp, g, d, t, os⟩ := s
  have fr : FnOk X.prog X.w X.K X.mg X.base CX k f fd ps sp := F
  refine compareOp_ne_ownEq PySem.F.cmp_object Y J'.at_ J'.cls (by have := hr.un; omega) ?_
  refine wpAny_call ?_
  have hl : ([Value.ref a, Value.ref b] : List Value).length = ps.length := by
    have := F.len _ _ _ _ hsp
    exact this
  have bd : BindsTo ⟨hp, g, d, t, os⟩ fd ⟨[.ref a, .ref b], []⟩ (ps.zip [.ref a, .ref b]) := by
    have z := hb ⟨hp, g, d, t, os⟩ [.ref a, .ref b] I.kIn (by rw [List.append_nil]; exact hl)
    rw [List.append_nil] at z
    exact z
  refine codeAny_mono (F.run X.A.in1 X.stack ⟨hp, g, d, t, os⟩ H ⟨[.ref a, .ref b], []⟩ [.ref a, .ref b] [.ref a, .ref b] _ E hr.in1 I.env0.in1 bd (.cons rfl (.cons rfl .nil)) hsp) fun r2 s2 hq => ?_
  match r2, hq with
  | .error er, hq => exact hx pins σ H _ er s2 I hq
  | .ok (.ret u), hq =>
    obtain ⟨z, H', I', rz, c, ez, q⟩ := I.after hq
    subst ez
    cases rz
    exact ⟨c, rfl, .bl (!c), H', I', rfl, q⟩
end
end My
namespace My
open PySem PySem.Spec PyProof.Rows L2
def hasK {κ : Type} [DecidableEq κ] (l : List κ) (k : κ) : Bool := decide (k ∈ l)
def keyAt (zs : List Str) (i : Nat) : Key := .inr (zs.getD i Str.empty)
/-- how many different texts -/
def dif (zs : List Str) : Nat := (met (keyAt zs) zs.length).length
theorem dif_le (zs : List Str) : dif zs ≤ zs.length := met_le _ _
/-- as many as there are exactly if all are different -/
theorem met_full {κ : Type} [DecidableEq κ] (val : Nat → κ) : ∀ i, (met val i).length = i ↔ ∀ j k, j < k → k < i → val j ≠ val k
  | 0 => by simp [met]
  | i + 1 => by
    have ih := met_full val i
    have le := met_le val i
    rw [met_succ, stp_len]
    constructor
    · intro h
      split at h
      · omega
      · rename_i n
        have e : (met val i).length = i := by omega
        intro j k a b q
        by_cases kk : k = i
        · subst kk
          exact n ((met_mem val k (val k)).mpr ⟨j, a, q⟩)
        · exact ih.mp e j k a (by omega) q
    · intro h
      have e := ih.mpr fun j k a b => h j k a (by omega)
      rw [if_neg, e]
      intro m
      obtain ⟨j, a, b⟩ := (met_mem val i (val i)).mp m
      exact h j i a (by omega) b
theorem dif_eq (zs : List Str) : dif zs = zs.length ↔ zs.Nodup := by
  unfold dif
  rw [met_full, List.nodup_iff_pairwise_ne, List.pairwise_iff_getElem]
  have at_ : ∀ j (h : j < zs.length), keyAt zs j = .inr zs[j] := fun j h => by
    unfold keyAt
    rw [List.getD_eq_getElem?_getD, List.getElem?_eq_getElem h]
    rfl
  constructor
  · intro h j k a b lt e
    exact h j k lt b (by rw [at_ j a, at_ k b, e])
  · intro h j k lt b e
    rw [at_ j (by omega), at_ k b] at e
    exact h j k (by omega) b lt (Sum.inr.inj e)
/-- the set of some texts at a -/
def SetT (P : Program) (w : World) (a : Addr) (zs : List Str) : HO := SetK P w a (hasK (met (keyAt zs) zs.length)) (dif zs)
def rSetT (P : Program) (w : World) (K : PySem.W.Frag) : List V → Hp → VK → Prop := fun xs H Q => ∃ (l : Addr) (zs : List Str), xs = [.ref l] ∧ (SqL K H l (zs.map V.str) ∨ SqT K H l (zs.map V.str)) ∧ zs.length ≤ 1000 ∧ ∀ p, H p = none → Q (.ref p) (upd H p (SetT P w p zs))
def rLenT (P : Program) (w : World) : List V → Hp → VK → Prop := fun xs H Q => ∃ (a : Addr) (zs : List Str), xs = [.ref a] ∧ H a = some (SetT P w a zs) ∧ zs.length ≤ 1000 ∧ Q (.int (dif zs : Nat)) H
theorem sub_len {κ : Type} [DecidableEq κ] : ∀ (l m : List κ), l.Nodup → (∀ x ∈ l, x ∈ m) → l.length ≤ m.length
  | [], _, _, _ => Nat.zero_le _
  | a :: l, m, nd, sub => by
    have h := sub_len l (m.erase a) (List.nodup_cons.mp nd).2 fun x hx => (List.mem_erase_of_ne (fun e => (List.nodup_cons.mp nd).1 (by rw [← e]; exact hx))).mpr (sub x (List.mem_cons_of_mem _ hx))
    have am := sub a (List.mem_cons_self ..)
    rw [List.length_erase_of_mem am] at h
    have pos := List.length_pos_of_mem am
    rw [List.length_cons]
    omega
theorem perm_len {κ : Type} [DecidableEq κ] {l m : List κ} (hl : l.Nodup) (sub : ∀ x ∈ l, x ∈ m) (e : l.length = m.length) : ∀ x ∈ m, x ∈ l := fun x hx => Classical.byContradiction fun n => by
  have h := sub_len (x :: l) m (List.nodup_cons.mpr ⟨n, hl⟩) fun y hy => (List.mem_cons.mp hy).elim (fun e => by rw [e]; exact hx) (sub y)
  rw [List.length_cons] at h
  omega
section
variable {X : Cx}
theorem scan_str {P : Program} {w : World} {x : Str} {u : Value} (r : RelV (.str x) u) : (mixKind P w).is (.inr x) u = true ∧ u.scannable = true := ⟨kV_is (k := .inr x) r, key_scan (k := .inr x) r⟩
theorem cr_setT (hc : X.calm = true) : CallR X (.type "set") (rSetT X.prog X.w X.K) := by
  intro pins s σ H xs us Q I r h
  obtain ⟨l, zs, rfl, hs, hz, q⟩ := h
  cases r with
  | cons r1 r =>
    cases r
    cases r1
    have calm := I.ok.hd hc
    have keys : ∀ (its : List Value), Vals (zs.map V.str) its → ∀ i v, its.toArray[i]? = some v → (mixKind X.prog X.w).is (keyAt zs i) v = true ∧ v.scannable = true := fun its rv i v hv => by
      rw [List.getElem?_toArray] at hv
      have hi : i < zs.length := by
        have z := (List.getElem?_eq_some_iff.mp hv).1
        rw [← rv.length, List.length_map] at z
        exact z
      obtain ⟨u, hu, ru⟩ := rv.get (i := i) (x := .str zs[i]) (by rw [List.getElem?_map, List.getElem?_eq_getElem hi]; rfl)
      rw [hv] at hu
      cases hu
      have e : keyAt zs i = .inr zs[i] := by
        unfold keyAt
        rw [List.getD_eq_getElem?_getD, List.getElem?_eq_getElem hi]
        rfl
      rw [e]
      exact scan_str ru
    have done : ∀ (its : List Value), Vals (zs.map V.str) its → ∀ (h' : Heap) (tk : Nat), h'.SetOf (mixKind X.prog X.w) s.heap.objs.size (hasK (met (keyAt zs) its.toArray.size)) (met (keyAt zs) its.toArray.size).length →
        (∀ b o, b < s.heap.objs.size → s.heap.get? b = some o → h'.get? b = some o) → EP X pins σ Q (.ref s.heap.objs.size) { s with heap := h', toks := tk } := fun its rv h' tk S kp => by
      have sz : its.toArray.size = zs.length := by rw [List.size_toArray, ← rv.length, List.length_map]
      rw [sz] at S
      exact ⟨.ref _, upd H s.heap.objs.size (SetT X.prog X.w s.heap.objs.size zs), I.laid (t' := tk) (fun b u e => kp b u (Heap.lt_size e) e) (Nat.le_refl _) (setK_new S), rfl, q _ (I.hok.fresh (Nat.le_refl _))⟩
    have small : ∀ (its : List Value), Vals (zs.map V.str) its → its.toArray.size + 1 < scanBound := fun its rv => by
      have sz : its.toArray.size = zs.length := by rw [List.size_toArray, ← rv.length, List.length_map]
      rw [sz]
      unfold scanBound
      omega
    rcases hs with hs | hs
    · obtain ⟨its, rv, pl, _⟩ := I.list hs
      exact set_of_list (knd := mixKind X.prog X.w) (keyAt zs) calm pl.isList (keys its rv) (small its rv) (done its rv)
    · obtain ⟨its, rv, pl, _⟩ := I.tuple hs
      exact set_of_tuple (knd := mixKind X.prog X.w) (keyAt zs) calm (by obtain ⟨o, ho, hcl, n, hd⟩ := pl; exact ⟨o, ho, hcl, n, hd⟩) (keys its rv) (small its rv) (done its rv)
theorem cr_lenT : CallR X (.builtin "len") (rLenT X.prog X.w) := by
  intro pins s σ H vs us Q I r h
  obtain ⟨a, zs, rfl, ha, hz, q⟩ := h
  cases r with
  | cons r1 r =>
    cases r
    cases r1
    obtain ⟨o, es, ep, t, ho, hex, hd, _, _, _, hf, en⟩ := setK_get I ha
    have le := dif_le zs
    exact call_len_set ho hex hd hf (by rw [en]; omega) ⟨.int (dif zs : Nat), H, I.tok _, ⟨_, by rw [en]⟩, q⟩
end
end My
namespace My
open PySem PySem.Spec PyProof.Rows L2
section
variable {prog : Program} {w : World} {A : Around} {E : Value → Shared → Prop} {s : Shared}
theorem collect_tup {l : Addr} {vs : List Value} {Q : List Value → Shared → Prop} (at_ : s.heap.IsTuple l vs.toArray) (small : vs.length ≤ sizeLine)
    (go : Q vs { s with heap := (s.heap.push (seqObj "list" #[] 0)).update s.heap.objs.size (Obj.mapSeq (· ++ vs.toArray)) }) : wpAny (model prog w) A (collect (.ref l)) Q E s := by
  obtain ⟨o, ho, hc, n, hd⟩ := id at_
  unfold collect
  refine wpAny_bind (wpAny_runValue (codeAny_builtin entry_proto_collect' (?_)))
  show wpAny _ _ (do again (.builtin "list.__iadd__" ⟨[← newList [], .ref l], []⟩)) _ _ _
  refine wpAny_bind (wpAny_newList (wpAny_pure ⟨Code.quiet_builtin _ (by decide +kernel), codeAny_builtin entry_list_iadd' (?_)⟩))
  show wpAny _ _ (Builtin.List.listExtendWith (.ref s.heap.objs.size) (.ref l) (.ref s.heap.objs.size)) _ _ _
  unfold Builtin.List.listExtendWith
  have old : (s.heap.push (seqObj "list" #[] 0)).get? l = some o := Heap.get?_push_of_some _ ho
  refine wpAny_bind (wpAny_typeOf (T := "tuple") ⟨o, old, hc⟩ (?_))
  rw [if_pos (show (Builtin.List.listSameRef (Value.ref s.heap.objs.size) (Value.ref l) || Value.type "tuple" == Value.type "list" || Value.type "tuple" == Value.type "tuple") = true by rw [show (Value.type "tuple" == Value.type "tuple") = true from rfl, Bool.or_true])]
  refine wpAny_bind (listItems_at old hd (wpAny_bind (listItems_at (xs := #[]) (n := 0) (Heap.get?_push_size _ rfl) rfl (?_))))
  rw [if_neg (by simp)]
  refine wpAny_bind (listUpdate_at (xs := #[]) (n := 0) (Heap.get?_push_size _ rfl) rfl (wpAny_pure ?_) (Nat.zero_le _) (by show (#[] ++ vs.toArray).size ≤ sizeLine + 1; rw [show ((#[] : Array Value) ++ vs.toArray).size = vs.length by simp]; omega))
  show wpAny (model prog w) A (do
      let o ← load s.heap.objs.size
      match o.data with
      | .seq xs _ => pure xs.toList
      | _ => unsupported "internal:collect") Q E { s with heap := (s.heap.push (seqObj "list" #[] 0)).update s.heap.objs.size (Obj.mapSeq (· ++ vs.toArray)) }
  refine wpAny_bind (wpAny_load (get?_update_seq (Heap.get?_push_size _ rfl) _) (?_))
  show wpAny _ _ (pure ((#[] : Array Value) ++ vs.toArray).toList) Q E _
  have e : ((#[] : Array Value) ++ vs.toArray).toList = vs := by simp
  rw [e]
  exact wpAny_pure go
theorem sorted_tup {l : Addr} {vs : List Value} {ss : List Str} {Q : Value → Shared → Prop} (at_ : s.heap.IsTuple l vs.toArray) (hS : StrsAre vs ss) (few : vs.length < 64)
    (go : ∀ (out : Array Value) (ss' : List Str), StrsAre out.toList ss' → ss'.Perm ss → sortedS ss' = true → Q (.ref (s.heap.objs.size + 1)) { s with heap := sortedAll s.heap vs out }) :
    wpAny (model prog w) A (call (.builtin "sorted") [.ref l]) Q E s := by
  refine Calls.call_function_entry kind_sorted plain_sorted entry_sorted (args_sorted1 _) (?_)
  unfold Builtin.«sorted»
  refine wpAny_bind (m := checkCount "sorted" 1 1 _) (wpAny_pure (wpAny_bind (collect_tup at_ (by rw [sizeLine_eq]; omega) (wpAny_bind (wpAny_newList (?_))))))
  have sz : ((s.heap.push (seqObj "list" #[] 0)).update s.heap.objs.size (Obj.mapSeq (· ++ vs.toArray))).objs.size = s.heap.objs.size + 1 := by rw [Heap.size_update, size_push']
  have at2 : (((s.heap.push (seqObj "list" #[] 0)).update s.heap.objs.size (Obj.mapSeq (· ++ vs.toArray))).push (seqObj "list" vs.toArray 0)).get? (s.heap.objs.size + 1) = some (seqObj "list" vs.toArray 0) := by
    rw [← sz]
    exact Heap.get?_push_size _ rfl
  show wpAny _ _ _ _ _ { s with heap := ((s.heap.push (seqObj "list" #[] 0)).update s.heap.objs.size (Obj.mapSeq (· ++ vs.toArray))).push (seqObj "list" vs.toArray 0) }
  rw [sz]
  refine wpAny_bind (wpAny_holding (wpAny_call_entry slot_list_sort ⟨_, at2, rfl⟩ entry_list_sort (list_sort_treeK strKind_oneLt at2 hS.keysOf (fun v₁ v₂ rest e => keyKind_strs (by rw [← e]; exact hS)) few fun st' a1 a2 => ⟨_, rfl, ?_⟩) (args_list_sort _)))
  obtain ⟨ss', h1, h2, h3⟩ := sorted_out_str hS a1 a2
  exact wpAny_pure ⟨_, rfl, go _ ss' h1 h2 h3⟩
end
/-- sorted(texts), a list's or a tuple's -/
def rSortedB (K : PySem.W.Frag) : List V → Hp → VK → Prop := fun vs H Q => ∃ (a : Addr) (xs : List Str), vs = [.ref a] ∧ (SqL K H a (xs.map V.str) ∨ SqT K H a (xs.map V.str)) ∧ xs.length < 64 ∧ ∀ (ys : List Str) (p : Addr), ys.Perm xs → sortedS ys = true → H p = none → Q (.ref p) (upd H p (.lst (ys.map V.str)))
theorem cr_sortedB {X : Cx} : CallR X (.builtin "sorted") (rSortedB X.K) := by
  intro pins s σ H vs us Q I r h
  obtain ⟨a, xs, rfl, hs, h64, q⟩ := h
  rcases hs with hs | hs
  · exact cr_sortedS pins s σ H _ us Q I r ⟨a, xs, rfl, hs, h64, q⟩
  · obtain ⟨its, rv, pl, _⟩ := I.tuple hs
    rw [Vals.ref1 r]
    have l0 := rv.length
    rw [List.length_map] at l0
    refine sorted_tup (vs := its) (by obtain ⟨o, ho, hcl, n, hd⟩ := pl; exact ⟨o, ho, hcl, n, hd⟩) rv.strs (by rw [← l0]; exact h64) fun out ys h1 h2 h3 => ?_
    obtain ⟨ep, he'⟩ := PyProof.Rows.sortedAll_at s.heap its out
    have len : (ys.map V.str).length ≤ sizeLine := by rw [List.length_map, h2.length_eq]; exact small64 h64
    exact ⟨.ref _, upd H (s.heap.objs.size + 1) (.lst (ys.map V.str)), I.laid (t' := s.toks) (fun _ _ => PyProof.Rows.sortedAll_old) (Nat.le_succ _) ⟨len, out.toList, ep, vals_of_strs h1, he'⟩, rfl, q ys _ h2 h3 (I.hok.fresh (Nat.le_succ _))⟩
end My
namespace My
open PySem PySem.Spec PyProof.Rows L2
section
variable {prog : Program} {w : World} {A : Around} {E : Value → Shared → Prop} {s : Shared}
theorem next_tup {it l : Addr} {i : Nat} {items : Array Value} {x : Value} {Q : Value → Shared → Prop} (ti : s.heap.IsTupleIter it l i) (tl : s.heap.IsTuple l items) (hx : items[i]? = some x)
    (go : ∀ h', h'.IsTupleIter it l (i + 1) → Heap.SameBut it s.heap h' → Q x { s with heap := h' }) : wpAny (model prog w) A (Builtin.SmallTypes.nextOf (.ref it)) Q E s := by
  obtain ⟨o, ho, hc, hd⟩ := id ti
  obtain ⟨ol, hol, _, nl, hdl⟩ := tl
  unfold Builtin.SmallTypes.nextOf
  refine wpAny_bind (wpAny_callSpecial?_slot (name := Str.ofString "__next__") ti.typeIs F.slot_tuple_iterator_next (wpAny_call_entry F.slot_tuple_iterator_next ti.typeIs F.entry_tuple_iterator_next ?_ (F.args_tuple_iterator_next_1 _)))
  refine wpAny_bind (m := field (.ref it) 0) (wpAny_field ho hd (x := .ref l) rfl ?_)
  rw [if_neg (show ¬ ((Value.ref l == Value.none) = true) by simp)]
  refine wpAny_bind (m := field (.ref it) 1) (wpAny_field ho hd (x := .int i 0) rfl ?_)
  refine wpAny_bind (m := seqItems? (.ref l)) (wpAny_seqItems hol hdl ?_)
  simp only [Int.toNat_natCast, hx]
  refine wpAny_bind (wpAny_setField ho hd (by simp) (wpAny_pure ⟨x, rfl, wpAny_pure (go _ ?_ (Heap.SameBut.update ..))⟩))
  exact ⟨_, Heap.get?_update_self _ ho (Obj.isFreed_of_fields (Obj.data_mapFields hd _)), (Obj.cls_mapFields ..).trans hc, by rw [Obj.data_mapFields hd] <;> simp [rawInt]⟩
theorem next_tup_end {it l : Addr} {i : Nat} {items : Array Value} {Q : Value → Shared → Prop} (calm : A.handled = none) (ti : s.heap.IsTupleIter it l i) (tl : s.heap.IsTuple l items) (hx : items[i]? = none)
    (go : ∀ h' e, Heap.ExtBut it s.heap h' → (∃ o, h'.get? e = some o ∧ o.cls = .type "StopIteration") → E (.ref e) { s with heap := h' }) : wpAny (model prog w) A (Builtin.SmallTypes.nextOf (.ref it)) Q E s := by
  obtain ⟨o, ho, hc, hd⟩ := id ti
  obtain ⟨ol, hol, _, nl, hdl⟩ := tl
  unfold Builtin.SmallTypes.nextOf
  refine wpAny_bind (wpAny_callSpecial?_slot (name := Str.ofString "__next__") ti.typeIs F.slot_tuple_iterator_next (wpAny_call_entry F.slot_tuple_iterator_next ti.typeIs F.entry_tuple_iterator_next ?_ (F.args_tuple_iterator_next_1 _)))
  refine wpAny_bind (m := field (.ref it) 0) (wpAny_field ho hd (x := .ref l) rfl ?_)
  rw [if_neg (show ¬ ((Value.ref l == Value.none) = true) by simp)]
  refine wpAny_bind (m := field (.ref it) 1) (wpAny_field ho hd (x := .int i 0) rfl ?_)
  refine wpAny_bind (m := seqItems? (.ref l)) (wpAny_seqItems hol hdl ?_)
  simp only [Int.toNat_natCast, hx]
  refine wpAny_bind (wpAny_rule (wpAny_bind (wpAny_setField ho hd (by simp) ?_)))
  refine wpAny_bind (m := newExc (.type "StopIteration") []) ?_
  simp only [newExc, newTuple]
  refine wpAny_bind (wpAny_newObj_type ?_ (by size_fits))
  refine wpAny_bind (m := firstArgMember _ _) (wpAny_of_eq (a := Value.none) (by first | rfl | (simp only [firstArgMember]; rfl)) (wpAny_newObj_type ?_ (by size_fits)))
  simp only [raiseNew]
  refine wpAny_bind (wpAny_handled ?_)
  first | rw [show A.in1.handled = none from calm] | rw [calm]
  refine wpAny_bind (wpAny_pure (wpAny_throw (go _ _ (((Heap.SameBut.update ..).extBut.push _).push _) ⟨_, Heap.get?_push_size _ rfl, rfl⟩)))
theorem enum_tup_end {e it l : Addr} {i : Nat} {items : Array Value} {old : Value} {Q : Option Value → Shared → Prop} (calm : A.handled = none) (he : IsEnum s.heap e it i old) (ti : s.heap.IsTupleIter it l i) (tl : s.heap.IsTuple l items) (hx : items[i]? = none)
    (go : ∀ h', Heap.ExtBut it s.heap h' → Q none { s with heap := h' }) : wpAny (model prog w) A (pyNext (.ref e)) Q E s := by
  have isE : s.TypeIs (.ref e) "enumerate" := ⟨_, he, rfl⟩
  unfold pyNext
  refine wpAny_bind (wpAny_attempt (wpAny_callSpecial?_slot (name := Str.ofString "__next__") isE F.slot_enumerate_next (wpAny_call_entry F.slot_enumerate_next isE F.entry_enumerate_next ?_ (F.args_enumerate_next_1 _))))
  refine wpAny_bind (m := field (.ref e) 2) (wpAny_field he rfl (x := .ref it) rfl (wpAny_bind (next_tup_end (show A.in1.handled = none from calm) ti tl hx fun h' x eb hx' => ?_)))
  obtain ⟨o, ho, hc⟩ := hx'
  exact wpAny_bind (wpAny_isInstance (T := "StopIteration") (b := true) ⟨o, ho, hc⟩ isSubtype_stop (wpAny_pure (go _ eb)))
theorem draws_tup (calm : A.handled = none) (it l : Addr) (ne : l ≠ it) (items : Array Value) : Draws prog w A it [it, l] items.size (fun i v => items[i]? = some v) (fun i h => h.IsTupleIter it l i ∧ h.IsTuple l items) where
  live := fun _ _ st => let ⟨o, ho, _⟩ := st.1; ⟨o, ho⟩
  frame := fun _ _ _ st hk => ⟨st.1.at fun o e => hk it (by simp) o e, st.2.at fun o e => hk l (by simp) o e⟩
  item := fun i s Q E hi st go => next_tup st.1 st.2 (x := items[i]) (by simp [hi]) fun h' ti sb => go _ h' s.toks (by simp [hi]) ⟨ti, st.2.extBut sb.extBut ne⟩ sb
  done := fun s Q E st go => next_tup_end calm st.1 st.2 (by simp) go
theorem new_enum_tup (l : Addr) (items : Array Value) (n : Nat) (dct : Option Addr) (sl : Array (Option Value)) :
    Meets (Builtin.«enumerate.__new__» ⟨[.type "enumerate", .ref l], []⟩) (fun _ R s => s.heap.get? l = some { cls := .type "tuple", dict := dct, data := .seq items n, slots := sl } ∧ R (.ok (.ret (.ref (s.heap.push { cls := .type "tuple_iterator", data := .fields #[.ref l, .int 0 0] }).objs.size)))
        { s with heap := (s.heap.push { cls := .type "tuple_iterator", data := .fields #[.ref l, .int 0 0] }).push { cls := .type "enumerate", data := .fields #[.none, .bool false, .ref s.heap.objs.size, rawInt 0, .none, .none] } }) :=
  .of_wp fun prog w A R s h => by
    obtain ⟨hp, g, d, tk, os⟩ := s
    obtain ⟨hl, h⟩ := h
    have sub := sub_enumerate
    have isT : Heap.IsTuple (Shared.heap ⟨hp, g, d, tk, os⟩) l items := ⟨_, hl, rfl, n, rfl⟩
    wp_walk using AutoSeq1.wpAny_loadPart' hl
    refine wpAny_stack_any fun st => wpAny_pure ?_
    split
    · rename_i c _ _ _ _ _
      cases (c == Value.type "enumerate")
      · wp_walk using AutoSeq1.wpAny_loadPart' hl, wpAny_pyIter_tuple isT
        exact ⟨_, rfl, h⟩
      · wp_walk using AutoSeq1.wpAny_loadPart' hl, wpAny_pyIter_tuple isT
        exact ⟨_, rfl, h⟩
    · wp_walk using AutoSeq1.wpAny_loadPart' hl, wpAny_pyIter_tuple isT
      exact ⟨_, rfl, h⟩
theorem enum_tup {l : Addr} {items : Array Value} {Q : Value → Shared → Prop} (isT : s.heap.IsTuple l items)
    (go : ∀ h', IsEnum h' (s.heap.objs.size + 1) s.heap.objs.size 0 .none → h'.IsTupleIter s.heap.objs.size l 0 → h'.objs.size = s.heap.objs.size + 2 → (∀ b o, s.heap.get? b = some o → h'.get? b = some o) → Q (.ref (s.heap.objs.size + 1)) { s with heap := h' }) :
    wpAny (model prog w) A (call (.type "enumerate") [.ref l]) Q E s := by
  obtain ⟨⟨c, dct, dt, sl⟩, hl, hc, n, hd⟩ := isT
  obtain rfl : c = .type "tuple" := hc
  obtain rfl : dt = .seq items n := hd
  refine callType_new F.called_enumerate (by decide) (F.typeCall_enumerate_1 _) (F.newCall_enumerate_1 _) (fun obj => F.args_object_init_2 obj _) F.entry_enumerate_new (new_enum_tup l items n dct sl) ⟨hl, ?_⟩
  have sz : (s.heap.push { cls := .type "tuple_iterator", data := .fields #[.ref l, .int 0 0] }).objs.size = s.heap.objs.size + 1 := Heap.size_push ..
  show _ ∧ _
  rw [sz]
  have he : IsEnum ((s.heap.push { cls := .type "tuple_iterator", data := .fields #[.ref l, .int 0 0] }).push { cls := .type "enumerate", data := .fields #[.none, .bool false, .ref s.heap.objs.size, rawInt 0, .none, .none] }) (s.heap.objs.size + 1) s.heap.objs.size 0 .none := by
    have z := Heap.get?_push_size (s.heap.push { cls := .type "tuple_iterator", data := .fields #[.ref l, .int 0 0] }) (o := { cls := .type "enumerate", data := .fields #[.none, .bool false, .ref s.heap.objs.size, rawInt 0, .none, .none] }) rfl
    rw [sz] at z
    exact z
  exact ⟨⟨_, he, rfl⟩, go _ he ⟨_, Heap.get?_push_of_some _ (Heap.get?_push_size _ rfl), rfl, rfl⟩ (by rw [Heap.size_push, sz]) fun b o x => Heap.get?_push_of_some _ (Heap.get?_push_of_some _ x)⟩
end
/-- the tuple at a, each item in a new pair -/
def Iet (K : PySem.W.Frag) (a : Addr) : It :=
  ⟨fun i H => ∃ (xs : List V) (x : V), SqT K H a xs ∧ xs[i]? = some x, fun i H v H' => ∃ T x, v = .ref T ∧ H T = none ∧ H' = upd H T (.tup [.int (i : Nat), x]) ∧ ∀ xs, SqT K H a xs → xs[i]? = some x, fun i H => ∃ xs : List V, SqT K H a xs ∧ xs.length ≤ i⟩
theorem turn_enumT {P : Program} {w : World} {K : PySem.W.Frag} {elts : List Expr} {kk : Nat} {tpos : Pos} (a e it : Addr) (na : a ≠ it) (ne : a ≠ e) :
    Turn P w K (.Tuple elts kk tpos) (Iet K a) [e, it] e (fun i h => (∃ old, IsEnum h e it ((i : Nat) : Int) old) ∧ h.IsTupleIter it a i ∧ e ≠ it) where
  mem := by simp
  obj := fun i h st b hb => by
    obtain ⟨⟨old, he⟩, ⟨o, ho, hc, hd⟩, _⟩ := st
    rcases (show b = e ∨ b = it by simpa using hb) with z | z
    · rw [z]; exact ⟨_, he, fun v q => nomatch q⟩
    · rw [z]; exact ⟨o, ho, fun v q => by rw [hd] at q; cases q⟩
  keep := fun i h h' st k => let ⟨⟨old, he⟩, hi, hne⟩ := st; ⟨⟨old, k e (by simp) _ he⟩, hi.at fun o q => k it (by simp) o q, hne⟩
  item := by
    intro X hP hw hK hc i pins s σ H E I hf st hg
    subst hP hw hK
    obtain ⟨⟨old, he⟩, hit, hne⟩ := st
    obtain ⟨xs, x, hq, hx⟩ := hg
    obtain ⟨its, rv, p, hz⟩ := I.tuple hq
    obtain ⟨u, hu, ru⟩ := rv.get hx
    have hel : e < s.heap.objs.size := Heap.lt_size he
    have hil : it < s.heap.objs.size := by obtain ⟨_, q, _⟩ := hit; exact Heap.lt_size q
    have isT : s.heap.IsTuple a its.toArray := by obtain ⟨o, ho, hcl, n, hd⟩ := p; exact ⟨o, ho, hcl, n, hd⟩
    have lt : i < its.toArray.size := by
      rw [List.size_toArray]
      exact (List.getElem?_eq_some_iff.mp hu).1
    refine wpAny_pyNext_enum_itemD (draws_tup (show X.A.in1.handled = none from I.ok.hd hc) it a na its.toArray) he ⟨hit, isT⟩ lt hne (by simp [hne, Ne.symm ne]) fun y h' tk hy ho hst hT hsz hk => ?_
    obtain rfl : y = u := by
      have z : its.toArray[i]? = some y := hy
      rw [List.getElem?_toArray, hu] at z
      exact (Option.some.inj z).symm
    have hit' := hst.1
    refine ⟨_, rfl, wpAny_letOwnedTupleGo_enum (s := { s with heap := h', toks := tk + 1 }) ho fun h'' he' sb => ?_⟩
    have hT2 : h''.get? s.heap.objs.size = some { cls := .type "tuple", data := .seq #[.int i tk, y] } := (sb.2 _ (Nat.ne_of_gt hel)).trans hT
    have new : ObjOk X.prog X.w (upd H s.heap.objs.size (.tup [.int (i : Nat), x])) h'' s.heap.objs.size (.tup [.int (i : Nat), x]) := ⟨by show 2 ≤ sizeLine; decide, [.int i tk, y], .cons ⟨_, rfl⟩ (.cons ru .nil), ⟨_, hT2, rfl, _, rfl⟩⟩
    have I1 : Inv X pins σ (upd H s.heap.objs.size (.tup [.int (i : Nat), x])) { s with heap := h'', toks := tk + 1 } :=
      I.turnedNew (ch := [e, it]) (fun b ob hb q => (sb.2 b (fun z => hb (by simp [z]))).trans (hk b ob (fun z => hb (by simp [z])) (fun z => hb (by simp [z])) q)) hf (Nat.le_refl _) new
    refine ⟨.ref s.heap.objs.size, _, I1, rfl, ⟨_, x, rfl, I.hok.fresh (Nat.le_refl _), rfl, fun ys hy => by rw [I.tuple_inj hy hq]; exact hx⟩, ⟨⟨y, ?_⟩, hit'.at fun o q => (sb.2 it (Ne.symm hne)).trans q, hne⟩, fun b hb => ?_⟩
    · rw [show ((i + 1 : Nat) : Int) = (i : Int) + 1 by omega]
      exact he'
    · have lt2 : b < s.heap.objs.size := by
        rcases (show b = e ∨ b = it by simpa using hb) with z | z
        · rw [z]; exact hel
        · rw [z]; exact hil
      rw [upd_ne (Nat.ne_of_lt lt2)]
      exact (hf b hb).1
  done := by
    intro X hP hw hK hc i pins s σ H E I hf st hg
    subst hP hw hK
    obtain ⟨⟨old, he⟩, hit, hne⟩ := st
    obtain ⟨xs, hq, hx⟩ := hg
    obtain ⟨its, rv, p, hz⟩ := I.tuple hq
    obtain ⟨f0, f1, f2, f3, f4, f5⟩ := hf it (by simp)
    have hl := rv.length
    have isT : s.heap.IsTuple a its.toArray := by obtain ⟨o, ho, hcl, n, hd⟩ := p; exact ⟨o, ho, hcl, n, hd⟩
    exact enum_tup_end (I.ok.hd hc) he hit isT (by simp; omega) fun h' eb => ⟨rfl, I.turned (t' := s.toks) (fun b o hb q => eb b o hb q) f0 f1 f3 f4 f5⟩
  self := fun A i s Q E st h => let ⟨⟨_, he⟩, _⟩ := st; wpAny_pyIter_enum he h
def iEnumT (K : PySem.W.Frag) (ta : TA) : TI := fun σ H R => ta σ H fun vs H1 => ∃ a xs, vs = [.ref a] ∧ SqT K H1 a xs ∧ R (Iet K a) H1
theorem pi_enumT {X : Cx} {e : Expr} {ta : TA} {p pos tpos : Pos} {elts : List Expr} {kk : Nat} (hg : Gl X "enumerate") (hm : X.mg "enumerate" = none) (ha : PA X [e] ta) (hs : starEach [e] X.env = [(false, eval e X.env)] := by rfl) :
    PI X (.Tuple elts kk tpos) (.Call (.Name "enumerate" p) [e] [] pos) (iEnumT X.K ta) := by
  refine ⟨fun pins s σ H R I h => Call_ (ld_blt I hg hm boot_enumerate (PyProof.Rows.callWith_type1 (thn (ha.run pos pins s σ H _ I h) fun us s1 ⟨vs, H1, I1, r1, a, xs, ev, hq, q⟩ => ?_) hs rfl))⟩
  subst ev
  cases r1 with
  | cons r rr =>
    cases rr
    cases r
    obtain ⟨its, rv, pt, hz⟩ := I1.tuple hq
    have isT : s1.heap.IsTuple a its.toArray := by obtain ⟨o, ho, hcl, n, hd⟩ := pt; exact ⟨o, ho, hcl, n, hd⟩
    have old : a < s1.heap.objs.size := by obtain ⟨o, ho, _⟩ := isT; exact Heap.lt_size ho
    refine enum_tup isT fun h' he hit hsz hk => wpAny_pyIter_enum he ?_
    have I2 : Inv X pins σ H1 { s1 with heap := h' } := I1.kept (t' := s1.toks) hk
    refine ⟨s1.heap.objs.size + 1, [s1.heap.objs.size + 1, s1.heap.objs.size], _, _, H1, rfl, I2, turn_enumT a (s1.heap.objs.size + 1) s1.heap.objs.size (Nat.ne_of_lt old) (Nat.ne_of_lt (Nat.lt_succ_of_lt old)), ⟨⟨.none, he⟩, hit, Nat.succ_ne_self _⟩, fun b hb => ?_, q⟩
    have le : s1.heap.objs.size ≤ b := by
      rcases (show b = s1.heap.objs.size + 1 ∨ b = s1.heap.objs.size by simpa using hb) with z | z
      · rw [z]; exact Nat.le_succ _
      · rw [z]; exact Nat.le_refl _
    exact I1.fpOk le (I1.hok.fresh le)
theorem walk_enumT {K : PySem.W.Frag} {a : Addr} {xs : List V} : Walk (Iet K a) xs.length (fun H => SqT K H a xs) (YPair (fun i => some (.int (i : Nat))) (fun i => xs[i]?)) := by
  refine ⟨fun i _ hi q => ⟨xs, xs[i], q, by simp [hi]⟩, fun _ q => ⟨xs, q, Nat.le_refl _⟩, fun i H v H' _ q y => ?_⟩
  obtain ⟨T, x, h1, h2, h3, h4⟩ := y
  exact ⟨T, .int (i : Nat), x, h1, h2, h3, rfl, h4 xs q⟩
end My
namespace My
open PySem PySem.Spec PyProof.Rows L2
section
variable {J : It} {n : Nat} {G : Hp → Prop} {Y : Nat → Hp → V → Hp → Prop}
/-- a dict comprehension over a walk: Pv by the turn and the heap (the new dict at D within) -/
theorem dc_it (w : Walk J n G Y) {g : TG} {tt : TT} {tk tv : TE} {vs : List Nat} {σ : L2.St} {H1 : Hp} {D : Addr} {Qd : Hp → Prop} (Pv : Nat → Hp → Prop) (h0 : Pv 0 (upd H1 D (.dK []))) (hG : ∀ i H, i ≤ n → Pv i H → G H)
    (hs : ∀ i x H H', i < n → Pv i H → Y i H x H' → g x (wipe σ vs) H' fun σ2 H2 => wipe σ2 vs = wipe σ vs ∧ tt σ2 H2 fun b H3 =>
      if b = true then tk σ2 H3 fun y H4 => tv σ2 H4 fun z H5 => ∃ kvs k, y = kV k ∧ H5 D = some (.dK kvs) ∧ kvs.length < sizeLine ∧ Pv (i + 1) (upd H5 D (.dK (putK kvs k z))) else Pv (i + 1) H3) (hd : ∀ H, Pv n H → Qd H) :
    ∃ W : Nat → Nat → Hp → Prop, (∃ m, W 0 m (upd H1 D (.dK []))) ∧ ∀ i m H, W i m H →
      (J.stop i H ∧ Qd H) ∨ (J.go i H ∧ ∃ Nx : Hp → Prop, (∀ H', Nx H' → ∃ m', m' < m ∧ W (i + 1) m' H') ∧ ∀ x H', J.yld i H x H' → g x (wipe σ vs) H' fun σ2 H2 => wipe σ2 vs = wipe σ vs ∧ tt σ2 H2 fun b H3 =>
        if b = true then tk σ2 H3 fun y H4 => tv σ2 H4 fun z H5 => ∃ kvs k, y = kV k ∧ H5 D = some (.dK kvs) ∧ kvs.length < sizeLine ∧ Nx (upd H5 D (.dK (putK kvs k z))) else Nx H3) := by
  refine ⟨fun i m H => m = n - i ∧ i ≤ n ∧ Pv i H, ⟨n, by simp, Nat.zero_le _, h0⟩, ?_⟩
  rintro i m H ⟨rfl, hi, p⟩
  have q := hG i H hi p
  by_cases hlt : i < n
  · refine .inr ⟨w.goes i H hlt q, Pv (i + 1), fun H' p' => ⟨n - (i + 1), by omega, rfl, hlt, p'⟩, fun x H' y => hs i x H H' hlt p (w.yields i H x H' hlt q y)⟩
  · have e : i = n := by omega
    subst e
    exact .inl ⟨w.stops H q, hd H p⟩
end
/-- where a text stands in a row -/
def pos (zs : List Str) (y : Str) : Nat := zs.findIdx fun z => decide (z = y)
def nmIdx (k : Nat) (zs : List Str) : List (Key × V) := zs.mapIdx fun i z => (.inr z, .int ((i + k : Nat) : Int))
theorem nmIdx_cons (k : Nat) (z : Str) (zs : List Str) : nmIdx k (z :: zs) = (.inr z, .int (k : Nat)) :: nmIdx (k + 1) zs := by
  unfold nmIdx
  rw [List.mapIdx_cons, Nat.zero_add]
  congr 1
  apply List.ext_getElem?
  intro i
  rw [List.getElem?_mapIdx, List.getElem?_mapIdx, show i + 1 + k = i + (k + 1) by omega]
theorem valV_nmIdx (y : Str) : ∀ (zs : List Str) (k : Nat), valV (nmIdx k zs) (.inr y) = if y ∈ zs then some (.int ((pos zs y + k : Nat) : Int)) else none
  | [], k => rfl
  | z :: zs, k => by
    rw [nmIdx_cons]
    by_cases e : z = y
    · subst e
      rw [valV_pos (p := ((.inr z : Key), V.int (k : Nat))) rfl, if_pos (List.mem_cons_self ..)]
      unfold pos
      rw [List.findIdx_cons, decide_eq_true rfl]
      simp
    · rw [valV_neg (p := ((.inr z : Key), V.int (k : Nat))) (fun q => e (Sum.inr.inj q)), valV_nmIdx y zs (k + 1)]
      have m : (y ∈ z :: zs) ↔ y ∈ zs := by
        rw [List.mem_cons]
        exact ⟨fun h => h.elim (fun q => absurd q.symm e) id, .inr⟩
      have p : pos (z :: zs) y = pos zs y + 1 := by
        unfold pos
        rw [List.findIdx_cons, decide_eq_false e]
        rfl
      by_cases h : y ∈ zs
      · rw [if_pos h, if_pos (m.mpr h), p, show pos zs y + 1 + k = pos zs y + (k + 1) by omega]
      · rw [if_neg h, if_neg (fun q => h (m.mp q))]
theorem nmIdx_snoc {zs : List Str} {i : Nat} {z : Str} (nd : zs.Nodup) (hz : zs[i]? = some z) : putK (nmIdx 0 (zs.take i)) (.inr z) (.int (i : Nat)) = nmIdx 0 (zs.take (i + 1)) := by
  have out : z ∉ zs.take i := fun m => by
    obtain ⟨j, hj, e⟩ := List.getElem_of_mem m
    rw [List.getElem_take] at e
    rw [List.length_take] at hj
    obtain ⟨hi, e2⟩ := List.getElem?_eq_some_iff.mp hz
    have q := (List.nodup_iff_pairwise_ne.mp nd)
    exact (List.pairwise_iff_getElem.mp q) j i (by omega) hi (by omega) (e.trans e2.symm)
  rw [putK_new _ (by rw [valV_nmIdx, if_neg out]), take_next hz]
  unfold nmIdx
  have hi : i < zs.length := (List.getElem?_eq_some_iff.mp hz).1
  have e1 : (zs.take i).length = i := by rw [List.length_take]; omega
  rw [List.mapIdx_append]
  simp [e1]
section
variable {K : PySem.W.Frag} {a D : Addr} {zs : List Str} {vs : List Nat} {σ : L2.St} {H1 : Hp} {Qd : Hp → Prop} {j k : Nat}
theorem nm_dict (nd : zs.Nodup) (hx : SqT K H1 a (zs.map V.str)) (hD : H1 D = none) (hz : zs.length ≤ 1000)
    (hw : ∀ x y, wipe (((wipe σ vs).set j (some x)).set k (some y)) vs = wipe σ vs) (hj : ∀ x y, (((wipe σ vs).set j (some x)).set k (some y))[j]? = some (some x)) (hk : ∀ x y, (((wipe σ vs).set j (some x)).set k (some y))[k]? = some (some y))
    (hd : ∀ H', Ext H1 H' → H' D = some (.dK (nmIdx 0 zs)) → Qd H') :
    ∃ W : Nat → Nat → Hp → Prop, (∃ m, W 0 m (upd H1 D (.dK []))) ∧ ∀ i m H, W i m H →
      ((Iet K a).stop i H ∧ Qd H) ∨ ((Iet K a).go i H ∧ ∃ Nx : Hp → Prop, (∀ H', Nx H' → ∃ m', m' < m ∧ W (i + 1) m' H') ∧ ∀ x H', (Iet K a).yld i H x H' → gTup K 2 (gCons (gName j) (gCons (gName k) gNil)) x (wipe σ vs) H' fun σ2 H2 => wipe σ2 vs = wipe σ vs ∧ tYes σ2 H2 fun b H3 =>
        if b = true then tVar k σ2 H3 fun y H4 => tVar j σ2 H4 fun z H5 => ∃ kvs k, y = kV k ∧ H5 D = some (.dK kvs) ∧ kvs.length < sizeLine ∧ Nx (upd H5 D (.dK (putK kvs k z))) else Nx H3) := by
  have wk : Walk (Iet K a) zs.length (fun H => SqT K H a (zs.map V.str)) (YPair (fun i => some (.int (i : Nat))) (fun i => (zs.map V.str)[i]?)) := by
    have z := walk_enumT (K := K) (a := a) (xs := zs.map V.str)
    rwa [List.length_map] at z
  refine dc_it wk (fun i H' => H1 D = none ∧ Ext H1 H' ∧ H' D = some (.dK (nmIdx 0 (zs.take i)))) ⟨hD, ext_new (ext_refl H1) hD, upd_same⟩ (fun i H' _ p => hx.ext p.2.1) (fun i x H H' hi p y => ?_) fun H' p => hd H' p.2.1 (by have q := p.2.2; rw [List.take_length] at q; exact q)
  obtain ⟨T, u, v, rfl, hT, rfl, hu, hv⟩ := y
  obtain ⟨p1, p2, p3⟩ := p
  cases hu
  replace hv : (zs.map V.str)[i]? = some v := hv
  rw [List.getElem?_map, List.getElem?_eq_getElem hi] at hv
  cases hv
  have eT := ext_new (o := HO.tup [V.int (i : Nat), .str zs[i]]) (ext_refl H) hT
  refine ⟨T, _, rfl, SqT.of upd_same, rfl, _, _, rfl, _, _, rfl, rfl, hw _ _, ?_⟩
  unfold tYes
  dsimp only
  rw [if_pos rfl]
  refine ⟨_, hk _ _, _, hj _ _, _, .inr zs[i], rfl, eT _ _ p3, ?_, p1, ext_mut (p2.trans eT) p1, ?_⟩
  · unfold nmIdx
    rw [List.length_mapIdx, List.length_take]
    exact Nat.lt_of_le_of_lt (Nat.le_trans (Nat.min_le_right _ _) hz) (by decide)
  · rw [upd_same, nmIdx_snoc nd (by simp [hi])]
end
end My
namespace My
open PySem PySem.Spec PyProof.Rows L2
local macro_rules | `(tactic| walk_at "side") => `(tactic| first | assumption | decide | exact Or.inl ⟨by decide, by decide⟩ | exact Or.inr ⟨by decide, by decide⟩ | exact ⟨by decide, by decide, by decide⟩ | omega | (unfold CMulW; decide +kernel) | (dsimp only; first | assumption | omega | decide +kernel) | exact len_ok (Nat.le_of_ble_eq_true rfl) | fail "side")
local macro_rules | `(tactic| walk_at "rd") => `(tactic| first
  | refine ⟨_, _, _, _, rfl, rfl, SqL.of upd_same, atI_nat (j := 0) rfl, ?_⟩ | refine ⟨_, _, _, _, rfl, rfl, SqL.of upd_same, atI_nat (j := 1) rfl, ?_⟩ | refine ⟨_, _, _, _, rfl, rfl, SqL.of upd_same, atI_nat (j := 2) rfl, ?_⟩
  | refine ⟨_, _, _, _, rfl, rfl, upd_same, rfl, ?_⟩
  | refine ⟨_, _, rfl, rfl, ?_⟩ | refine ⟨_, rfl, ?_⟩ | refine ⟨_, _, rfl, ?_⟩ | refine Or.inl ⟨_, rfl, ?_⟩ | refine Or.inr ⟨_, rfl, ?_⟩ | refine ⟨(by walk_at "side"), ?_⟩ | fail "rd")
abbrev s_isname : Stmt := top 16
theorem sc_isname : FnScope ["value", "letter"] ["value"] (defScope s_isname) := ⟨rfl, rfl, rfl, by decide +kernel, rfl, by decide +kernel, by decide +kernel⟩
abbrev s_arenames : Stmt := top 17
theorem sc_arenames : FnScope ["value", "name"] ["value"] (defScope s_arenames) := ⟨rfl, rfl, rfl, by decide +kernel, rfl, by decide +kernel, by decide +kernel⟩
theorem tyOf_ext {K : PySem.W.Frag} {H H' : Hp} {v : V} {t : Value} (h : TyOf K H v t) (e : Ext H H') : TyOf K H' v t := by
  cases h with
  | non => exact .non
  | bl x => exact .bl x
  | int i => exact .int i
  | str x => exact .str x
  | flt x => exact .flt x
  | lst q => exact .lst (e _ _ q)
  | frz q => exact .frz (e _ _ q)
  | tup q => exact .tup (e _ _ q)
  | dK q => exact .dK (e _ _ q)
  | dT q => exact .dT (e _ _ q)
  | ins q cl ha hn htk hm => exact .ins (e _ _ q) cl ha hn htk hm
theorem tyX_ext {K : PySem.W.Frag} {H H' : Hp} {v : V} {t : Value} (h : TyX K H v t) (e : Ext H H') : TyX K H' v t := by
  cases h with
  | base h => exact .base (tyOf_ext h e)
  | byt b => exact .byt b
  | set q => exact .set (e _ _ q)
  | kList q c => exact .kList q c
  | kTuple q c => exact .kTuple q c
  | kDict q c => exact .kDict q c
  | fTuple q => exact .fTuple (e _ _ q)
  | fDict q => exact .fDict (e _ _ q)
def letS : Str := "abcdefghijklmnopqrstuvwxyz"
def sg : V → Nat
  | .str q => q.cps.toList.headD 0
  | _ => 0
theorem signs_map (z : Str) (g : Nat → V) : (signs z).mapIdx (fun _ x => g (sg x)) = z.cps.toList.map g := by
  unfold signs
  apply List.ext_getElem?
  intro i
  rw [List.getElem?_mapIdx, List.getElem?_map, List.getElem?_map, Option.map_map]
  rfl
structure WordC (mg : Str → Option Value) : Prop where
  LETTERS : ∃ t, mg "LETTERS" = some (.str letS t)
  ML : ∃ t, mg "MAX_LETTERS" = some (.int 8 t)
/-- a value whose class is none of T -/
def NotK (K : PySem.W.Frag) (H : Hp) (v : V) (T : String) : Prop := ∃ t, TyX K H v t ∧ PySem.W.kitOne K t (.type T) = some false
theorem NotK.ext {K : PySem.W.Frag} {H H' : Hp} {v : V} {T : String} (h : NotK K H v T) (e : Ext H H') : NotK K H' v T := let ⟨t, a, b⟩ := h; ⟨t, tyX_ext a e, b⟩
def isNm (s : Str) : Bool := (decide ((1 : Int) ≤ s.length) && decide ((s.length : Int) ≤ 8)) && s.cps.toList.all fun c => decide (c ∈ letS.cps.toList)
def spNm (K : PySem.W.Frag) : Sp := fun vs H Q _ => ∃ v, vs = [v] ∧ ((∃ s, v = .str s ∧ s.length ≤ 100000 ∧ ∀ H', Ext H H' → Q (.bl (isNm s)) H') ∨ (NotK K H v "str" ∧ ∀ H', Ext H H' → Q (.bl false) H'))
/-- the items of a tuple, judged -/
def Judged (K : PySem.W.Frag) (H : Hp) (x : V) (b : Bool) : Prop := (∃ s, x = .str s ∧ s.length ≤ 100000 ∧ b = isNm s) ∨ (NotK K H x "str" ∧ b = false)
def spNms (K : PySem.W.Frag) : Sp := fun vs H Q _ => ∃ v, vs = [v] ∧ ((NotK K H v "tuple" ∧ Q (.bl false) H) ∨
  ∃ (a : Addr) (xs : List V) (f : V → Bool), v = .ref a ∧ SqT K H a xs ∧ TyX K H v (.type "tuple") ∧ xs.length ≤ 1000 ∧ (∀ x ∈ xs, Judged K H x (f x)) ∧ ∀ H', Ext H H' → Q (.bl (xs.all f)) H')
theorem kit_strstr {K : PySem.W.Frag} : PySem.W.kitOne K (.type "str") (.type "str") = some true := kit_ty (by decide +kernel : kitB "str" "str" = some true)
theorem kit_tuptup' {K : PySem.W.Frag} : PySem.W.kitOne K (.type "tuple") (.type "tuple") = some true := kit_ty (by decide +kernel : kitB "tuple" "tuple" = some true)
theorem tyTup {K : PySem.W.Frag} {H : Hp} {a : Addr} {xs : List V} (h : SqT K H a xs) : TyX K H (.ref a) (.type "tuple") := by
  rcases h with (e | ⟨o, e⟩) | ⟨o, its, n, l, c, _⟩
  · exact .base (.tup e)
  · exact .fTuple e
  · exact .kTuple l c
section
variable {P : Program} {w : World} {K : PySem.W.Frag} {mg : Str → Option Value} {base : Heap}
theorem ok_isname (T : Bn mg) (WC : WordC mg) (D : DefAt K mg "is_name" s_isname) : FnAt P w K mg base 1 "is_name" ["value"] (spNm K) := by
  obtain ⟨_, g_LETTERS⟩ := WC.LETTERS
  obtain ⟨_, g_MAX_LETTERS⟩ := WC.ML
  refine fnAt D sc_isname (fun _ _ _ _ _ _ us hl => match us, hl with | [_], _ => rfl) (fun vs H Q E h => ?_) fun f cdv A outer s H vs Q E hr h => ?_
  · obtain ⟨v, rfl, _⟩ := h
    rfl
  obtain ⟨v, rfl, h⟩ := h
  refine ⟨_, (pss_cons (ps_if (PW.pt (pw_or (pt_not (pt_val (pe_callB call_isi (by rfl) T.b_isinstance (by decide +kernel) (pa_cons (pv 0) (pa_cons (pe_bltn (v := .ty "str") (by rfl) T.b_str (by decide +kernel) rfl) pa_nil))))) (pw_or1 (pt_not (pt_chain op_le op_le pe_int (pe_callB call_len_str (by rfl) T.b_len (by decide +kernel) (pa_cons (pv 0) pa_nil)) (pe_glob (v := .int 8) rfl g_MAX_LETTERS ⟨_, rfl⟩)))))) (pss_one (ps_ret pe_bl)) pss_nil)
    (pss_one (ps_ret (pe_callB (cr_all rfl) (by rfl) T.b_all (by decide +kernel) (pa_cons (pe_lc (own := [("letter", 1)]) (g := gName 1) (tt := tYes) rfl sc_isname.nd (pi_str (pv 0)) (blkOk_by (N := ["value", "letter"]) (sc := defScope s_isname) (by decide +kernel)) (fun _ _ _ _ _ => pg_name (i := 1) sc_isname.nd rfl (Or.inl rfl)) (fun _ _ _ _ _ => pts_nil) (fun _ _ _ _ _ => (pe_cmpR op_in_sign (pv 1) (pe_glob (v := .str letS) rfl g_LETTERS ⟨_, rfl⟩) rfl))) pa_nil))))), ?_⟩
  rcases h with ⟨z, rfl, hz, k⟩ | ⟨⟨t, ty, hk⟩, k⟩
  · refine ⟨_, rfl, _, _, _, _, true, rfl, .ty _, .base (.str _), kit_strstr, _, rfl, iteF ?_⟩
    refine ⟨_, rfl, _, rfl, Nat.le_trans hz (by decide), _, _, rfl, rfl, _, rfl, ?_⟩
    by_cases h1 : decide ((1 : Int) ≤ z.length) = true
    · rw [if_pos h1]
      refine ⟨_, _, rfl, rfl, _, rfl, ?_⟩
      by_cases h2 : decide ((z.length : Int) ≤ 8) = true
      · rw [h2]
        refine iteF ?_
        refine ⟨_, rfl, z, rfl, fun D hD => map_str (fun _ x => .bl (decide (sg x ∈ letS.cps.toList))) hD ?_ (fun _ => rfl) (fun i x H' hi e Q' k' => ?_) fun H' e hl => ?_⟩
        · exact Nat.le_trans hz (by decide)
        · obtain ⟨c, hc, rfl⟩ := signs_mem (List.mem_of_getElem? hi)
          exact ⟨_, rfl, c, letS, rfl, rfl, k' H' (ext_refl _)⟩
        · refine ⟨D, z.cps.toList.map fun c => decide (c ∈ letS.cps.toList), rfl, SqL.of ?_, ?_⟩
          · rw [hl, signs_map z fun c => .bl (decide (c ∈ letS.cps.toList)), List.map_map]
            rfl
          · have e1 : isNm z = (z.cps.toList.map fun c => decide (c ∈ letS.cps.toList)).all id := by
              unfold isNm
              rw [h1, h2, List.all_map]
              rfl
            rw [e1] at k
            exact k H' e
      · rw [Bool.eq_false_iff.mpr h2]
        refine iteT ?_
        have e1 : isNm z = false := by unfold isNm; rw [Bool.eq_false_iff.mpr h2, Bool.and_false]; rfl
        exact e1 ▸ k H (ext_refl H)
    · rw [if_neg h1]
      refine ⟨_, rfl, iteT ?_⟩
      have e1 : isNm z = false := by unfold isNm; rw [Bool.eq_false_iff.mpr h1]; rfl
      exact e1 ▸ k H (ext_refl H)
  · exact ⟨_, rfl, _, _, _, _, false, rfl, .ty _, ty, hk, _, rfl, iteT (k H (ext_refl H))⟩
theorem ok_arenames (T : Bn mg) (D : DefAt K mg "are_names" s_arenames) (F_is_name : FnAt P w K mg base 1 "is_name" ["value"] (spNm K)) : FnAt P w K mg base 2 "are_names" ["value"] (spNms K) := by
  refine fnAt D sc_arenames (fun _ _ _ _ _ _ us hl => match us, hl with | [_], _ => rfl) (fun vs H Q E h => ?_) fun f cdv A outer s H vs Q E hr h => ?_
  · obtain ⟨v, rfl, _⟩ := h
    rfl
  obtain ⟨v, rfl, h⟩ := h
  refine ⟨_, (pss_one (ps_ret (pe_and (pe_callB call_isi (by rfl) T.b_isinstance (by decide +kernel) (pa_cons (pv 0) (pa_cons (pe_bltn (v := .ty "tuple") (by rfl) T.b_tuple (by decide +kernel) rfl) pa_nil))) (pe_one (pe_callB (cr_all rfl) (by rfl) T.b_all (by decide +kernel) (pa_cons (pe_lc (own := [("name", 1)]) (g := gName 1) (tt := tYes) rfl sc_arenames.nd (pi_tup (pv 0)) (blkOk_by (N := ["value", "name"]) (sc := defScope s_arenames) (by decide +kernel)) (fun _ _ _ _ _ => pg_name (i := 1) sc_arenames.nd rfl (Or.inl rfl)) (fun _ _ _ _ _ => pts_nil) (fun _ _ _ _ _ => (callA F_is_name (hr.mono (by decide)) rfl (pa_cons (pv 1) pa_nil)))) pa_nil)))))), ?_⟩
  rcases h with ⟨⟨t, ty, hk⟩, k⟩ | ⟨a, xs, g, rfl, ha, ty, hl, hj, k⟩
  · exact ⟨_, rfl, _, _, _, _, false, rfl, .ty _, ty, hk, _, rfl, iteF k⟩
  · refine ⟨_, rfl, _, _, _, _, true, rfl, .ty _, ty, kit_tuptup', _, rfl, iteT ?_⟩
    refine ⟨_, rfl, a, rfl, ⟨_, ha⟩, fun D hD => map_tup (xs := xs) (fun _ x => .bl (g x)) ha hD (by omega) (fun _ => rfl) (fun i x H' hi e Q' k' => ?_) fun H' e hl2 => ?_⟩
    · refine ⟨_, rfl, _, rfl, ?_⟩
      rcases hj x (List.mem_of_getElem? hi) with ⟨z, rfl, hz, eb⟩ | ⟨nk, eb⟩
      · rw [eb] at k'
        exact .inl ⟨z, rfl, hz, k'⟩
      · rw [eb] at k'
        exact .inr ⟨nk.ext e, k'⟩
    · refine ⟨D, xs.map g, rfl, SqL.of ?_, ?_⟩
      · rw [hl2, List.map_map]
        congr 1
        congr 1
        apply List.ext_getElem?
        intro i
        rw [List.getElem?_mapIdx, List.getElem?_map]
        rfl
      · have e1 : xs.all g = (xs.map g).all id := by rw [List.all_map]; rfl
        rw [e1] at k
        exact k H' e
end
end My
namespace My
open PySem PySem.Spec PyProof.Rows L2
local macro_rules | `(tactic| walk_at "side") => `(tactic| first | assumption | decide | exact Or.inl ⟨by decide, by decide⟩ | exact Or.inr ⟨by decide, by decide⟩ | exact ⟨by decide, by decide, by decide⟩ | omega | (unfold CMulW; decide +kernel) | (dsimp only; first | assumption | omega | decide +kernel) | exact len_ok (Nat.le_of_ble_eq_true rfl) | fail "side")
local macro_rules | `(tactic| walk_at "rd") => `(tactic| first
  | refine ⟨_, _, _, _, rfl, rfl, SqL.of upd_same, atI_nat (j := 0) rfl, ?_⟩ | refine ⟨_, _, _, _, rfl, rfl, SqL.of upd_same, atI_nat (j := 1) rfl, ?_⟩ | refine ⟨_, _, _, _, rfl, rfl, SqL.of upd_same, atI_nat (j := 2) rfl, ?_⟩
  | refine ⟨_, _, _, _, rfl, rfl, upd_same, rfl, ?_⟩
  | refine ⟨_, _, rfl, rfl, ?_⟩ | refine ⟨_, rfl, ?_⟩ | refine ⟨_, _, rfl, ?_⟩ | refine Or.inl ⟨_, rfl, ?_⟩ | refine Or.inr ⟨_, rfl, ?_⟩ | refine ⟨(by walk_at "side"), ?_⟩ | fail "rd")
abbrev s_difd : Stmt := top 42
theorem sc_difd : FnScope ["names"] ["names"] (defScope s_difd) := ⟨rfl, rfl, rfl, by decide +kernel, rfl, by decide +kernel, by decide +kernel⟩
/-- a tuple of texts: whether all are names, and different -/
def spDif (K : PySem.W.Frag) : Sp := fun vs H Q _ => ∃ (a : Addr) (zs : List Str), vs = [.ref a] ∧ SqT K H a (zs.map V.str) ∧ zs.length ≤ 1000 ∧ (∀ z ∈ zs, isNm z = true) ∧ ∀ H', Ext H H' → Q (.bl (decide zs.Nodup)) H'
section
variable {P : Program} {w : World} {K : PySem.W.Frag} {mg : Str → Option Value} {base : Heap}
theorem nm_len {z : Str} (h : isNm z = true) : z.length ≤ 8 := by
  unfold isNm at h
  rw [Bool.and_eq_true, Bool.and_eq_true] at h
  have := of_decide_eq_true h.1.2
  omega
theorem judged_nm {H : Hp} {zs : List Str} (h : ∀ z ∈ zs, isNm z = true) : ∀ x ∈ zs.map V.str, Judged K H x ((fun _ => true) x) := fun x hx => by
  obtain ⟨z, hz, rfl⟩ := List.mem_map.mp hx
  exact .inl ⟨z, rfl, Nat.le_trans (nm_len (h z hz)) (by decide), (h z hz).symm⟩
theorem all_tt {zs : List V} : zs.all (fun _ => true) = true := by simp
theorem ok_difd (T : Bn mg) (D : DefAt K mg "_are_different" s_difd) (F_are_names : FnAt P w K mg base 2 "are_names" ["value"] (spNms K)) : FnAt P w K mg base 3 "_are_different" ["names"] (spDif K) := by
  refine fnAt D sc_difd (fun _ _ _ _ _ _ us hl => match us, hl with | [_], _ => rfl) (fun vs H Q E h => ?_) fun f cdv A outer s H vs Q E hr h => ?_
  · obtain ⟨a, zs, rfl, _⟩ := h
    rfl
  obtain ⟨a, zs, rfl, ha, hz, hn, k⟩ := h
  refine ⟨_, (pss_one (ps_ret (pe_and (callA F_are_names (hr.mono (by decide)) rfl (pa_cons (pv 0) pa_nil)) (pe_one (pe_cmpR op_eq (pe_callB cr_lenT (by rfl) T.b_len (by decide +kernel) (pa_cons (pe_callTy (cr_setT rfl) (by rfl) T.b_set (by decide +kernel) (pa_cons (pv 0) pa_nil)) pa_nil)) (pe_callB call_len_seq (by rfl) T.b_len (by decide +kernel) (pa_cons (pv 0) pa_nil)) (nomark _)))))), ?_⟩
  refine ⟨_, rfl, _, rfl, .inr ⟨a, _, fun _ => true, rfl, ha, tyTup ha, by rw [List.length_map]; exact hz, judged_nm hn, fun H1 e1 => ?_⟩⟩
  rw [all_tt]
  refine ⟨_, rfl, iteT ?_⟩
  refine ⟨_, rfl, a, zs, rfl, .inr (ha.ext e1), hz, fun p hp => ?_⟩
  have x := ext_new (o := SetT P w p zs) (ext_refl H1) hp
  refine ⟨p, zs, rfl, upd_same, hz, _, rfl, a, _, rfl, .inr ((ha.ext e1).ext x), ?_⟩
  refine ⟨rfl, ?_⟩
  have e2 : decide (V.int (dif zs : Nat) = .int ((zs.map V.str).length : Nat)) = decide zs.Nodup := by
    rw [List.length_map, dec_int, Bool.eq_iff_iff, beq_iff_eq, decide_eq_true_iff, ← dif_eq zs]
    omega
  rw [e2]
  exact k _ (e1.trans x)
end
end My
namespace My
open PySem PySem.Spec PyProof.Rows L2
def leS (a b : Str) : Prop := a.cps.toList ≤ b.cps.toList
theorem leS_of {a b : Str} (h : (!ltCps b.cps.toList a.cps.toList) = true) : leS a b := by
  rw [ltCps_eq] at h
  have n : ¬ b.cps.toList < a.cps.toList := fun q => by rw [decide_eq_true q] at h; cases h
  exact List.not_lt.mp n
theorem leS_trans {a b c : Str} (h : leS a b) (g : leS b c) : leS a c := List.le_trans h g
theorem leS_anti {a b : Str} (h : leS a b) (g : leS b a) : a = b := by
  have e : a.cps.toList = b.cps.toList := List.le_antisymm h g
  cases a
  cases b
  congr 1
  exact Array.toList_inj.mp e
theorem rising_pw : ∀ (l : List Str) (p : Str), risingS p l = true → (p :: l).Pairwise leS
  | [], p, _ => List.pairwise_singleton ..
  | x :: r, p, h => by
    rw [show risingS p (x :: r) = (!ltCps x.cps.toList p.cps.toList && risingS x r) from rfl, Bool.and_eq_true] at h
    have ih := rising_pw r x h.2
    have le := leS_of h.1
    refine List.pairwise_cons.mpr ⟨fun y hy => ?_, ih⟩
    rcases List.mem_cons.mp hy with e | hy
    · rw [e]; exact le
    · exact leS_trans le ((List.pairwise_cons.mp ih).1 y hy)
theorem sorted_pw {l : List Str} (h : sortedS l = true) : l.Pairwise leS := by
  cases l with
  | nil => exact .nil
  | cons x r => exact rising_pw r x h
theorem sorted_one {a b : List Str} (p : a.Perm b) (ha : sortedS a = true) (hb : sortedS b = true) : a = b :=
  List.Perm.eq_of_pairwise (fun _ _ _ _ h g => leS_anti h g) (sorted_pw ha) (sorted_pw hb) p
end My
namespace My
open PySem PySem.Spec PyProof.Rows L2
theorem lay_strs : ∀ ss : List Str, (∀ s ∈ ss, PyData.strOk s = true) → PyData.canLayAll0 (ss.map PyData.str) = true := by
  intro ss h
  induction ss with
  | nil => rfl
  | cons x r ih =>
    rw [List.map_cons, PyData.canLayAll0, ih fun s hs => h s (List.mem_cons_of_mem _ hs), PyData.canLay0, h x (List.mem_cons_self ..)]
    rfl
theorem dep_strs : ∀ ss : List Str, PyData.depthAll (ss.map PyData.str) = 0 := by
  intro ss
  induction ss with
  | nil => rfl
  | cons x r ih =>
    rw [List.map_cons, PyData.depthAll, ih]
    rfl
theorem shaped_strs {ss : List Str} (h : ∀ s ∈ ss, PyData.strOk s = true) : SeqAt.shaped (.list (ss.map PyData.str)) = true := by
  unfold SeqAt.shaped
  rw [PyData.canLay0, lay_strs _ h, PyData.depth, dep_strs]
  rfl
theorem shaped_strsT {ss : List Str} (h : ∀ s ∈ ss, PyData.strOk s = true) : SeqAt.shaped (.tuple (ss.map PyData.str)) = true := by
  unfold SeqAt.shaped
  rw [PyData.canLay0, lay_strs _ h, PyData.depth, dep_strs]
  rfl
theorem eqv_strs : ∀ ss ts : List Str, PyData.eqvAll (ss.map PyData.str) (ts.map PyData.str) = decide (ss = ts) := by
  intro ss
  induction ss with
  | nil =>
    intro ts
    cases ts with
    | nil => rfl
    | cons _ _ => rfl
  | cons x r ih =>
    intro ts
    cases ts with
    | nil => rfl
    | cons y q =>
      rw [List.map_cons, List.map_cons, PyData.eqvAll, ih, PyData.eqv]
      by_cases h : x = y
      · subst h
        by_cases h2 : r = q
        · subst h2; simp
        · simp [h2]
      · simp [h]
theorem dp_strs {K : PySem.W.Frag} {H : Hp} : ∀ ss : List Str, DpAll K H (ss.map V.str) (ss.map PyData.str) := by
  intro ss
  induction ss with
  | nil => exact .nil
  | cons x r ih => exact .cons (.str x) ih
/-- a text of few codes -/
def Asc (z : Str) : Prop := ∀ c ∈ z.cps.toList, c < 1000
theorem Asc.ok {z : Str} (h : Asc z) : PyData.strOk z = true := by
  unfold PyData.strOk
  rw [← Array.all_toList]
  exact List.all_eq_true.mpr fun c hc => decide_eq_true (Nat.lt_trans (h c hc) (by decide))
end My
namespace My
open PySem PySem.Spec PyProof.Rows L2
local macro_rules | `(tactic| walk_at "side") => `(tactic| first | assumption | decide | exact Or.inl ⟨by decide, by decide⟩ | exact Or.inr ⟨by decide, by decide⟩ | exact ⟨by decide, by decide, by decide⟩ | omega | (unfold CMulW; decide +kernel) | (dsimp only; first | assumption | omega | decide +kernel) | exact len_ok (Nat.le_of_ble_eq_true rfl) | fail "side")
local macro_rules | `(tactic| walk_at "rd") => `(tactic| first
  | refine ⟨_, _, _, _, rfl, rfl, SqL.of upd_same, atI_nat (j := 0) rfl, ?_⟩ | refine ⟨_, _, _, _, rfl, rfl, SqL.of upd_same, atI_nat (j := 1) rfl, ?_⟩ | refine ⟨_, _, _, _, rfl, rfl, SqL.of upd_same, atI_nat (j := 2) rfl, ?_⟩
  | refine ⟨_, _, _, _, rfl, rfl, upd_same, rfl, ?_⟩
  | refine ⟨_, _, rfl, rfl, ?_⟩ | refine ⟨_, rfl, ?_⟩ | refine ⟨_, _, rfl, ?_⟩ | refine Or.inl ⟨_, rfl, ?_⟩ | refine Or.inr ⟨_, rfl, ?_⟩ | refine ⟨(by walk_at "side"), ?_⟩ | fail "rd")
abbrev s_rows : Stmt := top 43
theorem sc_rows : FnScope ["upper", "lower"] ["upper", "lower"] (defScope s_rows) := ⟨rfl, rfl, rfl, by decide +kernel, rfl, by decide +kernel, by decide +kernel⟩
/-- the rows of an order -/
structure RowsOk (zs ys : List Str) : Prop where
  nm : ∀ z ∈ zs, isNm z = true
  nd : zs.Nodup
  pm : ys.Perm zs
  ne : 1 ≤ zs.length
  le : zs.length ≤ 40
theorem RowsOk.len {zs ys : List Str} (h : RowsOk zs ys) : ys.length = zs.length := h.pm.length_eq
theorem RowsOk.symm {zs ys : List Str} (h : RowsOk zs ys) : RowsOk ys zs :=
  ⟨fun z hz => h.nm z (h.pm.mem_iff.mp hz), h.pm.nodup_iff.mpr h.nd, h.pm.symm, by rw [h.len]; exact h.ne, by rw [h.len]; exact h.le⟩
theorem nm_asc {z : Str} (h : isNm z = true) : Asc z := fun c hc => by
  unfold isNm at h
  rw [Bool.and_eq_true] at h
  have m := of_decide_eq_true (List.all_eq_true.mp h.2 c hc)
  have all : ∀ d ∈ letS.cps.toList, d < 1000 := by decide +kernel
  exact all c m
theorem nm_ok {z : Str} (h : isNm z = true) : PyData.strOk z = true := (nm_asc h).ok
/-- the names, ascending -/
structure SortOf (zs ns : List Str) : Prop where
  pm : ns.Perm zs
  so : sortedS ns = true
structure OrdC (mg : Str → Option Value) : Prop where
  MAX_NAMES : ∃ t, mg "MAX_NAMES" = some (.int 40 t)
def spRows (K : PySem.W.Frag) : Sp := fun vs H Q _ => ∃ (a b : Addr) (zs ys : List Str), vs = [.ref a, .ref b] ∧ SqT K H a (zs.map V.str) ∧ SqT K H b (ys.map V.str) ∧ RowsOk zs ys ∧ ∀ H', Ext H H' → Q (.bl true) H'
section
variable {P : Program} {w : World} {K : PySem.W.Frag} {mg : Str → Option Value} {base : Heap}
theorem ok_rows (T : Bn mg) (OC : OrdC mg) (D : DefAt K mg "_are_rows" s_rows) (F_are_names : FnAt P w K mg base 2 "are_names" ["value"] (spNms K)) (F__are_different : FnAt P w K mg base 3 "_are_different" ["names"] (spDif K)) : FnAt P w K mg base 4 "_are_rows" ["upper", "lower"] (spRows K) := by
  obtain ⟨_, g_MAX_NAMES⟩ := OC.MAX_NAMES
  refine fnAt D sc_rows (fun _ _ _ _ _ _ us hl => match us, hl with | [_, _], _ => rfl) (fun vs H Q E h => ?_) fun f cdv A outer s H vs Q E hr h => ?_
  · obtain ⟨a, b, zs, ys, rfl, _⟩ := h
    rfl
  obtain ⟨a, b, zs, ys, rfl, ha, hb, ro, k⟩ := h
  have l1 := ro.le
  have l2 := ro.len
  have l3 := ro.ne
  refine ⟨_, (pss_cons (ps_if (PW.pt (pw_or (pt_not (pt_val (callA F__are_different (hr.mono (by decide)) rfl (pa_cons (pv 0) pa_nil)))) (pw_or1 (pt_not (pt_val (callA F_are_names (hr.mono (by decide)) rfl (pa_cons (pv 1) pa_nil))))))) (pss_one (ps_ret pe_bl)) pss_nil)
    (pss_one (ps_ret (pe_and (pe_chain op_le op_le pe_int (pe_callB call_len_seq (by rfl) T.b_len (by decide +kernel) (pa_cons (pv 0) pa_nil)) (pe_glob (v := .int 40) rfl g_MAX_NAMES ⟨_, rfl⟩)) (pe_one (pe_cmpR (op_eqD (hu64 hr)) (pe_callB cr_sortedB (by rfl) T.b_sorted (by decide +kernel) (pa_cons (pv 0) pa_nil)) (pe_callB cr_sortedB (by rfl) T.b_sorted (by decide +kernel) (pa_cons (pv 1) pa_nil)) (nomark _))))))), ?_⟩
  refine ⟨_, rfl, a, zs, rfl, ha, by omega, ro.nm, fun H1 e1 => ?_⟩
  rw [decide_eq_true ro.nd]
  refine ⟨_, rfl, iteF ?_⟩
  refine ⟨_, rfl, _, rfl, .inr ⟨b, _, fun _ => true, rfl, hb.ext e1, tyTup (hb.ext e1), by rw [List.length_map]; omega, judged_nm ro.symm.nm, fun H2 e2 => ?_⟩⟩
  rw [all_tt]
  refine ⟨_, rfl, iteF ?_⟩
  unfold tNext
  dsimp only
  unfold tRet tAndV tChain
  dsimp only
  have hA := (ha.ext e1).ext e2
  have hB := (hb.ext e1).ext e2
  refine ⟨_, rfl, a, _, rfl, .inr hA, _, _, rfl, rfl, _, rfl, ?_⟩
  rw [List.length_map, if_pos (decide_eq_true (show (1 : Int) ≤ (zs.length : Nat) by omega))]
  refine ⟨_, _, rfl, rfl, _, rfl, ?_⟩
  rw [if_pos (decide_eq_true (show ((zs.length : Nat) : Int) ≤ 40 by omega))]
  refine ⟨_, rfl, a, zs, rfl, .inr hA, by omega, fun s1 p1 pm1 so1 hp1 => ?_⟩
  have x1 := ext_new (o := HO.lst (s1.map V.str)) (ext_refl H2) hp1
  refine ⟨_, rfl, b, ys, rfl, .inr (hB.ext x1), by omega, fun s2 p2 pm2 so2 hp2 => ?_⟩
  have x2 := ext_new (o := HO.lst (s2.map V.str)) (ext_refl _) hp2
  have es : s1 = s2 := sorted_one (pm1.trans (ro.pm.symm.trans pm2.symm)) so1 so2
  have ok1 : ∀ z ∈ s1, PyData.strOk z = true := fun z hz => nm_ok (ro.nm z (pm1.mem_iff.mp hz))
  refine ⟨_, _, .lst (SqL.of (x2 _ _ upd_same)) (dp_strs s1), .lst (SqL.of upd_same) (dp_strs s2), shaped_strs ok1, shaped_strs (es ▸ ok1), ?_⟩
  have e3 : PyData.eqv (.list (s1.map PyData.str)) (.list (s2.map PyData.str)) = true := by
    rw [PyData.eqv, eqv_strs, es, decide_eq_true rfl]
  rw [e3]
  exact k _ (((e1.trans e2).trans x1).trans x2)
end
end My
namespace My
open PySem PySem.Spec PyProof.Rows L2
local macro_rules | `(tactic| walk_at "side") => `(tactic| first | assumption | decide | exact Or.inl ⟨by decide, by decide⟩ | exact Or.inr ⟨by decide, by decide⟩ | exact ⟨by decide, by decide, by decide⟩ | omega | (unfold CMulW; decide +kernel) | (dsimp only; first | assumption | omega | decide +kernel) | exact len_ok (Nat.le_of_ble_eq_true rfl) | fail "side")
local macro_rules | `(tactic| walk_at "rd") => `(tactic| first
  | refine ⟨_, _, _, _, rfl, rfl, SqL.of upd_same, atI_nat (j := 0) rfl, ?_⟩ | refine ⟨_, _, _, _, rfl, rfl, SqL.of upd_same, atI_nat (j := 1) rfl, ?_⟩ | refine ⟨_, _, _, _, rfl, rfl, SqL.of upd_same, atI_nat (j := 2) rfl, ?_⟩
  | refine ⟨_, _, _, _, rfl, rfl, upd_same, rfl, ?_⟩
  | refine ⟨_, _, rfl, rfl, ?_⟩ | refine ⟨_, rfl, ?_⟩ | refine ⟨_, _, rfl, ?_⟩ | refine Or.inl ⟨_, rfl, ?_⟩ | refine Or.inr ⟨_, rfl, ?_⟩ | refine ⟨(by walk_at "side"), ?_⟩ | fail "rd")
abbrev s_oinit : Stmt := inClass (top 40) 0
theorem sc_oinit : FnScope ["self", "upper", "lower", "place", "index", "name"] ["self", "upper", "lower"] (defScope s_oinit) := ⟨rfl, rfl, rfl, by decide +kernel, rfl, by decide +kernel, by decide +kernel⟩
theorem hu1 {A : Around} {k : Nat} (hr : Room k A) : A.units + 1 < cLine := by
  have := hr.units
  omega
/-- the class Order as the top has made it -/
structure OrdT (K : PySem.W.Frag) (mg : Str → Option Value) (C : Addr) : Prop where
  g : mg "Order" = some (.ref C)
  cl : Cls K C
  nA : NoAttr K C "_above"
  nB : NoAttr K C "_below"
  nP : NoAttr K C "_places"
  ini : ∃ f fd, Mk K C f ∧ Fun K "__init__" "Order.__init__" s_oinit f fd
/-- the places of an order -/
def plc (zs ys : List Str) : List Int := zs.map fun z => ((pos ys z : Nat) : Int)
def ofs (a b c : Addr) : List (Str × V) := [("_above", .ref a), ("_below", .ref b), ("_places", .ref c)]
def sOf : V → Str
  | .str s => s
  | _ => Str.empty
theorem plc_eq (zs ys : List Str) : (zs.map V.str).mapIdx (fun _ v => .int ((pos ys (sOf v) : Nat) : Int)) = (plc zs ys).map V.int := by
  unfold plc
  apply List.ext_getElem?
  intro i
  simp only [List.getElem?_mapIdx, List.getElem?_map, Option.map_map]
  rfl
/-- the order at o, with the rows at a and b -/
def OrdAB (K : PySem.W.Frag) (C : Addr) (H : Hp) (o a b : Addr) (zs ys : List Str) : Prop := ∃ dx c, H o = some (.ins C dx (ofs a b c)) ∧ SqT K H a (zs.map V.str) ∧ SqT K H b (ys.map V.str) ∧ SqT K H c ((plc zs ys).map V.int) ∧ RowsOk zs ys
/-- the order at o -/
def OrdAt (K : PySem.W.Frag) (C : Addr) (H : Hp) (o : Addr) (zs ys : List Str) : Prop := ∃ dx a b c, H o = some (.ins C dx (ofs a b c)) ∧ SqT K H a (zs.map V.str) ∧ SqT K H b (ys.map V.str) ∧ SqT K H c ((plc zs ys).map V.int) ∧ RowsOk zs ys
theorem OrdAB.at {K : PySem.W.Frag} {C : Addr} {H : Hp} {o a b : Addr} {zs ys : List Str} (h : OrdAB K C H o a b zs ys) : OrdAt K C H o zs ys := let ⟨dx, c, q⟩ := h; ⟨dx, a, b, c, q⟩
theorem OrdAB.ext {K : PySem.W.Frag} {C : Addr} {H H' : Hp} {o a b : Addr} {zs ys : List Str} (h : OrdAB K C H o a b zs ys) (e : Ext H H') : OrdAB K C H' o a b zs ys :=
  let ⟨dx, c, h1, h2, h3, h4, h5⟩ := h
  ⟨dx, c, e _ _ h1, h2.ext e, h3.ext e, h4.ext e, h5⟩
theorem OrdAt.ext {K : PySem.W.Frag} {C : Addr} {H H' : Hp} {o : Addr} {zs ys : List Str} (h : OrdAt K C H o zs ys) (e : Ext H H') : OrdAt K C H' o zs ys :=
  let ⟨dx, a, b, c, h1, h2, h3, h4, h5⟩ := h
  ⟨dx, a, b, c, e _ _ h1, h2.ext e, h3.ext e, h4.ext e, h5⟩
theorem OrdAt.rows {K : PySem.W.Frag} {C : Addr} {H : Hp} {o : Addr} {zs ys : List Str} (h : OrdAt K C H o zs ys) : RowsOk zs ys := let ⟨_, _, _, _, _, _, _, _, h5⟩ := h; h5
def spOInit (K : PySem.W.Frag) (C : Addr) : Sp := fun vs H Q _ => ∃ (x dx a b : Addr) (zs ys : List Str), vs = [.ref x, .ref a, .ref b] ∧ H x = some (.ins C dx []) ∧ SqT K H a (zs.map V.str) ∧ SqT K H b (ys.map V.str) ∧ RowsOk zs ys ∧
  ∀ H', (∀ a o, H a = some o → a ≠ x → H' a = some o) → OrdAB K C H' x a b zs ys → Q .non H'
structure OInitAt (P : Program) (w : World) (K : PySem.W.Frag) (mg : Str → Option Value) (base : Heap) (k : Nat) (C : Addr) (sp : Sp) : Prop where
  ex : ∃ (f : Addr) (fd : FuncData), Mk K C f ∧ FnOk P w K mg base CX0 k f fd ["self", "upper", "lower"] sp ∧ Binds K fd ["self", "upper", "lower"] []
/-- a tuple in the heap stays if all but x stays -/
theorem sqt_but {K : PySem.W.Frag} {H H' : Hp} {a x dx C : Addr} {xs : List V} (h : SqT K H a xs) (hx : H x = some (.ins C dx [])) (k : ∀ a o, H a = some o → a ≠ x → H' a = some o) : SqT K H' a xs := by
  rcases h with (e | ⟨o, e⟩) | r
  · exact .inl (.inl (k _ _ e fun z => by rw [z, hx] at e; cases e))
  · exact .inl (.inr ⟨o, k _ _ e fun z => by rw [z, hx] at e; cases e⟩)
  · exact .inr r
section
variable {P : Program} {w : World} {K : PySem.W.Frag} {mg : Str → Option Value} {base : Heap} {C : Addr}
theorem ok_oinit (T : Bn mg) (OT : OrdT K mg C) (F__are_rows : FnAt P w K mg base 4 "_are_rows" ["upper", "lower"] (spRows K)) : OInitAt P w K mg base 5 C (spOInit K C) := by
  obtain ⟨f, fd, M, F⟩ := OT.ini
  refine ⟨f, fd, M, F.ok sc_oinit (fun vs H Q E h => ?_) (fun cdv A outer s H vs Q E hr h => ?_), ?_⟩
  · obtain ⟨x, dx, a, b, zs, ys, rfl, _⟩ := h
    rfl
  · obtain ⟨x, dx, a, b, zs, ys, rfl, hx, ha, hb, ro, k⟩ := h
    have l1 := ro.le
    have l2 := ro.len
    refine ⟨_, PSs.nox (pss_cons (ps_if (pt_not (pt_val (callA F__are_rows (hr.mono (by decide)) rfl (pa_cons (pv 1) (pa_cons (pv 2) pa_nil))))) (pss_one ps_never) pss_nil)
    (pss_cons (ps_fld (pv 0) (pv 1) rfl)
    (pss_cons (ps_fld (pv 0) (pv 2) rfl)
    (pss_cons (ps_set (i := 3) sc_oinit.nd rfl (Or.inr rfl) (pe_dc (own := [("index", 4), ("name", 5)]) (g := gTup K 2 (gCons (gName 4) (gCons (gName 5) gNil))) (tt := tYes) rfl sc_oinit.nd (pi_enumT (by rfl) T.b_enumerate (pa_cons (pv 2) pa_nil)) (blkOk_by (N := ["self", "upper", "lower", "place", "index", "name"]) (sc := defScope s_oinit) (by decide +kernel)) (fun _ _ _ _ _ => pg_tup rfl (pgs_cons (pg_name (i := 4) sc_oinit.nd rfl (Or.inl rfl)) (pgs_cons (pg_name (i := 5) sc_oinit.nd rfl (Or.inl rfl)) pgs_nil))) (fun _ _ _ _ _ => pts_nil) (fun _ _ _ _ _ => (pv 5)) (fun _ _ _ _ _ => (pv 4))))
    (pss_one (ps_fld (pv 0) (pe_callTy call_tuple_of (by rfl) T.b_tuple (by decide +kernel) (pa_cons (pe_lc (own := [("name", 5)]) (g := gName 5) (tt := tYes) rfl sc_oinit.nd (pi_tup (pv 1)) (blkOk_by (N := ["self", "upper", "lower", "place", "index", "name"]) (sc := defScope s_oinit) (by decide +kernel)) (fun _ _ _ _ _ => pg_name (i := 5) sc_oinit.nd rfl (Or.inl rfl)) (fun _ _ _ _ _ => pts_nil) (fun _ _ _ _ _ => (pe_dget (hu1 hr) (pv 3) (pv 5) (fun _ _ => rfl)))) pa_nil)) rfl)))))), ?_⟩
    refine ⟨_, rfl, _, rfl, a, b, zs, ys, rfl, ha, hb, ro, fun H1 e1 => ?_⟩
    refine ⟨_, rfl, iteF ?_⟩
    have hx1 : H1 x = some (.ins C dx []) := e1 _ _ hx
    refine ⟨_, rfl, _, rfl, x, C, dx, _, rfl, hx1, OT.cl, OT.nA, (by show 0 < 1000; decide), ?_⟩
    refine ⟨_, rfl, _, rfl, x, C, dx, _, rfl, upd_same, OT.cl, OT.nB, (by show 1 < 1000; decide), ?_⟩
    generalize hH2 : upd (upd H1 x _) x _ = H2
    have k2 : ∀ c o, H1 c = some o → c ≠ x → H2 c = some o := fun c o e ne => by rw [← hH2, upd_ne ne, upd_ne ne]; exact e
    have hx2 : H2 x = some (.ins C dx [("_above", .ref a), ("_below", .ref b)]) := by rw [← hH2]; exact upd_same
    have ha2 := sqt_but (ha.ext e1) hx1 k2
    have hb2 := sqt_but (hb.ext e1) hx1 k2
    refine ⟨_, rfl, b, _, rfl, hb2, fun D hD => nm_dict (zs := ys) (j := 4) (k := 5) ro.symm.nd hb2 hD (by omega) (fun _ _ => rfl) (fun _ _ => rfl) (fun _ _ => rfl) fun H3 e3 hd => ?_⟩
    have hx3 := e3 _ _ hx2
    have ha3 := ha2.ext e3
    refine ⟨_, rfl, a, rfl, ⟨_, ha3⟩, fun D2 hD2 => map_tup (xs := zs.map V.str) (fun _ v => .int ((pos ys (sOf v) : Nat) : Int)) ha3 hD2 (by rw [List.length_map]; omega) (fun _ => rfl) (fun i v H' hi e Q' k' => ?_) fun H4 e4 hl4 => ?_⟩
    · rw [List.getElem?_map] at hi
      obtain ⟨z, hz, rfl⟩ := Option.map_eq_some_iff.mp hi
      have mem : z ∈ ys := ro.pm.mem_iff.mpr (List.mem_of_getElem? hz)
      exact ⟨_, rfl, _, rfl, D, _, rfl, .inl ⟨_, .inr z, .inl (e _ _ hd), rfl, ((valV_nmIdx z ys 0).trans (if_pos mem)).symm⟩, k' H' (ext_refl _)⟩
    rw [plc_eq] at hl4
    refine ⟨D2, _, rfl, .inl ⟨SqL.of hl4, fun l hl => ?_⟩⟩
    have hx4 := e4 _ _ hx3
    have nl : x ≠ l := ne_of_none hx4 hl
    refine ⟨_, rfl, x, C, dx, _, rfl, (upd_ne nl).trans hx4, OT.cl, OT.nP, (by show 2 < 1000; decide), ?_⟩
    have kp : ∀ (l : Addr) (H5 : Hp), H4 l = none → ∀ o : HO, H5 = upd (upd H4 l o) x (.ins C dx (ofs a b l)) → ∀ c o, H c = some o → c ≠ x → H5 c = some o := fun l H5 hl o e c o' h1 ne => by
      have h4 := e4 _ _ (e3 _ _ (k2 _ _ (e1 _ _ h1) ne))
      rw [e, upd_ne ne, upd_ne (ne_of_none h4 hl)]
      exact h4
    have kk := kp l _ hl (.tup ((plc zs ys).map V.int)) rfl
    refine k _ kk ⟨dx, l, upd_same, sqt_but ha hx kk, sqt_but hb hx kk, SqT.of ?_, ro⟩
    rw [upd_ne nl.symm]
    exact upd_same
  · exact F.binds (fun _ _ _ _ _ _ us hl => match us, hl with | [_, _, _], _ => rfl)
end
end My
namespace My
open PySem PySem.Spec PyProof.Rows L2
local macro_rules | `(tactic| walk_at "side") => `(tactic| first | assumption | decide | exact Or.inl ⟨by decide, by decide⟩ | exact Or.inr ⟨by decide, by decide⟩ | exact ⟨by decide, by decide, by decide⟩ | omega | (unfold CMulW; decide +kernel) | (dsimp only; first | assumption | omega | decide +kernel) | exact len_ok (Nat.le_of_ble_eq_true rfl) | fail "side")
local macro_rules | `(tactic| walk_at "rd") => `(tactic| first
  | refine ⟨_, _, _, _, rfl, rfl, SqL.of upd_same, atI_nat (j := 0) rfl, ?_⟩ | refine ⟨_, _, _, _, rfl, rfl, SqL.of upd_same, atI_nat (j := 1) rfl, ?_⟩ | refine ⟨_, _, _, _, rfl, rfl, SqL.of upd_same, atI_nat (j := 2) rfl, ?_⟩
  | refine ⟨_, _, _, _, rfl, rfl, upd_same, rfl, ?_⟩
  | refine ⟨_, _, rfl, rfl, ?_⟩ | refine ⟨_, rfl, ?_⟩ | refine ⟨_, _, rfl, ?_⟩ | refine Or.inl ⟨_, rfl, ?_⟩ | refine Or.inr ⟨_, rfl, ?_⟩ | refine ⟨(by walk_at "side"), ?_⟩ | fail "rd")
abbrev s_oabove : Stmt := inClass (top 40) 2
theorem sc_oabove : FnScope ["self"] ["self"] (defScope s_oabove) := ⟨rfl, rfl, rfl, by decide +kernel, rfl, by decide +kernel, by decide +kernel⟩
abbrev s_obelow : Stmt := inClass (top 40) 3
theorem sc_obelow : FnScope ["self"] ["self"] (defScope s_obelow) := ⟨rfl, rfl, rfl, by decide +kernel, rfl, by decide +kernel, by decide +kernel⟩
section
variable {X : Cx} {k : Nat} {C : Addr} {x : Str} {p pos : Pos} {e : Expr} {es : List Expr} {t : TA}
theorem mkO (F : OInitAt X.prog X.w X.K X.mg X.base k C (spOInit X.K C)) (OT : OrdT X.K X.mg C) (hr : Room (k + 1) X.A) (ha : PA X (e :: es) t) (hg : Gl X "Order" := by rfl)
    (he : starEach (e :: es) X.env = (false, eval e X.env) :: starEach es X.env := by rfl) (hpl : (backTo pos (starEach es X.env)).any (·.1) = false := by rfl) : PE X (.Call (.Name "Order" p) (e :: es) [] pos) (tMake C (spOInit X.K C) [] E0 t) := by
  obtain ⟨f, fd, M, G, hb⟩ := F.ex
  exact pe_make M G hr hg OT.g hb .nil pass0 ha (by decide) he hpl
end
theorem mk_use {K : PySem.W.Frag} {C a b : Addr} {zs ys : List Str} {H : Hp} {Q : VK} {E : XK} (ha : SqT K H a (zs.map V.str)) (hb : SqT K H b (ys.map V.str)) (ro : RowsOk zs ys) (k : ∀ x H', Ext H H' → OrdAB K C H' x a b zs ys → Q (.ref x) H') :
    ∀ x dx, H x = none → H dx = none → dx ≠ x → spOInit K C (.ref x :: ([.ref a, .ref b] ++ [])) (upd (upd H dx (.own x)) x (.ins C dx [])) (fun v H2 => v = .non ∧ Q (.ref x) H2) E := fun x dx hx hd ne => by
  have e1 : Ext H (upd (upd H dx (.own x)) x (.ins C dx [])) := ext_mut (ext_new (ext_refl H) hd) hx
  exact ⟨x, dx, a, b, zs, ys, rfl, upd_same, ha.ext e1, hb.ext e1, ro, fun H' kp oa => ⟨rfl, k x H' (fun c o q => kp c o (e1 c o q) (ne_of_none q hx)) oa⟩⟩
theorem mk_useA {K : PySem.W.Frag} {C a b : Addr} {zs ys : List Str} {H : Hp} {Q : VK} {E : XK} (ha : SqT K H a (zs.map V.str)) (hb : SqT K H b (ys.map V.str)) (ro : RowsOk zs ys) (k : ∀ x H', Ext H H' → OrdAt K C H' x zs ys → Q (.ref x) H') :
    ∀ x dx, H x = none → H dx = none → dx ≠ x → spOInit K C (.ref x :: ([.ref a, .ref b] ++ [])) (upd (upd H dx (.own x)) x (.ins C dx [])) (fun v H2 => v = .non ∧ Q (.ref x) H2) E := mk_use ha hb ro fun x H' e oa => k x H' e oa.at
theorem ofs_a (a b c : Addr) : (ofs a b c).lookup ("_above" : Str) = some (.ref a) := rfl
theorem ofs_b (a b c : Addr) : (ofs a b c).lookup ("_below" : Str) = some (.ref b) := rfl
theorem ofs_p (a b c : Addr) : (ofs a b c).lookup ("_places" : Str) = some (.ref c) := rfl
def spGetT (K : PySem.W.Frag) (C : Addr) (f : List Str → List Str → List V) : Sp := fun vs H Q _ => ∃ o zs ys, vs = [.ref o] ∧ OrdAt K C H o zs ys ∧ ∀ a, SqT K H a (f zs ys) → Q (.ref a) H
def spGetN (K : PySem.W.Frag) (C : Addr) : Sp := fun vs H Q _ => ∃ o zs ys, vs = [.ref o] ∧ OrdAt K C H o zs ys ∧ Q (.int (zs.length : Nat)) H
def spNames (K : PySem.W.Frag) (C : Addr) : Sp := fun vs H Q _ => ∃ o zs ys, vs = [.ref o] ∧ OrdAt K C H o zs ys ∧ ∀ ns p H', SortOf zs ns → Ext H H' → SqT K H' p (ns.map V.str) → Q (.ref p) H'
/-- an order made of one -/
def spOrd (K : PySem.W.Frag) (C : Addr) (f g : List Str → List Str → List Str) : Sp := fun vs H Q _ => ∃ o zs ys, vs = [.ref o] ∧ OrdAt K C H o zs ys ∧ ∀ x H', Ext H H' → OrdAt K C H' x (f zs ys) (g zs ys) → Q (.ref x) H'
def spOEq (K : PySem.W.Frag) (C : Addr) : Sp := fun vs H Q _ => ∃ o y zs ys, vs = [.ref o, y] ∧ OrdAt K C H o zs ys ∧
  ((∃ b zs' ys', y = .ref b ∧ OrdAt K C H b zs' ys' ∧ Q (.bl (decide (zs = zs') && decide (ys = ys'))) H) ∨ (∃ t, TyX K H y t ∧ PySem.W.kitOne K t (.ref C) = some false ∧ Q (.bl false) H))
section
variable {P : Program} {w : World} {K : PySem.W.Frag} {mg : Str → Option Value} {base : Heap} {C : Addr}
theorem ok_oabove (D : PropT K C "above" "Order.above" s_oabove) (OT : OrdT K mg C) : PropAt P w K mg base 1 C "above" (spGetT K C fun zs _ => zs.map V.str) := by
  refine propAt D sc_oabove (fun _ _ _ _ _ _ us hl => match us, hl with | [_], _ => rfl) (fun vs H Q E h => ?_) fun f cdv A outer s H vs Q E hr h => ?_
  · obtain ⟨o, zs, ys, rfl, _⟩ := h
    rfl
  obtain ⟨o, zs, ys, rfl, ⟨dx, a, b, c, e, ha, hb, hc, ro⟩, k⟩ := h
  exact ⟨_, (pss_one (ps_ret (pe_fld (pv 0) rfl))), _, rfl, o, C, dx, _, _, rfl, e, OT.cl, OT.nA, ofs_a a b c, k a ha⟩
theorem ok_obelow (D : PropT K C "below" "Order.below" s_obelow) (OT : OrdT K mg C) : PropAt P w K mg base 1 C "below" (spGetT K C fun _ ys => ys.map V.str) := by
  refine propAt D sc_obelow (fun _ _ _ _ _ _ us hl => match us, hl with | [_], _ => rfl) (fun vs H Q E h => ?_) fun f cdv A outer s H vs Q E hr h => ?_
  · obtain ⟨o, zs, ys, rfl, _⟩ := h
    rfl
  obtain ⟨o, zs, ys, rfl, ⟨dx, a, b, c, e, ha, hb, hc, ro⟩, k⟩ := h
  exact ⟨_, (pss_one (ps_ret (pe_fld (pv 0) rfl))), _, rfl, o, C, dx, _, _, rfl, e, OT.cl, OT.nB, ofs_b a b c, k b hb⟩
end
end My
namespace My
open PySem PySem.Spec PyProof.Rows L2
section
variable {prog : Program} {w : World} {A : Around} {E : Value → Shared → Prop} {s : Shared}
theorem adjust_rev (n : Nat) : Builtin.Slice.sliceAdjust none none (-1) (n : Int) = ((n : Int) - 1, -1) := by
  unfold Builtin.Slice.sliceAdjust
  simp
theorem places_rev (n : Nat) : Builtin.Slice.slicePlaces ((n : Int) - 1) (-1) (-1) = n := by
  unfold Builtin.Slice.slicePlaces
  simp
  omega
theorem sliceApplied_rev {sl : Addr} {vs : Value} {n : Nat} {Q : Int × Int × Nat → Shared → Prop} (hs : s.heap.IsSliceOf sl .none .none vs) (ps : IsPart vs (some (-1)))
    (h : Q ((n : Int) - 1, -1, n) s) : wpAny (model prog w) A (Builtin.Slice.sliceApplied (.ref sl) (pure (n : Int))) Q E s := by
  obtain ⟨os, hos, hcs, hds⟩ := id hs
  unfold Builtin.Slice.sliceApplied Builtin.Slice.sliceFields
  refine wpAny_bind (wpAny_bind (wpAny_field hos hds (x := .none) rfl (wpAny_bind (wpAny_field hos hds (x := .none) rfl (wpAny_bind (wpAny_field hos hds (x := vs) rfl (wpAny_pure ?_)))))))
  refine wpAny_bind (HT.slicePart_ ps ?_)
  show wpAny _ _ (if ((-1 : Int) == 0) = true then _ else _) _ _ s
  rw [if_neg (by decide)]
  refine wpAny_bind (HT.slicePart_ .none (wpAny_bind (HT.slicePart_ .none (wpAny_bind (wpAny_pure ?_)))))
  show wpAny _ _ (match Builtin.Slice.sliceAdjust none none (-1) (n : Int) with | (lo, hi) => pure (lo, (-1 : Int), Builtin.Slice.slicePlaces lo hi (-1))) _ _ s
  rw [adjust_rev n]
  show wpAny _ _ (pure ((n : Int) - 1, (-1 : Int), Builtin.Slice.slicePlaces ((n : Int) - 1) (-1) (-1))) _ _ s
  rw [places_rev]
  exact wpAny_pure h
theorem fm_congr {α β : Type} {f g : α → Option β} : ∀ {l : List α}, (∀ x ∈ l, f x = g x) → l.filterMap f = l.filterMap g
  | [], _ => rfl
  | x :: r, h => by
    rw [List.filterMap_cons, List.filterMap_cons, h x (List.mem_cons_self ..), fm_congr fun y hy => h y (List.mem_cons_of_mem _ hy)]
theorem pick_rev (xs : Array Value) : ((List.range xs.size).filterMap fun (m : Nat) => xs[((xs.size : Int) - 1 + (m : Int) * (-1)).toNat]?).toArray = xs.toList.reverse.toArray := by
  have z := HT.pick_gen xs.toList.reverse.toArray 0 xs.size
  have e1 : ((List.range xs.size).filterMap fun (m : Nat) => xs[((xs.size : Int) - 1 + (m : Int) * (-1)).toNat]?) = (List.range xs.size).filterMap fun (m : Nat) => xs.toList.reverse.toArray[(((0 : Nat) : Int) + (m : Int) * 1).toNat]? := by
    refine fm_congr fun m hm => ?_
    have hl := List.mem_range.mp hm
    have a1 : ((xs.size : Int) - 1 + (m : Int) * (-1)).toNat = xs.size - 1 - m := by omega
    have a2 : (((0 : Nat) : Int) + (m : Int) * 1).toNat = m := by omega
    have e2 : xs.toList.reverse.toArray[m]? = xs.toList.reverse[m]? := List.getElem?_toArray
    rw [a1, a2, e2, List.getElem?_reverse (by rw [Array.length_toList]; exact hl), Array.length_toList, Array.getElem?_toList]
  rw [e1, z]
  simp only [List.drop_zero]
  rw [List.take_of_length_le (by rw [List.length_reverse, Array.length_toList]; exact Nat.le_refl _)]
theorem getItem_tuple_rev {t sl : Addr} {items : Array Value} {vs : Value} {Q : Value → Shared → Prop} (ht : IsTup s.heap t items) (hs : s.heap.IsSliceOf sl .none .none vs) (ps : IsPart vs (some (-1)))
    (h : Q (.ref s.heap.objs.size) { s with heap := s.heap.push { cls := .type "tuple", data := .seq items.toList.reverse.toArray } })
    (hsz : items.size ≤ sizeLine) : wpAny (model prog w) A (getItem (.ref t) (.ref sl)) Q E s := by
  have htake : sizeOk (.seq items.toList.reverse.toArray) := by
    show items.toList.reverse.toArray.size ≤ sizeLine
    rw [List.size_toArray, List.length_reverse, Array.length_toList]
    exact hsz
  obtain ⟨os, hos, hcs, hds⟩ := id hs
  have hTs : s.TypeIs (.ref sl) "slice" := ⟨os, hos, hcs⟩
  unfold getItem
  try with_reducible refine wpAny_holding ?_
  first | refine wpAny_bind (wpAny_pure ?_) | skip
  refine wpAny_bind (wpAny_sequenceKey ht.typeIs (by decide) ?_)
  refine wpAny_bind (wpAny_callSpecial?_slot (name := Str.ofString "__getitem__") ht.typeIs PyProof.Rows.slot_tuple_getitem
    (wpAny_call_entry PyProof.Rows.slot_tuple_getitem ht.typeIs entry_tuple_getitem ?_ (args_tuple_getitem _ _)))
  show wpAny _ _ (Builtin.Tuple.tupleItemsOf (.ref t) >>= _) _ _ s
  refine wpAny_bind (tupleItemsOf_ ht ?_)
  refine wpAny_bind (wpAny_typeOf hTs ?_)
  rw [if_pos (by decide)]
  refine wpAny_bind (sliceApplied_rev hs ps ?_)
  have hno : ¬ ((((items.size : Int) - 1) == 0 && (-1 : Int) == 1 && items.size == items.size) = true) := by
    rw [show ((-1 : Int) == 1) = false from rfl, Bool.and_false, Bool.false_and]
    exact Bool.false_ne_true
  show wpAny _ _ (if (((items.size : Int) - 1) == 0 && (-1 : Int) == 1 && items.size == items.size) = true then _ else _) _ _ s
  rw [if_neg hno, pick_rev]
  first
    | exact wpAny_bind (m := Builtin.Tuple.tupleExact _) (wpAny_newObj_type (wpAny_pure ⟨_, rfl, wpAny_pure h⟩) htake)
    | exact wpAny_bind (m := Builtin.Tuple.tupleExact _) (wpAny_newObj_type (wpAny_bind (wpAny_pure (wpAny_pure ⟨_, rfl, wpAny_pure h⟩))) htake)
    | exact wpAny_bind (wpAny_bind (m := Builtin.Tuple.tupleExact _) (wpAny_newObj_type (wpAny_pure (wpAny_pure ⟨_, rfl, wpAny_pure h⟩)) htake))
    | exact wpAny_bind (wpAny_bind (m := Builtin.Tuple.tupleExact _) (wpAny_newObj_type (wpAny_pure ⟨_, rfl, wpAny_pure h⟩) htake))
end
end My
namespace My
open PySem PySem.Spec PyProof.Rows L2
local macro_rules | `(tactic| walk_at "side") => `(tactic| first | assumption | decide | exact Or.inl ⟨by decide, by decide⟩ | exact Or.inr ⟨by decide, by decide⟩ | exact ⟨by decide, by decide, by decide⟩ | omega | (unfold CMulW; decide +kernel) | (dsimp only; first | assumption | omega | decide +kernel) | exact len_ok (Nat.le_of_ble_eq_true rfl) | fail "side")
local macro_rules | `(tactic| walk_at "rd") => `(tactic| first
  | refine ⟨_, _, _, _, rfl, rfl, SqL.of upd_same, atI_nat (j := 0) rfl, ?_⟩ | refine ⟨_, _, _, _, rfl, rfl, SqL.of upd_same, atI_nat (j := 1) rfl, ?_⟩ | refine ⟨_, _, _, _, rfl, rfl, SqL.of upd_same, atI_nat (j := 2) rfl, ?_⟩
  | refine ⟨_, _, _, _, rfl, rfl, upd_same, rfl, ?_⟩
  | refine ⟨_, _, rfl, rfl, ?_⟩ | refine ⟨_, rfl, ?_⟩ | refine ⟨_, _, rfl, ?_⟩ | refine Or.inl ⟨_, rfl, ?_⟩ | refine Or.inr ⟨_, rfl, ?_⟩ | refine ⟨(by walk_at "side"), ?_⟩ | fail "rd")
abbrev s_oeq : Stmt := inClass (top 40) 15
theorem sc_oeq : FnScope ["self", "other"] ["self", "other"] (defScope s_oeq) := ⟨rfl, rfl, rfl, by decide +kernel, rfl, by decide +kernel, by decide +kernel⟩
structure OrdI (K : PySem.W.Frag) (C : Addr) : Prop where
  kOrd : PySem.W.kitOne K (.ref C) (.ref C) = some true
  ha : PySem.W.findIn K (.ref C) "__class__" = some (some (.builtin "object.__class__"))
  hn : PySem.W.specialIn K (.builtin "object.__class__") "__get__" = some (some (.builtin "getset_descriptor.__get__"))
  htk : PySem.W.takesIn K (.builtin "object.__class__") = some true
  hm : PySem.W.mroIn K C (.type "object") = some true
theorem OrdAt.ty {K : PySem.W.Frag} {H : Hp} {C o : Addr} {zs ys : List Str} (h : OrdAt K C H o zs ys) (c : Cls K C) (I : OrdI K C) : TyX K H (.ref o) (.ref C) := let ⟨dx, _, _, _, e, _⟩ := h; .base (.ins e c I.ha I.hn I.htk I.hm)
theorem eqT_strs (ss ts : List Str) : PyData.eqv (.tuple (ss.map PyData.str)) (.tuple (ts.map PyData.str)) = decide (ss = ts) := by
  rw [PyData.eqv, eqv_strs]
theorem RowsOk.strOk {zs ys : List Str} (h : RowsOk zs ys) : ∀ z ∈ zs, PyData.strOk z = true := fun z hz => nm_ok (h.nm z hz)
section
variable {P : Program} {w : World} {K : PySem.W.Frag} {mg : Str → Option Value} {base : Heap} {C : Addr}
theorem ok_oeq (T : Bn mg) (D : SpT K C "__eq__" "Order.__eq__" s_oeq) (OT : OrdT K mg C) (OI : OrdI K C) : SpAt P w K mg base 1 C "__eq__" ["self", "other"] (spOEq K C) := by
  refine spAt D sc_oeq (fun _ _ _ _ _ _ us hl => match us, hl with | [_, _], _ => rfl) (fun vs H Q E h => ?_) fun f cdv A outer s H vs Q E hr h => ?_
  · obtain ⟨o, y, zs, ys, rfl, _⟩ := h
    rfl
  obtain ⟨o, y, zs, ys, rfl, ⟨dx, a, b, c, e, ha, hb, hc, ro⟩, h⟩ := h
  refine ⟨_, (pss_one (ps_ret (pe_and (pe_callB call_isi (by rfl) T.b_isinstance (by decide +kernel) (pa_cons (pv 1) (pa_cons (pe_glob (v := .ref C) rfl OT.g rfl) pa_nil))) (pe_and (pe_cmpR (op_eqD (hu64 hr)) (pe_fld (pv 0) rfl) (pe_fld (pv 1) rfl) (nomark _)) (pe_one (pe_cmpR (op_eqD (hu64 hr)) (pe_fld (pv 0) rfl) (pe_fld (pv 1) rfl) (nomark _))))))), ?_⟩
  rcases h with ⟨o2, zs', ys', rfl, h2, k⟩ | ⟨t, ty, hk, k⟩
  · obtain ⟨dx2, a2, b2, c2, e2, ha2, hb2, hc2, ro2⟩ := id h2
    refine ⟨_, rfl, _, _, _, _, true, rfl, .own C, h2.ty OT.cl OI, OI.kOrd, _, rfl, iteT ?_⟩
    refine ⟨_, rfl, o, C, dx, _, _, rfl, e, OT.cl, OT.nA, ofs_a a b c, _, rfl, o2, C, dx2, _, _, rfl, e2, OT.cl, OT.nA, ofs_a a2 b2 c2, ?_⟩
    refine ⟨_, _, .tup ha (dp_strs zs), .tup ha2 (dp_strs zs'), shaped_strsT ro.strOk, shaped_strsT ro2.strOk, ?_⟩
    rw [eqT_strs]
    refine ⟨_, rfl, ?_⟩
    refine ite2 (fun c1 => ?_) (fun c1 => ?_)
    · refine ⟨_, rfl, o, C, dx, _, _, rfl, e, OT.cl, OT.nB, ofs_b a b c, _, rfl, o2, C, dx2, _, _, rfl, e2, OT.cl, OT.nB, ofs_b a2 b2 c2, ?_⟩
      refine ⟨_, _, .tup hb (dp_strs ys), .tup hb2 (dp_strs ys'), shaped_strsT ro.symm.strOk, shaped_strsT ro2.symm.strOk, ?_⟩
      rw [eqT_strs]
      rw [c1, Bool.true_and] at k
      exact k
    · rw [Bool.eq_false_iff.mpr c1, Bool.false_and] at k
      exact k
  · exact ⟨_, rfl, _, _, _, _, false, rfl, .own C, ty, hk, _, rfl, iteF k⟩
end
end My
namespace My
open PySem PySem.Spec PyProof.Rows L2
/-- the tuple at a has no dict -/
def NoD (K : PySem.W.Frag) (H : Hp) (a : Addr) : Prop := (∃ o u, H a = some (.frz o u) ∧ o.dict = none) ∨ ∃ o, K.lookup a = some o ∧ o.dict = none
theorem NoD.ext {K : PySem.W.Frag} {H H' : Hp} {a : Addr} (h : NoD K H a) (e : Ext H H') : NoD K H' a := h.elim (fun ⟨o, u, q, d⟩ => .inl ⟨o, u, e _ _ q, d⟩) .inr
/-- a tuple that is made: its object -/
def NewT (p : Addr) (xs : List V) (H : Hp) (Q : VK) : Prop := ∀ ob : Obj, H p = none → ob.dict = none → Q (.ref p) (upd H p (.frz ob (.tup xs)))
theorem newT_use {K : PySem.W.Frag} {H : Hp} {xs : List V} {Q : VK} (k : ∀ p H', Ext H H' → SqT K H' p xs → NoD K H' p → Q (.ref p) H') : ∀ p, NewT p xs H Q := fun p ob hp hd =>
  k p _ (ext_new (ext_refl H) hp) (.inl (.inr ⟨ob, upd_same⟩)) (.inl ⟨ob, _, upd_same, hd⟩)
section
variable {X : Cx} {pins : List (Addr × Obj)} {σ : L2.St} {H : Hp} {s : Shared}
theorem tup_is {p : Addr} {xs : List V} (I : Inv X pins σ H s) (hx : SqT X.K H p xs) (nd : NoD X.K H p) : s.TypeIs (.ref p) "tuple" ∧ ∀ a, Value.ref p = .ref a → ∃ ob, s.heap.get? a = some ob ∧ ob.dict = none := by
  obtain ⟨its, r, pl, hz⟩ := I.tuple hx
  refine ⟨pl.typeIs, fun a e => ?_⟩
  cases e
  rcases nd with ⟨o, u, e, d⟩ | ⟨o, e, d⟩
  · exact ⟨o, (show X.prog = X.prog ∧ s.heap.get? p = some o from ⟨rfl, (I.hok p _ e).1⟩).2, d⟩
  · exact ⟨o, I.kIn p o e, d⟩
theorem laidT {its : List Value} {xs : List V} {h' : Heap} (I : Inv X pins σ H { s with heap := h' }) (r : Vals xs its) (hz : xs.length ≤ sizeLine) :
    Inv X pins σ (upd H h'.objs.size (.frz { cls := .type "tuple", data := .seq its.toArray } (.tup xs))) { s with heap := h'.push { cls := .type "tuple", data := .seq its.toArray } } :=
  I.laid (t' := s.toks) (fun b o e => Heap.get?_push_of_some _ e) (Nat.le_refl _) ⟨Heap.get?_push_size _ rfl, hz, its, r, IsTup.new _ _⟩
end
section
variable {X : Cx} {es : List Expr} {t : TA} {pos : Pos}
/-- tuple(x) -/
theorem call_tupleF : CallR X (.type "tuple") (fun xs H Q => ∃ p ys, xs = [.ref p] ∧ ((SqL X.K H p ys ∧ ∀ l, NewT l ys H Q) ∨ (SqT X.K H p ys ∧ Q (.ref p) H))) := by
  intro pins s σ H xs us Q I r h
  obtain ⟨p, ys, rfl, h⟩ := h
  obtain ⟨u, rfl, rx⟩ := vals1 r
  cases rx
  rcases h with ⟨hq, q⟩ | ⟨hq, q⟩
  · obtain ⟨its, r', pl, hz⟩ := I.list hq
    have hlen := r'.length
    refine call_tuple_list pl.isList (fun h' kp => ?_) (by simp only [List.size_toArray] <;> omega)
    have I1 : Inv X pins σ H { s with heap := h' } := I.kept (t' := s.toks) kp
    exact ⟨.ref h'.objs.size, _, laidT I1 r' hz, rfl, q _ _ (I1.hok.fresh (Nat.le_refl _)) rfl⟩
  · obtain ⟨its, r', pl, hz⟩ := I.tuple hq
    exact call_tuple_same pl ⟨.ref p, H, I, rfl, q⟩
end
section
variable {X : Cx} {o e : Expr} {es : List Expr} {to : TE} {t : TA} {name : Str} {apos cpos : Pos} {id : String} {r : V → List V → Hp → VK → Prop}
/-- t.m(..) of such a tuple -/
def tBMT (K : PySem.W.Frag) (r : V → List V → Hp → VK → Prop) (to : TE) (t : TA) : TE := fun σ H Q => to σ H fun x H1 => (∃ p xs, x = .ref p ∧ SqT K H1 p xs ∧ NoD K H1 p) ∧ t σ H1 fun xs H2 => r x xs H2 Q
theorem pe_bmT (pa : PlainAttrs "tuple") (slot : Slot "tuple" name id) (hty : typeOf (.builtin id) = pure (.type "method_descriptor")) (hm : MtR X id r) (ho : PE X o to) (ha : PA X (e :: es) t)
    (hbase : attributeBase o name X.env (eval o X.env) = eval o X.env := by rfl)
    (hfew : ((backTo cpos (starEach (e :: es) X.env)).all (fun x => !x.1) && (backToKw cpos (keywordEach [] X.env)).all (fun x => x.1.isSome)
      && decide ((e :: es).length + ([] : List Keyword).length + (if ([] : List Keyword).isEmpty then 0 else 1) < 30)) = true := by rfl)
    (hline : (apos.endLine == cpos.line) = true := by rfl) (hs : starEach (e :: es) X.env = (false, eval e X.env) :: starEach es X.env := by rfl) (hplain : (backTo cpos (starEach es X.env)).any (·.1) = false := by rfl) :
    PE X (.Call (.Attribute o name apos) (e :: es) [] cpos) (tBMT X.K r to t) := by
  refine ⟨fun pins s σ H Q I h => ?_⟩
  refine wpAny_Call_method_late hbase hfew hline rfl (thn (ho.run pins s σ H _ I h) fun v s1 ⟨x, H1, I1, r1, ⟨p, xs, ex, hx, nd⟩, q1⟩ => ?_)
  subst ex
  cases r1
  obtain ⟨h1, h2⟩ := tup_is I1 hx nd
  refine ⟨"tuple", id, pa, slot, hty, h1, h2, ?_⟩
  have hA := ha.run cpos pins s1 σ H1 _ I1 q1
  rw [hs] at hA ⊢
  refine Calls.callWith_builtin (by show (false || (backTo cpos (starEach es X.env)).any (·.1)) = false; rw [hplain] <;> rfl) (Calls.evalArgs_plain ?_)
  exact thn hA fun us s2 ⟨vs, H2, I2, r2, q2⟩ => hm pins s2 σ H2 (.ref p) vs _ us Q I2 rfl r2 q2
/-- t.index(x): flat things, the first place -/
def rIdxT (K : PySem.W.Frag) : V → List V → Hp → VK → Prop := fun x vs H Q => ∃ p xs z j y, x = .ref p ∧ vs = [z] ∧ SqT K H p xs ∧ xs.all flatV = true ∧ flatV z = true ∧ xs[j]? = some y ∧ eqV y z = true ∧ (∀ m v, m < j → xs[m]? = some v → eqV v z = false) ∧ Q (.int (j : Nat)) H
theorem mt_tup_indexF : MtR X "tuple.index" (rIdxT X.K) := by
  intro pins s σ H x xs v us Q I rx rs h
  obtain ⟨p, ys, z, j, y, rfl, rfl, hq, fl, fz, hy, eq, hno, q⟩ := h
  cases rx
  obtain ⟨u, rfl, ru⟩ := vals1 rs
  obtain ⟨its, r, pl, hz⟩ := I.tuple hq
  obtain ⟨⟨cls, dd, dt, sl⟩, ho, hc, n, hd⟩ := pl
  simp only at hc hd
  subst hc
  subst hd
  have hl : its.toArray.size = ys.length := by rw [List.size_toArray, ← r.length]
  have hj : j < its.toArray.size := by rw [hl]; exact (List.getElem?_eq_some_iff.mp hy).1
  have at' : ∀ (m : Nat) (hm : m < its.toArray.size) (v : V), ys[m]? = some v → eqU z its.toArray[m] = eqV v z := fun m hm v hv => by
    obtain ⟨w, hw, rw'⟩ := r.get (i := m) (x := v) hv
    have e := (List.getElem?_eq_some_iff.mp hw).2
    have e2 : its.toArray[m] = w := by rw [← e]; simp
    rw [e2]
    exact eqU_of rw' (List.all_eq_true.mp fl v (List.mem_of_getElem? hv))
  refine call_meets PySem.F.slot_tuple_index ⟨_, ho, rfl⟩ PySem.F.entry_tuple_index (PySem.F.args_tuple_index_2 _ _) (TI.tuple_indexAt p its.toArray n dd sl u (eqU z) j hj ?_ ?_)
    ⟨ho, fun w hw => mem_eqAt ru fz r fl w (by simpa using hw), ⟨.int (j : Nat), H, I.tok _, ⟨_, rfl⟩, q⟩⟩
  · rw [at' j hj y hy, eq]
  · intro m hm hmj
    have hm' : m < ys.length := by rw [← hl]; exact hm
    rw [at' m hm _ (List.getElem?_eq_getElem hm')]
    exact hno m _ hmj (List.getElem?_eq_getElem hm')
end
end My
namespace My
open PySem PySem.Spec PyProof.Rows L2
theorem pos_lt {l : List Str} {x : Str} (h : x ∈ l) : pos l x < l.length := List.findIdx_lt_length_of_exists ⟨x, h, decide_eq_true rfl⟩
theorem pos_get {l : List Str} {x : Str} (h : x ∈ l) : l[pos l x]? = some x := by
  have hl := pos_lt h
  rw [List.getElem?_eq_getElem hl]
  have z : decide (l[pos l x] = x) = true := List.findIdx_getElem (w := hl) (p := fun z => decide (z = x))
  rw [of_decide_eq_true z]
theorem pos_no {l : List Str} {x z : Str} {m : Nat} (h : m < pos l x) (e : l[m]? = some z) : z ≠ x := fun q => by
  obtain ⟨hl, e2⟩ := List.getElem?_eq_some_iff.mp e
  have n := List.not_of_lt_findIdx (p := fun z => decide (z = x)) h
  rw [e2, q] at n
  simp at n
/-- list.index of a text that is there -/
theorem idx_use {K : PySem.W.Frag} {H : Hp} {b : Addr} {l : List Str} {x : Str} {Q : VK} (hb : SqL K H b (l.map V.str)) (m : x ∈ l) (q : Q (.int (pos l x : Nat)) H) : rIndex K (.ref b) [.str x] H Q := by
  refine ⟨b, _, _, pos l x, .str x, rfl, rfl, hb, rfl, ?_, ?_, ?_, fun n z' hn hz => ?_, q⟩
  · rw [List.all_map]
    exact List.all_eq_true.mpr fun _ _ => rfl
  · rw [List.getElem?_map, pos_get m]
    rfl
  · show (x == x) = true
    exact beq_self_eq_true x
  · rw [List.getElem?_map] at hz
    obtain ⟨z, e, rfl⟩ := Option.map_eq_some_iff.mp hz
    show (z == x) = false
    exact beq_eq_false_iff_ne.mpr (pos_no hn e)
theorem idxT_use {K : PySem.W.Frag} {H : Hp} {b : Addr} {l : List Str} {x : Str} {Q : VK} (hb : SqT K H b (l.map V.str)) (m : x ∈ l) (q : Q (.int (pos l x : Nat)) H) : rIdxT K (.ref b) [.str x] H Q := by
  refine ⟨b, _, _, pos l x, .str x, rfl, rfl, hb, ?_, rfl, ?_, ?_, fun n z' hn hz => ?_, q⟩
  · rw [List.all_map]
    exact List.all_eq_true.mpr fun _ _ => rfl
  · rw [List.getElem?_map, pos_get m]
    rfl
  · show (x == x) = true
    exact beq_self_eq_true x
  · rw [List.getElem?_map] at hz
    obtain ⟨z, e, rfl⟩ := Option.map_eq_some_iff.mp hz
    show (z == x) = false
    exact beq_eq_false_iff_ne.mpr (pos_no hn e)
theorem cut_strs {zs : List Str} {b e : Nat} (h : b < e) (h2 : e ≤ zs.length) : cutV (zs.map V.str) (some ((b : Nat) : Int)) (some ((e : Nat) : Int)) = ((zs.take e).drop b).map V.str := by
  unfold cutV
  rw [HT.sIx_nat, HT.sIx_nat, List.length_map, Nat.min_eq_left (show b ≤ zs.length by omega), Nat.min_eq_left (show e ≤ zs.length from h2), ← List.map_drop, ← List.map_take, List.drop_take]
end My
namespace My
open PySem PySem.Spec PyProof.Rows L2
theorem made_zip {K : PySem.W.Frag} {a b D : Addr} {xs ys : List V} {te : TE} {vs : List Nat} {σ : L2.St} {H1 : Hp} {j1 j2 n : Nat} {Qd : Hp → Prop} (hn : n = min xs.length ys.length) (Pv : List V → Hp → Prop) (kp : Keeps D Pv) (hx : SqL K H1 a xs) (hy : SqL K H1 b ys) (hD : H1 D = none) (hz : n ≤ 1000000)
    (hw : ∀ x y, wipe (((wipe σ vs).set j1 (some x)).set j2 (some y)) vs = wipe σ vs) (h0 : ∀ H, Pv [] H)
    (he : ∀ i x y H' acc, xs[i]? = some x → ys[i]? = some y → Ext H1 H' → acc.length = i → Pv acc H' → ∀ Q' : VK, (∀ z H'', Ext H' H'' → Pv (acc ++ [z]) H'' → Q' z H'') → te (((wipe σ vs).set j1 (some x)).set j2 (some y)) H' Q')
    (hd : ∀ H' acc, Ext H1 H' → H' D = some (.lst acc) → acc.length = n → Pv acc H' → Qd H') :
    Block (Itz K a b) (gTup K 2 (gCons (gName j1) (gCons (gName j2) gNil))) tYes te vs σ H1 D Qd := by
  refine lc_it (walk_zip (xs := xs) (ys := ys) hn) (MadeP H1 D Pv) ⟨hD, ext_new (ext_refl H1) hD, [], upd_same, rfl, h0 _⟩ (fun i H' _ p => ⟨hx.ext p.2.1, hy.ext p.2.1⟩) (fun i v H H' hi p y => ?_) fun H' ⟨_, e, acc, q, hl, pv⟩ => hd H' acc e q hl pv
  obtain ⟨T, x, y, rfl, hT, rfl, h1, h2⟩ := y
  obtain ⟨_, e, acc, q, hl, pv⟩ := p
  have eT := ext_new (o := HO.tup [x, y]) (ext_refl H) hT
  have p2 : MadeP H1 D Pv i (upd H T (.tup [x, y])) := ⟨hD, e.trans eT, acc, eT _ _ q, hl, kp _ _ _ pv ⟨_, q⟩ fun c u hu _ => eT _ _ hu⟩
  refine ⟨T, _, rfl, SqT.of upd_same, rfl, _, _, rfl, _, _, rfl, rfl, hw x y, ?_⟩
  exact madeP_turn (by omega) kp p2 fun acc hl pv e' Q' k => he i x y _ acc h1 h2 e' hl pv Q' k
theorem made_tup {K : PySem.W.Frag} {a D : Addr} {xs : List V} {te : TE} {vs : List Nat} {σ : L2.St} {H1 : Hp} {j : Nat} {Qd : Hp → Prop} (Pv : List V → Hp → Prop) (kp : Keeps D Pv) (hx : SqT K H1 a xs) (hD : H1 D = none) (hz : xs.length ≤ 1000000) (hw : ∀ x, wipe ((wipe σ vs).set j (some x)) vs = wipe σ vs) (h0 : ∀ H, Pv [] H)
    (he : ∀ i x H' acc, xs[i]? = some x → Ext H1 H' → acc.length = i → Pv acc H' → ∀ Q' : VK, (∀ y H'', Ext H' H'' → Pv (acc ++ [y]) H'' → Q' y H'') → te ((wipe σ vs).set j (some x)) H' Q')
    (hd : ∀ H' acc, Ext H1 H' → H' D = some (.lst acc) → acc.length = xs.length → Pv acc H' → Qd H') :
    Block (Itt K a) (gName j) tYes te vs σ H1 D Qd := by
  refine lc_it (walk_tup (xs := xs)) (MadeP H1 D Pv) ⟨hD, ext_new (ext_refl H1) hD, [], upd_same, rfl, h0 _⟩ (fun i H' _ p => hx.ext p.2.1) (fun i x H H' hi p y => ?_) fun H' ⟨_, e, acc, q, hl, pv⟩ => hd H' acc e q hl pv
  obtain ⟨rfl, hx'⟩ := y
  exact ⟨hw x, madeP_turn (by omega) kp p fun acc hl pv e' Q' k => he i x _ acc hx' e' hl pv Q' k⟩
end My
namespace My
open PySem PySem.Spec PyProof.Rows L2
theorem mapIdx_at {α : Type} (zs : List α) (e g : α → V) : (zs.map e).mapIdx (fun i _ => match zs[i]? with | some z => g z | none => .non) = zs.map g := by
  apply List.ext_getElem?
  intro i
  rw [List.getElem?_mapIdx, List.getElem?_map, List.getElem?_map]
  cases zs[i]? <;> rfl
section
variable {α : Type} {K : PySem.W.Frag} {a D : Addr} {zs : List α} {te : TE} {vs : List Nat} {σ : L2.St} {H1 : Hp} {j : Nat} {Qd : Hp → Prop}
theorem mapT (e g : α → V) (hx : SqT K H1 a (zs.map e)) (hD : H1 D = none) (hz : zs.length ≤ 1000000) (hw : ∀ x, wipe ((wipe σ vs).set j (some x)) vs = wipe σ vs)
    (he : ∀ (i : Nat) z H', zs[i]? = some z → Ext H1 H' → ∀ Q' : VK, (∀ H'', Ext H' H'' → Q' (g z) H'') → te ((wipe σ vs).set j (some (e z))) H' Q') (hd : ∀ H', Ext H1 H' → H' D = some (.lst (zs.map g)) → Qd H') :
    Block (Itt K a) (gName j) tYes te vs σ H1 D Qd :=
  map_tup (xs := zs.map e) (fun i _ => match zs[i]? with | some z => g z | none => .non) hx hD (by rw [List.length_map]; exact hz) hw (fun i x H' hi e1 Q' k => by
    rw [List.getElem?_map] at hi
    obtain ⟨z, hz, rfl⟩ := Option.map_eq_some_iff.mp hi
    exact he i z H' hz e1 Q' fun H'' e2 => by
      have := k H'' e2
      simp only [hz] at this
      exact this) fun H' e1 q => hd H' e1 (by rw [mapIdx_at zs e g] at q; exact q)
theorem mapTb (e : α → V) (p : α → Bool) (hx : SqT K H1 a (zs.map e)) (hD : H1 D = none) (hz : zs.length ≤ 1000000) (hw : ∀ x, wipe ((wipe σ vs).set j (some x)) vs = wipe σ vs)
    (he : ∀ (i : Nat) z H', zs[i]? = some z → Ext H1 H' → ∀ Q' : VK, (∀ H'', Ext H' H'' → Q' (.bl (p z)) H'') → te ((wipe σ vs).set j (some (e z))) H' Q') (hd : ∀ H', Ext H1 H' → H' D = some (.lst ((zs.map p).map V.bl)) → Qd H') :
    Block (Itt K a) (gName j) tYes te vs σ H1 D Qd := mapT e (fun z => .bl (p z)) hx hD hz hw he fun H' e1 q => hd H' e1 (by rw [List.map_map]; exact q)
theorem all_tt' {zs : List α} : (zs.map fun _ => true).all id = true := by simp
/-- the values stand for the things -/
def RelL (R : α → V → Hp → Prop) (zs : List α) (xs : List V) (H : Hp) : Prop := xs.length = zs.length ∧ ∀ (i : Nat) z v, zs[i]? = some z → xs[i]? = some v → R z v H
theorem RelL.nil {R : α → V → Hp → Prop} {H : Hp} : RelL R [] [] H := ⟨rfl, fun i z v h => by simp at h⟩
theorem RelL.snoc {R : α → V → Hp → Prop} {H : Hp} {l : List α} {xs : List V} {z : α} {v : V} (h : RelL R l xs H) (r : R z v H) : RelL R (l ++ [z]) (xs ++ [v]) H :=
  ⟨by rw [List.length_append, List.length_append, h.1]; rfl, fun i y u hy hu => by
    by_cases hl : i < l.length
    · rw [List.getElem?_append_left hl] at hy
      rw [List.getElem?_append_left (by rw [h.1]; exact hl)] at hu
      exact h.2 i y u hy hu
    · rw [List.getElem?_append_right (by omega)] at hy
      rw [List.getElem?_append_right (by rw [h.1]; omega), h.1] at hu
      have e : i - l.length = 0 := by
        have := (List.getElem?_eq_some_iff.mp hy).1
        simp at this
        omega
      rw [e] at hy hu
      cases hy
      cases hu
      exact r⟩
theorem RelL.mono {R R' : α → V → Hp → Prop} {H H' : Hp} {l : List α} {xs : List V} (h : RelL R l xs H) (f : ∀ z v, z ∈ l → R z v H → R' z v H') : RelL R' l xs H' :=
  ⟨h.1, fun i z v hz hv => f z v (List.mem_of_getElem? hz) (h.2 i z v hz hv)⟩
theorem RelL.map {β : Type} {R : β → V → Hp → Prop} {H : Hp} {l : List α} {xs : List V} {f : α → β} : RelL R (l.map f) xs H ↔ RelL (fun z => R (f z)) l xs H :=
  ⟨fun h => ⟨by rw [h.1, List.length_map], fun i z v hz hv => h.2 i (f z) v (by rw [List.getElem?_map, hz]; rfl) hv⟩, fun h => ⟨by rw [h.1, List.length_map], fun i z v hz hv => by
    rw [List.getElem?_map] at hz
    obtain ⟨y, hy, rfl⟩ := Option.map_eq_some_iff.mp hz
    exact h.2 i y v hy hv⟩⟩
/-- a change of the list alone is nothing to the relation -/
def RKeep (D : Addr) (R : α → V → Hp → Prop) : Prop := ∀ z v H H', R z v H → (∃ l, H D = some (.lst l)) → (∀ a u, H a = some u → a ≠ D → H' a = some u) → R z v H'
def RExt (R : α → V → Hp → Prop) : Prop := ∀ z v H H', R z v H → Ext H H' → R z v H'
theorem madeT (e : α → V) (R : α → V → Hp → Prop) (rk : RKeep D R) (re : RExt R) (hx : SqT K H1 a (zs.map e)) (hD : H1 D = none) (hz : zs.length ≤ 1000000) (hw : ∀ x, wipe ((wipe σ vs).set j (some x)) vs = wipe σ vs)
    (he : ∀ (i : Nat) z H', zs[i]? = some z → Ext H1 H' → ∀ Q' : VK, (∀ v H'', Ext H' H'' → R z v H'' → Q' v H'') → te ((wipe σ vs).set j (some (e z))) H' Q')
    (hd : ∀ H' xs, Ext H1 H' → H' D = some (.lst xs) → RelL R zs xs H' → Qd H') :
    Block (Itt K a) (gName j) tYes te vs σ H1 D Qd :=
  made_tup (xs := zs.map e) (fun acc H => RelL R (zs.take acc.length) acc H) (fun acc H H' p l k => p.mono fun z v _ r => rk z v H H' r l k) hx hD (by rw [List.length_map]; exact hz) hw (fun H => .nil)
    (fun i x H' acc hi e1 hl pv Q' k => by
      rw [List.getElem?_map] at hi
      obtain ⟨z, hz, rfl⟩ := Option.map_eq_some_iff.mp hi
      refine he i z H' hz e1 Q' fun v H'' e2 r => k v H'' e2 ?_
      rw [List.length_append, List.length_singleton, hl, take_next hz]
      rw [hl] at pv
      exact (pv.mono fun z v _ r => re z v _ _ r e2).snoc r)
    fun H' acc e1 q hl pv => hd H' acc e1 q (by rw [hl, List.length_map, List.take_length] at pv; exact pv)
theorem mapR_aux {R : α → V → Hp → Prop} {xs : List V} (g : α → V) (rl : RelL R zs xs H1) : xs.mapIdx (fun i _ => match zs[i]? with | some z => g z | none => .non) = zs.map g := by
  apply List.ext_getElem?
  intro i
  rw [List.getElem?_mapIdx, List.getElem?_map]
  by_cases h : i < zs.length
  · rw [List.getElem?_eq_getElem h, List.getElem?_eq_getElem (by rw [rl.1]; exact h)]
    rfl
  · rw [List.getElem?_eq_none (by omega), List.getElem?_eq_none (by rw [rl.1]; omega)]
    rfl
theorem mapRT {R : α → V → Hp → Prop} {xs : List V} (g : α → V) (hx : SqT K H1 a xs) (rl : RelL R zs xs H1) (hD : H1 D = none) (hz : zs.length ≤ 1000000) (hw : ∀ x, wipe ((wipe σ vs).set j (some x)) vs = wipe σ vs)
    (he : ∀ (i : Nat) z v H', zs[i]? = some z → R z v H1 → Ext H1 H' → ∀ Q' : VK, (∀ H'', Ext H' H'' → Q' (g z) H'') → te ((wipe σ vs).set j (some v)) H' Q') (hd : ∀ H', Ext H1 H' → H' D = some (.lst (zs.map g)) → Qd H') :
    Block (Itt K a) (gName j) tYes te vs σ H1 D Qd :=
  map_tup (xs := xs) (fun i _ => match zs[i]? with | some z => g z | none => .non) hx hD (by rw [rl.1]; exact hz) hw (fun i x H' hi e1 Q' k => by
    have lt : i < zs.length := by rw [← rl.1]; exact (List.getElem?_eq_some_iff.mp hi).1
    have hz := List.getElem?_eq_getElem lt
    exact he i _ x H' hz (rl.2 i _ x hz hi) e1 Q' fun H'' e2 => by
      have := k H'' e2
      simp only [hz] at this
      exact this) fun H' e1 q => hd H' e1 (by rw [mapR_aux g rl] at q; exact q)
theorem mapRL {R : α → V → Hp → Prop} {xs : List V} (g : α → V) (hx : SqL K H1 a xs) (rl : RelL R zs xs H1) (hD : H1 D = none) (hz : zs.length ≤ 1000000) (hw : ∀ x, wipe ((wipe σ vs).set j (some x)) vs = wipe σ vs)
    (he : ∀ (i : Nat) z v H', zs[i]? = some z → R z v H1 → Ext H1 H' → ∀ Q' : VK, (∀ H'', Ext H' H'' → Q' (g z) H'') → te ((wipe σ vs).set j (some v)) H' Q') (hd : ∀ H', Ext H1 H' → H' D = some (.lst (zs.map g)) → Qd H') :
    Block (Itl K a) (gName j) tYes te vs σ H1 D Qd :=
  map_list (xs := xs) (fun i _ => match zs[i]? with | some z => g z | none => .non) hx hD (by rw [rl.1]; exact hz) hw (fun i x H' hi e1 Q' k => by
    have lt : i < zs.length := by rw [← rl.1]; exact (List.getElem?_eq_some_iff.mp hi).1
    have hz := List.getElem?_eq_getElem lt
    exact he i _ x H' hz (rl.2 i _ x hz hi) e1 Q' fun H'' e2 => by
      have := k H'' e2
      simp only [hz] at this
      exact this) fun H' e1 q => hd H' e1 (by rw [mapR_aux g rl] at q; exact q)
theorem mapRTb {R : α → V → Hp → Prop} {xs : List V} (p : α → Bool) (hx : SqT K H1 a xs) (rl : RelL R zs xs H1) (hD : H1 D = none) (hz : zs.length ≤ 1000000) (hw : ∀ x, wipe ((wipe σ vs).set j (some x)) vs = wipe σ vs)
    (he : ∀ (i : Nat) z v H', zs[i]? = some z → R z v H1 → Ext H1 H' → ∀ Q' : VK, (∀ H'', Ext H' H'' → Q' (.bl (p z)) H'') → te ((wipe σ vs).set j (some v)) H' Q') (hd : ∀ H', Ext H1 H' → H' D = some (.lst ((zs.map p).map V.bl)) → Qd H') :
    Block (Itt K a) (gName j) tYes te vs σ H1 D Qd := mapRT (fun z => .bl (p z)) hx rl hD hz hw he fun H' e1 q => hd H' e1 (by rw [List.map_map]; exact q)
end
section
variable {α : Type} {K : PySem.W.Frag} {a D : Addr} {zs : List α} {te : TE} {vs : List Nat} {σ : L2.St} {H1 : Hp} {j : Nat} {Qd : Hp → Prop}
theorem mapRLi {R : α → V → Hp → Prop} {xs : List V} (p : α → Int) (hx : SqL K H1 a xs) (rl : RelL R zs xs H1) (hD : H1 D = none) (hz : zs.length ≤ 1000000) (hw : ∀ x, wipe ((wipe σ vs).set j (some x)) vs = wipe σ vs)
    (he : ∀ (i : Nat) z v H', zs[i]? = some z → R z v H1 → Ext H1 H' → ∀ Q' : VK, (∀ H'', Ext H' H'' → Q' (.int (p z)) H'') → te ((wipe σ vs).set j (some v)) H' Q') (hd : ∀ H', Ext H1 H' → H' D = some (.lst ((zs.map p).map V.int)) → Qd H') :
    Block (Itl K a) (gName j) tYes te vs σ H1 D Qd := mapRL (fun z => .int (p z)) hx rl hD hz hw he fun H' e1 q => hd H' e1 (by rw [List.map_map]; exact q)
end
/-- a for's question -/
abbrev Loop (J : It) (g : TG) (tb : TS) (D : Ends) (σ : L2.St) (H : Hp) : Prop := ∃ W : Nat → Nat → L2.St → Hp → Prop, (∃ m, W 0 m σ H) ∧ ∀ i m σ H, W i m σ H →
  (J.stop i H ∧ D.nx σ H) ∨ (J.go i H ∧ ∃ N : L2.St → Hp → Prop, (∀ σ' H', N σ' H' → ∃ m', m' < m ∧ W (i + 1) m' σ' H') ∧ ∀ x H', J.yld i H x H' → g x σ H' fun σ2 H2 => tb { D with nx := N, ct := N, bk := D.nx } σ2 H2)
section
variable {α : Type} {K : PySem.W.Frag} {a : Addr} {zs : List α} {g : TG} {tb : TS} {D : Ends} {σ : L2.St} {H : Hp}
theorem forT (zs : List α) (e : α → V) (Pv : Nat → L2.St → Hp → Prop) (h0 : Pv 0 σ H) (hG : ∀ i σ H, Pv i σ H → SqT K H a (zs.map e))
    (hs : ∀ (i : Nat) z σ H, zs[i]? = some z → Pv i σ H → g (e z) σ H fun σ2 H2 => tb { D with nx := Pv (i + 1), ct := Pv (i + 1), bk := D.nx } σ2 H2) (hd : ∀ σ H, Pv zs.length σ H → D.nx σ H) : Loop (Itt K a) g tb D σ H := by
  refine for_it (walk_tup (K := K) (a := a) (xs := zs.map e)) Pv h0 (fun i σ H _ p => hG i σ H p) (fun i x σ H H' hi p y => ?_) (by rw [List.length_map]; exact hd)
  obtain ⟨rfl, hx⟩ := y
  rw [List.getElem?_map] at hx
  obtain ⟨z, hz, rfl⟩ := Option.map_eq_some_iff.mp hx
  exact hs i z σ H' hz p
theorem forL (zs : List α) (e : α → V) (Pv : Nat → L2.St → Hp → Prop) (h0 : Pv 0 σ H) (hG : ∀ i σ H, Pv i σ H → SqL K H a (zs.map e))
    (hs : ∀ (i : Nat) z σ H, zs[i]? = some z → Pv i σ H → g (e z) σ H fun σ2 H2 => tb { D with nx := Pv (i + 1), ct := Pv (i + 1), bk := D.nx } σ2 H2) (hd : ∀ σ H, Pv zs.length σ H → D.nx σ H) : Loop (Itl K a) g tb D σ H := by
  refine for_it (walk_list (K := K) (a := a) (xs := zs.map e)) Pv h0 (fun i σ H _ p => hG i σ H p) (fun i x σ H H' hi p y => ?_) (by rw [List.length_map]; exact hd)
  obtain ⟨rfl, hx⟩ := y
  rw [List.getElem?_map] at hx
  obtain ⟨z, hz, rfl⟩ := Option.map_eq_some_iff.mp hx
  exact hs i z σ H' hz p
theorem forR {n : Nat} {lo : Int} (Pv : Nat → L2.St → Hp → Prop) (h0 : Pv 0 σ H)
    (hs : ∀ (i : Nat) σ H, i < n → Pv i σ H → g (.int (lo + i)) σ H fun σ2 H2 => tb { D with nx := Pv (i + 1), ct := Pv (i + 1), bk := D.nx } σ2 H2) (hd : ∀ σ H, Pv n σ H → D.nx σ H) : Loop (Itr lo n) g tb D σ H := by
  refine for_it walk_range Pv h0 (fun i σ H _ p => True.intro) (fun i x σ H H' hi p y => ?_) hd
  obtain ⟨rfl, rfl⟩ := y
  exact hs i σ H' hi p
theorem atI_end {xs : List V} {v : V} (h : xs[xs.length - 1]? = some v) : atI xs (-1) = some v := by
  have lt := (List.getElem?_eq_some_iff.mp h).1
  unfold atI
  have : ixN xs.length (-1) = some (xs.length - 1) := by
    unfold ixN
    rw [if_neg (by decide), if_pos (by omega)]
    congr 1
    omega
  rw [this]
  exact h
end
end My
namespace My
open PySem PySem.Spec PyProof.Rows L2
section
variable {pr : Program} {w : World} {A : Around} {E : Value → Shared → Prop} {s : Shared} {Z PI OW J1 J2 U1 U2 T : Addr} {fl : Bool} {oT : Obj} {n m : Nat} {as bs : Array Value}
/-- the next pair, while the one before is still somebody's -/
theorem heldT_item {va vb : Value} {Q : Option Value → Shared → Prop} (ap : ZipApart Z PI OW J1 J2 U1 U2) (zz : IsZipHeld s.heap Z PI OW T fl) (tt : s.heap.get? T = some oT) (pp : IsPair s.heap PI (.ref J1) (.ref J2))
    (g1 : s.heap.IsTupleIter J1 U1 n) (g2 : s.heap.IsTupleIter J2 U2 m) (u1 : s.heap.IsTuple U1 as) (u2 : s.heap.IsTuple U2 bs) (ea : as[n]? = some va) (eb : bs[m]? = some vb)
    (fin : ∀ h', IsZipHeld h' Z PI OW T true → h'.IsTupleIter J1 U1 (n + 1) → h'.IsTupleIter J2 U2 (m + 1) → IsPair h' s.heap.objs.size va vb →
      (∀ c o, c ≠ Z → c ≠ J1 → c ≠ J2 → s.heap.get? c = some o → h'.get? c = some o) → Q (some (.ref s.heap.objs.size)) { s with heap := h' }) : wpAny (model pr w) A (pyNext (.ref Z)) Q E s := by
  have ty : s.TypeIs (.ref Z) "zip" := ⟨_, zz, rfl⟩
  unfold pyNext
  refine wpAny_bind (wpAny_attempt (wpAny_callSpecial?_slot (name := Str.ofString "__next__") ty F.slot_zip_next (wpAny_call_entry F.slot_zip_next ty F.entry_zip_next ?_ (F.args_zip_next_1 _))))
  refine show wpAny _ _ (field (.ref Z) 2 >>= _) _ _ _ from wpAny_bind (wpAny_field zz rfl (x := .bool false) rfl ?_)
  refine show wpAny _ _ (field (.ref Z) 3 >>= _) _ _ _ from wpAny_bind (wpAny_field zz rfl (x := .ref PI) rfl (wpAny_bind (wpAny_seqItems pp rfl ?_)))
  refine show wpAny _ _ (Builtin.SmallTypes.ownedTupleIsFree (.ref Z) >>= _) _ _ _ from wpAny_bind (wpAny_tupleHeld_zip zz tt fun ha za sa => ?_)
  simp only [Bool.false_eq_true, if_false]
  refine wpAny_bind ?_
  rw [← Array.forIn_toList]
  simp only [List.forIn_cons, List.forIn_nil]
  refine wpAny_bind (wpAny_bind (wpAny_holding (show wpAny _ _ (Builtin.SmallTypes.nextOf (.ref J1) >>= _) _ _ _ from wpAny_bind (RZ.nextOf_tuple_item (s := { s with heap := ha }) (g1.extBut sa.extBut ap.i1z) (u1.extBut sa.extBut ap.l1z) ea fun hb jb sb => wpAny_pure (wpAny_pure ?_)))))
  refine wpAny_bind (wpAny_bind (wpAny_holding (show wpAny _ _ (Builtin.SmallTypes.nextOf (.ref J2) >>= _) _ _ _ from wpAny_bind (RZ.nextOf_tuple_item (s := { s with heap := hb }) ((g2.extBut sa.extBut ap.i2z).extBut sb.extBut ap.i12.symm) ((u2.extBut sa.extBut ap.l2z).extBut sb.extBut ap.l2i1) eb fun hc jc sc => wpAny_pure (wpAny_pure (wpAny_pure ?_))))))
  refine show wpAny _ _ (newTuple [va, vb] >>= _) _ _ _ from wpAny_bind (wpAny_newTuple (wpAny_pure ⟨_, rfl, wpAny_pure ?_⟩))
  have size : hc.objs.size = s.heap.objs.size := by rw [sc.1, sb.1, sa.1]
  have zc : IsZipHeld hc Z PI OW T true := sc.extBut _ _ ap.i2z.symm (sb.extBut _ _ ap.i1z.symm za)
  have up : ∀ c o, hc.get? c = some o → (hc.push { cls := .type "tuple", data := .seq #[va, vb] }).get? c = some o := fun c o e => Heap.get?_push_of_some _ e
  have np : IsPair (hc.push { cls := .type "tuple", data := .seq #[va, vb] }) hc.objs.size va vb := Heap.get?_push_size _ rfl
  refine show Q (some (.ref hc.objs.size)) _ from ?_
  rw [size] at np ⊢
  exact fin _ (up _ _ zc) ((jb.extBut sc.extBut ap.i12).at fun o e => up _ o e) (jc.at fun o e => up _ o e) np fun c o x y z e => up c o (sc.extBut _ _ z (sb.extBut _ _ y (sa.extBut _ _ x e)))
/-- no next pair -/
theorem heldT_end {Q : Option Value → Shared → Prop} (calm : A.handled = none) (ap : ZipApart Z PI OW J1 J2 U1 U2) (zz : IsZipHeld s.heap Z PI OW T fl) (tt : s.heap.get? T = some oT) (pp : IsPair s.heap PI (.ref J1) (.ref J2))
    (g1 : s.heap.IsTupleIter J1 U1 n) (g2 : s.heap.IsTupleIter J2 U2 m) (u1 : s.heap.IsTuple U1 as) (u2 : s.heap.IsTuple U2 bs) (over : as[n]? = none ∨ bs[m]? = none)
    (fin : ∀ h', (∀ c o, c ≠ Z → c ≠ J1 → c ≠ J2 → s.heap.get? c = some o → h'.get? c = some o) → Q none { s with heap := h' }) : wpAny (model pr w) A (pyNext (.ref Z)) Q E s := by
  have ty : s.TypeIs (.ref Z) "zip" := ⟨_, zz, rfl⟩
  unfold pyNext
  have stop : ∀ (h' : Heap) (e : Addr), (∀ c o, c ≠ Z → c ≠ J1 → c ≠ J2 → s.heap.get? c = some o → h'.get? c = some o) → (∃ o, h'.get? e = some o ∧ o.cls = .type "StopIteration") →
      wpAny (model pr w) A (isInstance (.ref e) (.type "StopIteration") >>= fun b => if b = true then pure none else throw (Value.ref e)) Q E { s with heap := h' } := fun h' e kp ⟨o, ho, hc⟩ =>
    wpAny_bind (wpAny_isInstance (T := "StopIteration") (b := true) ⟨o, ho, hc⟩ isSubtype_stop (wpAny_pure (fin _ kp)))
  refine wpAny_bind (wpAny_attempt (wpAny_callSpecial?_slot (name := Str.ofString "__next__") ty F.slot_zip_next (wpAny_call_entry F.slot_zip_next ty F.entry_zip_next ?_ (F.args_zip_next_1 _))))
  refine show wpAny _ _ (field (.ref Z) 2 >>= _) _ _ _ from wpAny_bind (wpAny_field zz rfl (x := .bool false) rfl ?_)
  refine show wpAny _ _ (field (.ref Z) 3 >>= _) _ _ _ from wpAny_bind (wpAny_field zz rfl (x := .ref PI) rfl (wpAny_bind (wpAny_seqItems pp rfl ?_)))
  refine show wpAny _ _ (Builtin.SmallTypes.ownedTupleIsFree (.ref Z) >>= _) _ _ _ from wpAny_bind (wpAny_tupleHeld_zip zz tt fun ha za sa => ?_)
  simp only [Bool.false_eq_true, if_false]
  refine wpAny_bind ?_
  rw [← Array.forIn_toList]
  simp only [List.forIn_cons, List.forIn_nil]
  cases ea : as[n]? with
  | none =>
    refine wpAny_bind (wpAny_bind (wpAny_holding (show wpAny _ _ (Builtin.SmallTypes.nextOf (.ref J1) >>= _) _ _ _ from wpAny_bind (RZ.nextOf_tuple_end (s := { s with heap := ha }) calm (g1.extBut sa.extBut ap.i1z) (u1.extBut sa.extBut ap.l1z) ea fun hb e sb eo => ?_))))
    exact stop hb e (fun c o x y _ q => sb _ _ y (sa.extBut _ _ x q)) eo
  | some va =>
    have eb : bs[m]? = none := by
      rcases over with q | q
      · rw [ea] at q; cases q
      · exact q
    refine wpAny_bind (wpAny_bind (wpAny_holding (show wpAny _ _ (Builtin.SmallTypes.nextOf (.ref J1) >>= _) _ _ _ from wpAny_bind (RZ.nextOf_tuple_item (s := { s with heap := ha }) (g1.extBut sa.extBut ap.i1z) (u1.extBut sa.extBut ap.l1z) ea fun hb jb sb => wpAny_pure (wpAny_pure ?_)))))
    refine wpAny_bind (wpAny_bind (wpAny_holding (show wpAny _ _ (Builtin.SmallTypes.nextOf (.ref J2) >>= _) _ _ _ from wpAny_bind (RZ.nextOf_tuple_end (s := { s with heap := hb }) calm ((g2.extBut sa.extBut ap.i2z).extBut sb.extBut ap.i12.symm) ((u2.extBut sa.extBut ap.l2z).extBut sb.extBut ap.l2i1) eb fun hc e sc eo => ?_))))
    exact stop hc e (fun c o x y z q => sc _ _ z (sb.extBut _ _ y (sa.extBut _ _ x q))) eo
end
theorem notin4 {c a b d e : Addr} (h : c ∉ [a, b, d, e]) : c ≠ a ∧ c ≠ b ∧ c ≠ d ∧ c ≠ e := ⟨fun q => h (by rw [q]; simp), fun q => h (by rw [q]; simp), fun q => h (by rw [q]; simp), fun q => h (by rw [q]; simp)⟩
/-- where a zip of two tuples stands: n pairs are out -/
def ZipTAt (Z PI OW J1 J2 U1 U2 d : Addr) (as bs : Array Value) (n : Nat) (h : Heap) : Prop := IsPair h PI (.ref J1) (.ref J2) ∧ h.IsTupleIter J1 U1 n ∧ h.IsTupleIter J2 U2 n ∧ h.IsTuple U1 as ∧ h.IsTuple U2 bs ∧
  ((IsZip h Z PI OW .none ∧ ∃ a b, IsPair h OW a b) ∨ ∃ T f oT, IsZipHeld h Z PI OW T f ∧ h.get? T = some oT ∧ (T ≠ Z ∧ T ≠ J1 ∧ T ≠ J2) ∧ T ≠ d)
def ZipTOk (Z PI OW J1 J2 U1 U2 : Addr) (as bs : Array Value) (h : Heap) : Prop := IsZip h Z PI OW .none ∧ IsPair h PI (.ref J1) (.ref J2) ∧ (∃ a b, IsPair h OW a b) ∧ h.IsTupleIter J1 U1 0 ∧ h.IsTupleIter J2 U2 0 ∧ h.IsTuple U1 as ∧ h.IsTuple U2 bs
section
variable {pr : Program} {w : World}
theorem zipT_src {A : Around} (Z PI OW J1 J2 U1 U2 d : Addr) (ap : ZipApart Z PI OW J1 J2 U1 U2) (as bs : Array Value) (calm : A.handled = none) (nd : d ≠ Z ∧ d ≠ PI ∧ d ≠ OW ∧ d ≠ J1 ∧ d ≠ J2 ∧ d ≠ U1 ∧ d ≠ U2) :
    PairSrc pr w A Z d [Z, OW, J1, J2] (min as.size bs.size) (fun i k v => as[i]? = some k ∧ bs[i]? = some v) (ZipTAt Z PI OW J1 J2 U1 U2 d as bs) := by
  obtain ⟨d1, d2, d3, d4, d5, d6, d7⟩ := nd
  refine ⟨fun m => ?_, fun i h h' st kp => ?_, fun i s Q E lt st dl fin => ?_, fun s Q E st fin => ?_⟩
  · rcases List.mem_cons.mp m with e | m
    · exact d1 e
    rcases List.mem_cons.mp m with e | m
    · exact d3 e
    rcases List.mem_cons.mp m with e | m
    · exact d4 e
    · exact d5 (List.mem_singleton.mp m)
  · obtain ⟨pp, g1, g2, u1, u2, zz⟩ := st
    refine ⟨kp _ _ d2.symm pp, g1.at fun o e => kp _ o d4.symm e, g2.at fun o e => kp _ o d5.symm e, u1.at fun o e => kp _ o d6.symm e, u2.at fun o e => kp _ o d7.symm e, ?_⟩
    rcases zz with ⟨z, a, b, ow⟩ | ⟨T, f, oT, z, t, ts, td⟩
    · exact .inl ⟨kp _ _ d1.symm z, a, b, kp _ _ d3.symm ow⟩
    · exact .inr ⟨T, f, oT, kp _ _ d1.symm z, kp _ _ td t, ts, td⟩
  · obtain ⟨pp, g1, g2, u1, u2, zz⟩ := st
    have ea := Array.getElem?_eq_getElem (xs := as) (i := i) (Nat.lt_of_lt_of_le lt (Nat.min_le_left ..))
    have eb := Array.getElem?_eq_getElem (xs := bs) (i := i) (Nat.lt_of_lt_of_le lt (Nat.min_le_right ..))
    have n1 : s.heap.objs.size ≠ J1 := let ⟨_, e, _⟩ := g1; Nat.ne_of_gt (Heap.lt_size e)
    have n2 : s.heap.objs.size ≠ J2 := let ⟨_, e, _⟩ := g2; Nat.ne_of_gt (Heap.lt_size e)
    rcases zz with ⟨z, a, b, ow⟩ | ⟨T, f, oT, z, t, ts, td⟩
    · refine RZ.pyNext_zipT_item ap z pp ow g1 g2 u1 u2 ea eb fun h' zh po k1 k2 np _ kp => ?_
      refine fin _ _ _ h' s.toks ⟨ea, eb⟩ (.inl ⟨_, np, rfl, _, rfl⟩) ⟨kp _ _ ap.TIz ap.TITO ap.TIi1 ap.TIi2 pp, k1, k2, u1.at fun o e => kp _ o ap.l1z ap.l1TO ap.l1i1 ap.l1i2 e, u2.at fun o e => kp _ o ap.l2z ap.l2TO ap.l2i1 ap.l2i2 e, ?_⟩ fun c o hc e => ?_
      · exact .inr ⟨s.heap.objs.size, false, _, zh, np, ⟨Nat.ne_of_gt (Heap.lt_size z), n1, n2⟩, Nat.ne_of_gt dl⟩
      · obtain ⟨x1, x2, x3, x4⟩ := notin4 hc
        exact kp c o x1 x2 x3 x4 e
    · refine heldT_item ap z t pp g1 g2 u1 u2 ea eb fun h' zh k1 k2 np kp => ?_
      refine fin _ _ _ h' s.toks ⟨ea, eb⟩ (.inl ⟨_, np, rfl, _, rfl⟩) ⟨kp _ _ ap.TIz ap.TIi1 ap.TIi2 pp, k1, k2, u1.at fun o e => kp _ o ap.l1z ap.l1i1 ap.l1i2 e, u2.at fun o e => kp _ o ap.l2z ap.l2i1 ap.l2i2 e, ?_⟩ fun c o hc e => ?_
      · exact .inr ⟨T, true, oT, zh, kp _ _ ts.1 ts.2.1 ts.2.2 t, ts, td⟩
      · obtain ⟨x1, x2, x3, x4⟩ := notin4 hc
        exact kp c o x1 x3 x4 e
  · obtain ⟨pp, g1, g2, u1, u2, zz⟩ := st
    have over : as[min as.size bs.size]? = none ∨ bs[min as.size bs.size]? = none := by
      by_cases le : as.size ≤ bs.size
      · exact .inl (Array.getElem?_eq_none (by omega))
      · exact .inr (Array.getElem?_eq_none (by omega))
    rcases zz with ⟨z, a, b, ow⟩ | ⟨T, f, oT, z, t, ts, td⟩
    · refine RZ.pyNext_zipT_end calm ap z pp ow g1 g2 u1 u2 over fun h' kp => fin h' s.toks fun c o hc e => ?_
      obtain ⟨x1, x2, x3, x4⟩ := notin4 hc
      exact kp c o x1 x2 x3 x4 e
    · refine heldT_end calm ap z t pp g1 g2 u1 u2 over fun h' kp => fin h' s.toks fun c o hc e => ?_
      obtain ⟨x1, x2, x3, x4⟩ := notin4 hc
      exact kp c o x1 x3 x4 e
theorem zipT_arg (Z PI OW J1 J2 U1 U2 : Addr) (ap : ZipApart Z PI OW J1 J2 U1 U2) (as bs : Array Value) :
    PairArg pr w "zip" Z [Z, PI, OW, J1, J2, U1, U2] [Z, OW, J1, J2] (min as.size bs.size) (fun i k v => as[i]? = some k ∧ bs[i]? = some v) (ZipTOk Z PI OW J1 J2 U1 U2 as bs) where
  type := fun s ok => ⟨_, ok.1, rfl⟩
  notDict := by decide
  keep := fun h h' ok kp => let ⟨z, p, ⟨a, b, o⟩, g1, g2, u1, u2⟩ := ok
    ⟨kp _ _ z, kp _ _ p, ⟨a, b, kp _ _ o⟩, g1.at fun x e => kp _ x e, g2.at fun x e => kp _ x e, u1.at fun x e => kp _ x e, u2.at fun x e => kp _ x e⟩
  there := fun h ok b hb => by
    obtain ⟨z, p, ⟨a, c, o⟩, ⟨_, g1, _⟩, ⟨_, g2, _⟩, ⟨_, u1, _⟩, ⟨_, u2, _⟩⟩ := ok
    simp only [List.mem_cons, List.not_mem_nil, or_false] at hb
    rcases hb with rfl | rfl | rfl | rfl | rfl | rfl | rfl
    · exact ⟨_, z⟩
    · exact ⟨_, p⟩
    · exact ⟨_, o⟩
    · exact ⟨_, g1⟩
    · exact ⟨_, g2⟩
    · exact ⟨_, u1⟩
    · exact ⟨_, u2⟩
  sub := fun b hb => by
    simp only [List.mem_cons, List.not_mem_nil, or_false] at hb ⊢
    rcases hb with e | e | e | e <;> simp [e]
  noKeys := fun A s Q E calm ok k => getAttrOr_miss_zip ok.1 rfl rfl rfl zip_no_keys (by decide +kernel) calm k
  iter := fun A s d Q E calm ok lt nd k => by
    simp only [List.mem_cons, List.not_mem_nil, or_false, not_or] at nd
    obtain ⟨z, p, ⟨a, b, o⟩, g1, g2, u1, u2⟩ := ok
    exact wpAny_pyIter_zip z (k Z _ _ s.heap s.toks (zipT_src Z PI OW J1 J2 U1 U2 d ap as bs calm nd) ⟨p, g1, g2, u1, u2, .inl ⟨z, a, b, o⟩⟩ (fun _ _ e => e) fun b hb => .inl hb)
end
end My
namespace My
open PySem PySem.Spec PyProof.Rows L2
theorem merge_new' : ∀ (more acc : List (Key × V)), (∀ p ∈ more, ∀ q ∈ acc, q.1 ≠ p.1) → (more.map (·.1)).Nodup → mergeK acc more = acc ++ more
  | [], acc, _, _ => by simp [mergeK]
  | p :: r, acc, h, nd => by
    have e : putK acc p.1 p.2 = acc ++ [p] := by
      unfold putK
      have : (acc.any fun kv => decide (kv.1 = p.1)) = false := by
        rw [List.any_eq_false]
        intro q hq
        simpa using h p List.mem_cons_self q hq
      rw [this]
      rfl
    show mergeK (putK acc p.1 p.2) r = acc ++ p :: r
    rw [e, merge_new' r _ (fun p' hp' q hq => ?_) (by rw [List.map_cons] at nd; exact (List.nodup_cons.mp nd).2), List.append_assoc]
    · rfl
    · rcases List.mem_append.mp hq with hq | hq
      · exact h p' (List.mem_cons_of_mem _ hp') q hq
      · rw [List.mem_singleton.mp hq]
        intro z
        rw [List.map_cons] at nd
        exact (List.nodup_cons.mp nd).1 (by rw [z]; exact List.mem_map.mpr ⟨p', hp', rfl⟩)
theorem zkV_keys (ks : List Str) (ys : List V) : ((zkV ks ys).map (·.1)) = (ks.take ys.length).map Sum.inr := by
  unfold zkV
  rw [List.map_map]
  apply List.ext_getElem?
  intro i
  rw [List.getElem?_map, List.getElem?_map, List.getElem?_take]
  by_cases h1 : i < ys.length
  · rw [if_pos h1]
    cases hk : ks[i]? with
    | none =>
      have : (ks.zip ys)[i]? = none := List.getElem?_eq_none (by rw [List.length_zip]; have := List.getElem?_eq_none_iff.mp hk; omega)
      rw [this]; rfl
    | some k =>
      rw [List.getElem?_zip_eq_some (z := (k, ys[i])) |>.mpr ⟨hk, List.getElem?_eq_getElem h1⟩]; rfl
  · rw [if_neg h1, List.getElem?_eq_none (by rw [List.length_zip]; omega)]; rfl
theorem inr_nodup {ks : List Str} (h : ks.Nodup) : (ks.map (Sum.inr : Str → Key)).Nodup := by
  rw [List.nodup_iff_pairwise_ne, List.pairwise_map]
  exact (List.nodup_iff_pairwise_ne.mp h).imp fun h z => h (Sum.inr.inj z)
theorem merge_zkV {ks : List Str} {ys : List V} (nd : ks.Nodup) : mergeK [] (zkV ks ys) = zkV ks ys := by
  rw [merge_new' _ [] (fun p _ q hq => by simp at hq) ?_, List.nil_append]
  rw [zkV_keys]
  refine inr_nodup ?_
  exact (List.nodup_iff_pairwise_ne.mpr ((List.nodup_iff_pairwise_ne.mp nd).sublist (List.take_sublist _ _)))
section
variable {X : Cx} {e e2 o : Expr} {ta : TA} {p p2 q pos apos mpos : Pos} {td : TE}
/-- dict(zip(t, u)): t a tuple of different texts, u a tuple not shorter -/
def tDictZipT (K : PySem.W.Frag) (t : TA) : TE := fun σ H Q => t σ H fun vs H1 => ∃ (a b : Addr) (ks : List Str) (ys : List V), vs = [.ref a, .ref b] ∧ SqT K H1 a (ks.map V.str) ∧ SqT K H1 b ys ∧ ks.Nodup ∧ ks.length ≤ ys.length ∧ ks.length ≤ 1000 ∧
  ∀ d, H1 d = none → Q (.ref d) (upd H1 d (.dK (zkV ks ys)))
theorem pe_dictZipT (calm : X.calm = true) (hg : Gl X "dict") (hm : X.mg "dict" = none) (hg2 : Gl X "zip") (hm2 : X.mg "zip" = none) (ha : PA X [e, e2] ta)
    (hs : starEach [e, e2] X.env = (false, eval e X.env) :: starEach [e2] X.env := by rfl) (hpl : (backTo q (starEach [e2] X.env)).any (·.1) = false := by rfl)
    (hse : starEach [Expr.Call (.Name "zip" p2) [e, e2] [] q] X.env = [(false, eval (Expr.Call (.Name "zip" p2) [e, e2] [] q) X.env)] := by rfl) :
    PE X (.Call (.Name "dict" p) [.Call (.Name "zip" p2) [e, e2] [] q] [] pos) (tDictZipT X.K ta) := by
  refine ⟨fun pins s σ H Q I h => Call_ (ld_blt I hg hm boot_dict (PyProof.Rows.callWith_type1 (args_cons ?_ hse) hse))⟩
  refine Call_ (ld_blt I hg2 hm2 PyProof.Rows.boot_zip (PyProof.Rows.callWith_type1 (thn (ha.run q pins s σ H _ I h) fun us s1 ⟨vs, H1, I1, r1, a, b, ks, ys, ex, qa, qb, nd, le, l1000, k⟩ => ?_) hs hpl))
  subst ex
  obtain ⟨v1, v2, rfl, r1, r2⟩ := vals2 r1
  cases r1
  cases r2
  obtain ⟨as, ra, pa, _⟩ := I1.tuple qa
  obtain ⟨bs, rb, pb, _⟩ := I1.tuple qb
  obtain ⟨o1, ho1, _⟩ := id pa
  obtain ⟨o2, ho2, _⟩ := id pb
  have la : as.length = ks.length := by rw [← ra.length, List.length_map]
  have lb : bs.length = ys.length := rb.length.symm
  refine RZ.call_zipT (show s1.heap.IsTuple a as.toArray from pa) (show s1.heap.IsTuple b bs.toArray from pb) fun h' hz hTI hTO g1 g2 hsz hk => args_nil ?_
  have I2 : Inv X pins σ H1 { s1 with heap := h' } := I1.kept (t' := s1.toks) hk
  have ap := PySem.W.ktu_apart s1.heap.objs.size a b (Heap.lt_size ho1) (Heap.lt_size ho2)
  have mn : min as.toArray.size bs.toArray.size = ks.length := by rw [List.size_toArray, List.size_toArray, la, lb]; omega
  have P := zipT_arg (pr := X.prog) (w := X.w) (s1.heap.objs.size + 4) (s1.heap.objs.size + 2) (s1.heap.objs.size + 3) s1.heap.objs.size (s1.heap.objs.size + 1) a b ap as.toArray bs.toArray
  rw [mn] at P
  have lp : ((ks.zip bs).map fun p => ((Sum.inr p.1 : Key), p.2)).length = ks.length := by rw [List.length_map, List.length_zip, lb]; omega
  have rel : KV (zkV ks ys) ((ks.zip bs).map fun p => ((Sum.inr p.1 : Key), p.2)) := by
    clear lp mn
    have go : ∀ (ks : List Str) (ys : List V) (us : List Value), Vals ys us → KV (zkV ks ys) ((ks.zip us).map fun p => ((Sum.inr p.1 : Key), p.2)) := by
      intro ks
      induction ks with
      | nil => intro ys us _; exact .nil
      | cons z r ih =>
        intro ys us rv
        cases rv with
        | nil => exact .nil
        | cons a t => exact .cons ⟨rfl, a⟩ (ih _ _ t)
    exact go ks ys bs rb
  refine PySem.call_dict_pairs (knd := mixKind X.prog X.w) P (I.ok.hd calm) ⟨hz, hTI, ⟨_, _, hTO⟩, g1, g2, (show s1.heap.IsTuple a as.toArray from pa).at fun o e => hk _ o e, (show s1.heap.IsTuple b bs.toArray from pb).at fun o e => hk _ o e⟩ ⟨lp, fun i key v hr => ?_⟩ (Nat.le_trans l1000 (by decide)) fun h2 tk hd hk2 => ?_
  · obtain ⟨x1, x2⟩ := hr
    rw [List.getElem?_toArray] at x1 x2
    have hi : i < ks.length := by
      have := (List.getElem?_eq_some_iff.mp x1).1
      omega
    have gk : ks[i]? = some ks[i] := List.getElem?_eq_getElem hi
    obtain ⟨u, hu, ru⟩ := ra.get (i := i) (x := .str ks[i]) (by rw [List.getElem?_map, gk]; rfl)
    rw [x1] at hu
    cases hu
    exact ⟨.inr ks[i], by rw [List.getElem?_map, List.getElem?_zip_eq_some (z := (ks[i], v)) |>.mpr ⟨gk, x2⟩]; rfl, kV_is (k := .inr ks[i]) ru⟩
  · have hm : (h'.objs.size == sysModules) = false := beq_eq_false_iff_ne.mpr (Nat.ne_of_gt I2.big)
    have lz : (zkV ks ys).length ≤ sizeLine := by
      unfold zkV
      rw [List.length_map, List.length_zip]
      exact Nat.le_trans (Nat.min_le_left ..) (Nat.le_trans l1000 (by decide))
    have keep : ∀ c o, s1.heap.get? c = some o → h2.get? c = some o := fun c o e => by
      have lt := Heap.lt_size e
      refine hk2 c o (fun hw => ?_) (hk c o e)
      simp only [List.mem_cons, List.not_mem_nil, or_false] at hw
      refine absurd lt (Nat.not_lt.mpr ?_)
      rcases hw with z | z | z | z <;> rw [z] <;> first | exact Nat.le_refl _ | exact Nat.le_add_right _ _
    have rm := KV.merge rel (.nil : KV [] [])
    rw [merge_zkV nd] at rm
    exact ⟨.ref h'.objs.size, upd H1 h'.objs.size (.dK (zkV ks ys)), I1.laid (t' := tk) keep (by omega) (show ObjOk X.prog X.w _ _ _ (.dK _) from ⟨lz, hm, merged [] _, rm, hd⟩), rfl, k _ (I2.hok.fresh (Nat.le_refl _))⟩
/-- list(o.values()) -/
def tListVals (td : TE) : TE := fun σ H Q => td σ H fun x H1 => ∃ a kvs, x = V.ref a ∧ H1 a = some (.dK kvs) ∧ ∀ l, H1 l = none → Q (.ref l) (upd H1 l (.lst (kvs.map (·.2))))
theorem pe_listVals (calm : X.calm = true) (hg : Gl X "list") (hm : X.mg "list" = none) (hd : PE X o td) (hbase : attributeBase o "values" X.env (eval o X.env) = eval o X.env := by rfl) (hline : (apos.endLine == mpos.line) = true := by rfl)
    (hse : starEach [Expr.Call (.Attribute o "values" apos) [] [] mpos] X.env = [(false, eval (Expr.Call (.Attribute o "values" apos) [] [] mpos) X.env)] := by rfl) :
    PE X (.Call (.Name "list" p) [.Call (.Attribute o "values" apos) [] [] mpos] [] pos) (tListVals td) := by
  refine ⟨fun pins s σ H Q I h => Call_ (ld_blt I hg hm boot_list (PyProof.Rows.callWith_type1 (args_cons ?_ hse) hse))⟩
  refine wpAny_Call_method0_late hbase hline (thn (hd.run pins s σ H _ I h) fun v s1 ⟨x, H1, I1, r1, a, kvs, ex, ha, q⟩ => ?_)
  subst ex
  obtain rfl : v = Value.ref a := r1
  obtain ⟨hz, hsys, vs, rel, dof⟩ := dk_of I1.hok ha
  obtain ⟨ep, dat⟩ := dof.dictAt
  have dat' := dat
  obtain ⟨ob, es, ho, ex, hdat, hko, hpr, hnd⟩ := dat'
  refine ⟨"dict", "dict.values", F.plainAttrs_dict, F.slot_dict_values, F.type_dict_values, ⟨ob, ho, ex.1⟩, fun b e => by cases e; exact ⟨ob, ho, ex.2.1⟩, Calls.callWith_builtin rfl (PySem.evalArgs_none ?_)⟩
  refine call_meetsIn F.slot_dict_values ⟨ob, ho, ex.1⟩ F.entry_dict_values (F.args_dict_values_1 _) (meets_dict_values (mixKind X.prog X.w) a hsys) ⟨⟨vs, dof⟩, args_nil ?_⟩
  have k1 : ∀ b u, s1.heap.get? b = some u → (s1.heap.push { cls := .type "dict_values", data := .fields #[.ref a] }).get? b = some u := fun b u e => Heap.get?_push_of_some _ e
  have hl : kvs.length = vs.length := Paired.length rel
  refine PySem.W.kdl_call (s := { s1 with heap := s1.heap.push { cls := .type "dict_values", data := .fields #[.ref a] } }) (PySem.W.kdl_values (knd := mixKind X.prog X.w) (d := a) (r := s1.heap.objs.size) (kvs := vs) (ep := ep)) (I.ok.hd calm)
    ⟨⟨_, Heap.get?_push_size _ rfl, rfl, rfl⟩, dat.keep k1⟩ (by rw [← hl]; exact hz) fun h' tk acc c hk hL hacc => ?_
  have rv : Vals (kvs.map (·.2)) acc.toList := by
    have el : acc.toList.length = vs.length := by rw [Array.length_toList]; exact hacc.1
    refine vals_of_at (by rw [List.length_map, el]; exact hl) fun j x u hx hu => ?_
    rw [Array.getElem?_toList] at hu
    obtain ⟨k, hk2⟩ := hacc.2 j u hu
    obtain ⟨y, h1, h2⟩ := KV.at' rel hk2
    rw [List.getElem?_map, h1] at hx
    cases hx
    exact h2
  have ge : s1.heap.objs.size ≤ (s1.heap.push { cls := .type "dict_values", data := .fields #[.ref a] }).objs.size := by rw [Heap.size_push]; exact Nat.le_succ _
  exact ⟨.ref _, upd H1 (s1.heap.push { cls := .type "dict_values", data := .fields #[.ref a] }).objs.size (.lst (kvs.map (·.2))), I1.laid (t' := tk) (fun b u e => hk b u (k1 b u e)) ge
    (show ObjOk X.prog X.w _ _ _ (.lst (kvs.map (·.2))) from ⟨by rw [List.length_map]; exact hz, acc.toList, c, rv, by rw [Array.toArray_toList]; exact hL⟩), rfl, q _ (I1.hok.fresh ge)⟩
end
end My
namespace My
open PySem PySem.Spec PyProof.Rows L2
abbrev DBlock (J : It) (g : TG) (tt : TT) (tk tv : TE) (vs : List Nat) (σ : L2.St) (H1 : Hp) (D : Addr) (Qd : Hp → Prop) : Prop := ∃ W : Nat → Nat → Hp → Prop, (∃ m, W 0 m (upd H1 D (.dK []))) ∧ ∀ i m H, W i m H →
      (J.stop i H ∧ Qd H) ∨ (J.go i H ∧ ∃ Nx : Hp → Prop, (∀ H', Nx H' → ∃ m', m' < m ∧ W (i + 1) m' H') ∧ ∀ x H', J.yld i H x H' → g x (wipe σ vs) H' fun σ2 H2 => wipe σ2 vs = wipe σ vs ∧ tt σ2 H2 fun b H3 =>
        if b = true then tk σ2 H3 fun y H4 => tv σ2 H4 fun z H5 => ∃ kvs k, y = kV k ∧ H5 D = some (.dK kvs) ∧ kvs.length < sizeLine ∧ Nx (upd H5 D (.dK (putK kvs k z))) else Nx H3)
theorem zkV_snoc {ks : List Str} {ys : List V} {k : Str} {y : V} (l : ys.length = ks.length) : zkV (ks ++ [k]) (ys ++ [y]) = zkV ks ys ++ [(.inr k, y)] := by
  unfold zkV
  rw [List.zip_append l.symm, List.map_append]
  rfl
theorem zkV_length {ks : List Str} {ys : List V} (l : ys.length = ks.length) : (zkV ks ys).length = ks.length := by
  unfold zkV
  rw [List.length_map, List.length_zip, l, Nat.min_self]
theorem putK_zk {ks : List Str} {ys : List V} {k : Str} {y : V} (l : ys.length = ks.length) (h : k ∉ ks) : putK (zkV ks ys) (.inr k) y = zkV (ks ++ [k]) (ys ++ [y]) := by
  unfold putK
  have : ((zkV ks ys).any fun kv => decide (kv.1 = .inr k)) = false := by
    rw [List.any_eq_false]
    intro p hp
    have hm : p.1 ∈ (zkV ks ys).map (·.1) := List.mem_map.mpr ⟨p, hp, rfl⟩
    rw [zkV_keys, l, List.take_length] at hm
    obtain ⟨z, hz, e⟩ := List.mem_map.mp hm
    simp only [decide_eq_true_eq]
    intro q
    rw [q] at e
    exact h (by rw [← Sum.inr.inj e]; exact hz)
  rw [this, zkV_snoc l]
  rfl
def RKeepD {α : Type} (D : Addr) (R : α → V → Hp → Prop) : Prop := ∀ z v H H', R z v H → (∃ l, H D = some (.dK l)) → (∀ a u, H a = some u → a ≠ D → H' a = some u) → R z v H'
def DMade (R : Str → V → Hp → Prop) (zs : List Str) (H1 : Hp) (D : Addr) (i : Nat) (H : Hp) : Prop := Ext H1 H ∧ ∃ ys, H D = some (.dK (zkV (zs.take i) ys)) ∧ RelL R (zs.take i) ys H
section
variable {K : PySem.W.Frag} {a D : Addr} {zs : List Str} {tk tv : TE} {vs : List Nat} {σ : L2.St} {H1 : Hp} {j : Nat} {Qd : Hp → Prop}
theorem dmade_turn {R : Str → V → Hp → Prop} (rk : RKeepD D R) (re : RExt R) (nd : zs.Nodup) (hD : H1 D = none) (hz : zs.length ≤ 1000) (hk : ∀ (z : Str) H Q, Q (.str z) H → tk ((wipe σ vs).set j (some (.str z))) H Q)
    (he : ∀ (i : Nat) z H', zs[i]? = some z → Ext H1 H' → ∀ Q' : VK, (∀ v H'', Ext H' H'' → R z v H'' → Q' v H'') → tv ((wipe σ vs).set j (some (.str z))) H' Q') {i : Nat} {z : Str} {H : Hp} (hi : zs[i]? = some z) (p : DMade R zs H1 D i H) :
    tYes ((wipe σ vs).set j (some (.str z))) H fun b H3 => if b = true then tk ((wipe σ vs).set j (some (.str z))) H3 fun y H4 => tv ((wipe σ vs).set j (some (.str z))) H4 fun x H5 => ∃ kvs k, y = kV k ∧ H5 D = some (.dK kvs) ∧ kvs.length < sizeLine ∧ DMade R zs H1 D (i + 1) (upd H5 D (.dK (putK kvs k x))) else DMade R zs H1 D (i + 1) H3 := by
  obtain ⟨e, ys, hd, r⟩ := p
  unfold tYes
  dsimp only
  rw [if_pos rfl]
  refine hk z H _ ?_
  refine he i z H hi e _ fun v H'' e2 rv => ?_
  have l : ys.length = (zs.take i).length := r.1
  have lt := (List.getElem?_eq_some_iff.mp hi).1
  have nz : z ∉ zs.take i := fun m => by
    have pw := List.pairwise_iff_getElem.mp (List.nodup_iff_pairwise_ne.mp nd)
    obtain ⟨k, hk1, hk2⟩ := List.mem_iff_getElem.mp m
    rw [List.length_take] at hk1
    rw [List.getElem_take] at hk2
    have := (List.getElem?_eq_some_iff.mp hi).2
    exact pw k i (by omega) lt (by omega) (hk2.trans this.symm)
  refine ⟨_, .inr z, rfl, e2 _ _ hd, ?_, ?_⟩
  · rw [zkV_length l, List.length_take]
    exact len_lt (by omega)
  · refine ⟨ext_mut (e.trans e2) hD, ys ++ [v], ?_, ?_⟩
    · rw [upd_same, putK_zk l nz, take_next hi]
    · rw [take_next hi]
      exact ((r.mono fun z v _ q => re z v _ _ q e2).snoc rv).mono fun z v _ q => rk z v _ _ q ⟨_, e2 _ _ hd⟩ fun b u h ne => by rw [upd_ne ne]; exact h
theorem dcT (R : Str → V → Hp → Prop) (rk : RKeepD D R) (re : RExt R) (nd : zs.Nodup) (hx : SqT K H1 a (zs.map V.str)) (hD : H1 D = none) (hz : zs.length ≤ 1000) (hw : ∀ x, wipe ((wipe σ vs).set j (some x)) vs = wipe σ vs)
    (hk : ∀ (z : Str) H Q, Q (.str z) H → tk ((wipe σ vs).set j (some (.str z))) H Q)
    (he : ∀ (i : Nat) z H', zs[i]? = some z → Ext H1 H' → ∀ Q' : VK, (∀ v H'', Ext H' H'' → R z v H'' → Q' v H'') → tv ((wipe σ vs).set j (some (.str z))) H' Q')
    (hd : ∀ H' ys, Ext H1 H' → H' D = some (.dK (zkV zs ys)) → RelL R zs ys H' → Qd H') : DBlock (Itt K a) (gName j) tYes tk tv vs σ H1 D Qd := by
  refine dc_it (walk_tup (xs := zs.map V.str)) (DMade R zs H1 D) ⟨ext_new (ext_refl _) hD, [], upd_same, .nil⟩ (fun i H _ p => hx.ext p.1) (fun i x H H' hi p y => ?_) fun H ⟨e, ys, q, r⟩ => ?_
  · obtain ⟨rfl, hy⟩ := y
    rw [List.getElem?_map] at hy
    obtain ⟨z, hz', rfl⟩ := Option.map_eq_some_iff.mp hy
    exact ⟨hw _, dmade_turn rk re nd hD hz hk he hz' p⟩
  · rw [List.length_map, List.take_length] at q r
    exact hd H ys e q r
end
end My
namespace My
open PySem PySem.Spec PyProof.Rows L2
structure But (p : Addr) (op : HO) (H H' : Hp) : Prop where
  at_ : H p = some op
  keep : ∀ c u, H c = some u → c ≠ p → H' c = some u
theorem but_upd {H H' : Hp} {p : Addr} {op o : HO} (h : H p = some op) (g : upd H p o = H') : But p op H H' ∧ H' p = some o := by
  subst g
  exact ⟨⟨h, fun c u q ne => by rw [upd_ne ne]; exact q⟩, upd_same⟩
theorem ext_but {H0 H H' : Hp} {p : Addr} {op : HO} (b : But p op H H') (e : Ext H0 H) (n : H0 p = none) : Ext H0 H' := fun c u q => b.keep c u (e c u q) (ne_of_none q n)
theorem new_facts {H H1 : Hp} {p : Addr} {o : HO} (n : H p = none) (h : upd H p o = H1) : Ext H H1 ∧ H1 p = some o := by
  subst h
  exact ⟨ext_new (ext_refl _) n, upd_same⟩
def keyOf (fs : List (Str × V)) : Option Str := fs.head?.map Prod.fst
theorem ins_ne {A B dx dy : Addr} {fs gs : List (Str × V)} (n : keyOf fs ≠ keyOf gs) : HO.ins A dx fs ≠ HO.ins B dy gs := fun z => by
  injection z with _ _ q
  exact n (by rw [q])
theorem ins_neB {A B dx dy : Addr} {fs gs : List (Str × V)} (n : (!decide (keyOf fs = keyOf gs)) = true) : HO.ins A dx fs ≠ HO.ins B dy gs := ins_ne fun z => by
  rw [decide_eq_true z] at n
  cases n
theorem But.get {H H' : Hp} {p q : Addr} {op u : HO} (b : But p op H H') (h : H q = some u) (n : u ≠ op := by first | (intro z; cases z; done) | exact ins_ne (by decide) | exact ins_neB rfl) : H' q = some u :=
  b.keep q u h fun z => n (by rw [z, b.at_] at h; exact (Option.some.inj h).symm)
def farT : HO → Bool
  | .tup _ => false
  | .frz _ _ => false
  | _ => true
def farL : HO → Bool
  | .lst _ => false
  | .frz _ _ => false
  | _ => true
def farD : HO → Bool
  | .dK _ => false
  | .dT _ => false
  | .frz _ _ => false
  | _ => true
def farK (k : Str) : HO → Bool
  | .ins _ _ fs => !decide (keyOf fs = some k)
  | _ => true
theorem farK_not {k : Str} {A dx : Addr} {fs : List (Str × V)} (h : farK k (.ins A dx fs) = true) (e : keyOf fs = some k) : False := by
  have h' : (!decide (keyOf fs = some k)) = true := h
  rw [decide_eq_true e] at h'
  cases h'
theorem _root_.L2.SqT.but {K : PySem.W.Frag} {H H' : Hp} {a p : Addr} {op : HO} {xs : List V} (h : SqT K H a xs) (b : But p op H H') (n : farT op = true := by rfl) : SqT K H' a xs := by
  rcases h with (e | ⟨o, e⟩) | r
  · exact .inl (.inl (b.get e fun z => by rw [← z] at n; cases n))
  · exact .inl (.inr ⟨o, b.get e fun z => by rw [← z] at n; cases n⟩)
  · exact .inr r
theorem _root_.L2.SqL.but {K : PySem.W.Frag} {H H' : Hp} {a p : Addr} {op : HO} {xs : List V} (h : SqL K H a xs) (b : But p op H H') (n : farL op = true := by rfl) : SqL K H' a xs := by
  rcases h with (e | ⟨o, e⟩) | r
  · exact .inl (.inl (b.get e fun z => by rw [← z] at n; cases n))
  · exact .inl (.inr ⟨o, b.get e fun z => by rw [← z] at n; cases n⟩)
  · exact .inr r
theorem _root_.L2.DGet.but {H H' : Hp} {a p : Addr} {op : HO} {y : V} {r : Option V} (h : DGet H a y r) (b : But p op H H') (n : farD op = true := by rfl) (m : farT op = true := by rfl) : DGet H' a y r := by
  rcases h with ⟨kvs, k, h1, h2, h3⟩ | ⟨kvs, k, c, h1, h2, h3, h4⟩
  · refine .inl ⟨kvs, k, h1.elim (fun z => .inl (b.get z fun z => by rw [← z] at n; cases n)) fun ⟨o, z⟩ => .inr ⟨o, b.get z fun z => by rw [← z] at n; cases n⟩, h2, h3⟩
  · refine .inr ⟨kvs, k, c, h1.elim (fun z => .inl (b.get z fun z => ?_)) fun ⟨o, z⟩ => .inr ⟨o, b.get z fun z => by rw [← z] at n; cases n⟩, h2, b.get h3 (fun z => by rw [← z] at m; cases m), h4⟩
    rw [← z] at n; cases n
theorem NumAt.but {CN : Addr} {H H' : Hp} {a p : Addr} {op : HO} {n : Nm} (h : NumAt CN H a n) (b : But p op H H') (f : farK "_top" op = true := by rfl) : NumAt CN H' a n :=
  let ⟨dx, q⟩ := h
  ⟨dx, b.get q fun z => by rw [← z] at f; exact farK_not f rfl⟩
theorem AllNum.but {CN : Addr} {H H' : Hp} {p : Addr} {op : HO} {xs : List V} {ns : List Nm} (h : AllNum CN H xs ns) (b : But p op H H') (f : farK "_top" op = true := by rfl) : AllNum CN H' xs ns :=
  ⟨h.1, fun i x hi => let ⟨a, n, e1, e2, q⟩ := h.2 i x hi; ⟨a, n, e1, e2, q.but b f⟩⟩
theorem OrdAt.but {K : PySem.W.Frag} {C : Addr} {H H' : Hp} {o p : Addr} {op : HO} {zs ys : List Str} (h : OrdAt K C H o zs ys) (b : But p op H H') (n : farT op = true := by rfl) (f : farK "_above" op = true := by rfl) : OrdAt K C H' o zs ys :=
  let ⟨dx, x, y, c, h1, h2, h3, h4, h5⟩ := h
  ⟨dx, x, y, c, b.get h1 (fun z => by rw [← z] at f; exact farK_not f rfl), h2.but b n, h3.but b n, h4.but b n, h5⟩
end My
namespace My
open PySem PySem.Spec PyProof.Rows L2
local macro_rules | `(tactic| walk_at "side") => `(tactic| first | assumption | decide | exact Or.inl ⟨by decide, by decide⟩ | exact Or.inr ⟨by decide, by decide⟩ | exact ⟨by decide, by decide, by decide⟩ | omega | (unfold CMulW; decide +kernel) | (dsimp only; first | assumption | omega | decide +kernel) | exact len_ok (Nat.le_of_ble_eq_true rfl) | fail "side")
local macro_rules | `(tactic| walk_at "rd") => `(tactic| first
  | refine ⟨_, _, _, _, rfl, rfl, SqL.of upd_same, atI_nat (j := 0) rfl, ?_⟩ | refine ⟨_, _, _, _, rfl, rfl, SqL.of upd_same, atI_nat (j := 1) rfl, ?_⟩ | refine ⟨_, _, _, _, rfl, rfl, SqL.of upd_same, atI_nat (j := 2) rfl, ?_⟩
  | refine ⟨_, _, _, _, rfl, rfl, upd_same, rfl, ?_⟩
  | refine ⟨_, _, rfl, rfl, ?_⟩ | refine ⟨_, rfl, ?_⟩ | refine ⟨_, _, rfl, ?_⟩ | refine Or.inl ⟨_, rfl, ?_⟩ | refine Or.inr ⟨_, rfl, ?_⟩ | refine ⟨(by walk_at "side"), ?_⟩ | fail "rd")
abbrev s_arenums : Stmt := top 47
theorem sc_arenums : FnScope ["names", "value", "name", "numbers", "number"] ["names", "value"] (defScope s_arenums) := ⟨rfl, rfl, rfl, by decide +kernel, rfl, by decide +kernel, by decide +kernel⟩
abbrev s_arelens : Stmt := top 48
theorem sc_arelens : FnScope ["names", "value", "name"] ["names", "value"] (defScope s_arelens) := ⟨rfl, rfl, rfl, by decide +kernel, rfl, by decide +kernel, by decide +kernel⟩
theorem _root_.L2.DGet.ext {H H' : Hp} {a : Addr} {y : V} {r : Option V} (h : DGet H a y r) (e : Ext H H') : DGet H' a y r := by
  rcases h with ⟨kvs, k, h1, h2, h3⟩ | ⟨kvs, k, b, h1, h2, h3, h4⟩
  · exact .inl ⟨kvs, k, h1.elim (fun z => .inl (e _ _ z)) fun ⟨o, z⟩ => .inr ⟨o, e _ _ z⟩, h2, h3⟩
  · exact .inr ⟨kvs, k, b, h1.elim (fun z => .inl (e _ _ z)) fun ⟨o, z⟩ => .inr ⟨o, e _ _ z⟩, h2, e _ _ h3, h4⟩
theorem mkN_useR {CN : Addr} {H : Hp} {E : XK} {R : Addr → Hp → Prop} {args : Addr → List V} {t p r b : Int} (ha : ∀ x, args x = [.ref x, .int t, .int p, .int r, .int b]) (hv : NV t p r b) (k : ∀ x H', Ext H H' → NumAt CN H' x (lst t p r b) → R x H') :
    ∀ x dx, H x = none → H dx = none → dx ≠ x → spInit CN (args x) (upd (upd H dx (.own x)) x (.ins CN dx [])) (fun v H3 => v = .non ∧ R x H3) E :=
  fun x dx hx hdx hne => ⟨x, dx, t, p, r, b, ha x, upd_same, hv, fun H' keep hn => ⟨rfl, k x H' (fun a o e => keep a o (by rw [upd_ne (ne_of_none e hx), upd_ne (ne_of_none e hdx)]; exact e) (ne_of_none e hx)) ⟨dx, hn⟩⟩⟩
theorem mkO_useR {K : PySem.W.Frag} {C a b : Addr} {zs ys : List Str} {H : Hp} {R : Addr → Hp → Prop} {E : XK} {args : Addr → List V} (hargs : ∀ x, args x = [.ref x, .ref a, .ref b]) (ha : SqT K H a (zs.map V.str)) (hb : SqT K H b (ys.map V.str)) (ro : RowsOk zs ys) (k : ∀ x H', Ext H H' → OrdAt K C H' x zs ys → R x H') :
    ∀ x dx, H x = none → H dx = none → dx ≠ x → spOInit K C (args x) (upd (upd H dx (.own x)) x (.ins C dx [])) (fun v H2 => v = .non ∧ R x H2) E := fun x dx hx hd ne => by
  have e1 : Ext H (upd (upd H dx (.own x)) x (.ins C dx [])) := ext_mut (ext_new (ext_refl H) hd) hx
  exact ⟨x, dx, a, b, zs, ys, hargs x, upd_same, ha.ext e1, hb.ext e1, ro, fun H' kp oa => ⟨rfl, k x H' (fun c o q => kp c o (e1 c o q) (ne_of_none q hx)) oa.at⟩⟩
theorem nv1 {t : Int} : NV t 0 0 1 := ⟨rfl, by show (1 : Int).natAbs < 2 ^ 9000; decide +kernel⟩
/-- a dict from names to numbers -/
structure NumD (CN : Addr) (H : Hp) (d : Addr) (ks : List Str) (f : Str → Nm) : Prop where
  ex : ∃ vs, H d = some (.dK (zkV ks vs)) ∧ AllNum CN H vs (ks.map f)
  nd : ks.Nodup
theorem NumD.ext {CN : Addr} {H H' : Hp} {d : Addr} {ks : List Str} {f : Str → Nm} (h : NumD CN H d ks f) (e : Ext H H') : NumD CN H' d ks f :=
  ⟨let ⟨vs, a, b⟩ := h.ex; ⟨vs, e _ _ a, b.ext e⟩, h.nd⟩
theorem NumD.but {CN : Addr} {H H' : Hp} {d p : Addr} {op : HO} {ks : List Str} {f : Str → Nm} (h : NumD CN H d ks f) (b : But p op H H') (n : farD op = true := by rfl) (g : farK "_top" op = true := by rfl) : NumD CN H' d ks f :=
  ⟨let ⟨vs, x, y⟩ := h.ex; ⟨vs, b.get x (fun z => by rw [← z] at n; cases n), y.but b g⟩, h.nd⟩
theorem valV_zk : ∀ (ks : List Str) (vs : List V) (k : Str), k ∈ ks → ks.length ≤ vs.length → valV (zkV ks vs) (.inr k) = vs[pos ks k]?
  | [], _, _, m, _ => by simp at m
  | z :: ks, [], _, _, l => by simp at l
  | z :: ks, v :: vs, k, m, l => by
    unfold zkV
    rw [List.zip_cons_cons, List.map_cons]
    by_cases e : z = k
    · rw [valV_pos (by rw [e])]
      unfold pos
      rw [List.findIdx_cons, decide_eq_true e]
      rfl
    · rw [valV_neg (fun q => e (Sum.inr.inj q))]
      have m' : k ∈ ks := (List.mem_cons.mp m).resolve_left fun q => e q.symm
      have := valV_zk ks vs k m' (by simpa using l)
      unfold zkV at this
      rw [this]
      unfold pos
      rw [List.findIdx_cons, decide_eq_false e]
      rfl
theorem NumD.get {CN : Addr} {H : Hp} {d : Addr} {ks : List Str} {f : Str → Nm} {k : Str} (h : NumD CN H d ks f) (m : k ∈ ks) : ∃ p, DGet H d (.str k) (some (.ref p)) ∧ NumAt CN H p (f k) := by
  obtain ⟨vs, hd, al⟩ := h.ex
  have l : vs.length = ks.length := by rw [al.1, List.length_map]
  have lt := pos_lt m
  have hv : vs[pos ks k]? = some vs[pos ks k] := List.getElem?_eq_getElem (by omega)
  obtain ⟨a, n, e1, e2, hn⟩ := al.2 _ _ hv
  rw [List.getElem?_map, pos_get m] at e2
  cases e2
  refine ⟨a, ?_, hn⟩
  have := DGet.k (k := .inr k) hd
  rw [valV_zk _ _ _ m (by omega), hv, e1] at this
  exact this
abbrev NumR (CN : Addr) (f : Str → Nm) : Str → V → Hp → Prop := fun z v H => ∃ p, v = V.ref p ∧ NumAt CN H p (f z)
theorem num_keep {CN D : Addr} (f : Str → Nm) : RKeep D (NumR CN f) := fun z v H H' ⟨p, e, dx, q⟩ ⟨l, hl⟩ k => ⟨p, e, dx, k _ _ q fun c => by rw [c, hl] at q; cases q⟩
theorem num_ext {CN : Addr} (f : Str → Nm) : RExt (NumR CN f) := fun z v H H' ⟨p, e, q⟩ x => ⟨p, e, q.ext x⟩
theorem all_of_rel {CN : Addr} {H : Hp} {zs : List Str} {xs : List V} {f : Str → Nm} (h : RelL (NumR CN f) zs xs H) : AllNum CN H xs (zs.map f) :=
  ⟨by rw [h.1, List.length_map], fun i x hx => by
    have lt : i < zs.length := by rw [← h.1]; exact (List.getElem?_eq_some_iff.mp hx).1
    obtain ⟨p, e, q⟩ := h.2 i zs[i] x (List.getElem?_eq_getElem lt) hx
    exact ⟨p, f zs[i], e, by rw [List.getElem?_map, List.getElem?_eq_getElem lt]; rfl, q⟩⟩
theorem fold_one {R : Int} : ∀ (l acc : List Int), (∀ x ∈ l, x = R) → (acc = [] ∨ acc = [R]) → l.foldl PyProof.Rows.step_dedup acc = [] ∨ l.foldl PyProof.Rows.step_dedup acc = [R]
  | [], acc, _, h => h
  | x :: l, acc, hx, h => by
    rw [List.foldl_cons, step_mem]
    have e := hx x List.mem_cons_self
    subst e
    refine fold_one l _ (fun y hy => hx y (List.mem_cons_of_mem _ hy)) ?_
    rcases h with h | h
    · rw [h]; exact .inr (by simp)
    · rw [h]; exact .inr (by simp)
theorem difs_one {zs : List Str} {f : Str → Nm} {R : Int} (h : ∀ z ∈ zs, (f z).r = 0 ∨ (f z).r = R) : ((difs (nz ((zs.map f).map Nm.r)) : Nat) : Int) ≤ 1 := by
  have a : ∀ x ∈ nz ((zs.map f).map Nm.r), x = R := fun x hx => by
    unfold nz at hx
    obtain ⟨h1, h2⟩ := List.mem_filter.mp hx
    rw [List.map_map] at h1
    obtain ⟨z, hz, rfl⟩ := List.mem_map.mp h1
    rcases h z hz with q | q
    · simp [q] at h2
    · exact q
  unfold difs
  rcases fold_one _ [] a (.inl rfl) with q | q
  · rw [q]; decide
  · rw [q]; exact Int.le_refl 1
def spAreNums (K : PySem.W.Frag) (CN : Addr) : Sp := fun vs H Q _ => ∃ (a d : Addr) (zs ks : List Str) (f : Str → Nm) (R : Int), vs = [.ref a, .ref d] ∧ SqT K H a (zs.map V.str) ∧ NumD CN H d ks f ∧ ks.Perm zs ∧ zs.length ≤ 1000 ∧ (∀ z ∈ zs, (f z).r = 0 ∨ (f z).r = R) ∧ ∀ H', Ext H H' → Q (.bl true) H'
section
variable {P : Program} {w : World} {K : PySem.W.Frag} {mg : Str → Option Value} {base : Heap} {C CN CX : Addr}
theorem ok_arenums (T : Bn mg) (D : DefAt K mg "are_numbers" s_arenums) (NC : NumT K mg CN) (NI : NumI K CN) (F_have_one_root : FnAt P w K mg base 3 "have_one_root" ["numbers"] (spHor CN)) : FnAt P w K mg base 4 "are_numbers" ["names", "value"] (spAreNums K CN) := by
  refine fnAt D sc_arenums (fun _ _ _ _ _ _ us hl => match us, hl with | [_, _], _ => rfl) (fun vs H Q E h => ?_) fun f cdv A outer s H vs Q E hr h => ?_
  · obtain ⟨a, d, zs, ks, f, R, rfl, _⟩ := h
    rfl
  obtain ⟨a, d, zs, ks, f, R, rfl, ha, hd, pm, le, rt, k⟩ := h
  obtain ⟨vs, hv, al⟩ := id hd.ex
  refine ⟨_, (pss_cons (ps_if (PW.pt (pw_or (pt_not (pt_val (pe_callB call_isi (by rfl) T.b_isinstance (by decide +kernel) (pa_cons (pv 1) (pa_cons (pe_bltn (v := .ty "dict") (by rfl) T.b_dict (by decide +kernel) rfl) pa_nil))))) (pw_or (pt_cmpR op_ne (pe_callB call_lenD (by rfl) T.b_len (by decide +kernel) (pa_cons (pv 1) pa_nil)) (pe_callB call_len_seq (by rfl) T.b_len (by decide +kernel) (pa_cons (pv 0) pa_nil)) (nomark _)) (pw_or1 (pt_not (pt_val (pe_callB (cr_all rfl) (by rfl) T.b_all (by decide +kernel) (pa_cons (pe_lc (own := [("name", 2)]) (g := gName 2) (tt := tYes) rfl sc_arenums.nd (pi_tup (pv 0)) (blkOk_by (N := ["names", "value", "name", "numbers", "number"]) (sc := defScope s_arenums) (by decide +kernel)) (fun _ _ _ _ _ => pg_name (i := 2) sc_arenums.nd rfl (Or.inl rfl)) (fun _ _ _ _ _ => pts_nil) (fun _ _ _ _ _ => (pe_cmp (pc_din (hu1 hr) (pv 2) (pv 1)) rfl))) pa_nil)))))))) (pss_one (ps_ret pe_bl)) pss_nil)
    (pss_cons (ps_set (i := 3) sc_arenums.nd rfl (Or.inl rfl) (pe_callTy call_tuple_of (by rfl) T.b_tuple (by decide +kernel) (pa_cons (pe_lc (own := [("name", 2)]) (g := gName 2) (tt := tYes) rfl sc_arenums.nd (pi_tup (pv 0)) (blkOk_by (N := ["names", "value", "name", "numbers", "number"]) (sc := defScope s_arenums) (by decide +kernel)) (fun _ _ _ _ _ => pg_name (i := 2) sc_arenums.nd rfl (Or.inl rfl)) (fun _ _ _ _ _ => pts_nil) (fun _ _ _ _ _ => (pe_dget (hu1 hr) (pv 1) (pv 2) (fun _ _ => rfl)))) pa_nil)))
    (pss_one (ps_ret (pe_and (pe_callB (cr_all rfl) (by rfl) T.b_all (by decide +kernel) (pa_cons (pe_lc (own := [("number", 4)]) (g := gName 4) (tt := tYes) rfl sc_arenums.nd (pi_tup (pv 3)) (blkOk_by (N := ["names", "value", "name", "numbers", "number"]) (sc := defScope s_arenums) (by decide +kernel)) (fun _ _ _ _ _ => pg_name (i := 4) sc_arenums.nd rfl (Or.inl rfl)) (fun _ _ _ _ _ => pts_nil) (fun _ _ _ _ _ => (pe_callB (show CallR _ (.builtin "isinstance") (rIsi K) from call_isi) (by rfl) T.b_isinstance (by decide +kernel) (pa_cons (pv 4) (pa_cons (pe_glob (v := .ref CN) rfl NC.g rfl) pa_nil))))) pa_nil)) (pe_one (callA F_have_one_root (hr.mono (by decide)) rfl (pa_cons (pv 3) pa_nil)))))))), ?_⟩
  have ty : TyX K H (.ref d) (.type "dict") := .base (.dK hv)
  have lv : (zkV ks vs).length = zs.length := by rw [zkV_len (by rw [al.1, List.length_map]), pm.length_eq]
  refine ⟨_, rfl, _, _, _, _, _, rfl, (ClsV.ty _), ty, rfl, _, rfl, iteF ?_⟩
  refine ⟨_, rfl, _, _, rfl, hv, _, rfl, _, _, rfl, (.inr ha), rfl, _, rfl, ?_⟩
  refine iteNS (congrArg V.int (by rw [lv, List.length_map])) ?_
  refine ⟨_, rfl, _, rfl, ⟨_, ha⟩, fun p1 n1 => ?_⟩
  refine mapTb V.str (fun _ => true) ha n1 (by omega) (fun _ => rfl) (fun i z H2 hz e2 Q' k' => ?_) fun H2 e2 hl2 => ?_
  · have hd2 := hd.ext e2
    obtain ⟨p, gp, np⟩ := hd2.get (pm.mem_iff.mpr (List.mem_of_getElem? hz))
    obtain ⟨dx3, d3⟩ := id np
    refine ⟨_, rfl, _, rfl, _, _, rfl, gp, (k' _ (ext_refl _))⟩
  refine ⟨_, _, rfl, (SqL.of hl2), _, rfl, ?_⟩
  rw [all_tt']
  refine iteF ?_
  refine ⟨_, rfl, _, rfl, ⟨_, (ha.ext e2)⟩, fun p3 n3 => ?_⟩
  refine madeT V.str (NumR CN f) ?_ ?_ (ha.ext e2) n3 (by omega) (fun _ => rfl) (fun i z H4 hz e4 Q' k' => ?_) fun H4 xs e4 hl4 rl => ?_
  · exact num_keep f
  · exact num_ext f
  · have hd2 := hd.ext (e2.trans e4)
    obtain ⟨p, gp, np⟩ := hd2.get (pm.mem_iff.mpr (List.mem_of_getElem? hz))
    obtain ⟨dx5, d5⟩ := id np
    refine ⟨_, rfl, _, rfl, _, _, rfl, gp, (k' _ _ (ext_refl _) ⟨_, ⟨rfl, np⟩⟩)⟩
  refine ⟨_, _, rfl, .inl ⟨(SqL.of hl4), fun p5 n5 => ?_⟩⟩
  generalize hg6 : upd _ p5 _ = H6
  obtain ⟨e6, h6⟩ := new_facts n5 hg6
  clear hg6
  refine ⟨_, rfl, _, rfl, ⟨_, (SqT.of h6)⟩, fun p7 n7 => ?_⟩
  have rl6 : RelL (NumR CN f) zs xs H6 := rl.mono fun z v _ r => num_ext f z v _ _ r e6
  refine mapRTb (fun _ => true) (SqT.of h6) rl6 n7 (by omega) (fun _ => rfl) (fun i z v H8 hz r e8 Q' k' => ?_) fun H8 e8 hl8 => ?_
  · obtain ⟨p, rfl, np⟩ := r
    have ty : TyX K H8 (.ref p) (.ref CN) := (np.ext e8).ty NC.cl NI
    have kn := NI.kNum
    obtain ⟨dx9, d9⟩ := id np
    refine ⟨_, rfl, _, _, _, _, _, rfl, (ClsV.own _), ty, kn, (k' _ (ext_refl _))⟩
  have al8 := all_of_rel (show RelL (NumR CN f) zs xs H8 from rl6.mono fun z v _ r => num_ext f z v _ _ r e8)
  have dl := difs_one rt
  have kk : ∀ H', Ext H H' → Q (.bl (decide ((difs (nz ((zs.map f).map Nm.r)) : Int) ≤ 1))) H' := fun H' e => by
    rw [decide_eq_true dl]
    exact k H' e
  have lx : xs.length ≤ 1000 := by rw [rl.1]; exact le
  refine ⟨_, _, rfl, (SqL.of hl8), _, rfl, ?_⟩
  rw [all_tt']
  refine iteT ?_
  refine ⟨_, rfl, _, _, _, rfl, (e8 _ _ h6), al8, lx, fun H9 e9 => ?_⟩
  refine (kk _ ((((e2.trans e4).trans e6).trans e8).trans e9))
end
end My
namespace My
open PySem PySem.Spec PyProof.Rows L2
local macro_rules | `(tactic| walk_at "side") => `(tactic| first | assumption | decide | exact Or.inl ⟨by decide, by decide⟩ | exact Or.inr ⟨by decide, by decide⟩ | exact ⟨by decide, by decide, by decide⟩ | omega | (unfold CMulW; decide +kernel) | (dsimp only; first | assumption | omega | decide +kernel) | exact len_ok (Nat.le_of_ble_eq_true rfl) | fail "side")
local macro_rules | `(tactic| walk_at "rd") => `(tactic| first
  | refine ⟨_, _, _, _, rfl, rfl, SqL.of upd_same, atI_nat (j := 0) rfl, ?_⟩ | refine ⟨_, _, _, _, rfl, rfl, SqL.of upd_same, atI_nat (j := 1) rfl, ?_⟩ | refine ⟨_, _, _, _, rfl, rfl, SqL.of upd_same, atI_nat (j := 2) rfl, ?_⟩
  | refine ⟨_, _, _, _, rfl, rfl, upd_same, rfl, ?_⟩
  | refine ⟨_, _, rfl, rfl, ?_⟩ | refine ⟨_, rfl, ?_⟩ | refine ⟨_, _, rfl, ?_⟩ | refine Or.inl ⟨_, rfl, ?_⟩ | refine Or.inr ⟨_, rfl, ?_⟩ | refine ⟨(by walk_at "side"), ?_⟩ | fail "rd")
abbrev s_sums : Stmt := top 54
theorem sc_sums : FnScope ["names", "lengths", "sums", "name"] ["names", "lengths"] (defScope s_sums) := ⟨rfl, rfl, rfl, by decide +kernel, rfl, by decide +kernel, by decide +kernel⟩
/-- within the bounds that all numbers of an exchange keep -/
structure Fit (R : Int) (n : Nm) : Prop where
  good : Good 900 n
  rt : n.r = 0 ∨ n.r = R
theorem Fit.one {R : Int} {n m : Nm} (h : Fit R n) (g : Fit R m) : OneRoot n m := by
  rcases h.rt with a | a
  · exact .inl a
  · rcases g.rt with b | b
    · exact .inr (.inl b)
    · exact .inr (.inr (by rw [a, b]))
def spAreLens (K : PySem.W.Frag) (CN : Addr) : Sp := fun vs H Q _ => ∃ (a d : Addr) (zs ks : List Str) (f : Str → Nm) (R : Int), vs = [.ref a, .ref d] ∧ SqT K H a (zs.map V.str) ∧ NumD CN H d ks f ∧ ks.Perm zs ∧ zs.length ≤ 1000 ∧ (∀ z ∈ zs, Fit R (f z) ∧ 0 < sgn (f z).t (f z).p (f z).r) ∧ ∀ H', Ext H H' → Q (.bl true) H'
/-- the sums of the first 0, 1, 2 .. of some numbers -/
def zN : Nm := ⟨0, 0, 0, 1⟩
def sumN (ns : List Nm) : Nm := ns.foldl addN zN
def sumsN (ns : List Nm) : List Nm := (List.range (ns.length + 1)).map fun i => sumN (ns.take i)
theorem sumsN_len (ns : List Nm) : (sumsN ns).length = ns.length + 1 := by unfold sumsN; rw [List.length_map, List.length_range]
theorem sumsN_take {ns : List Nm} {i : Nat} (h : i ≤ ns.length) : (sumsN ns).take (i + 1) = (sumsN ns).take i ++ [sumN (ns.take i)] := by
  refine take_next ?_
  unfold sumsN
  rw [List.getElem?_map, List.getElem?_range (by omega)]
  rfl
theorem sumN_snoc (ns : List Nm) (n : Nm) : sumN (ns ++ [n]) = addN (sumN ns) n := by unfold sumN; rw [List.foldl_append]; rfl
/-- all sums of the first ones are within the bounds -/
def SumsFit (R : Int) (ns : List Nm) : Prop := ∀ i, i ≤ ns.length → Fit R (sumN (ns.take i))
abbrev NumV (CN : Addr) : Nm → V → Hp → Prop := fun n v H => ∃ p, v = V.ref p ∧ NumAt CN H p n
theorem numv_keep {CN D : Addr} : RKeep D (NumV CN) := fun z v H H' ⟨p, e, dx, q⟩ ⟨l, hl⟩ k => ⟨p, e, dx, k _ _ q fun c => by rw [c, hl] at q; cases q⟩
theorem numv_ext {CN : Addr} : RExt (NumV CN) := fun z v H H' ⟨p, e, q⟩ x => ⟨p, e, q.ext x⟩
theorem last_num {CN : Addr} {H : Hp} {ns : List Nm} {xs : List V} {i : Nat} (h : i ≤ ns.length) (r : RelL (NumV CN) ((sumsN ns).take (i + 1)) xs H) : ∃ q, atI xs (-1) = some (V.ref q) ∧ NumAt CN H q (sumN (ns.take i)) := by
  have hl : xs.length = i + 1 := by rw [r.1, List.length_take, sumsN_len]; omega
  have hx : xs[i]? = some xs[i] := List.getElem?_eq_getElem (by omega)
  have hs : ((sumsN ns).take (i + 1))[i]? = some (sumN (ns.take i)) := by
    rw [sumsN_take h, List.getElem?_append_right (by rw [List.length_take, sumsN_len]; omega)]
    have : i - ((sumsN ns).take i).length = 0 := by rw [List.length_take, sumsN_len]; omega
    rw [this]
    rfl
  obtain ⟨q, e, n⟩ := r.2 i _ _ hs hx
  refine ⟨q, ?_, n⟩
  refine atI_end ?_
  rw [show xs.length - 1 = i by omega, hx, e]
theorem RelL.ext {CN : Addr} {l : List Nm} {xs : List V} {H H' : Hp} (h : RelL (NumV CN) l xs H) (e : Ext H H') : RelL (NumV CN) l xs H' := h.mono fun _ _ _ r => numv_ext _ _ _ _ r e
theorem RelL.but {CN : Addr} {l : List Nm} {xs : List V} {H H' : Hp} {p : Addr} {op : HO} (h : RelL (NumV CN) l xs H) (b : But p op H H') (g : farK "_top" op = true := by rfl) : RelL (NumV CN) l xs H' := h.mono fun _ _ _ ⟨q, e, r⟩ => ⟨q, e, r.but b g⟩
theorem numv_app {CN p q : Addr} {l : List Nm} {xs ys : List V} {n : Nm} {H H' : Hp} {o : HO} (h : RelL (NumV CN) l xs H) (e : Ext H H') (hn : NumAt CN H' p n) (hq : H' q = some (.lst ys)) : RelL (NumV CN) (l ++ [n]) (xs ++ [.ref p]) (upd H' q o) :=
  ((h.ext e).snoc ⟨p, rfl, hn⟩).mono fun _ _ _ r => numv_keep _ _ _ _ r ⟨_, hq⟩ fun a u z ne => by rw [upd_ne ne]; exact z
def spSums (K : PySem.W.Frag) (CN : Addr) : Sp := fun vs H Q _ => ∃ (a d : Addr) (zs ks : List Str) (f : Str → Nm) (R : Int), vs = [.ref a, .ref d] ∧ SqT K H a (zs.map V.str) ∧ NumD CN H d ks f ∧ ks.Perm zs ∧ zs.length ≤ 1000 ∧ (∀ z ∈ zs, Fit R (f z)) ∧ SumsFit R (zs.map f) ∧
  ∀ p xs H', Ext H H' → H' p = some (.tup xs) → RelL (NumV CN) (sumsN (zs.map f)) xs H' → Q (.ref p) H'
section
variable {P : Program} {w : World} {K : PySem.W.Frag} {mg : Str → Option Value} {base : Heap} {C CN CX : Addr}
theorem ok_arelens (T : Bn mg) (D : DefAt K mg "are_lengths" s_arelens) (NC : NumT K mg CN) (F_are_numbers : FnAt P w K mg base 4 "are_numbers" ["names", "value"] (spAreNums K CN)) (F_sign : PropAt P w K mg base 3 CN "sign" (spPropE CN 5000 fun n => .int (sgn n.t n.p n.r))) : FnAt P w K mg base 5 "are_lengths" ["names", "value"] (spAreLens K CN) := by
  refine fnAt D sc_arelens (fun _ _ _ _ _ _ us hl => match us, hl with | [_, _], _ => rfl) (fun vs H Q E h => ?_) fun f cdv A outer s H vs Q E hr h => ?_
  · obtain ⟨a, d, zs, ks, f, R, rfl, _⟩ := h
    rfl
  obtain ⟨a, d, zs, ks, f, R, rfl, ha, hd, pm, le, rt, k⟩ := h
  have rt0 : ∀ z ∈ zs, (f z).r = 0 ∨ (f z).r = R := fun z hz => (rt z hz).1.rt
  refine ⟨_, (pss_one (ps_ret (pe_and (callA F_are_numbers (hr.mono (by decide)) rfl (pa_cons (pv 0) (pa_cons (pv 1) pa_nil))) (pe_one (pe_callB (cr_all rfl) (by rfl) T.b_all (by decide +kernel) (pa_cons (pe_lc (own := [("name", 2)]) (g := gName 2) (tt := tYes) rfl sc_arelens.nd (pi_tup (pv 0)) (blkOk_by (N := ["names", "value", "name"]) (sc := defScope s_arelens) (by decide +kernel)) (fun _ _ _ _ _ => pg_name (i := 2) sc_arelens.nd rfl (Or.inl rfl)) (fun _ _ _ _ _ => pts_nil) (fun _ _ _ _ _ => (pe_cmpR op_gt (show PE _ _ (tProp CN (spPropE CN 5000 fun n => .int (sgn n.t n.p n.r)) [] E0 (tDGet (tVar 1) (tVar 2))) from propA F_sign NC.cl (hr.mono (by decide)) (pe_dget (hu1 hr) (pv 1) (pv 2) (fun _ _ => rfl))) pe_int (nomark _)))) pa_nil)))))), ?_⟩
  refine ⟨_, rfl, _, rfl, _, _, _, _, _, _, rfl, ha, hd, pm, le, rt0, fun H1 e1 => ?_⟩
  refine ⟨_, rfl, iteT ?_⟩
  refine ⟨_, rfl, _, rfl, ⟨_, (ha.ext e1)⟩, fun p2 n2 => ?_⟩
  refine mapTb V.str (fun _ => true) (ha.ext e1) n2 (by omega) (fun _ => rfl) (fun i z H2 hz e2 Q' k' => ?_) fun H2 e2 hl2 => ?_
  · have hd2 := hd.ext (e1.trans e2)
    obtain ⟨p, gp, np⟩ := hd2.get (pm.mem_iff.mpr (List.mem_of_getElem? hz))
    have gd : Good 5000 (f z) := (rt z (List.mem_of_getElem? hz)).1.good.mono (by decide)
    have ps := (rt z (List.mem_of_getElem? hz)).2
    have k2 : ∀ H'', Ext H2 H'' → Q' (.bl (decide (0 < sgn (f z).t (f z).p (f z).r))) H'' := fun H'' e => by
      rw [decide_eq_true ps]
      exact k' H'' e
    obtain ⟨dx3, d3⟩ := id np
    refine ⟨_, rfl, _, rfl, _, _, rfl, gp, _, _, _, rfl, d3, _, _, rfl, np, gd, fun H4 e4 => ?_⟩
    refine ⟨_, _, rfl, rfl, (k2 _ e4)⟩
  rw [← all_tt' (zs := zs)] at k
  refine ⟨_, _, rfl, (SqL.of hl2), (k _ (e1.trans e2))⟩
theorem ok_sums (T : Bn mg) (D : DefAt K mg "_sums" s_sums) (NC : NumT K mg CN) (FN_init : InitAt P w K mg base 3 CN (spInit CN)) (O_add : OpAt P w K mg base 7 CN .Add (spBin CN addN)) : FnAt P w K mg base 8 "_sums" ["names", "lengths"] (spSums K CN) := by
  refine fnAt D sc_sums (fun _ _ _ _ _ _ us hl => match us, hl with | [_, _], _ => rfl) (fun vs H Q E h => ?_) fun f cdv A outer s H vs Q E hr h => ?_
  · obtain ⟨a, d, zs, ks, f, R, rfl, _⟩ := h
    rfl
  obtain ⟨a, d, zs, ks, f, R, rfl, ha, hd, pm, le, rt, sf, k⟩ := h
  refine ⟨_, (pss_cons (ps_set (i := 2) sc_sums.nd rfl (Or.inl rfl) (pe_lst (pa_cons (mk1A FN_init NC.g (hr.mono (by decide)) rfl (pa_cons pe_int pa_nil)) pa_nil)))
    (pss_cons (ps_for PassesOwn.never rfl (pi_tup (pv 0)) (pg_name (i := 3) sc_sums.nd rfl (Or.inl rfl))
      (pss_one (ps_expr (pe_bm PySem.F.plainAttrs_list PySem.F.slot_list_append PySem.F.type_list_append mt_append (pv 2) (pa_cons (pe_op (opA O_add (hr.mono (by decide))) (pe_ix ix_list (pv 2) (pe_un un_neg pe_int) (fun _ _ => rfl)) (pe_dget (hu1 hr) (pv 1) (pv 3) (fun _ _ => rfl))) pa_nil)))))
    (pss_one (ps_ret (pe_callTy call_tuple_of (by rfl) T.b_tuple (by decide +kernel) (pa_cons (pv 2) pa_nil)))))), ?_⟩
  refine mkN_useR (fun _ => rfl) ?c1 fun p1 H1 e1 h1 => ?m1
  case c1 => exact (nv1)
  case' m1 => skip
  obtain ⟨dx2, d2⟩ := id h1
  refine ⟨(len_ok (Nat.le_of_ble_eq_true rfl)), fun p3 n3 => ?_⟩
  generalize hg4 : upd _ p3 _ = H4
  obtain ⟨e4, h4⟩ := new_facts n3 hg4
  clear hg4
  refine ⟨_, rfl, _, rfl, ⟨_, (ha.ext (e1.trans e4))⟩, ?_⟩
  refine forT zs V.str (fun i σ' H' => ∃ (v : Option V) (xs : List V), σ' = [some (.ref a), some (.ref d), some (.ref p3), v] ∧ Ext H H' ∧ H' p3 = some (.lst xs) ∧ RelL (NumV CN) ((sumsN (zs.map f)).take (i + 1)) xs H')
    ?_ (fun i σ H' p => ?_) (fun i z σ H5 hz p => ?_) fun σ H' p => ?_
  · have r0 : RelL (NumV CN) ((sumsN (zs.map f)).take (0 + 1)) [V.ref p1] H4 := by
      rw [sumsN_take (Nat.zero_le _)]
      exact RelL.nil.snoc ⟨p1, rfl, h1.ext e4⟩
    refine ⟨_, _, rfl, (e1.trans e4), h4, r0⟩
  · obtain ⟨v, xs, rfl, e5, h5, r5⟩ := p
    exact ha.ext e5
  · obtain ⟨v, xs, rfl, e5, h5, r5⟩ := p
    have lt := (List.getElem?_eq_some_iff.mp hz).1
    have hl : xs.length = i + 1 := by rw [r5.1, List.length_take, sumsN_len, List.length_map]; omega
    obtain ⟨q, hq, nq⟩ := last_num (by rw [List.length_map]; omega) r5
    obtain ⟨p, gp, np⟩ := (hd.ext e5).get (pm.mem_iff.mpr (List.mem_of_getElem? hz))
    have g1 : Good 2000 (sumN ((zs.map f).take i)) := (sf i (by rw [List.length_map]; omega)).good.mono (by decide)
    have g2 : Good 2000 (f z) := (rt z (List.mem_of_getElem? hz)).good.mono (by decide)
    have g3 := (sf i (by rw [List.length_map]; omega)).one (rt z (List.mem_of_getElem? hz))
    obtain ⟨dx6, d6⟩ := id nq
    obtain ⟨dx7, d7⟩ := id np
    refine ⟨_, rfl, (.inl ⟨rfl, ⟨_, (SqL.of h5)⟩⟩), _, rfl, _, rfl, _, _, _, _, rfl, rfl, (SqL.of h5), hq, _, rfl, _, rfl, _, _, rfl, gp, _, _, _, rfl, d6, (.inr ⟨_, ⟨_, ⟨_, ⟨rfl, d7⟩⟩⟩⟩), _, _, _, _, rfl, nq, (.inl ⟨_, ⟨rfl, np⟩⟩), g1, g2, g3, fun p8 H8 e8 h8 => ?_⟩
    obtain ⟨dx9, d9⟩ := id h8
    refine ⟨_, _, _, rfl, rfl, (e8 _ _ h5), (len_lt (by omega)), _, _, rfl, (ext_mut (e5.trans e8) (ext_none e1 n3)), upd_same, ?_⟩
    have ts : (zs.map f).take (i + 1) = (zs.map f).take i ++ [f z] := take_next (by rw [List.getElem?_map, hz]; rfl)
    rw [sumsN_take (by rw [List.length_map]; omega), ts, sumN_snoc]
    exact numv_app r5 e8 h8 (e8 _ _ h5)
  · obtain ⟨v, xs, rfl, e5, h5, r5⟩ := p
    have e : (sumsN (zs.map f)).take (zs.length + 1) = sumsN (zs.map f) := List.take_of_length_le (by rw [sumsN_len, List.length_map]; exact Nat.le_refl _)
    rw [e] at r5
    refine ⟨_, rfl, _, _, rfl, .inl ⟨(SqL.of h5), fun p6 n6 => ?_⟩⟩
    generalize hg7 : upd _ p6 _ = H7
    obtain ⟨e7, h7⟩ := new_facts n6 hg7
    clear hg7
    refine (k _ _ _ (e5.trans e7) h7 (r5.ext e7))
end
end My
namespace My
open PySem PySem.Spec PyProof.Rows L2
local macro_rules | `(tactic| walk_at "side") => `(tactic| first | assumption | decide | exact Or.inl ⟨by decide, by decide⟩ | exact Or.inr ⟨by decide, by decide⟩ | exact ⟨by decide, by decide, by decide⟩ | omega | (unfold CMulW; decide +kernel) | (dsimp only; first | assumption | omega | decide +kernel) | exact len_ok (Nat.le_of_ble_eq_true rfl) | fail "side")
local macro_rules | `(tactic| walk_at "rd") => `(tactic| first
  | refine ⟨_, _, _, _, rfl, rfl, SqL.of upd_same, atI_nat (j := 0) rfl, ?_⟩ | refine ⟨_, _, _, _, rfl, rfl, SqL.of upd_same, atI_nat (j := 1) rfl, ?_⟩ | refine ⟨_, _, _, _, rfl, rfl, SqL.of upd_same, atI_nat (j := 2) rfl, ?_⟩
  | refine ⟨_, _, _, _, rfl, rfl, upd_same, rfl, ?_⟩
  | refine ⟨_, _, rfl, rfl, ?_⟩ | refine ⟨_, rfl, ?_⟩ | refine ⟨_, _, rfl, ?_⟩ | refine Or.inl ⟨_, rfl, ?_⟩ | refine Or.inr ⟨_, rfl, ?_⟩ | refine ⟨(by walk_at "side"), ?_⟩ | fail "rd")
abbrev s_reqord : Stmt := top 41
theorem sc_reqord : FnScope ["value"] ["value"] (defScope s_reqord) := ⟨rfl, rfl, rfl, by decide +kernel, rfl, by decide +kernel, by decide +kernel⟩
def spReqO (K : PySem.W.Frag) (C : Addr) : Sp := fun vs H Q _ => ∃ o zs ys, vs = [.ref o] ∧ OrdAt K C H o zs ys ∧ Q .non H
section
variable {P : Program} {w : World} {K : PySem.W.Frag} {mg : Str → Option Value} {base : Heap} {C : Addr}
theorem ok_reqord (T : Bn mg) (OT : OrdT K mg C) (OI : OrdI K C) (D : DefAt K mg "require_order" s_reqord) : FnAt P w K mg base 1 "require_order" ["value"] (spReqO K C) := by
  refine fnAt D sc_reqord (fun _ _ _ _ _ _ us hl => match us, hl with | [_], _ => rfl) (fun vs H Q E h => ?_) fun f cdv A outer s H vs Q E hr h => ?_
  · obtain ⟨o, zs, ys, rfl, _⟩ := h
    rfl
  obtain ⟨o, zs, ys, rfl, oa, k⟩ := h
  exact ⟨_, (pss_one (ps_if (pt_not (pt_val (pe_callB call_isi (by rfl) T.b_isinstance (by decide +kernel) (pa_cons (pv 0) (pa_cons (pe_glob (v := .ref C) rfl OT.g rfl) pa_nil))))) (pss_one ps_never) pss_nil)), _, rfl, _, _, _, _, true, rfl, .own C, oa.ty OT.cl OI, OI.kOrd, _, rfl, iteF k⟩
end
end My
namespace My
open PySem PySem.Spec PyProof.Rows L2
local macro_rules | `(tactic| walk_at "side") => `(tactic| first | assumption | decide | exact Or.inl ⟨by decide, by decide⟩ | exact Or.inr ⟨by decide, by decide⟩ | exact ⟨by decide, by decide, by decide⟩ | omega | (unfold CMulW; decide +kernel) | (dsimp only; first | assumption | omega | decide +kernel) | exact len_ok (Nat.le_of_ble_eq_true rfl) | fail "side")
local macro_rules | `(tactic| walk_at "rd") => `(tactic| first
  | refine ⟨_, _, _, _, rfl, rfl, SqL.of upd_same, atI_nat (j := 0) rfl, ?_⟩ | refine ⟨_, _, _, _, rfl, rfl, SqL.of upd_same, atI_nat (j := 1) rfl, ?_⟩ | refine ⟨_, _, _, _, rfl, rfl, SqL.of upd_same, atI_nat (j := 2) rfl, ?_⟩
  | refine ⟨_, _, _, _, rfl, rfl, upd_same, rfl, ?_⟩
  | refine ⟨_, _, rfl, rfl, ?_⟩ | refine ⟨_, rfl, ?_⟩ | refine ⟨_, _, rfl, ?_⟩ | refine Or.inl ⟨_, rfl, ?_⟩ | refine Or.inr ⟨_, rfl, ?_⟩ | refine ⟨(by walk_at "side"), ?_⟩ | fail "rd")
abbrev s_bends : Stmt := top 44
theorem sc_bends : FnScope ["places", "ends", "furthest", "index", "place"] ["places"] (defScope s_bends) := ⟨rfl, rfl, rfl, by decide +kernel, rfl, by decide +kernel, by decide +kernel⟩
/-- the ends of the blocks, from the index i on, f the furthest place so far -/
def mx (i j : Int) : Int := if j > i then j else i
def bend : Int → Int → List Int → List Int
  | _, _, [] => []
  | i, f, p :: r => if mx f p = i then (i + 1) :: bend (i + 1) (mx f p) r else bend (i + 1) (mx f p) r
def spBend (K : PySem.W.Frag) : Sp := fun vs H Q _ => ∃ (a : Addr) (ps : List Int), vs = [.ref a] ∧ SqT K H a (ps.map V.int) ∧ ps.length ≤ 1000 ∧ ∀ D H', Ext H H' → H' D = some (.lst ((bend 0 0 ps).map V.int)) → Q (.ref D) H'
section
variable {P : Program} {w : World} {K : PySem.W.Frag} {mg : Str → Option Value} {base : Heap} {C : Addr}
theorem ok_bends (T : Bn mg) (D : DefAt K mg "block_ends" s_bends) : FnAt P w K mg base 1 "block_ends" ["places"] (spBend K) := by
  refine fnAt D sc_bends (fun _ _ _ _ _ _ us hl => match us, hl with | [_], _ => rfl) (fun vs H Q E h => ?_) fun f cdv A outer s H vs Q E hr h => ?_
  · obtain ⟨a, ps, rfl, _⟩ := h
    rfl
  obtain ⟨a, ps, rfl, ha, hz, k⟩ := h
  refine ⟨_, (pss_cons (ps_set (i := 1) sc_bends.nd rfl (Or.inl rfl) (pe_lst pa_nil))
    (pss_cons (ps_set (i := 2) sc_bends.nd rfl (Or.inl rfl) pe_int)
    (pss_cons (ps_for PassesOwn.never rfl (pi_enumT (by rfl) T.b_enumerate (pa_cons (pv 0) pa_nil)) (pg_tup rfl (pgs_cons (pg_name (i := 3) sc_bends.nd rfl (Or.inl rfl)) (pgs_cons (pg_name (i := 4) sc_bends.nd rfl (Or.inl rfl)) pgs_nil)))
      (pss_cons (ps_set (i := 2) sc_bends.nd rfl (Or.inl rfl) (pe_callB (call_max2 rfl) (by rfl) T.b_max (by decide +kernel) (pa_cons (pv 2) (pa_cons (pv 4) pa_nil))))
    (pss_one (ps_if (pt_cmpR op_eq (pv 2) (pv 3) (nomark _)) (pss_one (ps_expr (pe_bm PySem.F.plainAttrs_list PySem.F.slot_list_append PySem.F.type_list_append mt_append (pv 1) (pa_cons (pe_op op_add (pv 3) pe_int) pa_nil)))) pss_nil))))
    (pss_one (ps_ret (pv 1)))))), ?_⟩
  refine ⟨len_ok (Nat.le_of_ble_eq_true rfl), fun D hD => ?_⟩
  have wk : Walk (Iet K a) ps.length (fun H => SqT K H a (ps.map V.int)) (YPair (fun i => some (.int (i : Nat))) (fun i => (ps.map V.int)[i]?)) := by
    have z := walk_enumT (K := K) (a := a) (xs := ps.map V.int)
    rwa [List.length_map] at z
  have x1 := ext_new (o := HO.lst []) (ext_refl H) hD
  refine ⟨_, rfl, a, _, rfl, ha.ext x1, for_it wk (fun i σ' H' => ∃ (acc : List Int) (f : Int) (u v : Option V), σ' = [some (.ref a), some (.ref D), some (.int f), u, v] ∧ Ext H H' ∧ H' D = some (.lst (acc.map V.int)) ∧ acc.length ≤ i ∧ acc ++ bend i f (ps.drop i) = bend 0 0 ps)
    ⟨[], 0, none, none, rfl, x1, upd_same, Nat.le_refl _, rfl⟩ (fun i σ' H' _ p => ?_) (fun i x σ' H1 H' hi p y => ?_) fun σ' H' p => ?_⟩
  · obtain ⟨acc, f, u, v, _, e, _⟩ := p
    exact ha.ext e
  · obtain ⟨T, u1, v1, rfl, hT, rfl, hu, hv⟩ := y
    obtain ⟨acc, f, u, v, rfl, p2, p3, p4, p5⟩ := p
    cases hu
    replace hv : (ps.map V.int)[i]? = some v1 := hv
    rw [List.getElem?_map, List.getElem?_eq_getElem hi] at hv
    cases hv
    have eT := ext_new (o := HO.tup [V.int (i : Nat), .int ps[i]]) (ext_refl H1) hT
    rw [List.drop_eq_getElem_cons hi, bend] at p5
    refine ⟨T, _, rfl, SqT.of upd_same, rfl, _, _, rfl, _, _, rfl, rfl, ?_⟩
    refine ⟨_, rfl, _, rfl, _, _, rfl, _, rfl, _, rfl, rfl, _, rfl, ?_⟩
    have e1 : decide (V.int (if ps[i] > f then ps[i] else f) = .int (i : Nat)) = decide (mx f ps[i] = (i : Int)) := by
      rw [dec_int]
      rfl
    rw [e1]
    have p3' := eT _ _ p3
    have nD : D ≠ T := ne_of_none p3 hT
    refine ite2 (fun c => ?_) (fun c => ?_)
    · have c' := of_decide_eq_true c
      rw [if_pos c'] at p5
      refine ⟨_, rfl, .inl ⟨rfl, _, SqL.of p3'⟩, _, rfl, _, _, rfl, rfl, D, _, _, rfl, rfl, p3', ?_, ?_⟩
      · rw [List.length_map]
        exact len_lt (by omega)
      · refine ⟨acc ++ [(i : Int) + 1], mx f ps[i], _, _, rfl, ext_mut (p2.trans eT) hD, ?_, ?_, ?_⟩
        · rw [upd_same, List.map_append]
          rfl
        · rw [List.length_append]
          exact Nat.succ_le_succ p4
        · rw [List.append_assoc, ← p5]
          rfl
    · have c' : ¬ mx f ps[i] = (i : Int) := fun z => c (decide_eq_true z)
      rw [if_neg c'] at p5
      exact ⟨acc, mx f ps[i], _, _, rfl, p2.trans eT, p3', by omega, p5⟩
  · obtain ⟨acc, f, u, v, rfl, p2, p3, p4, p5⟩ := p
    rw [List.drop_length, bend, List.append_nil] at p5
    rw [p5] at p3
    exact ⟨_, rfl, k D H' p2 p3⟩
end
end My
namespace My
open PySem PySem.Spec PyProof.Rows L2
local macro_rules | `(tactic| walk_at "side") => `(tactic| first | assumption | decide | exact Or.inl ⟨by decide, by decide⟩ | exact Or.inr ⟨by decide, by decide⟩ | exact ⟨by decide, by decide, by decide⟩ | omega | (unfold CMulW; decide +kernel) | (dsimp only; first | assumption | omega | decide +kernel) | exact len_ok (Nat.le_of_ble_eq_true rfl) | fail "side")
local macro_rules | `(tactic| walk_at "rd") => `(tactic| first
  | refine ⟨_, _, _, _, rfl, rfl, SqL.of upd_same, atI_nat (j := 0) rfl, ?_⟩ | refine ⟨_, _, _, _, rfl, rfl, SqL.of upd_same, atI_nat (j := 1) rfl, ?_⟩ | refine ⟨_, _, _, _, rfl, rfl, SqL.of upd_same, atI_nat (j := 2) rfl, ?_⟩
  | refine ⟨_, _, _, _, rfl, rfl, upd_same, rfl, ?_⟩
  | refine ⟨_, _, rfl, rfl, ?_⟩ | refine ⟨_, rfl, ?_⟩ | refine ⟨_, _, rfl, ?_⟩ | refine Or.inl ⟨_, rfl, ?_⟩ | refine Or.inr ⟨_, rfl, ?_⟩ | refine ⟨(by walk_at "side"), ?_⟩ | fail "rd")
abbrev s_owhole : Stmt := inClass (top 40) 7
theorem sc_owhole : FnScope ["self"] ["self"] (defScope s_owhole) := ⟨rfl, rfl, rfl, by decide +kernel, rfl, by decide +kernel, by decide +kernel⟩
def wholeB (zs ys : List Str) : Bool := decide (2 ≤ zs.length) && decide ((bend 0 0 (plc zs ys)).length = 1)
def spWhole (K : PySem.W.Frag) (C : Addr) : Sp := fun vs H Q _ => ∃ o zs ys, vs = [.ref o] ∧ OrdAt K C H o zs ys ∧ ∀ H', Ext H H' → Q (.bl (wholeB zs ys)) H'
section
variable {P : Program} {w : World} {K : PySem.W.Frag} {mg : Str → Option Value} {base : Heap} {C : Addr}
theorem ok_owhole (T : Bn mg) (D : PropT K C "is_whole" "Order.is_whole" s_owhole) (OT : OrdT K mg C) (F_block_ends : FnAt P w K mg base 1 "block_ends" ["places"] (spBend K)) : PropAt P w K mg base 2 C "is_whole" (spWhole K C) := by
  refine propAt D sc_owhole (fun _ _ _ _ _ _ us hl => match us, hl with | [_], _ => rfl) (fun vs H Q E h => ?_) fun f cdv A outer s H vs Q E hr h => ?_
  · obtain ⟨o, zs, ys, rfl, _⟩ := h
    rfl
  obtain ⟨o, zs, ys, rfl, ⟨dx, a, b, c, e, ha, hb, hc, ro⟩, k⟩ := h
  have l1 := ro.le
  refine ⟨_, (pss_one (ps_ret (pe_and (pe_cmpR op_ge (pe_callB call_len_seq (by rfl) T.b_len (by decide +kernel) (pa_cons (pe_fld (pv 0) rfl) pa_nil)) pe_int (nomark _)) (pe_one (pe_cmpR op_eq (pe_callB call_len_seq (by rfl) T.b_len (by decide +kernel) (pa_cons (callA F_block_ends (hr.mono (by decide)) rfl (pa_cons (pe_fld (pv 0) rfl) pa_nil)) pa_nil)) pe_int (nomark _)))))), _, rfl, o, C, dx, _, _, rfl, e, OT.cl, OT.nA, ofs_a a b c, a, _, rfl, .inr ha, _, _, rfl, rfl, _, rfl, ?_⟩
  rw [List.length_map]
  by_cases h2 : 2 ≤ zs.length
  · rw [if_pos (decide_eq_true (show ((zs.length : Nat) : Int) ≥ 2 by omega))]
    refine ⟨_, rfl, o, C, dx, _, _, rfl, e, OT.cl, OT.nP, ofs_p a b c, c, plc zs ys, rfl, hc, ?_, fun D H' e' hD => ?_⟩
    · unfold plc
      rw [List.length_map]
      omega
    · refine ⟨D, _, rfl, .inl (SqL.of hD), rfl, ?_⟩
      have e2 : decide (V.int (((bend 0 0 (plc zs ys)).map V.int).length : Nat) = .int 1) = wholeB zs ys := by
        unfold wholeB
        rw [decide_eq_true h2, Bool.true_and, List.length_map, dec_int, Bool.eq_iff_iff, beq_iff_eq, decide_eq_true_iff]
        omega
      rw [e2]
      exact k H' e'
  · rw [if_neg (by rw [decide_eq_true_iff]; omega)]
    have e2 : wholeB zs ys = false := by
      unfold wholeB
      rw [decide_eq_false h2, Bool.false_and]
    rw [← e2]
    exact k H (ext_refl H)
end
end My
namespace My
open PySem PySem.Spec PyProof.Rows L2
local macro_rules | `(tactic| walk_at "side") => `(tactic| first | assumption | decide | exact Or.inl ⟨by decide, by decide⟩ | exact Or.inr ⟨by decide, by decide⟩ | exact ⟨by decide, by decide, by decide⟩ | omega | (unfold CMulW; decide +kernel) | (dsimp only; first | assumption | omega | decide +kernel) | exact len_ok (Nat.le_of_ble_eq_true rfl) | fail "side")
local macro_rules | `(tactic| walk_at "rd") => `(tactic| first
  | refine ⟨_, _, _, _, rfl, rfl, SqL.of upd_same, atI_nat (j := 0) rfl, ?_⟩ | refine ⟨_, _, _, _, rfl, rfl, SqL.of upd_same, atI_nat (j := 1) rfl, ?_⟩ | refine ⟨_, _, _, _, rfl, rfl, SqL.of upd_same, atI_nat (j := 2) rfl, ?_⟩
  | refine ⟨_, _, _, _, rfl, rfl, upd_same, rfl, ?_⟩
  | refine ⟨_, _, rfl, rfl, ?_⟩ | refine ⟨_, rfl, ?_⟩ | refine ⟨_, _, rfl, ?_⟩ | refine Or.inl ⟨_, rfl, ?_⟩ | refine Or.inr ⟨_, rfl, ?_⟩ | refine ⟨(by walk_at "side"), ?_⟩ | fail "rd")
abbrev s_xinit : Stmt := inClass (top 46) 0
theorem sc_xinit : FnScope ["self", "order", "lengths", "name", "number", "begins", "begins_below"] ["self", "order", "lengths"] (defScope s_xinit) := ⟨rfl, rfl, rfl, by decide +kernel, rfl, by decide +kernel, by decide +kernel⟩
/-- the class Exchange as the top has made it -/
structure XchT (K : PySem.W.Frag) (mg : Str → Option Value) (CX : Addr) : Prop where
  g : mg "Exchange" = some (.ref CX)
  cl : Cls K CX
  n1 : NoAttr K CX "_order"
  n2 : NoAttr K CX "_above"
  n3 : NoAttr K CX "_below"
  n4 : NoAttr K CX "_lengths"
  n5 : NoAttr K CX "_starts"
  n6 : NoAttr K CX "_starts_below"
  n7 : NoAttr K CX "_total"
  n8 : NoAttr K CX "_root"
  n9 : NoAttr K CX "_begins"
  n10 : NoAttr K CX "_begins_below"
  n11 : NoAttr K CX "_shifts"
  ini : ∃ f fd, Mk K CX f ∧ Fun K "__init__" "Exchange.__init__" s_xinit f fd
def xfs (o a b dl t1 t2 tt : Addr) (r : Int) (d1 d2 d3 : Addr) : List (Str × V) := [("_order", .ref o), ("_above", .ref a), ("_below", .ref b), ("_lengths", .ref dl), ("_starts", .ref t1), ("_starts_below", .ref t2), ("_total", .ref tt), ("_root", .int r), ("_begins", .ref d1), ("_begins_below", .ref d2), ("_shifts", .ref d3)]
/-- rows and lengths that make an exchange, its roots 0 or R -/
structure XG (R : Int) (zs ys : List Str) (f : Str → Nm) : Prop where
  rows : RowsOk zs ys
  fit : ∀ z ∈ zs, Fit R (f z)
  pos : ∀ z ∈ zs, 0 < sgn (f z).t (f z).p (f z).r
  up : SumsFit R (zs.map f)
  lo : SumsFit R (ys.map f)
/-- where the piece of a name begins -/
def begN (zs : List Str) (f : Str → Nm) (z : Str) : Nm := sumN ((zs.map f).take (pos zs z))
def shfN (zs ys : List Str) (f : Str → Nm) (z : Str) : Nm := subN (begN ys f z) (begN zs f z)
/-- the root that is told: the greatest one of the lengths -/
def RootIs (ns : List Nm) (r : Int) : Prop := (∃ n ∈ ns, n.r = r) ∧ ∀ n ∈ ns, n.r ≤ r
structure XParts (K : PySem.W.Frag) (C CN : Addr) (H : Hp) (zs ys : List Str) (f : Str → Nm) (o a b dl t1 t2 tt : Addr) (r : Int) (d1 d2 d3 : Addr) : Prop where
  ord : OrdAt K C H o zs ys
  ab : SqT K H a (zs.map V.str)
  be : SqT K H b (ys.map V.str)
  len : ∃ ns, SortOf zs ns ∧ NumD CN H dl ns f
  st : ∃ xs, H t1 = some (.tup xs) ∧ RelL (NumV CN) (sumsN (zs.map f)) xs H
  sb : ∃ xs, H t2 = some (.tup xs) ∧ RelL (NumV CN) (sumsN (ys.map f)) xs H
  tot : NumAt CN H tt (sumN (zs.map f))
  rt : RootIs (zs.map f) r
  bg : ∃ ns, SortOf zs ns ∧ NumD CN H d1 ns (begN zs f)
  bb : ∃ ns, SortOf zs ns ∧ NumD CN H d2 ns (begN ys f)
  sh : ∃ ns, SortOf zs ns ∧ NumD CN H d3 ns (shfN zs ys f)
def XchAt (K : PySem.W.Frag) (C CN CX : Addr) (H : Hp) (x : Addr) (R : Int) (zs ys : List Str) (f : Str → Nm) : Prop :=
  ∃ dx o a b dl t1 t2 tt r d1 d2 d3, H x = some (.ins CX dx (xfs o a b dl t1 t2 tt r d1 d2 d3)) ∧ XParts K C CN H zs ys f o a b dl t1 t2 tt r d1 d2 d3 ∧ XG R zs ys f
/-- the exchange at x holds the order at o -/
def XOrd (CX : Addr) (H : Hp) (x o : Addr) : Prop := ∃ dx a b dl t1 t2 tt r d1 d2 d3, H x = some (.ins CX dx (xfs o a b dl t1 t2 tt r d1 d2 d3))
theorem XOrd.ext {CX x o : Addr} {H H' : Hp} (h : XOrd CX H x o) (e : Ext H H') : XOrd CX H' x o := let ⟨dx, a, b, dl, t1, t2, tt, r, d1, d2, d3, q⟩ := h; ⟨dx, a, b, dl, t1, t2, tt, r, d1, d2, d3, e _ _ q⟩
def spXInit (K : PySem.W.Frag) (C CN CX : Addr) : Sp := fun vs H Q _ => ∃ (x dx o d : Addr) (zs ys ks : List Str) (f : Str → Nm) (R : Int), vs = [.ref x, .ref o, .ref d] ∧ H x = some (.ins CX dx []) ∧ OrdAt K C H o zs ys ∧ NumD CN H d ks f ∧ ks.Perm zs ∧ XG R zs ys f ∧
  ∀ H', (∀ a o, H a = some o → a ≠ x → H' a = some o) → XchAt K C CN CX H' x R zs ys f → XOrd CX H' x o → Q .non H'
structure XInitAt (P : Program) (w : World) (K : PySem.W.Frag) (mg : Str → Option Value) (base : Heap) (k : Nat) (CX : Addr) (sp : Sp) : Prop where
  ex : ∃ (f : Addr) (fd : FuncData), Mk K CX f ∧ FnOk P w K mg base CX0 k f fd ["self", "order", "lengths"] sp ∧ Binds K fd ["self", "order", "lengths"] []
theorem last_sum {CN : Addr} {H : Hp} {ns : List Nm} {xs : List V} (r : RelL (NumV CN) (sumsN ns) xs H) : ∃ q, atI xs (-1) = some (V.ref q) ∧ NumAt CN H q (sumN ns) := by
  have e : (sumsN ns).take (ns.length + 1) = sumsN ns := List.take_of_length_le (by rw [sumsN_len]; exact Nat.le_refl _)
  have := last_num (Nat.le_refl ns.length) (e.symm ▸ r)
  rw [List.take_length] at this
  exact this
theorem rel_all {CN : Addr} {H : Hp} {xs : List V} {ns : List Nm} (h : AllNum CN H xs ns) : RelL (NumV CN) ns xs H :=
  ⟨h.1, fun i n v hn hv => by
    obtain ⟨a, m, e, e2, q⟩ := h.2 i v hv
    rw [hn] at e2
    cases e2
    exact ⟨a, e, q⟩⟩
theorem zkV_vals {ks : List Str} {ys : List V} (l : ys.length = ks.length) : (zkV ks ys).map (·.2) = ys := by
  unfold zkV
  rw [List.map_map]
  exact List.map_snd_zip (by omega)
theorem starts_get {CN d : Addr} {H : Hp} {zs : List Str} {xs : List V} {f : Str → Nm} {z : Str} (h : H d = some (.dK (zkV zs xs))) (r : RelL (NumV CN) (sumsN (zs.map f)) xs H) (m : z ∈ zs) : ∃ p, DGet H d (.str z) (some (.ref p)) ∧ NumAt CN H p (begN zs f z) := by
  have lt := pos_lt m
  have lx : xs.length = zs.length + 1 := by rw [r.1, sumsN_len, List.length_map]
  have hx : xs[pos zs z]? = some xs[pos zs z] := List.getElem?_eq_getElem (by omega)
  have hs : (sumsN (zs.map f))[pos zs z]? = some (begN zs f z) := by
    unfold sumsN
    rw [List.getElem?_map, List.getElem?_range (by rw [List.length_map]; omega)]
    rfl
  obtain ⟨p, e, n⟩ := r.2 _ _ _ hs hx
  refine ⟨p, ?_, n⟩
  have := DGet.k (k := .inr z) h
  rw [valV_zk _ _ _ m (by omega), hx, e] at this
  exact this
theorem numd_keep {CN D : Addr} (f : Str → Nm) : RKeepD D fun (z : Str) => NumV CN (f z) := fun z v H H' ⟨p, e, dx, q⟩ ⟨l, hl⟩ k => ⟨p, e, dx, k _ _ q fun c => by rw [c, hl] at q; cases q⟩
theorem numd_ext {CN : Addr} (f : Str → Nm) : RExt fun (z : Str) => NumV CN (f z) := fun z v H H' ⟨p, e, q⟩ x => ⟨p, e, q.ext x⟩
theorem numD_of {CN d : Addr} {H : Hp} {ks : List Str} {vs : List V} {f : Str → Nm} (nd : ks.Nodup) (h : H d = some (.dK (zkV ks vs))) (r : RelL (fun z => NumV CN (f z)) ks vs H) : NumD CN H d ks f :=
  ⟨⟨vs, h, all_of_rel r⟩, nd⟩
section
variable {P : Program} {w : World} {K : PySem.W.Frag} {mg : Str → Option Value} {base : Heap} {C CN CX : Addr}
theorem ok_xinit (T : Bn mg) (XT : XchT K mg CX) (OT : OrdT K mg C) (NC : NumT K mg CN) (F_require_order : FnAt P w K mg base 1 "require_order" ["value"] (spReqO K C)) (F_are_lengths : FnAt P w K mg base 5 "are_lengths" ["names", "value"] (spAreLens K CN))
    (P_above : PropAt P w K mg base 1 C "above" (spGetT K C fun zs _ => zs.map V.str)) (P_below : PropAt P w K mg base 1 C "below" (spGetT K C fun _ ys => ys.map V.str)) (P_names : PropAt P w K mg base 1 C "names" (spNames K C))
    (F__sums : FnAt P w K mg base 8 "_sums" ["names", "lengths"] (spSums K CN)) (F_root : PropAt P w K mg base 1 CN "root" (spProp CN fun n => .int n.r)) (O_sub : OpAt P w K mg base 7 CN .Sub (spBin CN subN)) : XInitAt P w K mg base 9 CX (spXInit K C CN CX) := by
  obtain ⟨f, fd, M, F⟩ := XT.ini
  refine ⟨f, fd, M, F.ok sc_xinit (fun vs H Q E h => ?_) (fun cdv A outer s H vs Q E hr h => ?_), ?_⟩
  · obtain ⟨x, dx, o, d, zs, ys, ks, f, R, rfl, _⟩ := h
    rfl
  · obtain ⟨x, dx, o, d, zs, ys, ks, f, R, rfl, hx, oa, hd, pm, xg, k⟩ := h
    refine ⟨_, PSs.nox (pss_cons (ps_expr (callA F_require_order (hr.mono (by decide)) rfl (pa_cons (pv 1) pa_nil)))
    (pss_cons (ps_if (pt_not (pt_val (callA F_are_lengths (hr.mono (by decide)) rfl (pa_cons (propA P_above OT.cl (hr.mono (by decide)) (pv 1)) (pa_cons (pv 2) pa_nil))))) (pss_one ps_never) pss_nil)
    (pss_cons (ps_fld (pv 0) (pv 1) rfl)
    (pss_cons (ps_fld (pv 0) (propA P_above OT.cl (hr.mono (by decide)) (pv 1)) rfl)
    (pss_cons (ps_fld (pv 0) (propA P_below OT.cl (hr.mono (by decide)) (pv 1)) rfl)
    (pss_cons (ps_fld (pv 0) (pe_dc (own := [("name", 3)]) (g := gName 3) (tt := tYes) rfl sc_xinit.nd (pi_tup (propA P_names OT.cl (hr.mono (by decide)) (pv 1))) (blkOk_by (N := ["self", "order", "lengths", "name", "number", "begins", "begins_below"]) (sc := defScope s_xinit) (by decide +kernel)) (fun _ _ _ _ _ => pg_name (i := 3) sc_xinit.nd rfl (Or.inl rfl)) (fun _ _ _ _ _ => pts_nil) (fun _ _ _ _ _ => (pv 3)) (fun _ _ _ _ _ => (pe_dget (hu1 hr) (pv 2) (pv 3) (fun _ _ => rfl)))) rfl)
    (pss_cons (ps_fld (pv 0) (callA F__sums (hr.mono (by decide)) rfl (pa_cons (pe_fld (pv 0) rfl) (pa_cons (pv 2) pa_nil))) rfl)
    (pss_cons (ps_fld (pv 0) (callA F__sums (hr.mono (by decide)) rfl (pa_cons (pe_fld (pv 0) rfl) (pa_cons (pv 2) pa_nil))) rfl)
    (pss_cons (ps_fld (pv 0) (pe_ix ix_tup (pe_fld (pv 0) rfl) (pe_un un_neg pe_int) (fun _ _ => rfl)) rfl)
    (pss_cons (ps_fld (pv 0) (pe_callB (cr_max rfl) (by rfl) T.b_max (by decide +kernel) (pa_cons (pe_lc (own := [("number", 4)]) (g := gName 4) (tt := tYes) rfl sc_xinit.nd (pi_list (pe_listVals rfl (by rfl) T.b_list (pv 2))) (blkOk_by (N := ["self", "order", "lengths", "name", "number", "begins", "begins_below"]) (sc := defScope s_xinit) (by decide +kernel)) (fun _ _ _ _ _ => pg_name (i := 4) sc_xinit.nd rfl (Or.inl rfl)) (fun _ _ _ _ _ => pts_nil) (fun _ _ _ _ _ => (propA F_root NC.cl (hr.mono (by decide)) (pv 4)))) pa_nil)) rfl)
    (pss_cons (ps_set (i := 5) sc_xinit.nd rfl (Or.inr rfl) (pe_dictZipT rfl (by rfl) T.b_dict (by rfl) T.b_zip (pa_cons (pe_fld (pv 0) rfl) (pa_cons (pe_fld (pv 0) rfl) pa_nil))))
    (pss_cons (ps_set (i := 6) sc_xinit.nd rfl (Or.inr rfl) (pe_dictZipT rfl (by rfl) T.b_dict (by rfl) T.b_zip (pa_cons (pe_fld (pv 0) rfl) (pa_cons (pe_fld (pv 0) rfl) pa_nil))))
    (pss_cons (ps_fld (pv 0) (pe_dc (own := [("name", 3)]) (g := gName 3) (tt := tYes) rfl sc_xinit.nd (pi_tup (propA P_names OT.cl (hr.mono (by decide)) (pv 1))) (blkOk_by (N := ["self", "order", "lengths", "name", "number", "begins", "begins_below"]) (sc := defScope s_xinit) (by decide +kernel)) (fun _ _ _ _ _ => pg_name (i := 3) sc_xinit.nd rfl (Or.inl rfl)) (fun _ _ _ _ _ => pts_nil) (fun _ _ _ _ _ => (pv 3)) (fun _ _ _ _ _ => (pe_dget (hu1 hr) (pv 5) (pv 3) (fun _ _ => rfl)))) rfl)
    (pss_cons (ps_fld (pv 0) (pe_dc (own := [("name", 3)]) (g := gName 3) (tt := tYes) rfl sc_xinit.nd (pi_tup (propA P_names OT.cl (hr.mono (by decide)) (pv 1))) (blkOk_by (N := ["self", "order", "lengths", "name", "number", "begins", "begins_below"]) (sc := defScope s_xinit) (by decide +kernel)) (fun _ _ _ _ _ => pg_name (i := 3) sc_xinit.nd rfl (Or.inl rfl)) (fun _ _ _ _ _ => pts_nil) (fun _ _ _ _ _ => (pv 3)) (fun _ _ _ _ _ => (pe_dget (hu1 hr) (pv 6) (pv 3) (fun _ _ => rfl)))) rfl)
    (pss_one (ps_fld (pv 0) (pe_dc (own := [("name", 3)]) (g := gName 3) (tt := tYes) rfl sc_xinit.nd (pi_tup (propA P_names OT.cl (hr.mono (by decide)) (pv 1))) (blkOk_by (N := ["self", "order", "lengths", "name", "number", "begins", "begins_below"]) (sc := defScope s_xinit) (by decide +kernel)) (fun _ _ _ _ _ => pg_name (i := 3) sc_xinit.nd rfl (Or.inl rfl)) (fun _ _ _ _ _ => pts_nil) (fun _ _ _ _ _ => (pv 3)) (fun _ _ _ _ _ => (pe_op (opA O_sub (hr.mono (by decide))) (pe_dget (hu1 hr) (pv 6) (pv 3) (fun _ _ => rfl)) (pe_dget (hu1 hr) (pv 5) (pv 3) (fun _ _ => rfl))))) rfl)))))))))))))))), ?_⟩
    have fp : ∀ z ∈ zs, Fit R (f z) ∧ 0 < sgn (f z).t (f z).p (f z).r := fun z hz => ⟨xg.fit z hz, xg.pos z hz⟩
    have fy : ∀ z ∈ ys, Fit R (f z) := fun z hz => xg.fit z (xg.rows.pm.mem_iff.mp hz)
    have le40 := xg.rows.le
    have le : zs.length ≤ 1000 := by omega
    have ley : ys.length ≤ 1000 := by rw [xg.rows.len]; exact le
    have fz := xg.fit
    have su := xg.up
    have sl := xg.lo
    have pmy : ks.Perm ys := pm.trans xg.rows.pm.symm
    obtain ⟨_, xcl, x1, x2, x3, x4, x5, x6, x7, x8, x9, x10, x11, _⟩ := id XT
    obtain ⟨dx1, qa1, qb1, qc1, d1, _⟩ := id oa
    refine ⟨_, rfl, _, _, _, rfl, oa, _, rfl, _, _, _, rfl, d1, _, _, _, rfl, oa, fun p2 h2 => ?_⟩
    refine ⟨_, rfl, _, _, _, _, _, _, rfl, h2, hd, pm, le, fp, fun H3 e3 => ?_⟩
    refine ⟨_, rfl, iteF ?_⟩
    refine ⟨_, rfl, _, rfl, _, _, _, _, rfl, (e3 _ _ hx), xcl, x1, (Nat.le_of_ble_eq_true rfl), _, rfl, ?_⟩
    generalize hg4 : upd _ x _ = H4
    obtain ⟨b4, h4⟩ := but_upd (e3 _ _ hx) hg4
    clear hg4
    refine ⟨_, _, _, rfl, (b4.get (e3 _ _ d1)), _, _, _, rfl, ((oa.ext e3).but b4), fun p5 h5 => ?_⟩
    refine ⟨_, rfl, _, _, _, _, rfl, h4, xcl, x2, (Nat.le_of_ble_eq_true rfl), _, rfl, ?_⟩
    generalize hg6 : upd _ x _ = H6
    obtain ⟨b6, h6⟩ := but_upd h4 hg6
    clear hg6
    refine ⟨_, _, _, rfl, (b6.get (b4.get (e3 _ _ d1))), _, _, _, rfl, (((oa.ext e3).but b4).but b6), fun p7 h7 => ?_⟩
    refine ⟨_, rfl, _, _, _, _, rfl, h6, xcl, x3, (Nat.le_of_ble_eq_true rfl), _, rfl, ?_⟩
    generalize hg8 : upd _ x _ = H8
    obtain ⟨b8, h8⟩ := but_upd h6 hg8
    clear hg8
    refine ⟨_, _, _, rfl, (b8.get (b6.get (b4.get (e3 _ _ d1)))), _, _, _, rfl, ((((oa.ext e3).but b4).but b6).but b8), fun v9 p9 H9 h9 e9 h9' => ?_⟩
    refine ⟨_, rfl, ⟨_, h9'⟩, fun p10 n10 => ?_⟩
    have nd9 : v9.Nodup := h9.pm.nodup_iff.mpr xg.rows.nd
    have le9 : v9.length ≤ 1000 := by rw [h9.pm.length_eq]; exact le
    refine dcT (fun z => NumV CN (f z)) (numd_keep f) (numd_ext f) nd9 h9' n10 le9 (fun _ => rfl) (fun _ _ _ q => ⟨_, rfl, q⟩) (fun i z H11 hz e11 Q' k' => ?_) fun H11 ys11 e11 q11 r11 => ?_
    · obtain ⟨p, gp, np⟩ := hd.get (pm.mem_iff.mpr (h9.pm.mem_iff.mp (List.mem_of_getElem? hz)))
      obtain ⟨dx12, d12⟩ := id np
      refine ⟨_, rfl, _, rfl, _, _, rfl, (((((gp.ext e3).but b4).but b6).but b8).ext (e9.trans e11)), (k' _ _ (ext_refl _) ⟨_, ⟨rfl, (((((np.ext e3).but b4).but b6).but b8).ext (e9.trans e11))⟩⟩)⟩
    have d11 := numD_of nd9 q11 r11
    refine ⟨_, rfl, _, _, _, _, rfl, ((e9.trans e11) _ _ h8), xcl, x4, (Nat.le_of_ble_eq_true rfl), _, rfl, ?_⟩
    generalize hg12 : upd _ x _ = H12
    obtain ⟨b12, h12⟩ := but_upd ((e9.trans e11) _ _ h8) hg12
    clear hg12
    refine ⟨_, _, _, _, _, rfl, h12, xcl, x2, rfl, _, rfl, _, _, _, _, _, _, rfl, ((((h5.but b6).but b8).ext (e9.trans e11)).but b12), ((((((hd.ext e3).but b4).but b6).but b8).ext (e9.trans e11)).but b12), pm, le, fz, su, fun p13 v13 H13 e13 h13 h13' => ?_⟩
    refine ⟨_, rfl, _, _, _, _, rfl, (e13 _ _ h12), xcl, x5, (Nat.le_of_ble_eq_true rfl), _, rfl, ?_⟩
    generalize hg14 : upd _ x _ = H14
    obtain ⟨b14, h14⟩ := but_upd (e13 _ _ h12) hg14
    clear hg14
    refine ⟨_, _, _, _, _, rfl, h14, xcl, x3, rfl, _, rfl, _, _, _, _, _, _, rfl, (((((h7.but b8).ext (e9.trans e11)).but b12).ext e13).but b14), ((((((((hd.ext e3).but b4).but b6).but b8).ext (e9.trans e11)).but b12).ext e13).but b14), pmy, ley, fy, sl, fun p15 v15 H15 e15 h15 h15' => ?_⟩
    refine ⟨_, rfl, _, _, _, _, rfl, (e15 _ _ h14), xcl, x6, (Nat.le_of_ble_eq_true rfl), _, rfl, ?_⟩
    generalize hg16 : upd _ x _ = H16
    obtain ⟨b16, h16⟩ := but_upd (e15 _ _ h14) hg16
    clear hg16
    refine ⟨_, _, _, _, _, rfl, h16, xcl, x5, rfl, _, rfl, ?_⟩
    obtain ⟨lq, hlq, nlq⟩ := last_sum h13'
    obtain ⟨lvs, hlv, llv⟩ := hd.ex
    obtain ⟨dx17, d17⟩ := id nlq
    refine ⟨_, _, _, _, rfl, rfl, (SqT.of (b16.get (e15 _ _ (b14.get h13)))), hlq, _, rfl, _, _, _, _, rfl, h16, xcl, x7, (Nat.le_of_ble_eq_true rfl), _, rfl, ?_⟩
    generalize hg18 : upd _ x _ = H18
    obtain ⟨b18, h18⟩ := but_upd h16 hg18
    clear hg18
    refine ⟨_, _, rfl, (b18.get (b16.get (e15 _ _ (b14.get (e13 _ _ (b12.get ((e9.trans e11) _ _ (b8.get (b6.get (b4.get (e3 _ _ hlv))))))))))), fun p19 n19 => ?_⟩
    generalize hg20 : upd _ p19 _ = H20
    obtain ⟨e20, h20⟩ := new_facts n19 hg20
    clear hg20
    refine ⟨_, rfl, ⟨_, (SqL.of h20)⟩, fun p21 n21 => ?_⟩
    have rl0 := rel_all llv
    have lkv : (zkV ks lvs).map (·.2) = lvs := zkV_vals (by rw [rl0.1, List.length_map])
    rw [lkv] at h20
    have rl20 : RelL (NumV CN) (ks.map f) lvs H20 := by
      refine ((((((((((((rl0.ext e3).but b4).but b6).but b8).ext (e9.trans e11)).but b12).ext e13).but b14).ext e15).but b16).but b18).ext e20)
    refine mapRLi Nm.r (SqL.of h20) rl20 n21 (by rw [List.length_map, pm.length_eq]; omega) (fun _ => rfl) (fun i n v H22 hz r e22 Q' k' => ?_) fun H22 e22 q22 => ?_
    · obtain ⟨p, rfl, np⟩ := r
      obtain ⟨dx23, d23⟩ := id np
      refine ⟨_, rfl, _, _, _, rfl, (e22 _ _ d23), _, _, rfl, (np.ext e22), (k' _ (ext_refl _))⟩
    have rne : 0 < ((ks.map f).map Nm.r).length := by
      rw [List.length_map, List.length_map, pm.length_eq]
      exact xg.rows.ne
    have lsz : zs.length ≤ v13.length := by rw [h13'.1, sumsN_len, List.length_map]; omega
    have lsy : ys.length ≤ v15.length := by rw [h15'.1, sumsN_len, List.length_map]; omega
    have ndz := xg.rows.nd
    have ndy := xg.rows.symm.nd
    refine ⟨_, _, rfl, (SqL.of q22), rne, fun v23 h23 h23' => ?_⟩
    refine ⟨_, rfl, _, _, _, _, rfl, ((e20.trans e22) _ _ h18), xcl, x8, (Nat.le_of_ble_eq_true rfl), _, rfl, ?_⟩
    generalize hg24 : upd _ x _ = H24
    obtain ⟨b24, h24⟩ := but_upd ((e20.trans e22) _ _ h18) hg24
    clear hg24
    refine ⟨_, _, _, _, _, rfl, h24, xcl, x2, rfl, _, rfl, _, _, _, _, _, rfl, h24, xcl, x5, rfl, _, _, _, _, rfl, (((((((((((h5.but b6).but b8).ext (e9.trans e11)).but b12).ext e13).but b14).ext e15).but b16).but b18).ext (e20.trans e22)).but b24), (SqT.of (b24.get ((e20.trans e22) _ _ (b18.get (b16.get (e15 _ _ (b14.get h13))))))), ndz, lsz, le, fun p25 n25 => ?_⟩
    generalize hg26 : upd _ p25 _ = H26
    obtain ⟨e26, h26⟩ := new_facts n25 hg26
    clear hg26
    refine ⟨_, rfl, _, _, _, _, _, rfl, (e26 _ _ h24), xcl, x3, rfl, _, rfl, _, _, _, _, _, rfl, (e26 _ _ h24), xcl, x6, rfl, _, _, _, _, rfl, (((((((((((h7.but b8).ext (e9.trans e11)).but b12).ext e13).but b14).ext e15).but b16).but b18).ext (e20.trans e22)).but b24).ext e26), (SqT.of (e26 _ _ (b24.get ((e20.trans e22) _ _ (b18.get (b16.get h15)))))), ndy, lsy, ley, fun p27 n27 => ?_⟩
    generalize hg28 : upd _ p27 _ = H28
    obtain ⟨e28, h28⟩ := new_facts n27 hg28
    clear hg28
    refine ⟨_, rfl, _, _, _, rfl, ((e26.trans e28) _ _ (b24.get ((e20.trans e22) _ _ (b18.get (b16.get (e15 _ _ (b14.get (e13 _ _ (b12.get ((e9.trans e11) _ _ (b8.get (b6.get (b4.get (e3 _ _ d1)))))))))))))), _, _, _, rfl, ((((((((((((((oa.ext e3).but b4).but b6).but b8).ext (e9.trans e11)).but b12).ext e13).but b14).ext e15).but b16).but b18).ext (e20.trans e22)).but b24).ext (e26.trans e28)), fun v29 p29 H29 h29 e29 h29' => ?_⟩
    refine ⟨_, rfl, ⟨_, h29'⟩, fun p30 n30 => ?_⟩
    have r26 : RelL (NumV CN) (sumsN (zs.map f)) v13 H26 := by
      refine (((((((h13'.but b14).ext e15).but b16).but b18).ext (e20.trans e22)).but b24).ext e26)
    have r28 : RelL (NumV CN) (sumsN (ys.map f)) v15 H28 := by
      refine (((((h15'.but b16).but b18).ext (e20.trans e22)).but b24).ext (e26.trans e28))
    have le29 : v29.length ≤ 1000 := by rw [h29.pm.length_eq]; exact le
    refine dcT (fun z => NumV CN (begN zs f z)) (numd_keep _) (numd_ext _) (h29.pm.nodup_iff.mpr ndz) h29' n30 le29 (fun _ => rfl) (fun _ _ _ q => ⟨_, rfl, q⟩) (fun i z H31 hz e31 Q' k' => ?_) fun H31 ys31 e31 q31 r31 => ?_
    · have mz := h29.pm.mem_iff.mp (List.mem_of_getElem? hz)
      obtain ⟨p, gp, np⟩ := starts_get h26 r26 mz
      obtain ⟨dx32, d32⟩ := id np
      refine ⟨_, rfl, _, rfl, _, _, rfl, (gp.ext ((e28.trans e29).trans e31)), (k' _ _ (ext_refl _) ⟨_, ⟨rfl, (np.ext ((e28.trans e29).trans e31))⟩⟩)⟩
    have d31 := numD_of (h29.pm.nodup_iff.mpr ndz) q31 r31
    refine ⟨_, rfl, _, _, _, _, rfl, ((((e26.trans e28).trans e29).trans e31) _ _ h24), xcl, x9, (Nat.le_of_ble_eq_true rfl), _, rfl, ?_⟩
    generalize hg32 : upd _ x _ = H32
    obtain ⟨b32, h32⟩ := but_upd ((((e26.trans e28).trans e29).trans e31) _ _ h24) hg32
    clear hg32
    refine ⟨_, _, _, rfl, (b32.get ((((e26.trans e28).trans e29).trans e31) _ _ (b24.get ((e20.trans e22) _ _ (b18.get (b16.get (e15 _ _ (b14.get (e13 _ _ (b12.get ((e9.trans e11) _ _ (b8.get (b6.get (b4.get (e3 _ _ d1))))))))))))))), _, _, _, rfl, (((((((((((((((oa.ext e3).but b4).but b6).but b8).ext (e9.trans e11)).but b12).ext e13).but b14).ext e15).but b16).but b18).ext (e20.trans e22)).but b24).ext (((e26.trans e28).trans e29).trans e31)).but b32), fun v33 p33 H33 h33 e33 h33' => ?_⟩
    refine ⟨_, rfl, ⟨_, h33'⟩, fun p34 n34 => ?_⟩
    have le33 : v33.length ≤ 1000 := by rw [h33.pm.length_eq]; exact le
    refine dcT (fun z => NumV CN (begN ys f z)) (numd_keep _) (numd_ext _) (h33.pm.nodup_iff.mpr ndz) h33' n34 le33 (fun _ => rfl) (fun _ _ _ q => ⟨_, rfl, q⟩) (fun i z H35 hz e35 Q' k' => ?_) fun H35 ys35 e35 q35 r35 => ?_
    · have mz := xg.rows.pm.mem_iff.mpr (h33.pm.mem_iff.mp (List.mem_of_getElem? hz))
      obtain ⟨p, gp, np⟩ := starts_get h28 r28 mz
      obtain ⟨dx36, d36⟩ := id np
      refine ⟨_, rfl, _, rfl, _, _, rfl, (((gp.ext (e29.trans e31)).but b32).ext (e33.trans e35)), (k' _ _ (ext_refl _) ⟨_, ⟨rfl, (((np.ext (e29.trans e31)).but b32).ext (e33.trans e35))⟩⟩)⟩
    have d35 := numD_of (h33.pm.nodup_iff.mpr ndz) q35 r35
    refine ⟨_, rfl, _, _, _, _, rfl, ((e33.trans e35) _ _ h32), xcl, x10, (Nat.le_of_ble_eq_true rfl), _, rfl, ?_⟩
    generalize hg36 : upd _ x _ = H36
    obtain ⟨b36, h36⟩ := but_upd ((e33.trans e35) _ _ h32) hg36
    clear hg36
    refine ⟨_, _, _, rfl, (b36.get ((e33.trans e35) _ _ (b32.get ((((e26.trans e28).trans e29).trans e31) _ _ (b24.get ((e20.trans e22) _ _ (b18.get (b16.get (e15 _ _ (b14.get (e13 _ _ (b12.get ((e9.trans e11) _ _ (b8.get (b6.get (b4.get (e3 _ _ d1))))))))))))))))), _, _, _, rfl, (((((((((((((((((oa.ext e3).but b4).but b6).but b8).ext (e9.trans e11)).but b12).ext e13).but b14).ext e15).but b16).but b18).ext (e20.trans e22)).but b24).ext (((e26.trans e28).trans e29).trans e31)).but b32).ext (e33.trans e35)).but b36), fun v37 p37 H37 h37 e37 h37' => ?_⟩
    refine ⟨_, rfl, ⟨_, h37'⟩, fun p38 n38 => ?_⟩
    have le37 : v37.length ≤ 1000 := by rw [h37.pm.length_eq]; exact le
    refine dcT (fun z => NumV CN (shfN zs ys f z)) (numd_keep _) (numd_ext _) (h37.pm.nodup_iff.mpr ndz) h37' n38 le37 (fun _ => rfl) (fun _ _ _ q => ⟨_, rfl, q⟩) (fun i z H39 hz e39 Q' k' => ?_) fun H39 ys39 e39 q39 r39 => ?_
    · have mz := h37.pm.mem_iff.mp (List.mem_of_getElem? hz)
      have my := xg.rows.pm.mem_iff.mpr mz
      obtain ⟨p, gp, np⟩ := starts_get h28 r28 my
      obtain ⟨p', gp', np'⟩ := starts_get h26 r26 mz
      have f1 := xg.lo (pos ys z) (by rw [List.length_map]; exact Nat.le_of_lt (pos_lt my))
      have f2 := xg.up (pos zs z) (by rw [List.length_map]; exact Nat.le_of_lt (pos_lt mz))
      have g1 : Good 2000 (begN ys f z) := f1.good.mono (by decide)
      have g2 : Good 2000 (begN zs f z) := f2.good.mono (by decide)
      have g3 : OneRoot (begN ys f z) (begN zs f z) := f1.one f2
      obtain ⟨dx40, d40⟩ := id np
      obtain ⟨dx41, d41⟩ := id np'
      refine ⟨_, rfl, _, rfl, _, _, rfl, (((((gp.ext (e29.trans e31)).but b32).ext (e33.trans e35)).but b36).ext (e37.trans e39)), _, rfl, _, rfl, _, _, rfl, (((((gp'.ext ((e28.trans e29).trans e31)).but b32).ext (e33.trans e35)).but b36).ext (e37.trans e39)), _, _, _, rfl, ((e37.trans e39) _ _ (b36.get ((e33.trans e35) _ _ (b32.get ((e29.trans e31) _ _ d40))))), (.inr ⟨_, ⟨_, ⟨_, ⟨rfl, ((e37.trans e39) _ _ (b36.get ((e33.trans e35) _ _ (b32.get (((e28.trans e29).trans e31) _ _ d41)))))⟩⟩⟩⟩), _, _, _, _, rfl, (((((np.ext (e29.trans e31)).but b32).ext (e33.trans e35)).but b36).ext (e37.trans e39)), (.inl ⟨_, ⟨rfl, (((((np'.ext ((e28.trans e29).trans e31)).but b32).ext (e33.trans e35)).but b36).ext (e37.trans e39))⟩⟩), g1, g2, g3, fun p42 H42 e42 h42 => ?_⟩
      obtain ⟨dx43, d43⟩ := id h42
      refine (k' _ _ e42 ⟨_, ⟨rfl, h42⟩⟩)
    have d39 := numD_of (h37.pm.nodup_iff.mpr ndz) q39 r39
    have rti : RootIs (zs.map f) v23 := by
      constructor
      · rw [List.map_map] at h23
        obtain ⟨z, hz, e⟩ := List.mem_map.mp h23
        exact ⟨f z, List.mem_map.mpr ⟨z, pm.mem_iff.mp hz, rfl⟩, e⟩
      · intro n hn
        obtain ⟨z, hz, rfl⟩ := List.mem_map.mp hn
        exact h23' _ (by rw [List.map_map]; exact List.mem_map.mpr ⟨z, pm.mem_iff.mpr hz, rfl⟩)
    refine ⟨_, rfl, _, _, _, _, rfl, ((e37.trans e39) _ _ h36), xcl, x11, (Nat.le_of_ble_eq_true rfl), ?_⟩
    generalize hg40 : upd _ x _ = H40
    obtain ⟨b40, h40⟩ := but_upd ((e37.trans e39) _ _ h36) hg40
    clear hg40
    refine (k _ (fun _ _ q ne => (b40.keep _ _ ((e37.trans e39) _ _ (b36.keep _ _ ((e33.trans e35) _ _ (b32.keep _ _ ((((e26.trans e28).trans e29).trans e31) _ _ (b24.keep _ _ ((e20.trans e22) _ _ (b18.keep _ _ (b16.keep _ _ (e15 _ _ (b14.keep _ _ (e13 _ _ (b12.keep _ _ ((e9.trans e11) _ _ (b8.keep _ _ (b6.keep _ _ (b4.keep _ _ (e3 _ _ q) ne) ne) ne)) ne)) ne)) ne) ne)) ne)) ne)) ne)) ne)) ?_ ?_)
    refine ⟨_, _, _, _, _, _, _, _, _, _, _, _, h40, ⟨?_, ?_, ?_, ⟨v9, h9, ?_⟩, ⟨v13, ?_, ?_⟩, ⟨v15, ?_, ?_⟩, ?_, rti, ⟨v29, h29, ?_⟩, ⟨v33, h33, ?_⟩, ⟨v37, h37, ?_⟩⟩, xg⟩
    · refine (((((((((((((((((((oa.ext e3).but b4).but b6).but b8).ext (e9.trans e11)).but b12).ext e13).but b14).ext e15).but b16).but b18).ext (e20.trans e22)).but b24).ext (((e26.trans e28).trans e29).trans e31)).but b32).ext (e33.trans e35)).but b36).ext (e37.trans e39)).but b40)
    · refine (((((((((((((((((h5.but b6).but b8).ext (e9.trans e11)).but b12).ext e13).but b14).ext e15).but b16).but b18).ext (e20.trans e22)).but b24).ext (((e26.trans e28).trans e29).trans e31)).but b32).ext (e33.trans e35)).but b36).ext (e37.trans e39)).but b40)
    · refine ((((((((((((((((h7.but b8).ext (e9.trans e11)).but b12).ext e13).but b14).ext e15).but b16).but b18).ext (e20.trans e22)).but b24).ext (((e26.trans e28).trans e29).trans e31)).but b32).ext (e33.trans e35)).but b36).ext (e37.trans e39)).but b40)
    · refine ((((((((((((((d11.but b12).ext e13).but b14).ext e15).but b16).but b18).ext (e20.trans e22)).but b24).ext (((e26.trans e28).trans e29).trans e31)).but b32).ext (e33.trans e35)).but b36).ext (e37.trans e39)).but b40)
    · refine (b40.get ((e37.trans e39) _ _ (b36.get ((e33.trans e35) _ _ (b32.get ((((e26.trans e28).trans e29).trans e31) _ _ (b24.get ((e20.trans e22) _ _ (b18.get (b16.get (e15 _ _ (b14.get h13))))))))))))
    · refine ((((((r26.ext ((e28.trans e29).trans e31)).but b32).ext (e33.trans e35)).but b36).ext (e37.trans e39)).but b40)
    · refine (b40.get ((e37.trans e39) _ _ (b36.get ((e33.trans e35) _ _ (b32.get ((((e26.trans e28).trans e29).trans e31) _ _ (b24.get ((e20.trans e22) _ _ (b18.get (b16.get h15))))))))))
    · refine ((((((r28.ext (e29.trans e31)).but b32).ext (e33.trans e35)).but b36).ext (e37.trans e39)).but b40)
    · refine ((((((((((((nlq.but b14).ext e15).but b16).but b18).ext (e20.trans e22)).but b24).ext (((e26.trans e28).trans e29).trans e31)).but b32).ext (e33.trans e35)).but b36).ext (e37.trans e39)).but b40)
    · refine (((((d31.but b32).ext (e33.trans e35)).but b36).ext (e37.trans e39)).but b40)
    · refine (((d35.but b36).ext (e37.trans e39)).but b40)
    · refine (d39.but b40)
    · exact ⟨_, _, _, _, _, _, _, _, _, _, _, h40⟩
  · exact F.binds (fun _ _ _ _ _ _ us hl => match us, hl with | [_, _, _], _ => rfl)
end
end My
namespace My
open PySem PySem.Spec PyProof.Rows L2
def itT (l : Addr) : Obj := { cls := .type "tuple_iterator", data := .fields #[.ref l, .int 0 0] }
/-- a tuple's iterator that stands at its begin -/
def ItTO (l it : Addr) : HO := .ext fun h => h.get? it = some (itT l)
theorem itTO_ok {P : Program} {w : World} {H : Hp} {h : Heap} {l it : Addr} (e : h.get? it = some (itT l)) : ObjOk P w H h it (ItTO l it) := ⟨e, ⟨_, e⟩, fun h1 h2 q k => k _ q⟩
def rIterTN (K : PySem.W.Frag) (n : Nat) : List V → Hp → VK → Prop := fun xs H Q => ∃ (l : Addr) (zs : List V), xs = [.ref l] ∧ SqT K H l zs ∧ ∀ it, H it = none → n ≤ it → Q (.ref it) (upd H it (ItTO l it))
theorem call_iterTN {X : Cx} : CallR X (.builtin "iter") (rIterTN X.K X.s_0.heap.objs.size) := by
  intro pins s σ H xs us Q I r h
  obtain ⟨l, zs, rfl, hq, q⟩ := h
  obtain ⟨u, rfl, ru⟩ := vals1 r
  cases ru
  obtain ⟨its, rv, pl, hz⟩ := I.tuple hq
  have isT : s.heap.IsTuple l its.toArray := by obtain ⟨o, ho, hcl, n, hd⟩ := pl; exact ⟨o, ho, hcl, n, hd⟩
  refine Calls.call_function_entry (by decide +kernel) (by decide +kernel) PySem.W.kdk_entry_iter (PySem.W.kdk_args_iter _) ?_
  unfold Builtin.«iter»
  refine wpAny_bind (m := someArgs "iter" 1 2 _) (wpAny_of_eq (a := [Value.ref l]) (by first | rfl | kernel_rfl!) ?_)
  show wpAny _ _ (pyIter (.ref l) >>= _) _ _ _
  refine wpAny_bind (wpAny_pyIter_tuple isT ?_)
  exact wpAny_pure ⟨_, rfl, ⟨.ref s.heap.objs.size, _, I.laid (t' := s.toks) (fun b u e => Heap.get?_push_of_some _ e) (Nat.le_refl _) (itTO_ok (Heap.get?_push_size _ rfl)), rfl, q _ (I.hok.fresh (Nat.le_refl _)) I.sz⟩⟩
/-- a promise that knows how great the heap is at the call -/
structure FnSz (P : Program) (w : World) (K : PySem.W.Frag) (mg : Str → Option Value) (base : Heap) (CX : CXT) (k : Nat) (f : Addr) (fd : FuncData) (ps : List Str) (sp : Nat → Sp) : Prop where
  run : ∀ (A : Around) (outer : List Env) (s : Shared) (H : Hp) (args : Args) (us : List Value) (vs : List V) (Q : VK) (E : XK), Room k A → Env0 P w K mg base A outer s H → BindsTo s fd args (ps.zip us) → Vals vs us → sp s.heap.objs.size vs H Q E →
    codeAny (model P w) A (.call (.ref f) args) (CR CX outer P w H s Q E) s
theorem fnSz_of {CX : CXT} {P : Program} {w : World} {K : PySem.W.Frag} {mg : Str → Option Value} {base : Heap} {k : Nat} {f : Addr} {name qual : Str} {params : Arguments} {body : List Stmt} {scope : Scope} {dV kV doc pm cdv ct oc : Value} {an od : Option Addr}
    {osl : Array (Option Value)} {N ps : List Str} {sp : Nat → Sp} (lk : K.lookup f = some ⟨oc, od, .func (PySem.W.fnOf name qual params body scope dV kV doc pm an cdv ct), osl⟩) (hcd : PySem.W.codeIn K cdv qual = true) (S : FnScope N ps scope)
    (len : ∀ n vs H Q E, sp n vs H Q E → vs.length = ps.length)
    (hbody : ∀ (A : Around) (outer : List Env) (s : Shared) (H : Hp) (vs : List V) (Q : VK) (E : XK), Room k (A.deeper (envOfC qual scope s.heap.objs.size f cdv)) → sp s.heap.objs.size vs H Q E →
      ∃ t, PSs (cxOf CX P w K mg base N qual scope f cdv A outer s H E) body t ∧ t { nx := fun _ H' => Q .non H', rt := Q } (start N vs) H) :
    FnSz P w K mg base CX (k + 1) f (PySem.W.fnOf name qual params body scope dV kV doc pm an cdv ct) ps sp := by
  refine ⟨fun A outer s H args us vs Q E hr e0 hb r hsp => ?_⟩
  have hl := len _ _ _ _ _ hsp
  have KX : K.In s.heap := e0.mod.kin.keeps fun b o e => (e0.bs b o e).1
  have lim : s.heap.NoLimit := e0.mod.nolimit.keeps fun b o e => (e0.bs b o e).1
  have hkind : ∀ y ∈ ps.zip us, scope.names.lookup y.1 = some .local ∨ (scope.names.lookup y.1 = some .cell ∧ ((cellsFrom (s.heap.objs.size + 1) scope.names []).lookup y.1).isSome = true) := fun ⟨n, v⟩ hy => by
    rcases S.par n (List.of_mem_zip hy).1 with q | q
    · exact .inl q
    · exact .inr ⟨q, PySem.W.cellsFrom_some _ _ _ (.inl q)⟩
  refine codeAny_call_function hr.depth (KX _ _ lk) rfl S.co S.gen rfl (PySem.W.codeRec_of KX hcd) (hb _ _ _ _ ?_)
  refine wpAny_newFunctionEnv_cells S.kind hkind fun env he s1 x => ?_
  subst he
  refine ⟨lim.keeps x.toInCall.keep, codeAny_func ?_⟩
  obtain ⟨t, ht, hq⟩ := hbody A outer s H vs Q E (hr.deeper _) hsp
  have I : Inv (cxOf CX P w K mg base N qual scope f cdv A outer s H E) [] (start N vs) H s1 := inv_start S hr.hd e0 hl r x
  refine wpAny_mono (ht.run [] s1 (start N vs) H _ I hq) (fun fl s' hs => ?_) fun e s' hs => hs
  have fin : ∀ {σ' : L2.St} {H' : Hp} {v : V} {u : Value}, Inv (cxOf CX P w K mg base N qual scope f cdv A outer s H E) [] σ' H' s' → RelV v u → Q v H' → CE outer P w H s Q u s' :=
    fun {σ' H' v u} J rv q => ⟨v, H', J.os, J.bare, J.base, J.hok, rv, q⟩
  cases fl with
  | ret u =>
    obtain ⟨v, σ', H', J, rv, q⟩ := hs
    exact fin J rv q
  | next =>
    obtain ⟨σ', H', J, q⟩ := hs
    exact fin (v := V.non) (u := Value.none) J rfl q
  | brk =>
    obtain ⟨_, _, _, q⟩ := hs
    exact False.elim q
  | cont =>
    obtain ⟨_, _, _, q⟩ := hs
    exact False.elim q
/-- a class with an own __iter__, whose def keeps sp -/
structure ItrAt (P : Program) (w : World) (K : PySem.W.Frag) (mg : Str → Option Value) (base : Heap) (k : Nat) (C : Addr) (sp : Nat → Sp) : Prop where
  ex : ∃ (f : Addr) (fd : FuncData), PySem.W.findIn K (.ref C) "__iter__" = some (some (.ref f)) ∧ PySem.W.isFn K (.ref f) = true ∧ Binds K fd ["self"] [] ∧ FnSz P w K mg base CX0 k f fd ["self"] sp
/-- for x in e, e an instance of such a class: the tuple at l is walked -/
def iOwnT (K : PySem.W.Frag) (C : Addr) (sp : Nat → Sp) (te : TE) : TI := fun σ H R => te σ H fun x H1 => ∃ a dx fs, x = .ref a ∧ H1 a = some (.ins C dx fs) ∧
  ∀ n, sp n [.ref a] H1 (fun v H2 => ∃ it l, v = .ref it ∧ n ≤ it ∧ H2 it = some (ItTO l it) ∧ R (Itt K l) (ItX.dropH H2 it)) E0
section
variable {X : Cx} {k : Nat} {C : Addr} {sp : Nat → Sp} {e tg : Expr} {te : TE}
theorem pi_ownT (F : ItrAt X.prog X.w X.K X.mg X.base k C sp) (hr : Room k X.A) (he : PE X e te) : PI X tg e (iOwnT X.K C sp te) := by
  obtain ⟨f, fd, hs, hf, hb, G⟩ := F.ex
  refine ⟨fun pins s σ H R I h => ?_⟩
  refine thn (he.run pins s σ H _ I h) fun u s1 ⟨x, H1, I1, rx, a, dx, fs, ex, ea, hsp⟩ => ?_
  subst ex
  cases rx
  obtain ⟨mA, O, _⟩ := ins_get I1.hok ea
  obtain ⟨od, J, _⟩ := O.look
  obtain ⟨m, hF⟩ := I1.fr
  refine PySem.W.owit_iter hF I1.ok.mod.kin J hs hf ?_
  have hl : ([Value.ref a] : List Value).length = (["self"] : List Str).length := rfl
  have bd : BindsTo s1 fd ⟨[.ref a], []⟩ ((["self"] : List Str).zip [.ref a]) := by
    have z := hb s1 [.ref a] I1.kIn (by rw [List.append_nil]; exact hl)
    rw [List.append_nil] at z
    exact z
  refine wpAny_call (codeAny_mono (G.run X.A X.stack s1 H1 ⟨[.ref a], []⟩ [.ref a] [.ref a] _ E0 hr I1.env0 bd (.cons rfl .nil) (hsp s1.heap.objs.size)) fun r2 s2 hq => ?_)
  match r2, hq with
  | .error er, hq => exact pass0 pins σ H1 _ er s2 I1 hq
  | .ok (.ret u2), hq =>
    obtain ⟨v2, H2, I2, r3, it, l, ev, new, hi, q⟩ := I1.after hq
    subst ev
    cases r3
    have eo : s2.heap.get? it = some (itT l) := (I2.hok it _ hi).1
    have st : s2.heap.IsTupleIter it l 0 := ⟨_, eo, rfl, rfl⟩
    unfold PySem.W.OwitIt
    refine wpAny_specialOf (name := Str.ofString "__next__") st.typeIs PySem.F.slot_tuple_iterator_next.lookup ?_
    have hi' := hi
    unfold ItTO at hi'
    refine ⟨it, [it], _, _, ItX.dropH H2 it, rfl, ItX.inv_drop I2 hi', turn_tuple l it, st, fun b hb => ?_, q⟩
    have e : b = it := by simpa using hb
    rw [e]
    exact ItX.inv_fp I2 hi (Nat.le_trans I1.sz new)
end
end My
namespace My
open PySem PySem.Spec PyProof.Rows L2
local macro_rules | `(tactic| walk_at "side") => `(tactic| first | assumption | decide | exact Or.inl ⟨by decide, by decide⟩ | exact Or.inr ⟨by decide, by decide⟩ | exact ⟨by decide, by decide, by decide⟩ | omega | (unfold CMulW; decide +kernel) | (dsimp only; first | assumption | omega | decide +kernel) | exact len_ok (Nat.le_of_ble_eq_true rfl) | fail "side")
local macro_rules | `(tactic| walk_at "rd") => `(tactic| first
  | refine ⟨_, _, _, _, rfl, rfl, SqL.of upd_same, atI_nat (j := 0) rfl, ?_⟩ | refine ⟨_, _, _, _, rfl, rfl, SqL.of upd_same, atI_nat (j := 1) rfl, ?_⟩ | refine ⟨_, _, _, _, rfl, rfl, SqL.of upd_same, atI_nat (j := 2) rfl, ?_⟩
  | refine ⟨_, _, _, _, rfl, rfl, upd_same, rfl, ?_⟩
  | refine ⟨_, _, rfl, rfl, ?_⟩ | refine ⟨_, rfl, ?_⟩ | refine ⟨_, _, rfl, ?_⟩ | refine Or.inl ⟨_, rfl, ?_⟩ | refine Or.inr ⟨_, rfl, ?_⟩ | refine ⟨(by walk_at "side"), ?_⟩ | fail "rd")
abbrev s_oiter : Stmt := inClass (top 40) 18
theorem sc_oiter : FnScope ["self"] ["self"] (defScope s_oiter) := ⟨rfl, rfl, rfl, by decide +kernel, rfl, by decide +kernel, by decide +kernel⟩
def spItr (K : PySem.W.Frag) (C : Addr) : Nat → Sp := fun n vs H Q _ => ∃ o zs ys, vs = [.ref o] ∧ OrdAt K C H o zs ys ∧ ∀ it l, H it = none → n ≤ it → SqT K H l (zs.map V.str) → Q (.ref it) (upd H it (ItTO l it))
section
variable {P : Program} {w : World} {K : PySem.W.Frag} {mg : Str → Option Value} {base : Heap} {C : Addr}
theorem ok_oiter (b_iter : mg "iter" = none) (D : SpT K C "__iter__" "Order.__iter__" s_oiter) (OT : OrdT K mg C) : ItrAt P w K mg base 1 C (spItr K C) := by
  obtain ⟨f, fd, hs, hf, F⟩ := D.ex
  refine ⟨f, fd, hs, hf, F.binds (fun _ _ _ _ _ _ us hl => match us, hl with | [_], _ => rfl), ?_⟩
  obtain ⟨oc, od, kV, doc, pm, an, cdv, ct, osl, rfl, lk, hcd⟩ := F.ex
  refine fnSz_of lk hcd sc_oiter (fun n vs H Q E h => ?_) fun A outer s H vs Q E hr h => ?_
  · obtain ⟨o, zs, ys, rfl, _⟩ := h
    rfl
  obtain ⟨o, zs, ys, rfl, ⟨dx, a, b, c, e, ha, hb, hc, ro⟩, k⟩ := h
  refine ⟨_, PSs.nox (pss_one (ps_ret (pe_callB call_iterTN (by rfl) b_iter (by decide +kernel) (pa_cons (pe_fld (pv 0) rfl) pa_nil)))), ?_⟩
  exact ⟨_, rfl, o, C, dx, _, _, rfl, e, OT.cl, OT.nA, ofs_a a b c, a, _, rfl, ha, fun it h1 h2 => k it a h1 h2 ha⟩
end
end My
namespace My
open PySem PySem.Spec PyProof.Rows L2
section
variable {X : Cx} {CX : CXT} {k : Nat} {f C : Addr} {fd : FuncData} {ps : List Str} {sp : Sp} {E : XK}
def rLenOwn (C : Addr) (sp : Sp) (E : XK) : List V → Hp → VK → Prop := fun xs H Q => ∃ a dx fs, xs = [.ref a] ∧ H a = some (.ins C dx fs) ∧ sp [.ref a] H (fun v H' => ∃ n : Nat, v = .int (n : Nat) ∧ n ≤ 1000000 ∧ Q (.int (n : Nat)) H') E
theorem call_lenOwn (hs : PySem.W.findIn X.K (.ref C) "__len__" = some (some (.ref f))) (hf : PySem.W.isFn X.K (.ref f) = true) (F : FnOk X.prog X.w X.K X.mg X.base CX k f fd ps sp) (hr : Room (k + 1) X.A) (hb : Binds X.K fd ps []) (hx : Passes CX X E) : CallR X (.builtin "len") (rLenOwn C sp E) := by
  intro pins s σ H xs us Q I r h
  obtain ⟨a, dx, fs, rfl, ea, hsp⟩ := h
  rw [Vals.ref1 r]
  obtain ⟨mA, O, _⟩ := ins_get I.hok ea
  obtain ⟨od, J, _⟩ := O.look
  obtain ⟨m, hF⟩ := I.fr
  refine PySem.W.len_K hF I.ok.mod.kin J hs hf ?_
  refine wpAny_call ?_
  have hl : ([Value.ref a] : List Value).length = ps.length := F.len _ _ _ _ hsp
  have bd : BindsTo s fd ⟨[.ref a], []⟩ (ps.zip [.ref a]) := by
    have z := hb s [.ref a] I.kIn (by rw [List.append_nil]; exact hl)
    rw [List.append_nil] at z
    exact z
  refine codeAny_mono (F.run X.A.in1 X.stack s H ⟨[.ref a], []⟩ [.ref a] [.ref a] _ E hr.in1 I.env0.in1 bd (.cons rfl .nil) hsp) fun r2 s2 hq => ?_
  match r2, hq with
  | .error er, hq => exact hx pins σ H _ er s2 I hq
  | .ok (.ret u), hq =>
    obtain ⟨z, H', I', rz, n, ez, hn, q⟩ := I.after hq
    subst ez
    obtain ⟨t, rfl⟩ := rz
    exact ⟨⟨by omega, by omega⟩, .int (n : Nat), H', I'.tok _, ⟨_, rfl⟩, q⟩
/-- v in x -/
def rInOwn (C : Addr) (sp : Sp) (E : XK) (g : Bool → Bool) : R2 := fun y x H Q => ∃ a dx fs, x = .ref a ∧ H a = some (.ins C dx fs) ∧ sp [.ref a, y] H (fun v H' => ∃ b, v = .bl b ∧ Q (.bl (g b)) H') E
theorem op_inOwn (hs : PySem.W.findIn X.K (.ref C) "__contains__" = some (some (.ref f))) (hf : PySem.W.isFn X.K (.ref f) = true) (F : FnOk X.prog X.w X.K X.mg X.base CX k f fd ps sp) (hr : Room k X.A) (hb : Binds X.K fd ps []) (hx : Passes CX X E) : OpR X (compareOp .In) (rInOwn C sp E id) := by
  intro pins s σ H y x u v Q I ry rx h
  obtain ⟨a, dx, fs, rfl, ea, hsp⟩ := h
  cases rx
  obtain ⟨mA, O, _⟩ := ins_get I.hok ea
  obtain ⟨od, J, _⟩ := O.look
  obtain ⟨m, hF⟩ := I.fr
  refine PySem.W.in_K hF I.ok.mod.kin J hs hf ?_
  refine thn (run_fn (us := [.ref a, u]) (vs := [.ref a, y]) (dvs := []) (ds := []) F hr hb .nil hx I (.cons rfl (.cons ry .nil)) hsp) fun w s' hw => ?_
  obtain ⟨z, H', I', rz, b, ez, q⟩ := hw
  subst ez
  cases rz
  exact wpAny_truthy_bool ⟨.bl b, H', I', rfl, q⟩
end
end My
namespace My
open PySem PySem.Spec PyProof.Rows L2
structure NeAt (P : Program) (w : World) (K : PySem.W.Frag) (mg : Str → Option Value) (base : Heap) (k : Nat) (C : Addr) (sp : Sp) : Prop where
  ex : ∃ (f : Addr) (fd : FuncData), NeK K C f ∧ Binds K fd ["self", "other"] [] ∧ FnOk P w K mg base CX0 k f fd ["self", "other"] sp
section
variable {X : Cx} {k : Nat} {C : Addr} {sp : Sp}
theorem neA (F : NeAt X.prog X.w X.K X.mg X.base k C sp) (hr : Room (k + 1) X.A) : OpR X (compareOp .NotEq) (rOwnNe C sp E0) := by
  obtain ⟨f, fd, T, hb, G⟩ := F.ex
  exact op_ownNe T G hr hb pass0
end
/-- the class has an own == and no own != -/
structure NEqT (K : PySem.W.Frag) (C : Addr) : Prop where
  ex : ∃ f, NeK K C f ∧ PySem.W.findIn K (.ref C) "__eq__" = some (some (.ref f))
section
variable {P : Program} {w : World} {K : PySem.W.Frag} {mg : Str → Option Value} {base : Heap} {C : Addr}
theorem ok_one (NE : NEqT K C) (S_eq : SpAt P w K mg base 1 C "__eq__" ["self", "other"] (spOEq K C)) : NeAt P w K mg base 1 C (spOEq K C) := by
  obtain ⟨f1, nk, e1⟩ := NE.ex
  obtain ⟨f2, fd2, hs, hf, hb, Gk⟩ := S_eq.ex
  have e := hs.symm.trans e1
  cases e
  exact ⟨f1, fd2, nk, hb, Gk⟩
end
section
variable {X : Cx} {k : Nat} {C : Addr} {x : Str} {ps : List Str} {sp : Sp} {p pos apos : Pos} {e o : Expr} {es : List Expr} {t : TA} {to : TE}
theorem methA {pl : Sem Bool} (F : MethAt X.prog X.w X.K X.mg X.base k C x ps sp) (c : Cls X.K C) (hr : Room k X.A) (he : PE X o to) (ha : PA X (e :: es) t)
    (hst : starEach (e :: es) X.env = (false, eval e X.env) :: starEach es X.env := by rfl) (hpl : (backTo pos (starEach es X.env)).any (·.1) = false := by rfl)
    (ht : eval (.Call (.Attribute o x apos) (e :: es) [] pos) X.env = (do
      let ov ← eval o X.env
      standAt apos.atName
      let (f, first) ← holding [ov] (getMethod ov x pl)
      callWith pos f first (backTo pos (starEach (e :: es) X.env)) (backToKw pos (keywordEach [] X.env))) := by rfl) : PE X (.Call (.Attribute o x apos) (e :: es) [] pos) (tMeth C x sp [] E0 to t) := by
  obtain ⟨f, fd, M, hb, G⟩ := F.ex
  exact pe_meth he c M G hr hb .nil pass0 ha hst hpl ht
theorem meth0A {pl : Sem Bool} (F : MethAt X.prog X.w X.K X.mg X.base k C x ps sp) (c : Cls X.K C) (hr : Room k X.A) (he : PE X o to)
    (ht : eval (.Call (.Attribute o x apos) [] [] pos) X.env = (do
      let ov ← eval o X.env
      standAt apos.atName
      let (f, first) ← holding [ov] (getMethod ov x pl)
      callWith pos f first (backTo pos (starEach [] X.env)) (backToKw pos (keywordEach [] X.env))) := by rfl) : PE X (.Call (.Attribute o x apos) [] [] pos) (tMeth C x sp [] E0 to tNil) := by
  obtain ⟨f, fd, M, hb, G⟩ := F.ex
  exact pe_meth0 he c M G hr hb .nil pass0 ht
theorem lenA (F : SpAt X.prog X.w X.K X.mg X.base k C "__len__" ["self"] sp) (hr : Room (k + 1) X.A) : CallR X (.builtin "len") (rLenOwn C sp E0) := by
  obtain ⟨f, fd, hs, hf, hb, G⟩ := F.ex
  exact call_lenOwn hs hf G hr hb pass0
theorem inA (F : SpAt X.prog X.w X.K X.mg X.base k C "__contains__" ["self", "value"] sp) (hr : Room k X.A) : OpR X (compareOp .In) (rInOwn C sp E0 id) := by
  obtain ⟨f, fd, hs, hf, hb, G⟩ := F.ex
  exact op_inOwn hs hf G hr hb pass0
end
end My
namespace My
open PySem PySem.Spec PyProof.Rows L2
local macro_rules | `(tactic| walk_at "side") => `(tactic| first | assumption | decide | exact Or.inl ⟨by decide, by decide⟩ | exact Or.inr ⟨by decide, by decide⟩ | exact ⟨by decide, by decide, by decide⟩ | omega | (unfold CMulW; decide +kernel) | (dsimp only; first | assumption | omega | decide +kernel) | exact len_ok (Nat.le_of_ble_eq_true rfl) | fail "side")
local macro_rules | `(tactic| walk_at "rd") => `(tactic| first
  | refine ⟨_, _, _, _, rfl, rfl, SqL.of upd_same, atI_nat (j := 0) rfl, ?_⟩ | refine ⟨_, _, _, _, rfl, rfl, SqL.of upd_same, atI_nat (j := 1) rfl, ?_⟩ | refine ⟨_, _, _, _, rfl, rfl, SqL.of upd_same, atI_nat (j := 2) rfl, ?_⟩
  | refine ⟨_, _, _, _, rfl, rfl, upd_same, rfl, ?_⟩
  | refine ⟨_, _, rfl, rfl, ?_⟩ | refine ⟨_, rfl, ?_⟩ | refine ⟨_, _, rfl, ?_⟩ | refine Or.inl ⟨_, rfl, ?_⟩ | refine Or.inr ⟨_, rfl, ?_⟩ | refine ⟨(by walk_at "side"), ?_⟩ | fail "rd")
section
variable {P : Program} {w : World} {K : PySem.W.Frag} {mg : Str → Option Value} {base : Heap} {C : Addr}
theorem RowsOk.rev {zs ys : List Str} (h : RowsOk zs ys) : RowsOk zs.reverse ys.reverse :=
  ⟨fun z hz => h.nm z (List.mem_reverse.mp hz), (List.nodup_iff_pairwise_ne.mpr (List.pairwise_reverse.mpr ((List.nodup_iff_pairwise_ne.mp h.nd).imp fun q => q.symm))), (List.reverse_perm ys).trans (h.pm.trans (List.reverse_perm zs).symm), by rw [List.length_reverse]; exact h.ne, by rw [List.length_reverse]; exact h.le⟩
end
end My
namespace My
open PySem PySem.Spec PyProof.Rows L2
local macro_rules | `(tactic| walk_at "side") => `(tactic| first | assumption | decide | exact Or.inl ⟨by decide, by decide⟩ | exact Or.inr ⟨by decide, by decide⟩ | exact ⟨by decide, by decide, by decide⟩ | omega | (unfold CMulW; decide +kernel) | (dsimp only; first | assumption | omega | decide +kernel) | exact len_ok (Nat.le_of_ble_eq_true rfl) | fail "side")
local macro_rules | `(tactic| walk_at "rd") => `(tactic| first
  | refine ⟨_, _, _, _, rfl, rfl, SqL.of upd_same, atI_nat (j := 0) rfl, ?_⟩ | refine ⟨_, _, _, _, rfl, rfl, SqL.of upd_same, atI_nat (j := 1) rfl, ?_⟩ | refine ⟨_, _, _, _, rfl, rfl, SqL.of upd_same, atI_nat (j := 2) rfl, ?_⟩
  | refine ⟨_, _, _, _, rfl, rfl, upd_same, rfl, ?_⟩
  | refine ⟨_, _, rfl, rfl, ?_⟩ | refine ⟨_, rfl, ?_⟩ | refine ⟨_, _, rfl, ?_⟩ | refine Or.inl ⟨_, rfl, ?_⟩ | refine Or.inr ⟨_, rfl, ?_⟩ | refine ⟨(by walk_at "side"), ?_⟩ | fail "rd")
abbrev s_xorder : Stmt := inClass (top 46) 2
theorem sc_xorder : FnScope ["self"] ["self"] (defScope s_xorder) := ⟨rfl, rfl, rfl, by decide +kernel, rfl, by decide +kernel, by decide +kernel⟩
abbrev s_xlengths : Stmt := inClass (top 46) 3
theorem sc_xlengths : FnScope ["self"] ["self"] (defScope s_xlengths) := ⟨rfl, rfl, rfl, by decide +kernel, rfl, by decide +kernel, by decide +kernel⟩
abbrev s_xshifts : Stmt := inClass (top 46) 8
theorem sc_xshifts : FnScope ["self"] ["self"] (defScope s_xshifts) := ⟨rfl, rfl, rfl, by decide +kernel, rfl, by decide +kernel, by decide +kernel⟩
abbrev s_xiter : Stmt := inClass (top 46) 20
theorem sc_xiter : FnScope ["self"] ["self"] (defScope s_xiter) := ⟨rfl, rfl, rfl, by decide +kernel, rfl, by decide +kernel, by decide +kernel⟩
abbrev s_reqx : Stmt := top 51
theorem sc_reqx : FnScope ["value"] ["value"] (defScope s_reqx) := ⟨rfl, rfl, rfl, by decide +kernel, rfl, by decide +kernel, by decide +kernel⟩
section
variable {X : Cx} {k : Nat} {C CN CX : Addr} {p pos : Pos} {e : Expr} {es : List Expr} {t : TA}
theorem mkX (F : XInitAt X.prog X.w X.K X.mg X.base k CX (spXInit X.K C CN CX)) (XT : XchT X.K X.mg CX) (hr : Room (k + 1) X.A) (ha : PA X (e :: es) t) (hg : Gl X "Exchange" := by rfl)
    (he : starEach (e :: es) X.env = (false, eval e X.env) :: starEach es X.env := by rfl) (hpl : (backTo pos (starEach es X.env)).any (·.1) = false := by rfl) : PE X (.Call (.Name "Exchange" p) (e :: es) [] pos) (tMake CX (spXInit X.K C CN CX) [] E0 t) := by
  obtain ⟨f, fd, M, G, hb⟩ := F.ex
  exact pe_make M G hr hg XT.g hb .nil pass0 ha (by decide) he hpl
end
theorem mkX_useR {K : PySem.W.Frag} {C CN CX o d : Addr} {H : Hp} {E : XK} {zs ys ks : List Str} {f : Str → Nm} {R : Int} {W : Addr → Hp → Prop} {args : Addr → List V} (hargs : ∀ x, args x = [.ref x, .ref o, .ref d]) (oa : OrdAt K C H o zs ys) (hd : NumD CN H d ks f) (pm : ks.Perm zs) (xg : XG R zs ys f)
    (k : ∀ x H', Ext H H' → XchAt K C CN CX H' x R zs ys f → W x H') : ∀ x dx, H x = none → H dx = none → dx ≠ x → spXInit K C CN CX (args x) (upd (upd H dx (.own x)) x (.ins CX dx [])) (fun v H2 => v = .non ∧ W x H2) E := fun x dx hx hn ne => by
  have e1 : Ext H (upd (upd H dx (.own x)) x (.ins CX dx [])) := ext_mut (ext_new (ext_refl H) hn) hx
  exact ⟨x, dx, o, d, zs, ys, ks, f, R, hargs x, upd_same, oa.ext e1, hd.ext e1, pm, xg, fun H' kp xa _ => ⟨rfl, k x H' (fun c o q => kp c o (e1 c o q) (ne_of_none q hx)) xa⟩⟩
theorem mkX_useO {K : PySem.W.Frag} {C CN CX o d : Addr} {H : Hp} {E : XK} {zs ys ks : List Str} {f : Str → Nm} {R : Int} {W : Addr → Hp → Prop} {args : Addr → List V} (hargs : ∀ x, args x = [.ref x, .ref o, .ref d]) (oa : OrdAt K C H o zs ys) (hd : NumD CN H d ks f) (pm : ks.Perm zs) (xg : XG R zs ys f)
    (k : ∀ x H', Ext H H' → XchAt K C CN CX H' x R zs ys f → XOrd CX H' x o → W x H') : ∀ x dx, H x = none → H dx = none → dx ≠ x → spXInit K C CN CX (args x) (upd (upd H dx (.own x)) x (.ins CX dx [])) (fun v H2 => v = .non ∧ W x H2) E := fun x dx hx hn ne => by
  have e1 : Ext H (upd (upd H dx (.own x)) x (.ins CX dx [])) := ext_mut (ext_new (ext_refl H) hn) hx
  exact ⟨x, dx, o, d, zs, ys, ks, f, R, hargs x, upd_same, oa.ext e1, hd.ext e1, pm, xg, fun H' kp xa xo => ⟨rfl, k x H' (fun c o q => kp c o (e1 c o q) (ne_of_none q hx)) xa xo⟩⟩
theorem XchAt.ext {K : PySem.W.Frag} {C CN CX x : Addr} {H H' : Hp} {R : Int} {zs ys : List Str} {f : Str → Nm} (h : XchAt K C CN CX H x R zs ys f) (e : Ext H H') : XchAt K C CN CX H' x R zs ys f := by
  obtain ⟨dx, o, a, b, dl, t1, t2, tt, r, d1, d2, d3, q, ⟨p1, p2, p3, ⟨n4, s4, p4⟩, ⟨v5, p5, r5⟩, ⟨v6, p6, r6⟩, p7, p8, ⟨n9, s9, p9⟩, ⟨n10, s10, p10⟩, ⟨n11, s11, p11⟩⟩, g⟩ := h
  exact ⟨dx, o, a, b, dl, t1, t2, tt, r, d1, d2, d3, e _ _ q, ⟨p1.ext e, p2.ext e, p3.ext e, ⟨n4, s4, p4.ext e⟩, ⟨v5, e _ _ p5, r5.ext e⟩, ⟨v6, e _ _ p6, r6.ext e⟩, p7.ext e, p8, ⟨n9, s9, p9.ext e⟩, ⟨n10, s10, p10.ext e⟩, ⟨n11, s11, p11.ext e⟩⟩, g⟩
theorem XchAt.xg {K : PySem.W.Frag} {C CN CX x : Addr} {H : Hp} {R : Int} {zs ys : List Str} {f : Str → Nm} (h : XchAt K C CN CX H x R zs ys f) : XG R zs ys f := by
  obtain ⟨_, _, _, _, _, _, _, _, _, _, _, _, _, _, g⟩ := h
  exact g
theorem XG.symm {R : Int} {zs ys : List Str} {f : Str → Nm} (h : XG R zs ys f) : XG R ys zs f :=
  ⟨h.rows.symm, fun z hz => h.fit z (h.rows.pm.mem_iff.mp hz), fun z hz => h.pos z (h.rows.pm.mem_iff.mp hz), h.lo, h.up⟩
theorem numD_mk {CN d : Addr} {H : Hp} {ks : List Str} {vs : List V} {f : Str → Nm} (h : H d = some (.dK (zkV ks vs))) (al : AllNum CN H vs (ks.map f)) (nd : ks.Nodup) : NumD CN H d ks f := ⟨⟨vs, h, al⟩, nd⟩
/-- what isinstance finds of the class -/
structure XchI (K : PySem.W.Frag) (CX : Addr) : Prop where
  kX : PySem.W.kitOne K (.ref CX) (.ref CX) = some true
  ha : PySem.W.findIn K (.ref CX) "__class__" = some (some (.builtin "object.__class__"))
  hn : PySem.W.specialIn K (.builtin "object.__class__") "__get__" = some (some (.builtin "getset_descriptor.__get__"))
  htk : PySem.W.takesIn K (.builtin "object.__class__") = some true
  hm : PySem.W.mroIn K CX (.type "object") = some true
theorem XchAt.ty {K : PySem.W.Frag} {C CN CX x : Addr} {H : Hp} {R : Int} {zs ys : List Str} {f : Str → Nm} (h : XchAt K C CN CX H x R zs ys f) (c : Cls K CX) (I : XchI K CX) : TyX K H (.ref x) (.ref CX) := by
  obtain ⟨_, _, _, _, _, _, _, _, _, _, _, _, e, _⟩ := h
  exact .base (.ins e c I.ha I.hn I.htk I.hm)
def spXOrder (CX : Addr) : Sp := fun vs H Q _ => ∃ x o, vs = [.ref x] ∧ XOrd CX H x o ∧ Q (.ref o) H
def spXDict (K : PySem.W.Frag) (C CN CX : Addr) (g : List Str → List Str → (Str → Nm) → Str → Nm) : Sp := fun vs H Q _ => ∃ x R zs ys f, vs = [.ref x] ∧ XchAt K C CN CX H x R zs ys f ∧ ∀ d ns H', Ext H H' → NumD CN H' d ns (g zs ys f) → SortOf zs ns → Q (.ref d) H'
def spXItr (K : PySem.W.Frag) (C CN CX : Addr) : Nat → Sp := fun n vs H Q _ => ∃ x R zs ys f, vs = [.ref x] ∧ XchAt K C CN CX H x R zs ys f ∧ ∀ it l, H it = none → n ≤ it → SqT K H l (zs.map V.str) → Q (.ref it) (upd H it (ItTO l it))
def spReqX (K : PySem.W.Frag) (C CN CX : Addr) : Sp := fun vs H Q _ => ∃ x R zs ys f, vs = [.ref x] ∧ XchAt K C CN CX H x R zs ys f ∧ Q .non H
section
variable {P : Program} {w : World} {K : PySem.W.Frag} {mg : Str → Option Value} {base : Heap} {C CN CX : Addr}
theorem ok_xorder (D : PropT K CX "order" "Exchange.order" s_xorder) (XT : XchT K mg CX) : PropAt P w K mg base 1 CX "order" (spXOrder CX) := by
  refine propAt D sc_xorder (fun _ _ _ _ _ _ us hl => match us, hl with | [_], _ => rfl) (fun vs H Q E h => ?_) fun f cdv A outer s H vs Q E hr h => ?_
  · obtain ⟨x, o, rfl, _⟩ := h
    rfl
  obtain ⟨x, o, rfl, ⟨dx, a, b, dl, t1, t2, tt, r, d1, d2, d3, h1⟩, k⟩ := h
  obtain ⟨_, xcl, x1, x2, x3, x4, x5, x6, x7, x8, x9, x10, x11, _⟩ := id XT
  refine ⟨_, (pss_one (ps_ret (pe_fld (pv 0) rfl))), ?_⟩
  refine ⟨_, rfl, _, _, _, _, _, rfl, h1, xcl, x1, rfl, k⟩
theorem ok_xlengths (T : Bn mg) (D : PropT K CX "lengths" "Exchange.lengths" s_xlengths) (XT : XchT K mg CX) : PropAt P w K mg base 1 CX "lengths" (spXDict K C CN CX fun _ _ f => f) := by
  refine propAt D sc_xlengths (fun _ _ _ _ _ _ us hl => match us, hl with | [_], _ => rfl) (fun vs H Q E h => ?_) fun f cdv A outer s H vs Q E hr h => ?_
  · obtain ⟨x, R, zs, ys, f, rfl, _⟩ := h
    rfl
  obtain ⟨x, R, zs, ys, f, rfl, xa, k⟩ := h
  obtain ⟨_, xcl, x1, x2, x3, x4, x5, x6, x7, x8, x9, x10, x11, _⟩ := id XT
  refine ⟨_, (pss_one (ps_ret (pe_callTy call_dictD (by rfl) T.b_dict (by decide +kernel) (pa_cons (pe_fld (pv 0) rfl) pa_nil)))), ?_⟩
  obtain ⟨dx1, xo1, xa1, xb1, xl1, xs1, xt1, xn1, xr1, xd1, xe1, xf1, d1, ⟨xpo1, xpa1, xpb1, ⟨xln1, xls1, xpl1⟩, ⟨xsv1, xps1, xpsr1⟩, ⟨xtv1, xpt1, xptr1⟩, xpn1, xpr1, ⟨xdn1, xds1, xpd1⟩, ⟨xen1, xes1, xpe1⟩, ⟨xfn1, xfs1, xpf1⟩⟩, xg1⟩ := id xa
  obtain ⟨dx2, qa2, qb2, qc2, d2, _⟩ := id xpo1
  obtain ⟨dx3, d3⟩ := id xpn1
  refine ⟨_, rfl, _, _, _, _, _, rfl, d1, xcl, x4, rfl, ?_⟩
  obtain ⟨lv, hlv, llv⟩ := xpl1.ex
  have lnd := xpl1.nd
  refine ⟨_, _, rfl, (.inl hlv), fun p4 n4 => ?_⟩
  generalize hg5 : upd _ p4 _ = H5
  obtain ⟨e5, h5⟩ := new_facts n4 hg5
  clear hg5
  refine (k _ _ _ e5 (numD_mk h5 (llv.ext e5) lnd) xls1)
theorem ok_xshifts (T : Bn mg) (D : PropT K CX "shifts" "Exchange.shifts" s_xshifts) (XT : XchT K mg CX) : PropAt P w K mg base 1 CX "shifts" (spXDict K C CN CX fun zs ys f => shfN zs ys f) := by
  refine propAt D sc_xshifts (fun _ _ _ _ _ _ us hl => match us, hl with | [_], _ => rfl) (fun vs H Q E h => ?_) fun f cdv A outer s H vs Q E hr h => ?_
  · obtain ⟨x, R, zs, ys, f, rfl, _⟩ := h
    rfl
  obtain ⟨x, R, zs, ys, f, rfl, xa, k⟩ := h
  obtain ⟨_, xcl, x1, x2, x3, x4, x5, x6, x7, x8, x9, x10, x11, _⟩ := id XT
  refine ⟨_, (pss_one (ps_ret (pe_callTy call_dictD (by rfl) T.b_dict (by decide +kernel) (pa_cons (pe_fld (pv 0) rfl) pa_nil)))), ?_⟩
  obtain ⟨dx1, xo1, xa1, xb1, xl1, xs1, xt1, xn1, xr1, xd1, xe1, xf1, d1, ⟨xpo1, xpa1, xpb1, ⟨xln1, xls1, xpl1⟩, ⟨xsv1, xps1, xpsr1⟩, ⟨xtv1, xpt1, xptr1⟩, xpn1, xpr1, ⟨xdn1, xds1, xpd1⟩, ⟨xen1, xes1, xpe1⟩, ⟨xfn1, xfs1, xpf1⟩⟩, xg1⟩ := id xa
  obtain ⟨dx2, qa2, qb2, qc2, d2, _⟩ := id xpo1
  obtain ⟨dx3, d3⟩ := id xpn1
  refine ⟨_, rfl, _, _, _, _, _, rfl, d1, xcl, x11, rfl, ?_⟩
  obtain ⟨lv, hlv, llv⟩ := xpf1.ex
  have lnd := xpf1.nd
  refine ⟨_, _, rfl, (.inl hlv), fun p4 n4 => ?_⟩
  generalize hg5 : upd _ p4 _ = H5
  obtain ⟨e5, h5⟩ := new_facts n4 hg5
  clear hg5
  refine (k _ _ _ e5 (numD_mk h5 (llv.ext e5) lnd) xfs1)
theorem ok_xiter (b_iter : mg "iter" = none) (D : SpT K CX "__iter__" "Exchange.__iter__" s_xiter) (XT : XchT K mg CX) : ItrAt P w K mg base 1 CX (spXItr K C CN CX) := by
  obtain ⟨f, fd, hs, hf, F⟩ := D.ex
  refine ⟨f, fd, hs, hf, F.binds (fun _ _ _ _ _ _ us hl => match us, hl with | [_], _ => rfl), ?_⟩
  obtain ⟨oc, od, kV, doc, pm, an, cdv, ct, osl, rfl, lk, hcd⟩ := F.ex
  refine fnSz_of lk hcd sc_xiter (fun n vs H Q E h => ?_) fun A outer s H vs Q E hr h => ?_
  · obtain ⟨x, R, zs, ys, f, rfl, _⟩ := h
    rfl
  obtain ⟨x, R, zs, ys, f, rfl, xa, k⟩ := h
  obtain ⟨_, xcl, x1, x2, x3, x4, x5, x6, x7, x8, x9, x10, x11, _⟩ := id XT
  refine ⟨_, PSs.nox (pss_one (ps_ret (pe_callB call_iterTN (by rfl) b_iter (by decide +kernel) (pa_cons (pe_fld (pv 0) rfl) pa_nil)))), ?_⟩
  obtain ⟨_, _, _, _, _, _, _, _, _, _, _, _, d1, xp, _⟩ := id xa
  exact ⟨_, rfl, _, _, _, _, _, rfl, d1, xcl, x2, rfl, _, _, rfl, xp.ab, fun it h1 h2 => k it _ h1 h2 xp.ab⟩
theorem ok_reqx (T : Bn mg) (D : DefAt K mg "require_exchange" s_reqx) (XT : XchT K mg CX) (XI : XchI K CX) : FnAt P w K mg base 1 "require_exchange" ["value"] (spReqX K C CN CX) := by
  refine fnAt D sc_reqx (fun _ _ _ _ _ _ us hl => match us, hl with | [_], _ => rfl) (fun vs H Q E h => ?_) fun f cdv A outer s H vs Q E hr h => ?_
  · obtain ⟨x, R, zs, ys, f, rfl, _⟩ := h
    rfl
  obtain ⟨x, R, zs, ys, f, rfl, xa, k⟩ := h
  have ty := xa.ty XT.cl XI
  have kx := XI.kX
  refine ⟨_, (pss_one (ps_if (pt_not (pt_val (pe_callB call_isi (by rfl) T.b_isinstance (by decide +kernel) (pa_cons (pv 0) (pa_cons (pe_glob (v := .ref CX) rfl XT.g rfl) pa_nil))))) (pss_one ps_never) pss_nil)), ?_⟩
  obtain ⟨dx1, xo1, xa1, xb1, xl1, xs1, xt1, xn1, xr1, xd1, xe1, xf1, d1, ⟨xpo1, xpa1, xpb1, ⟨xln1, xls1, xpl1⟩, ⟨xsv1, xps1, xpsr1⟩, ⟨xtv1, xpt1, xptr1⟩, xpn1, xpr1, ⟨xdn1, xds1, xpd1⟩, ⟨xen1, xes1, xpe1⟩, ⟨xfn1, xfs1, xpf1⟩⟩, xg1⟩ := id xa
  obtain ⟨dx2, qa2, qb2, qc2, d2, _⟩ := id xpo1
  obtain ⟨dx3, d3⟩ := id xpn1
  refine ⟨_, rfl, _, _, _, _, _, rfl, (ClsV.own _), ty, kx, _, rfl, iteF ?_⟩
  refine (k)
end
end My
namespace My
open PySem PySem.Spec PyProof.Rows L2
local macro_rules | `(tactic| walk_at "side") => `(tactic| first | assumption | decide | exact Or.inl ⟨by decide, by decide⟩ | exact Or.inr ⟨by decide, by decide⟩ | exact ⟨by decide, by decide, by decide⟩ | omega | (unfold CMulW; decide +kernel) | (dsimp only; first | assumption | omega | decide +kernel) | exact len_ok (Nat.le_of_ble_eq_true rfl) | fail "side")
local macro_rules | `(tactic| walk_at "rd") => `(tactic| first
  | refine ⟨_, _, _, _, rfl, rfl, SqL.of upd_same, atI_nat (j := 0) rfl, ?_⟩ | refine ⟨_, _, _, _, rfl, rfl, SqL.of upd_same, atI_nat (j := 1) rfl, ?_⟩ | refine ⟨_, _, _, _, rfl, rfl, SqL.of upd_same, atI_nat (j := 2) rfl, ?_⟩
  | refine ⟨_, _, _, _, rfl, rfl, upd_same, rfl, ?_⟩
  | refine ⟨_, _, rfl, rfl, ?_⟩ | refine ⟨_, rfl, ?_⟩ | refine ⟨_, _, rfl, ?_⟩ | refine Or.inl ⟨_, rfl, ?_⟩ | refine Or.inr ⟨_, rfl, ?_⟩ | refine ⟨(by walk_at "side"), ?_⟩ | fail "rd")
structure Fit2 (R : Int) (n : Nm) : Prop where
  good : Good 2000 n
  rt : n.r = 0 ∨ n.r = R
theorem Fit2.one {R : Int} {n m : Nm} (h : Fit2 R n) (g : Fit2 R m) : OneRoot n m := by
  rcases h.rt with a | a
  · exact .inl a
  · rcases g.rt with b | b
    · exact .inr (.inl b)
    · exact .inr (.inr (by rw [a, b]))
end My
namespace My
open PySem PySem.Spec PyProof.Rows L2
local macro_rules | `(tactic| walk_at "side") => `(tactic| first | assumption | decide | exact Or.inl ⟨by decide, by decide⟩ | exact Or.inr ⟨by decide, by decide⟩ | exact ⟨by decide, by decide, by decide⟩ | omega | (unfold CMulW; decide +kernel) | (dsimp only; first | assumption | omega | decide +kernel) | exact len_ok (Nat.le_of_ble_eq_true rfl) | fail "side")
local macro_rules | `(tactic| walk_at "rd") => `(tactic| first
  | refine ⟨_, _, _, _, rfl, rfl, SqL.of upd_same, atI_nat (j := 0) rfl, ?_⟩ | refine ⟨_, _, _, _, rfl, rfl, SqL.of upd_same, atI_nat (j := 1) rfl, ?_⟩ | refine ⟨_, _, _, _, rfl, rfl, SqL.of upd_same, atI_nat (j := 2) rfl, ?_⟩
  | refine ⟨_, _, _, _, rfl, rfl, upd_same, rfl, ?_⟩
  | refine ⟨_, _, rfl, rfl, ?_⟩ | refine ⟨_, rfl, ?_⟩ | refine ⟨_, _, rfl, ?_⟩ | refine Or.inl ⟨_, rfl, ?_⟩ | refine Or.inr ⟨_, rfl, ?_⟩ | refine ⟨(by walk_at "side"), ?_⟩ | fail "rd")
abbrev s_lmixed : Stmt := top 61
theorem sc_lmixed : FnScope ["_law_dice_here", "_law_items", "_law_left", "_law_found", "_law_turn"] ["_law_dice_here", "_law_items"] (defScope s_lmixed) := ⟨rfl, rfl, rfl, by decide +kernel, rfl, by decide +kernel, by decide +kernel⟩
abbrev s_lnames : Stmt := top 62
theorem sc_lnames : FnScope ["_law_dice_here", "_law_times"] ["_law_dice_here", "_law_times"] (defScope s_lnames) := ⟨rfl, rfl, rfl, by decide +kernel, rfl, by decide +kernel, by decide +kernel⟩
def spLMix (K : PySem.W.Frag) : Sp := fun vs H Q _ => ∃ (a l : Addr) (xs : List V), vs = [.ref a, .ref l] ∧ H a = some (DiceO a) ∧ SqL K H l xs ∧ xs.length ≤ 100 ∧ ∀ p H' ys, Ext H H' → H' p = some (.lst ys) → ys.Perm xs → Q (.ref p) H'
theorem two_new {H H' : Hp} {L : Addr} {o : HO} (hL : H L = none) (e : ∀ a u, H a = some u → H' a = some u) : ∀ a u, H a = some u → upd H' L o a = some u := fun a u q => by
  rw [upd_ne (ne_of_none q hL)]
  exact e a u q
theorem erase_perm {α : Type} : ∀ {l : List α} {j : Nat} (h : j < l.length), (l[j] :: l.eraseIdx j).Perm l
  | x :: r, 0, _ => List.Perm.refl _
  | x :: r, j + 1, h => by
    have ih := erase_perm (l := r) (j := j) (by simpa using h)
    exact (List.Perm.swap x _ _).trans (ih.cons x)
theorem cut_to {xs : List V} {n : Nat} (h : n ≤ xs.length) : cutV xs none (some (n : Int)) = xs.take n := by
  unfold cutV
  rw [HT.sIx_none, HT.sIx_nat, Nat.min_eq_left h]
  rfl
def tenN : List Str := ["a", "b", "c", "d", "e", "x", "aa", "ab", "zz", "zzzzzzzz"]
theorem ten_nm : ∀ z ∈ tenN, isNm z = true := by decide +kernel
theorem ten_nd : tenN.Nodup := by decide +kernel
theorem perm_strs {ys : List V} {zs : List Str} (h : ys.Perm (zs.map V.str)) : ∃ ws : List Str, ys = ws.map V.str ∧ ws.Perm zs := by
  refine ⟨ys.map sOf, ?_, ?_⟩
  · rw [List.map_map]
    have : ∀ y ∈ ys, (V.str ∘ sOf) y = y := fun y hy => by
      obtain ⟨z, _, rfl⟩ := List.mem_map.mp (h.mem_iff.mp hy)
      rfl
    rw [List.map_congr_left this, List.map_id']
  · have p := h.map sOf
    rw [List.map_map] at p
    have e : zs.map (sOf ∘ V.str) = zs := by
      have : ∀ z ∈ zs, (sOf ∘ V.str) z = z := fun _ _ => rfl
      rw [List.map_congr_left this, List.map_id']
    rw [e] at p
    exact p
def spLNames : Sp := fun vs H Q _ => ∃ (a : Addr) (n : Nat), vs = [.ref a, .int (n : Nat)] ∧ H a = some (DiceO a) ∧ 1 ≤ n ∧ n ≤ 10 ∧ ∀ p H' (ws : List Str), Ext H H' → H' p = some (.lst (ws.map V.str)) → ws.length = n → ws.Nodup → (∀ z ∈ ws, z ∈ tenN) → Q (.ref p) H'
section
variable {P : Program} {w : World} {K : PySem.W.Frag} {mg : Str → Option Value} {base : Heap}
theorem ok_lmixed (T : Bn mg) (D : DefAt K mg "_law_mixed" s_lmixed) (F__law_roll : FnAt P w K mg base 1 "_law_roll" ["_law_dice_here", "_law_total"] spRoll) : FnAt P w K mg base 2 "_law_mixed" ["_law_dice_here", "_law_items"] (spLMix K) := by
  refine fnAt D sc_lmixed (fun _ _ _ _ _ _ us hl => match us, hl with | [_, _], _ => rfl) (fun vs H Q E h => ?_) fun f cdv A outer s H vs Q E hr h => ?_
  · obtain ⟨a, l, xs, rfl, _⟩ := h
    rfl
  obtain ⟨a, l, xs, rfl, ha, hl, hz, k⟩ := h
  refine ⟨_, (pss_cons (ps_par (i := 2) (j := 3) rfl sc_lmixed.nd rfl rfl (by decide) rfl rfl (pa_cons (pe_callTy call_list_of (by rfl) T.b_list (by decide +kernel) (pa_cons (pv 1) pa_nil)) (pa_cons (pe_lst pa_nil) pa_nil)) (by rfl))
    (pss_cons (ps_for PassesOwn.never rfl (pi_range1 (by rfl) T.b_range (pa_cons (pe_callB call_len_seq (by rfl) T.b_len (by decide +kernel) (pa_cons (pv 1) pa_nil)) pa_nil)) (pg_name (i := 4) sc_lmixed.nd rfl (Or.inl rfl))
      (pss_one (ps_expr (pe_bm PySem.F.plainAttrs_list PySem.F.slot_list_append PySem.F.type_list_append mt_append (pv 3) (pa_cons (pe_bm PySem.F.plainAttrs_list PySem.F.slot_list_pop PySem.F.type_list_pop mt_popAt (pv 2) (pa_cons (callA F__law_roll (hr.mono (by decide)) rfl (pa_cons (pv 0) (pa_cons (pe_callB call_len_seq (by rfl) T.b_len (by decide +kernel) (pa_cons (pv 2) pa_nil)) pa_nil))) pa_nil)) pa_nil)))))
    (pss_one (ps_ret (pv 3))))), ?_⟩
  refine ⟨_, rfl, l, xs, rfl, .inl hl, fun L hL => ⟨len_ok (Nat.le_of_ble_eq_true rfl), fun F hF => ⟨_, _, rfl, ?_⟩⟩⟩
  have E1 := ext_new (o := .lst xs) (ext_refl H) hL
  have E2 := ext_new (o := .lst []) E1 hF
  have FL : F ≠ L := fun z => by rw [z, upd_same] at hF; cases hF
  have hF0 : H F = none := ext_none E1 hF
  refine ⟨_, rfl, l, xs, rfl, .inl (hl.ext E2), _, rfl, by omega, by omega, ?_⟩
  refine for_range (lo := 0) (fun i σ H' => ∃ ls fs z, σ = [some (.ref a), some (.ref l), some (.ref L), some (.ref F), z] ∧ (∀ a u, H a = some u → H' a = some u) ∧ H' L = some (.lst ls) ∧ H' F = some (.lst fs) ∧ ls.length + i = xs.length ∧ fs.length = i ∧ (fs ++ ls).Perm xs) ?_ ?_ ?_
  · exact ⟨xs, [], _, rfl, E2, by rw [upd_ne FL.symm, upd_same], upd_same, rfl, rfl, List.Perm.refl _⟩
  · rintro i σ H' hi ⟨ls, fs, z, rfl, e, hL', hF', c1, c2, c3⟩
    have hp : 0 < ls.length := by omega
    refine ⟨_, rfl, .inl ⟨rfl, fs, SqL.of hF'⟩, _, rfl, .inl ⟨rfl, ls, SqL.of hL'⟩, _, rfl, _, rfl, L, ls, rfl, .inl (SqL.of hL'), a, _, rfl, e _ _ ha, by omega, Sz.mono (n := 10) (by unfold Sz; omega) (by decide), fun r r0 r1 => ?_⟩
    obtain ⟨j, rfl⟩ : ∃ j : Nat, r = (j : Int) := ⟨r.toNat, by omega⟩
    have hj : j < ls.length := by omega
    have sj : seqIndex? (j : Int) ls.length = some j := PySem.StrLaws.seqIndex_nonneg (by omega) (by omega)
    refine ⟨L, ls, j, j, ls[j], rfl, rfl, hL', by omega, by omega, sj, List.getElem?_eq_getElem hj, F, fs, _, rfl, rfl, by rw [upd_ne FL]; exact hF', Nat.lt_of_le_of_lt (show fs.length ≤ 1000 by omega) (by decide), ?_⟩
    refine ⟨ls.eraseIdx j, fs ++ [ls[j]], _, rfl, two_new hF0 (two_new hL e), by rw [upd_ne FL.symm, upd_same], upd_same, ?_, by simp [c2], ?_⟩
    · rw [List.length_eraseIdx, if_pos hj]
      omega
    · rw [List.append_assoc]
      exact (List.Perm.append_left fs (erase_perm hj)).trans c3
  · rintro σ H' ⟨ls, fs, z, rfl, e, hL', hF', c1, c2, c3⟩
    have ez : ls = [] := List.eq_nil_of_length_eq_zero (by omega)
    rw [ez, List.append_nil] at c3
    exact ⟨_, rfl, k F H' fs e hF' c3⟩
theorem ok_lnames (T : Bn mg) (D : DefAt K mg "_law_names_drawn" s_lnames) (F__law_mixed : FnAt P w K mg base 2 "_law_mixed" ["_law_dice_here", "_law_items"] (spLMix K)) : FnAt P w K mg base 3 "_law_names_drawn" ["_law_dice_here", "_law_times"] spLNames := by
  refine fnAt D sc_lnames (fun _ _ _ _ _ _ us hl => match us, hl with | [_, _], _ => rfl) (fun vs H Q E h => ?_) fun f cdv A outer s H vs Q E hr h => ?_
  · obtain ⟨a, n, rfl, _⟩ := h
    rfl
  obtain ⟨a, n, rfl, ha, n1, n2, k⟩ := h
  refine ⟨_, (pss_one (ps_ret (pe_slice sl_list (callA F__law_mixed (hr.mono (by decide)) rfl (pa_cons (pv 0) (pa_cons (pe_lst (pa_cons pe_str (pa_cons pe_str (pa_cons pe_str (pa_cons pe_str (pa_cons pe_str (pa_cons pe_str (pa_cons pe_str (pa_cons pe_str (pa_cons pe_str (pa_cons pe_str pa_nil))))))))))) pa_nil))) po_none (po_some (pv 1))))), ?_⟩
  refine ⟨_, rfl, len_ok (Nat.le_of_ble_eq_true rfl), fun L hL => ?_⟩
  have x1 := ext_new (o := HO.lst (tenN.map V.str)) (ext_refl H) hL
  refine ⟨a, L, tenN.map V.str, rfl, x1 _ _ ha, SqL.of upd_same, by decide, fun p H' ys e hp pm => ?_⟩
  obtain ⟨ws, rfl, pw⟩ := perm_strs pm
  have hw : ws.length = 10 := pw.length_eq
  have cut : cutV (ws.map V.str) none (some (n : Int)) = (ws.take n).map V.str := by
    rw [cut_to (by rw [List.length_map]; omega), List.map_take]
  refine ⟨_, rfl, _, rfl, p, _, rfl, SqL.of hp, fun q hq => ?_⟩
  have x2 := ext_new (o := HO.lst ((ws.take n).map V.str)) (ext_refl H') hq
  rw [cut]
  refine k q _ (ws.take n) ((x1.trans e).trans x2) upd_same (by rw [List.length_take]; omega) ?_ fun z hz => pw.mem_iff.mp (List.mem_of_mem_take hz)
  exact List.nodup_iff_pairwise_ne.mpr ((List.nodup_iff_pairwise_ne.mp (pw.nodup_iff.mpr ten_nd)).sublist (List.take_sublist _ _))
end
end My
namespace My
open PySem PySem.Spec PyProof.Rows L2
def eqs (k : Str) (v : Value) : Bool := match v with
  | .str n _ => n.cps.toList == k.cps.toList
  | _ => false
theorem eqs_gives {k : Str} {t : Tok} : ∀ {us : List Value} {ns : List Str}, StrsAre us ns → ∀ y ∈ us, MeetsSeq.EqGives y (.str k t) (eqs k y)
  | _, _, .nil => fun y hy => by cases hy
  | _, _, .cons n t' h => fun y hy => by
    rcases List.mem_cons.mp hy with e | e
    · rw [e]
      exact PySem.SeqRoads2.EqGives.str n k t' t
    · exact eqs_gives h y e
theorem erase_mapS : ∀ (l : List Str) (j : Nat), (l.map V.str).eraseIdx j = (l.eraseIdx j).map V.str
  | [], j => by simp
  | a :: r, 0 => by simp
  | a :: r, j + 1 => by
    have ih := erase_mapS r j
    simp [ih]
section
variable {X : Cx}
def rRemS : V → List V → Hp → VK → Prop := fun x xs H Q => ∃ (l : Addr) (ns : List Str) (k : Str) (j : Nat), x = .ref l ∧ xs = [.str k] ∧ H l = some (.lst (ns.map V.str)) ∧ ns[j]? = some k ∧ (∀ m : Nat, m < j → ns[m]? ≠ some k) ∧ Q .non (upd H l (.lst ((ns.eraseIdx j).map V.str)))
theorem mt_removeS : MtM X "list.remove" rRemS := by
  intro pins s σ H x xs v us Q I rx rxs h
  obtain ⟨l, ns, k, j, rfl, rfl, hH, hj, hno, q⟩ := h
  cases rx
  obtain ⟨u, rfl, ru⟩ := rxs.one
  obtain ⟨t, rfl⟩ := ru
  obtain ⟨z, its, n, r, hl, e⟩ := I.lstM hH
  have hi := r.strs
  rw [List.length_map] at hl z
  have hjn : j < ns.length := (List.getElem?_eq_some_iff.mp hj).1
  have hjl : j < its.toArray.size := by rw [List.size_toArray]; omega
  have at' : ∀ (m : Nat) (hm : m < its.toArray.size), ∃ y t', ns[m]? = some y ∧ its.toArray[m] = Value.str y t' := fun m hm => by
    have hm' : m < ns.length := by rw [List.size_toArray] at hm; omega
    obtain ⟨w, hw, t', hw'⟩ := r.get (i := m) (x := .str ns[m]) (by simp [hm'])
    refine ⟨ns[m], t', List.getElem?_eq_getElem hm', ?_⟩
    have e := (List.getElem?_eq_some_iff.mp hw).2
    rw [← hw', ← e]
    simp
  refine call_meets PySem.F.slot_list_remove ⟨_, e, rfl⟩ PySem.F.entry_list_remove (PySem.F.args_list_remove_2 _ _)
    (MeetsSeq.list_remove l its.toArray n (.str k t) (eqs k) (fun y hy => eqs_gives hi y (by simpa using hy)) j hjl ?_ ?_ (by rw [List.size_toArray]; omega)) ⟨e, ?_⟩
  · obtain ⟨y, t', h1, h2⟩ := at' j hjl
    rw [hj] at h1
    cases h1
    rw [h2]
    exact beq_self_eq_true k.cps.toList
  · intro m hm hmj
    obtain ⟨y, t', h1, h2⟩ := at' m hm
    rw [h2]
    refine beq_eq_false_iff_ne.mpr fun e2 => hno m hmj ?_
    obtain ⟨⟨y⟩⟩ := y
    obtain ⟨⟨k⟩⟩ := k
    simp at e2
    rw [h1, e2]
  · have rr := r.eraseIdx j
    rw [erase_mapS] at rr
    refine ⟨.non, _, I.lset (its' := its.eraseIdx j) (t' := s.toks) hH e ?_ rr ?_, rfl, q⟩
    · show its.toArray.eraseIdxIfInBounds j = (its.eraseIdx j).toArray
      rw [List.eraseIdxIfInBounds_toArray]
    · rw [List.length_map, List.length_eraseIdx]
      split <;> omega
end
end My
namespace My
open PySem PySem.Spec PyProof.Rows L2
local macro_rules | `(tactic| walk_at "side") => `(tactic| first | assumption | decide | exact Or.inl ⟨by decide, by decide⟩ | exact Or.inr ⟨by decide, by decide⟩ | exact ⟨by decide, by decide, by decide⟩ | omega | (unfold CMulW; decide +kernel) | (dsimp only; first | assumption | omega | decide +kernel) | exact len_ok (Nat.le_of_ble_eq_true rfl) | fail "side")
local macro_rules | `(tactic| walk_at "rd") => `(tactic| first
  | refine ⟨_, _, _, _, rfl, rfl, SqL.of upd_same, atI_nat (j := 0) rfl, ?_⟩ | refine ⟨_, _, _, _, rfl, rfl, SqL.of upd_same, atI_nat (j := 1) rfl, ?_⟩ | refine ⟨_, _, _, _, rfl, rfl, SqL.of upd_same, atI_nat (j := 2) rfl, ?_⟩
  | refine ⟨_, _, _, _, rfl, rfl, upd_same, rfl, ?_⟩
  | refine ⟨_, _, rfl, rfl, ?_⟩ | refine ⟨_, rfl, ?_⟩ | refine ⟨_, _, rfl, ?_⟩ | refine Or.inl ⟨_, rfl, ?_⟩ | refine Or.inr ⟨_, rfl, ?_⟩ | refine ⟨(by walk_at "side"), ?_⟩ | fail "rd")
abbrev s_lany : Stmt := top 69
theorem sc_lany : FnScope ["_law_dice_here", "_law_most", "_law_upper", "_law_lower", "_law_at", "_law_is_cut", "_law_turn", "_law_size"] ["_law_dice_here", "_law_most"] (defScope s_lany) := ⟨rfl, rfl, rfl, by decide +kernel, rfl, by decide +kernel, by decide +kernel⟩
def spLAny : Sp := fun vs H Q _ => ∃ (a : Addr) (n : Nat), vs = [.ref a, .int (n : Nat)] ∧ H a = some (DiceO a) ∧ 1 ≤ n ∧ n ≤ 8 ∧
  ∀ t U L H' zs ys, Ext H H' → H' t = some (.tup [.ref U, .ref L]) → H' U = some (.lst (zs.map V.str)) → H' L = some (.lst (ys.map V.str)) → RowsOk zs ys → zs.length ≤ 8 → (∀ z ∈ zs, z ∈ tenN) → Q (.ref t) H'
section
variable {P : Program} {w : World} {K : PySem.W.Frag} {mg : Str → Option Value} {base : Heap}
theorem ok_lany (T : Bn mg) (D : DefAt K mg "_law_any_rows" s_lany) (F__law_roll : FnAt P w K mg base 1 "_law_roll" ["_law_dice_here", "_law_total"] spRoll) (F__law_mixed : FnAt P w K mg base 2 "_law_mixed" ["_law_dice_here", "_law_items"] (spLMix K)) (F__law_names_drawn : FnAt P w K mg base 3 "_law_names_drawn" ["_law_dice_here", "_law_times"] spLNames) : FnAt P w K mg base 4 "_law_any_rows" ["_law_dice_here", "_law_most"] spLAny := by
  refine fnAt D sc_lany (fun _ _ _ _ _ _ us hl => match us, hl with | [_, _], _ => rfl) (fun vs H Q E h => ?_) fun f cdv A outer s H vs Q E hr h => ?_
  · obtain ⟨a, n, rfl, _⟩ := h
    rfl
  obtain ⟨a, n, rfl, ha, h1, h8, k⟩ := h
  refine ⟨_, (pss_cons (ps_set (i := 2) sc_lany.nd rfl (Or.inl rfl) (callA F__law_names_drawn (hr.mono (by decide)) rfl (pa_cons (pv 0) (pa_cons (pe_op op_add pe_int (callA F__law_roll (hr.mono (by decide)) rfl (pa_cons (pv 0) (pa_cons (pv 1) pa_nil)))) pa_nil))))
    (pss_cons (ps_par (i := 3) (j := 4) rfl sc_lany.nd rfl rfl (by decide) rfl rfl (pa_cons (pe_lst pa_nil) (pa_cons pe_int pa_nil)) (by rfl))
    (pss_cons (ps_set (i := 5) sc_lany.nd rfl (Or.inl rfl) (pe_cmpR op_gt (callA F__law_roll (hr.mono (by decide)) rfl (pa_cons (pv 0) (pa_cons pe_int pa_nil))) pe_int (nomark _)))
    (Evl.pss_cut (ps_for PassesOwn.never rfl (pi_range1 (by rfl) T.b_range (pa_cons (pe_callB call_len_seq (by rfl) T.b_len (by decide +kernel) (pa_cons (pv 2) pa_nil)) pa_nil)) (pg_name (i := 6) sc_lany.nd rfl (Or.inl rfl))
      (pss_cons (ps_if (pt_cmpR op_eq (pv 4) (pe_callB call_len_seq (by rfl) T.b_len (by decide +kernel) (pa_cons (pv 2) pa_nil)) (nomark _)) (pss_one ps_break) pss_nil)
    (pss_cons (ps_set (i := 7) sc_lany.nd rfl (Or.inl rfl) (pe_ifExp (pt_val (pv 5)) (pe_op op_add pe_int (callA F__law_roll (hr.mono (by decide)) rfl (pa_cons (pv 0) (pa_cons (pe_op op_sub (pe_callB call_len_seq (by rfl) T.b_len (by decide +kernel) (pa_cons (pv 2) pa_nil)) (pv 4)) pa_nil)))) (pe_callB call_len_seq (by rfl) T.b_len (by decide +kernel) (pa_cons (pv 2) pa_nil))))
    (pss_cons (ps_set (i := 3) sc_lany.nd rfl (Or.inl rfl) (pe_op op_cat (pv 3) (callA F__law_mixed (hr.mono (by decide)) rfl (pa_cons (pv 0) (pa_cons (pe_slice sl_list (pv 2) (po_some (pv 4)) (po_some (pe_op op_add (pv 4) (pv 7)))) pa_nil)))))
    (pss_one (ps_set (i := 4) sc_lany.nd rfl (Or.inl rfl) (pe_op op_add (pv 4) (pv 7))))))))
    (Evl.pss_cut (ps_if (PW.pt (pw_and (pt_cmpR op_eq (callA F__law_roll (hr.mono (by decide)) rfl (pa_cons (pv 0) (pa_cons pe_int pa_nil))) pe_int (nomark _)) (pw_and1 (pt_cmpR op_gt (pe_callB call_len_seq (by rfl) T.b_len (by decide +kernel) (pa_cons (pv 2) pa_nil)) pe_int (nomark _))))) (pss_cons (ps_set (i := 4) sc_lany.nd rfl (Or.inl rfl) (callA F__law_roll (hr.mono (by decide)) rfl (pa_cons (pv 0) (pa_cons (pe_op op_sub (pe_callB call_len_seq (by rfl) T.b_len (by decide +kernel) (pa_cons (pv 2) pa_nil)) pe_int) pa_nil))))
    (pss_cons (ps_expr (pe_bm PySem.F.plainAttrs_list PySem.F.slot_list_remove PySem.F.type_list_remove mt_removeS (pv 3) (pa_cons (pe_ix ix_list (pv 2) (pe_op op_add (pv 4) pe_int) (fun _ _ => rfl)) pa_nil)))
    (pss_one (ps_expr (pe_bm PySem.F.plainAttrs_list PySem.F.slot_list_insert PySem.F.type_list_insert mt_insert (pv 3) (pa_cons (pe_op op_add (pe_bm PySem.F.plainAttrs_list PySem.F.slot_list_index PySem.F.type_list_index mt_index (pv 3) (pa_cons (pe_ix ix_list (pv 2) (pv 4) (fun _ _ => rfl)) pa_nil)) pe_int) (pa_cons (pe_ix ix_list (pv 2) (pe_op op_add (pv 4) pe_int) (fun _ _ => rfl)) pa_nil))))))) pss_nil)
    (pss_one (ps_ret (pe_tup (pa_cons (pv 2) (pa_cons (pv 3) pa_nil)))))))))), ?_⟩
  refine ⟨_, rfl, _, rfl, _, rfl, a, (n : Nat), rfl, ha, by omega, Sz.mono (n := 10) (by unfold Sz; omega) (by decide), fun r r0 r1 => ?_⟩
  obtain ⟨m, rfl⟩ := Int.eq_ofNat_of_zero_le r0
  refine ⟨_, _, rfl, rfl, a, m + 1, by show [V.ref a, V.int (1 + ((m : Nat) : Int))] = _; rw [Int.add_comm]; rfl, ha, by omega, by omega, fun U H1 zs e1 hU lu nd nm => ?_⟩
  have lz : zs.length = m + 1 := lu
  have lz8 : zs.length ≤ 8 := by omega
  refine ⟨len_ok (Nat.le_of_ble_eq_true rfl), fun L hL => ⟨_, _, rfl, ?_⟩⟩
  have x1 := ext_new (o := HO.lst []) (ext_refl H1) hL
  have e2 := e1.trans x1
  have hU2 := x1 _ _ hU
  have nLU : L ≠ U := fun z => by rw [z, hU] at hL; cases hL
  have nL : H L = none := ext_none e1 hL
  have hL2 : upd H1 L (.lst []) L = some (.lst (([] : List Str).map V.str)) := upd_same
  generalize upd H1 L (.lst []) = H2 at e2 hU2 hL2 ⊢
  refine ⟨_, rfl, a, 3, rfl, e2 _ _ ha, by decide, by unfold Sz; decide, fun r r0 r1 => ⟨_, _, rfl, rfl, ?_⟩⟩
  clear x1 hL r0 r1
  refine ⟨fun σ' H' => ∃ (L' : Addr) (ys : List Str) (u v w : Option V), σ' = [some (.ref a), some (.int (n : Nat)), some (.ref U), some (.ref L'), w, some (.bl (decide ((0 : Int) < r))), u, v] ∧ L' ≠ U ∧ H L' = none ∧ Ext H H' ∧ H' U = some (.lst (zs.map V.str)) ∧ H' L' = some (.lst (ys.map V.str)) ∧ ys.Perm zs, ?_, ?_⟩
  · refine ⟨_, rfl, U, _, rfl, .inl (SqL.of hU2), _, rfl, by omega, by rw [List.length_map]; omega, ?_⟩
    rw [List.length_map, Int.toNat_natCast]
    refine for_range (lo := 0) (fun i σ' H' => ∃ (L' : Addr) (ys : List Str) (at' : Nat) (u v : Option V), σ' = [some (.ref a), some (.int (n : Nat)), some (.ref U), some (.ref L'), some (.int (at' : Nat)), some (.bl (decide ((0 : Int) < r))), u, v] ∧ L' ≠ U ∧ H L' = none ∧ Ext H H' ∧ H' U = some (.lst (zs.map V.str)) ∧ H' L' = some (.lst (ys.map V.str)) ∧ ys.Perm (zs.take at') ∧ at' ≤ zs.length ∧ i ≤ at' ∧ (decide ((0 : Int) < r) = false → at' = 0 ∨ at' = zs.length)) ?_ ?_ ?_
    · exact ⟨L, [], 0, _, _, rfl, nLU, nL, e2, hU2, hL2, by rw [List.take_zero], Nat.zero_le _, Nat.le_refl _, fun _ => .inl rfl⟩
    · rintro i σ' H' hi ⟨L', ys, at', u, v, rfl, p1, p2, e3, h1, h2, pm, p3, p4, p5⟩
      refine ⟨_, rfl, _, rfl, U, _, rfl, .inl (SqL.of h1), rfl, _, rfl, ?_⟩
      have ec : decide (V.int ((at' : Nat) : Int) = V.int (((zs.map V.str).length : Nat) : Int)) = decide (at' = zs.length) := by
        rw [dec_int, List.length_map, Bool.eq_iff_iff, beq_iff_eq, decide_eq_true_iff]
        omega
      rw [ec]
      refine ite2 (fun c => ?_) (fun c => ?_)
      · have c' := of_decide_eq_true c
        rw [c', List.take_length] at pm
        exact ⟨L', ys, _, _, _, rfl, p1, p2, e3, h1, h2, pm⟩
      have c' : ¬ at' = zs.length := fun z => c (decide_eq_true z)
      by_cases hc : decide ((0 : Int) < r) = true
      · refine ⟨_, rfl, _, rfl, ?_⟩
        dsimp only
        rw [if_pos hc]
        refine ⟨_, rfl, _, rfl, U, _, rfl, .inl (SqL.of h1), _, rfl, _, _, rfl, rfl, a, _, rfl, e3 _ _ ha, by rw [List.length_map]; omega, Sz.mono (n := 10) (by unfold Sz; rw [List.length_map]; omega) (by decide), fun r2 r20 r21 => ?_⟩
        rw [List.length_map] at r21
        obtain ⟨q, rfl⟩ := Int.eq_ofNat_of_zero_le r20
        have cn : (1 : Int) + ((q : Nat) : Int) = ((q + 1 : Nat) : Int) := by omega
        refine ⟨_, _, rfl, rfl, ?_⟩
        dsimp only
        rw [cn]
        have s1 : at' + (q + 1) ≤ zs.length := by omega
        have s2 : decide ((0 : Int) < r) = false → at' + (q + 1) = zs.length := fun z => by rw [z] at hc; cases hc
        generalize hq : q + 1 = sz at s1 s2
        have s3 : 1 ≤ sz := by omega
        refine ⟨_, rfl, _, rfl, _, rfl, _, rfl, _, rfl, _, rfl, _, rfl, _, _, rfl, rfl, _, rfl, U, _, rfl, SqL.of h1, fun S hS => ?_⟩
        have cn2 : ((at' : Nat) : Int) + ((sz : Nat) : Int) = ((at' + sz : Nat) : Int) := by omega
        dsimp only [tNil]
        rw [cn2, cut_strs (by omega) s1]
        have x4 := ext_new (o := HO.lst (((zs.take (at' + sz)).drop at').map V.str)) (ext_refl H') hS
        have l4 : ((zs.take (at' + sz)).drop at').length ≤ 8 := by rw [List.length_drop, List.length_take]; omega
        have ly : ys.length ≤ 8 := by rw [pm.length_eq, List.length_take]; omega
        refine ⟨a, S, _, rfl, x4 _ _ (e3 _ _ ha), SqL.of upd_same, by rw [List.length_map]; omega, fun p H5 ws e5 hp pm2 => ?_⟩
        obtain ⟨ws', rfl, pw⟩ := perm_strs pm2
        have e45 := x4.trans e5
        have lw := pw.length_eq
        refine ⟨L', p, _, _, rfl, rfl, e45 _ _ h2, hp, len_ok (by rw [List.length_map, List.length_map]; omega), fun p3 hp3 => ?_⟩
        have x6 := ext_new (o := HO.lst (ys.map V.str ++ ws'.map V.str)) (ext_refl H5) hp3
        have e36 := e3.trans (e45.trans x6)
        have n3 : H p3 = none := ext_none (e3.trans e45) hp3
        refine ⟨_, rfl, _, rfl, _, _, rfl, rfl, p3, ys ++ ws', at' + sz, some (.int (0 + (i : Nat))), some (.int (sz : Nat)), ?_, fun z => ?_, n3, e36, (e45.trans x6) _ _ h1, ?_, ?_, s1, by omega, fun z => .inr (s2 z)⟩
        · dsimp only
          rw [cn2]
          rfl
        · rw [z, e45 _ _ h1] at hp3
          cases hp3
        · rw [upd_same, List.map_append]
        · have ez : zs.take (at' + sz) = zs.take at' ++ (zs.take (at' + sz)).drop at' := by
            have := (List.take_append_drop at' (zs.take (at' + sz))).symm
            rw [List.take_take, Nat.min_eq_left (by omega)] at this
            exact this
          rw [ez]
          exact pm.append pw
      · refine ⟨_, rfl, _, rfl, ?_⟩
        dsimp only
        rw [if_neg hc]
        refine ⟨_, rfl, U, _, rfl, .inl (SqL.of h1), ?_⟩
        have z0 : at' = 0 := by
          rcases p5 (by rwa [Bool.not_eq_true] at hc) with z | z
          · exact z
          · exact absurd z c'
        rw [List.length_map]
        have s1 : at' + zs.length ≤ zs.length := by omega
        have s2 : decide ((0 : Int) < r) = false → at' + zs.length = zs.length := fun _ => by omega
        have s3 : 1 ≤ zs.length := by omega
        generalize hq : zs.length = sz at s1 s2 s3
        refine ⟨_, rfl, _, rfl, _, rfl, _, rfl, _, rfl, _, rfl, _, rfl, _, _, rfl, rfl, _, rfl, U, _, rfl, SqL.of h1, fun S hS => ?_⟩
        have cn2 : ((at' : Nat) : Int) + ((sz : Nat) : Int) = ((at' + sz : Nat) : Int) := by omega
        dsimp only [tNil]
        rw [cn2, cut_strs (by omega) (by rw [hq]; exact s1)]
        have x4 := ext_new (o := HO.lst (((zs.take (at' + sz)).drop at').map V.str)) (ext_refl H') hS
        have l4 : ((zs.take (at' + sz)).drop at').length ≤ 8 := by rw [List.length_drop, List.length_take]; omega
        have ly : ys.length ≤ 8 := by rw [pm.length_eq, List.length_take]; omega
        refine ⟨a, S, _, rfl, x4 _ _ (e3 _ _ ha), SqL.of upd_same, by rw [List.length_map]; omega, fun p H5 ws e5 hp pm2 => ?_⟩
        obtain ⟨ws', rfl, pw⟩ := perm_strs pm2
        have e45 := x4.trans e5
        have lw := pw.length_eq
        refine ⟨L', p, _, _, rfl, rfl, e45 _ _ h2, hp, len_ok (by rw [List.length_map, List.length_map]; omega), fun p3 hp3 => ?_⟩
        have x6 := ext_new (o := HO.lst (ys.map V.str ++ ws'.map V.str)) (ext_refl H5) hp3
        have e36 := e3.trans (e45.trans x6)
        have n3 : H p3 = none := ext_none (e3.trans e45) hp3
        refine ⟨_, rfl, _, rfl, _, _, rfl, rfl, p3, ys ++ ws', at' + sz, some (.int (0 + (i : Nat))), some (.int (sz : Nat)), ?_, fun z => ?_, n3, e36, (e45.trans x6) _ _ h1, ?_, ?_, s1, by omega, fun z => .inr (s2 z)⟩
        · dsimp only
          rw [cn2]
          rfl
        · rw [z, e45 _ _ h1] at hp3
          cases hp3
        · rw [upd_same, List.map_append]
        · have ez : zs.take (at' + sz) = zs.take at' ++ (zs.take (at' + sz)).drop at' := by
            have := (List.take_append_drop at' (zs.take (at' + sz))).symm
            rw [List.take_take, Nat.min_eq_left (by omega)] at this
            exact this
          rw [ez]
          exact pm.append pw
    · rintro σ' H' ⟨L', ys, at', u, v, rfl, p1, p2, e3, h1, h2, pm, p3, p4, p5⟩
      rw [show at' = zs.length by omega, List.take_length] at pm
      exact ⟨L', ys, _, _, _, rfl, p1, p2, e3, h1, h2, pm⟩
  · rintro σ' H' ⟨L', ys, u, v, w, rfl, nLU, nL, e3, h1, h2, pm⟩
    refine ⟨fun σ' H' => ∃ (ys : List Str) (u v w : Option V), σ' = [some (.ref a), some (.int (n : Nat)), some (.ref U), some (.ref L'), w, some (.bl (decide ((0 : Int) < r))), u, v] ∧ Ext H H' ∧ H' U = some (.lst (zs.map V.str)) ∧ H' L' = some (.lst (ys.map V.str)) ∧ ys.Perm zs, ?_, ?_⟩
    · refine ⟨_, rfl, a, 4, rfl, e3 _ _ ha, by decide, by unfold Sz; decide, fun r r0 r1 => ?_⟩
      refine ⟨rfl, _, rfl, ite2 (fun c => ?_) (fun c => ?_)⟩
      · refine ⟨_, rfl, U, _, rfl, .inl (SqL.of h1), _, _, rfl, rfl, _, rfl, ite2 (fun c2 => ?_) (fun c2 => ?_)⟩
        · have c3 : 1 < zs.length := by
            have := of_decide_eq_true c2
            rw [List.length_map] at this
            omega
          refine ⟨_, rfl, _, rfl, U, _, rfl, .inl (SqL.of h1), _, _, rfl, rfl, a, _, rfl, e3 _ _ ha, by rw [List.length_map]; omega, Sz.mono (n := 10) (by unfold Sz; rw [List.length_map]; omega) (by decide), fun r3 r30 r31 => ?_⟩
          rw [List.length_map] at r31
          obtain ⟨m, rfl⟩ := Int.eq_ofNat_of_zero_le r30
          have cm : ((m : Nat) : Int) + 1 = ((m + 1 : Nat) : Int) := by omega
          have g1 : (zs.map V.str)[m + 1]? = some (.str (zs[m + 1]'(by omega))) := by rw [List.getElem?_map, List.getElem?_eq_getElem (by omega)]; rfl
          have g0 : (zs.map V.str)[m]? = some (.str (zs[m]'(by omega))) := by rw [List.getElem?_map, List.getElem?_eq_getElem (by omega)]; rfl
          have m1 : zs[m + 1]'(by omega) ∈ ys := pm.mem_iff.mpr (List.getElem_mem _)
          have m0 : zs[m]'(by omega) ∈ ys := pm.mem_iff.mpr (List.getElem_mem _)
          have ne : zs[m]'(by omega) ≠ zs[m + 1]'(by omega) := (List.pairwise_iff_getElem.mp (List.nodup_iff_pairwise_ne.mp nd)) m (m + 1) (by omega) (by omega) (by omega)
          have ly := pm.length_eq
          have pl := pos_lt m1
          have pg := pos_get m1
          have a1 : atI (zs.map V.str) (((m : Nat) : Int) + 1) = some (.str (zs[m + 1]'(by omega))) := by rw [cm]; exact atI_nat g1
          refine ⟨_, rfl, .inl ⟨rfl, _, SqL.of h2⟩, _, rfl, _, rfl, _, _, rfl, rfl, _, _, _, _, rfl, rfl, SqL.of h1, a1, L', ys, _, pos ys (zs[m + 1]'(by omega)), rfl, rfl, h2, pg, fun m' hm' e => pos_no hm' e rfl, ?_⟩
          have ep := erase_perm pl
          have eg : ys[pos ys (zs[m + 1]'(by omega))] = zs[m + 1]'(by omega) := by
            rw [List.getElem?_eq_getElem pl] at pg
            exact Option.some.inj pg
          rw [eg] at ep
          generalize hes : ys.eraseIdx (pos ys (zs[m + 1]'(by omega))) = es at ep
          have e4 : Ext H (upd H' L' (.lst (es.map V.str))) := ext_mut e3 nL
          have h1' : upd H' L' (.lst (es.map V.str)) U = some (.lst (zs.map V.str)) := by rw [upd_ne nLU.symm]; exact h1
          have h2' : upd H' L' (.lst (es.map V.str)) L' = some (.lst (es.map V.str)) := upd_same
          generalize upd H' L' (.lst (es.map V.str)) = H4 at e4 h1' h2' ⊢
          have m2 : zs[m]'(by omega) ∈ es := by
            rcases List.mem_cons.mp (ep.mem_iff.mpr m0) with z | z
            · exact absurd z ne
            · exact z
          have le : es.length + 1 = ys.length := by have := ep.length_eq; rw [List.length_cons] at this; exact this
          have pl2 := pos_lt m2
          refine ⟨_, rfl, .inl ⟨rfl, _, SqL.of h2'⟩, _, rfl, .inl ⟨rfl, _, SqL.of h2'⟩, _, rfl, _, rfl, _, _, _, _, rfl, rfl, SqL.of h1', atI_nat g0, ?_⟩
          dsimp only [tNil]
          refine idx_use (SqL.of h2') m2 ?_
          refine ⟨_, _, rfl, rfl, _, rfl, _, rfl, _, _, rfl, rfl, _, _, _, _, rfl, rfl, SqL.of h1', a1, L', _, _, _, rfl, rfl, h2', ?_, ?_, ?_, ?_⟩
          · rw [List.length_map]
            exact len_lt (by omega)
          · omega
          · omega
          · have en : (((pos es (zs[m]'(by omega)) : Nat) : Int) + 1).toNat = pos es (zs[m]'(by omega)) + 1 := by omega
            rw [en]
            refine ⟨es.take (pos es (zs[m]'(by omega)) + 1) ++ [zs[m + 1]'(by omega)] ++ es.drop (pos es (zs[m]'(by omega)) + 1), _, _, _, rfl, ext_mut e4 nL, by rw [upd_ne nLU.symm]; exact h1', ?_, ?_⟩
            · rw [upd_same, List.map_append, List.map_append, List.map_take, List.map_drop]
              rfl
            · rw [List.append_assoc]
              refine (List.perm_middle).trans ?_
              have et : es.take (pos es (zs[m]'(by omega)) + 1) ++ ([] ++ es.drop (pos es (zs[m]'(by omega)) + 1)) = es := by rw [List.nil_append, List.take_append_drop]
              have eq : (zs[m + 1]'(by omega) :: (es.take (pos es (zs[m]'(by omega)) + 1) ++ ([] ++ es.drop (pos es (zs[m]'(by omega)) + 1)))).Perm zs := by
                rw [et]
                exact ep.trans pm
              exact eq
        · exact ⟨ys, _, _, _, rfl, e3, h1, h2, pm⟩
      · exact ⟨ys, _, _, _, rfl, e3, h1, h2, pm⟩
    · rintro σ' H' ⟨ys, u, v, w, rfl, e3, h1, h2, pm⟩
      refine ⟨_, rfl, _, rfl, len_ok (Nat.le_of_ble_eq_true rfl), fun t ht => ?_⟩
      have x := ext_new (o := HO.tup [V.ref U, V.ref L']) (ext_refl H') ht
      exact k t U L' _ zs ys (e3.trans x) upd_same (x _ _ h1) (x _ _ h2) ⟨fun z hz => ten_nm z (nm z hz), nd, pm, by omega, by omega⟩ (by omega) nm
end
end My
namespace My
open PySem PySem.Spec PyProof.Rows L2
local macro_rules | `(tactic| walk_at "side") => `(tactic| first | assumption | decide | exact Or.inl ⟨by decide, by decide⟩ | exact Or.inr ⟨by decide, by decide⟩ | exact ⟨by decide, by decide, by decide⟩ | omega | (unfold CMulW; decide +kernel) | (dsimp only; first | assumption | omega | decide +kernel) | exact len_ok (Nat.le_of_ble_eq_true rfl) | fail "side")
local macro_rules | `(tactic| walk_at "rd") => `(tactic| first
  | refine ⟨_, _, _, _, rfl, rfl, SqL.of upd_same, atI_nat (j := 0) rfl, ?_⟩ | refine ⟨_, _, _, _, rfl, rfl, SqL.of upd_same, atI_nat (j := 1) rfl, ?_⟩ | refine ⟨_, _, _, _, rfl, rfl, SqL.of upd_same, atI_nat (j := 2) rfl, ?_⟩
  | refine ⟨_, _, _, _, rfl, rfl, upd_same, rfl, ?_⟩
  | refine ⟨_, _, rfl, rfl, ?_⟩ | refine ⟨_, rfl, ?_⟩ | refine ⟨_, _, rfl, ?_⟩ | refine Or.inl ⟨_, rfl, ?_⟩ | refine Or.inr ⟨_, rfl, ?_⟩ | refine ⟨(by walk_at "side"), ?_⟩ | fail "rd")
abbrev s_llen : Stmt := top 63
theorem sc_llen : FnScope ["_law_dice_here", "_law_root"] ["_law_dice_here", "_law_root"] (defScope s_llen) := ⟨rfl, rfl, rfl, by decide +kernel, rfl, by decide +kernel, by decide +kernel⟩
abbrev s_lplus : Stmt := top 66
theorem sc_lplus : FnScope ["_law_one", "_law_other"] ["_law_one", "_law_other"] (defScope s_lplus) := ⟨rfl, rfl, rfl, by decide +kernel, rfl, by decide +kernel, by decide +kernel⟩
abbrev s_lminus : Stmt := top 67
theorem sc_lminus : FnScope ["_law_one", "_law_other"] ["_law_one", "_law_other"] (defScope s_lminus) := ⟨rfl, rfl, rfl, by decide +kernel, rfl, by decide +kernel, by decide +kernel⟩
abbrev s_lnum : Stmt := top 64
theorem sc_lnum : FnScope ["_law_pair", "_law_root"] ["_law_pair", "_law_root"] (defScope s_lnum) := ⟨rfl, rfl, rfl, by decide +kernel, rfl, by decide +kernel, by decide +kernel⟩
/-- a pair of ints in the heap -/
abbrev PairV : Int × Int → V → Hp → Prop := fun p v H => ∃ q, v = V.ref q ∧ H q = some (.tup [.int p.1, .int p.2])
/-- a length that may be drawn -/
structure LenP (R : Int) (p : Int × Int) : Prop where
  x0 : 0 ≤ p.1
  x6 : p.1 ≤ 6
  y0 : 0 ≤ p.2
  y2 : p.2 ≤ 2
  pos : 1 ≤ p.1 + p.2
  rt : R = 0 → p.2 = 0
def spLLen : Sp := fun vs H Q _ => ∃ a R, vs = [.ref a, .int R] ∧ H a = some (DiceO a) ∧ ∀ q p H', Ext H H' → H' q = some (.tup [.int p.1, .int p.2]) → LenP R p → Q (.ref q) H'
def spPairs (g : Int × Int → Int × Int → Int × Int) : Sp := fun vs H Q _ => ∃ a b p p', vs = [.ref a, .ref b] ∧ H a = some (.tup [.int p.1, .int p.2]) ∧ H b = some (.tup [.int p'.1, .int p'.2]) ∧ ∀ q H', Ext H H' → H' q = some (.tup [.int (g p p').1, .int (g p p').2]) → Q (.ref q) H'
def addP (a b : Int × Int) : Int × Int := (a.1 + b.1, a.2 + b.2)
def subP (a b : Int × Int) : Int × Int := (a.1 - b.1, a.2 - b.2)
/-- the number of a pair -/
def inN (R : Int) (p : Int × Int) : Nm := ⟨p.1, p.2, if p.2 = 0 then 0 else R, 1⟩
theorem com1 (t p : Int) : com t p 1 = 1 := by
  unfold com
  simp
theorem coms1 (t p : Int) : coms t p 1 = 1 := by
  unfold coms
  rw [if_neg (by decide), com1]
theorem fdiv1 (t : Int) : t.fdiv 1 = t := by simp
theorem lst1 (t p r : Int) : lst t p r 1 = inN r (t, p) := by
  unfold lst inN
  rw [coms1, fdiv1, fdiv1, fdiv1]
def RtOk (R : Int) : Prop := R = 0 ∨ rootOk R = true
def spLNum (CN : Addr) : Sp := fun vs H Q _ => ∃ a p R, vs = [.ref a, .int R] ∧ H a = some (.tup [.int p.1, .int p.2]) ∧ RtOk R ∧ (R = 0 → p.2 = 0) ∧ ∀ q H', Ext H H' → NumAt CN H' q (inN R p) → Q (.ref q) H'
section
variable {P : Program} {w : World} {K : PySem.W.Frag} {mg : Str → Option Value} {base : Heap} {C CN CX : Addr}
theorem ok_llen (T : Bn mg) (D : DefAt K mg "_law_length" s_llen) (F__law_roll : FnAt P w K mg base 1 "_law_roll" ["_law_dice_here", "_law_total"] spRoll) (F__law_pick : FnAt P w K mg base 2 "_law_pick" ["_law_dice_here", "_law_items"] (spPick K)) : FnAt P w K mg base 3 "_law_length" ["_law_dice_here", "_law_root"] spLLen := by
  refine fnAt D sc_llen (fun _ _ _ _ _ _ us hl => match us, hl with | [_, _], _ => rfl) (fun vs H Q E h => ?_) fun f cdv A outer s H vs Q E hr h => ?_
  · obtain ⟨a, R, rfl, _⟩ := h
    rfl
  obtain ⟨a, R, rfl, ha, k⟩ := h
  have z6 : Sz 9000 6 := by unfold Sz; decide +kernel
  refine ⟨_, (pss_cons (ps_if (pt_cmpR op_eq (pv 1) pe_int (nomark _)) (pss_one (ps_ret (pe_tup (pa_cons (pe_op op_add pe_int (callA F__law_roll (hr.mono (by decide)) rfl (pa_cons (pv 0) (pa_cons pe_int pa_nil)))) (pa_cons pe_int pa_nil))))) pss_nil)
    (pss_one (ps_ret (callA F__law_pick (hr.mono (by decide)) rfl (pa_cons (pv 0) (pa_cons (pe_lst (pa_cons (pe_tup (pa_cons pe_int (pa_cons pe_int pa_nil))) (pa_cons (pe_tup (pa_cons pe_int (pa_cons pe_int pa_nil))) (pa_cons (pe_tup (pa_cons pe_int (pa_cons pe_int pa_nil))) (pa_cons (pe_tup (pa_cons pe_int (pa_cons pe_int pa_nil))) (pa_cons (pe_tup (pa_cons pe_int (pa_cons pe_int pa_nil))) (pa_cons (pe_tup (pa_cons pe_int (pa_cons pe_int pa_nil))) (pa_cons (pe_tup (pa_cons pe_int (pa_cons pe_int pa_nil))) (pa_cons (pe_tup (pa_cons pe_int (pa_cons pe_int pa_nil))) pa_nil))))))))) pa_nil)))))), ?_⟩
  refine ⟨_, rfl, rfl, _, rfl, ?_⟩
  have k2 : ∀ q x y H', Ext H H' → H' q = some (.tup [.int x, .int y]) → LenP R (x, y) → Q (.ref q) H' := fun q x y => k q (x, y)
  refine ite2 (fun c => ?_) (fun c => ?_)
  · have lp : ∀ v : Int, 0 ≤ v → v < 6 → LenP R (1 + v, 0) := fun v h0 h1 => ⟨by show (0 : Int) ≤ 1 + v; omega, by show 1 + v ≤ 6; omega, by show (0 : Int) ≤ 0; omega, by show (0 : Int) ≤ 2; omega, by show (1 : Int) ≤ 1 + v + 0; omega, fun _ => rfl⟩
    refine ⟨_, rfl, _, _, rfl, ha, (by omega), z6, fun v1 h1 h1' => ?_⟩
    refine ⟨_, _, rfl, rfl, (Nat.le_of_ble_eq_true rfl), fun p2 n2 => ?_⟩
    generalize hg3 : upd _ p2 _ = H3
    obtain ⟨e3, h3⟩ := new_facts n2 hg3
    clear hg3
    refine (k2 _ _ _ _ e3 h3 (lp _ h1 h1'))
  · have r0 : R ≠ 0 := fun z => c (by rw [z]; rfl)
    have lp : ∀ x y : Int, ((decide (0 ≤ x) && decide (x ≤ 6)) && (decide (0 ≤ y) && decide (y ≤ 2)) && decide (1 ≤ x + y)) = true → LenP R (x, y) := fun x y h => by
      simp only [Bool.and_eq_true, decide_eq_true_eq] at h
      exact ⟨h.1.1.1, h.1.1.2, h.1.2.1, h.1.2.2, h.2, fun z => absurd z r0⟩
    refine ⟨_, rfl, (Nat.le_of_ble_eq_true rfl), fun p1 n1 => ?_⟩
    generalize hg2 : upd _ p1 _ = H2
    obtain ⟨e2, h2⟩ := new_facts n1 hg2
    clear hg2
    refine ⟨(Nat.le_of_ble_eq_true rfl), fun p3 n3 => ?_⟩
    generalize hg4 : upd _ p3 _ = H4
    obtain ⟨e4, h4⟩ := new_facts n3 hg4
    clear hg4
    refine ⟨(Nat.le_of_ble_eq_true rfl), fun p5 n5 => ?_⟩
    generalize hg6 : upd _ p5 _ = H6
    obtain ⟨e6, h6⟩ := new_facts n5 hg6
    clear hg6
    refine ⟨(Nat.le_of_ble_eq_true rfl), fun p7 n7 => ?_⟩
    generalize hg8 : upd _ p7 _ = H8
    obtain ⟨e8, h8⟩ := new_facts n7 hg8
    clear hg8
    refine ⟨(Nat.le_of_ble_eq_true rfl), fun p9 n9 => ?_⟩
    generalize hg10 : upd _ p9 _ = H10
    obtain ⟨e10, h10⟩ := new_facts n9 hg10
    clear hg10
    refine ⟨(Nat.le_of_ble_eq_true rfl), fun p11 n11 => ?_⟩
    generalize hg12 : upd _ p11 _ = H12
    obtain ⟨e12, h12⟩ := new_facts n11 hg12
    clear hg12
    refine ⟨(Nat.le_of_ble_eq_true rfl), fun p13 n13 => ?_⟩
    generalize hg14 : upd _ p13 _ = H14
    obtain ⟨e14, h14⟩ := new_facts n13 hg14
    clear hg14
    refine ⟨(Nat.le_of_ble_eq_true rfl), fun p15 n15 => ?_⟩
    generalize hg16 : upd _ p15 _ = H16
    obtain ⟨e16, h16⟩ := new_facts n15 hg16
    clear hg16
    refine ⟨(Nat.le_of_ble_eq_true rfl), fun p17 n17 => ?_⟩
    generalize hg18 : upd _ p17 _ = H18
    obtain ⟨e18, h18⟩ := new_facts n17 hg18
    clear hg18
    refine ⟨_, _, _, rfl, (((((((((e2.trans e4).trans e6).trans e8).trans e10).trans e12).trans e14).trans e16).trans e18) _ _ ha), (SqL.of h18), (List.cons_ne_nil _ _), (Nat.le_of_ble_eq_true rfl), fun v19 h19 => ?_⟩
    simp only [List.mem_cons, List.not_mem_nil, or_false] at h19
    rcases h19 with rfl | rfl | rfl | rfl | rfl | rfl | rfl | rfl
    · refine (k2 _ _ _ _ ((((((((e2.trans e4).trans e6).trans e8).trans e10).trans e12).trans e14).trans e16).trans e18) ((((((((e4.trans e6).trans e8).trans e10).trans e12).trans e14).trans e16).trans e18) _ _ h2) ?_)
      exact lp _ _ rfl
    · refine (k2 _ _ _ _ ((((((((e2.trans e4).trans e6).trans e8).trans e10).trans e12).trans e14).trans e16).trans e18) (((((((e6.trans e8).trans e10).trans e12).trans e14).trans e16).trans e18) _ _ h4) ?_)
      exact lp _ _ rfl
    · refine (k2 _ _ _ _ ((((((((e2.trans e4).trans e6).trans e8).trans e10).trans e12).trans e14).trans e16).trans e18) ((((((e8.trans e10).trans e12).trans e14).trans e16).trans e18) _ _ h6) ?_)
      exact lp _ _ rfl
    · refine (k2 _ _ _ _ ((((((((e2.trans e4).trans e6).trans e8).trans e10).trans e12).trans e14).trans e16).trans e18) (((((e10.trans e12).trans e14).trans e16).trans e18) _ _ h8) ?_)
      exact lp _ _ rfl
    · refine (k2 _ _ _ _ ((((((((e2.trans e4).trans e6).trans e8).trans e10).trans e12).trans e14).trans e16).trans e18) ((((e12.trans e14).trans e16).trans e18) _ _ h10) ?_)
      exact lp _ _ rfl
    · refine (k2 _ _ _ _ ((((((((e2.trans e4).trans e6).trans e8).trans e10).trans e12).trans e14).trans e16).trans e18) (((e14.trans e16).trans e18) _ _ h12) ?_)
      exact lp _ _ rfl
    · refine (k2 _ _ _ _ ((((((((e2.trans e4).trans e6).trans e8).trans e10).trans e12).trans e14).trans e16).trans e18) ((e16.trans e18) _ _ h14) ?_)
      exact lp _ _ rfl
    · refine (k2 _ _ _ _ ((((((((e2.trans e4).trans e6).trans e8).trans e10).trans e12).trans e14).trans e16).trans e18) (e18 _ _ h16) ?_)
      exact lp _ _ rfl
theorem ok_lplus (D : DefAt K mg "_law_plus" s_lplus) : FnAt P w K mg base 1 "_law_plus" ["_law_one", "_law_other"] (spPairs addP) := by
  refine fnAt D sc_lplus (fun _ _ _ _ _ _ us hl => match us, hl with | [_, _], _ => rfl) (fun vs H Q E h => ?_) fun f cdv A outer s H vs Q E hr h => ?_
  · obtain ⟨a, b, p, p', rfl, _⟩ := h
    rfl
  obtain ⟨a, b, p, p', rfl, ha, hb, k⟩ := h
  refine ⟨_, (pss_one (ps_ret (pe_tup (pa_cons (pe_op op_add (pe_ix ix_tup (pv 0) pe_int (fun _ _ => rfl)) (pe_ix ix_tup (pv 1) pe_int (fun _ _ => rfl))) (pa_cons (pe_op op_add (pe_ix ix_tup (pv 0) pe_int (fun _ _ => rfl)) (pe_ix ix_tup (pv 1) pe_int (fun _ _ => rfl))) pa_nil))))), ?_⟩
  refine ⟨_, rfl, _, _, _, _, rfl, rfl, (SqT.of ha), rfl, _, rfl, _, _, _, _, rfl, rfl, (SqT.of hb), rfl, _, _, rfl, rfl, _, rfl, _, _, _, _, rfl, rfl, (SqT.of ha), rfl, _, rfl, _, _, _, _, rfl, rfl, (SqT.of hb), rfl, _, _, rfl, rfl, (Nat.le_of_ble_eq_true rfl), fun p1 n1 => ?_⟩
  generalize hg2 : upd _ p1 _ = H2
  obtain ⟨e2, h2⟩ := new_facts n1 hg2
  clear hg2
  refine (k _ _ e2 h2)
theorem ok_lminus (D : DefAt K mg "_law_minus" s_lminus) : FnAt P w K mg base 1 "_law_minus" ["_law_one", "_law_other"] (spPairs subP) := by
  refine fnAt D sc_lminus (fun _ _ _ _ _ _ us hl => match us, hl with | [_, _], _ => rfl) (fun vs H Q E h => ?_) fun f cdv A outer s H vs Q E hr h => ?_
  · obtain ⟨a, b, p, p', rfl, _⟩ := h
    rfl
  obtain ⟨a, b, p, p', rfl, ha, hb, k⟩ := h
  refine ⟨_, (pss_one (ps_ret (pe_tup (pa_cons (pe_op op_sub (pe_ix ix_tup (pv 0) pe_int (fun _ _ => rfl)) (pe_ix ix_tup (pv 1) pe_int (fun _ _ => rfl))) (pa_cons (pe_op op_sub (pe_ix ix_tup (pv 0) pe_int (fun _ _ => rfl)) (pe_ix ix_tup (pv 1) pe_int (fun _ _ => rfl))) pa_nil))))), ?_⟩
  refine ⟨_, rfl, _, _, _, _, rfl, rfl, (SqT.of ha), rfl, _, rfl, _, _, _, _, rfl, rfl, (SqT.of hb), rfl, _, _, rfl, rfl, _, rfl, _, _, _, _, rfl, rfl, (SqT.of ha), rfl, _, rfl, _, _, _, _, rfl, rfl, (SqT.of hb), rfl, _, _, rfl, rfl, (Nat.le_of_ble_eq_true rfl), fun p1 n1 => ?_⟩
  generalize hg2 : upd _ p1 _ = H2
  obtain ⟨e2, h2⟩ := new_facts n1 hg2
  clear hg2
  refine (k _ _ e2 h2)
theorem ok_lnum (D : DefAt K mg "_law_number" s_lnum) (NC : NumT K mg CN) (FN_init : InitAt P w K mg base 3 CN (spInit CN)) : FnAt P w K mg base 5 "_law_number" ["_law_pair", "_law_root"] (spLNum CN) := by
  refine fnAt D sc_lnum (fun _ _ _ _ _ _ us hl => match us, hl with | [_, _], _ => rfl) (fun vs H Q E h => ?_) fun f cdv A outer s H vs Q E hr h => ?_
  · obtain ⟨a, p, R, rfl, _⟩ := h
    rfl
  obtain ⟨a, p, R, rfl, ha, ro, r0, k⟩ := h
  refine ⟨_, (pss_one (ps_ret (pe_ifExp (pt_cmpR op_ne (pe_ix ix_tup (pv 0) pe_int (fun _ _ => rfl)) pe_int (nomark _)) (mkRA FN_init NC.g (hr.mono (by decide)) rfl (pa_cons (pe_ix ix_tup (pv 0) pe_int (fun _ _ => rfl)) (pa_cons (pe_ix ix_tup (pv 0) pe_int (fun _ _ => rfl)) pa_nil)) (pk_cons (pv 1) pk_nil)) (mk1A FN_init NC.g (hr.mono (by decide)) rfl (pa_cons (pe_ix ix_tup (pv 0) pe_int (fun _ _ => rfl)) pa_nil))))), ?_⟩
  refine ⟨_, rfl, _, _, _, _, rfl, rfl, (SqT.of ha), rfl, rfl, _, rfl, ?_⟩
  refine ite2 (fun c => ?_) (fun c => ?_)
  · have y0 : p.2 ≠ 0 := fun z => by rw [z] at c; exact absurd c (by decide)
    have rr : rootOk R = true := ro.resolve_left fun z => y0 (r0 z)
    have nv : NV p.1 p.2 R 1 := ⟨valid_of (by decide) (.inr rr), by show (1 : Int).natAbs < 2 ^ 9000; decide +kernel⟩
    have k2 : ∀ q H', Ext H H' → NumAt CN H' q (lst p.1 p.2 R 1) → Q (.ref q) H' := fun q H' e n => k q H' e (by rw [lst1] at n; exact n)
    refine ⟨_, rfl, _, _, _, _, rfl, rfl, (SqT.of ha), rfl, _, rfl, _, _, _, _, rfl, rfl, (SqT.of ha), rfl, _, rfl, rfl, rfl, ?_⟩
    refine mkN_useR (fun _ => rfl) nv fun p1 H1 e1 h1 => ?m1u1
    obtain ⟨dx2, d2⟩ := id h1
    refine (k2 _ _ e1 h1)
  · have y0 : p.2 = 0 := Classical.byContradiction fun z => c (by rw [decide_eq_false (fun q => z (V.int.inj q))]; rfl)
    have k2 : ∀ q H', Ext H H' → NumAt CN H' q (lst p.1 0 0 1) → Q (.ref q) H' := fun q H' e n => k q H' e (by
      rw [lst1] at n
      have e2 : inN R p = inN 0 (p.1, 0) := by unfold inN; rw [y0]; rfl
      rw [e2]
      exact n)
    refine ⟨_, rfl, _, _, _, _, rfl, rfl, (SqT.of ha), rfl, ?_⟩
    refine mkN_useR (fun _ => rfl) (nv1) fun p1 H1 e1 h1 => ?m1u2
    obtain ⟨dx2, d2⟩ := id h1
    refine (k2 _ _ e1 h1)
end
end My
namespace My
open PySem PySem.Spec PyProof.Rows L2
local macro_rules | `(tactic| walk_at "side") => `(tactic| first | assumption | decide | exact Or.inl ⟨by decide, by decide⟩ | exact Or.inr ⟨by decide, by decide⟩ | exact ⟨by decide, by decide, by decide⟩ | omega | (unfold CMulW; decide +kernel) | (dsimp only; first | assumption | omega | decide +kernel) | exact len_ok (Nat.le_of_ble_eq_true rfl) | fail "side")
local macro_rules | `(tactic| walk_at "rd") => `(tactic| first
  | refine ⟨_, _, _, _, rfl, rfl, SqL.of upd_same, atI_nat (j := 0) rfl, ?_⟩ | refine ⟨_, _, _, _, rfl, rfl, SqL.of upd_same, atI_nat (j := 1) rfl, ?_⟩ | refine ⟨_, _, _, _, rfl, rfl, SqL.of upd_same, atI_nat (j := 2) rfl, ?_⟩
  | refine ⟨_, _, _, _, rfl, rfl, upd_same, rfl, ?_⟩
  | refine ⟨_, _, rfl, rfl, ?_⟩ | refine ⟨_, rfl, ?_⟩ | refine ⟨_, _, rfl, ?_⟩ | refine Or.inl ⟨_, rfl, ?_⟩ | refine Or.inr ⟨_, rfl, ?_⟩ | refine ⟨(by walk_at "side"), ?_⟩ | fail "rd")
abbrev s_lbegins : Stmt := top 68
theorem sc_lbegins : FnScope ["_law_row", "_law_lengths", "_law_found", "_law_at", "_law_name"] ["_law_row", "_law_lengths"] (defScope s_lbegins) := ⟨rfl, rfl, rfl, by decide +kernel, rfl, by decide +kernel, by decide +kernel⟩
def RelP (ps : List (Int × Int)) (vs : List V) (H : Hp) : Prop := RelL PairV ps vs H
theorem RelP.ext {ps : List (Int × Int)} {vs : List V} {H H' : Hp} (h : RelP ps vs H) (e : Ext H H') : RelP ps vs H' := RelL.mono h fun _ _ _ ⟨q, a, b⟩ => ⟨q, a, e _ _ b⟩
theorem RelP.but {ps : List (Int × Int)} {vs : List V} {H H' : Hp} {p : Addr} {op : HO} (h : RelP ps vs H) (b : But p op H H') (n : farT op = true := by rfl) : RelP ps vs H' :=
  RelL.mono h fun _ _ _ ⟨q, x, y⟩ => ⟨q, x, b.get y fun z => by rw [← z] at n; cases n⟩
/-- a dict from names to pairs -/
structure PairD (H : Hp) (d : Addr) (ks : List Str) (L : Str → Int × Int) : Prop where
  ex : ∃ vs, H d = some (.dK (zkV ks vs)) ∧ RelP (ks.map L) vs H
  nd : ks.Nodup
theorem PairD.ext {H H' : Hp} {d : Addr} {ks : List Str} {L : Str → Int × Int} (h : PairD H d ks L) (e : Ext H H') : PairD H' d ks L := ⟨let ⟨vs, a, b⟩ := h.ex; ⟨vs, e _ _ a, b.ext e⟩, h.nd⟩
theorem PairD.get {H : Hp} {d : Addr} {ks : List Str} {L : Str → Int × Int} {z : Str} (h : PairD H d ks L) (m : z ∈ ks) : ∃ q, DGet H d (.str z) (some (.ref q)) ∧ H q = some (.tup [.int (L z).1, .int (L z).2]) := by
  obtain ⟨vs, hd, r⟩ := h.ex
  have l : vs.length = ks.length := by rw [r.1, List.length_map]
  have lt := pos_lt m
  have hv : vs[pos ks z]? = some vs[pos ks z] := List.getElem?_eq_getElem (by omega)
  obtain ⟨q, e, hq⟩ := r.2 _ (L z) _ (by rw [List.getElem?_map, pos_get m]; rfl) hv
  refine ⟨q, ?_, hq⟩
  have := DGet.k (k := .inr z) hd
  rw [valV_zk _ _ _ m (by omega), hv, e] at this
  exact this
def sumP (ps : List (Int × Int)) : Int × Int := ps.foldl addP (0, 0)
theorem sumP_snoc (ps : List (Int × Int)) (p : Int × Int) : sumP (ps ++ [p]) = addP (sumP ps) p := by unfold sumP; rw [List.foldl_append]; rfl
def bgP (zs : List Str) (L : Str → Int × Int) (z : Str) : Int × Int := sumP ((zs.map L).take (pos zs z))
theorem pos_nth {zs : List Str} {i : Nat} {z : Str} (nd : zs.Nodup) (h : zs[i]? = some z) : pos zs z = i := by
  have m := List.mem_of_getElem? h
  have lt := (List.getElem?_eq_some_iff.mp h).1
  have g := pos_get m
  have pw := List.pairwise_iff_getElem.mp (List.nodup_iff_pairwise_ne.mp nd)
  have l2 := pos_lt m
  rcases Nat.lt_trichotomy (pos zs z) i with q | q | q
  · exact absurd ((List.getElem?_eq_some_iff.mp g).2.trans (List.getElem?_eq_some_iff.mp h).2.symm) (pw _ _ l2 lt q)
  · exact q
  · exact absurd ((List.getElem?_eq_some_iff.mp h).2.trans (List.getElem?_eq_some_iff.mp g).2.symm) (pw _ _ lt l2 q)
theorem dput_zk {H : Hp} {a : Addr} {ks : List Str} {vs : List V} {k : Str} {v : V} (e : H a = some (.dK (zkV ks vs))) (l : vs.length = ks.length) (n : k ∉ ks) (le : ks.length ≤ 1000) : DPut H a (.str k) v (upd H a (.dK (zkV (ks ++ [k]) (vs ++ [v])))) := by
  have := DPut.k (k := .inr k) (v := v) e (by rw [zkV_length l]; exact len_lt le)
  rw [putK_zk l n] at this
  exact this
theorem nth_not_before {zs : List Str} {i : Nat} {z : Str} (nd : zs.Nodup) (h : zs[i]? = some z) : z ∉ zs.take i := fun m => by
  have pw := List.pairwise_iff_getElem.mp (List.nodup_iff_pairwise_ne.mp nd)
  obtain ⟨k, hk1, hk2⟩ := List.mem_iff_getElem.mp m
  rw [List.length_take] at hk1
  rw [List.getElem_take] at hk2
  exact pw k i (by omega) (List.getElem?_eq_some_iff.mp h).1 (by omega) (hk2.trans (List.getElem?_eq_some_iff.mp h).2.symm)
def spLBegins (K : PySem.W.Frag) : Sp := fun vs H Q _ => ∃ a d zs ks L, vs = [.ref a, .ref d] ∧ SqL K H a (zs.map V.str) ∧ PairD H d ks L ∧ (∀ z ∈ zs, z ∈ ks) ∧ zs.Nodup ∧ zs.length ≤ 1000 ∧
  ∀ t d' q H', Ext H H' → H' t = some (.tup [.ref d', .ref q]) → PairD H' d' zs (bgP zs L) → H' q = some (.tup [.int (sumP (zs.map L)).1, .int (sumP (zs.map L)).2]) → Q (.ref t) H'
section
variable {P : Program} {w : World} {K : PySem.W.Frag} {mg : Str → Option Value} {base : Heap} {C CN CX : Addr}
theorem ok_lbegins (T : Bn mg) (D : DefAt K mg "_law_begins" s_lbegins) (F__law_plus : FnAt P w K mg base 1 "_law_plus" ["_law_one", "_law_other"] (spPairs addP)) : FnAt P w K mg base 2 "_law_begins" ["_law_row", "_law_lengths"] (spLBegins K) := by
  refine fnAt D sc_lbegins (fun _ _ _ _ _ _ us hl => match us, hl with | [_, _], _ => rfl) (fun vs H Q E h => ?_) fun f cdv A outer s H vs Q E hr h => ?_
  · obtain ⟨a, d, zs, ks, L, rfl, _⟩ := h
    rfl
  obtain ⟨a, d, zs, ks, L, rfl, ha, hd, sub, nd, le, k⟩ := h
  refine ⟨_, (pss_cons (ps_par (i := 2) (j := 3) rfl sc_lbegins.nd rfl rfl (by decide) rfl rfl (pa_cons pe_dnewK (pa_cons (pe_tup (pa_cons pe_int (pa_cons pe_int pa_nil))) pa_nil)) (by rfl))
    (pss_cons (ps_for PassesOwn.never rfl (pi_list (pv 0)) (pg_name (i := 4) sc_lbegins.nd rfl (Or.inl rfl))
      (pss_cons (ps_dput (hu1 hr) (pv 2) (pv 4) (pv 3) rfl)
    (pss_one (ps_set (i := 3) sc_lbegins.nd rfl (Or.inl rfl) (callA F__law_plus (hr.mono (by decide)) rfl (pa_cons (pv 3) (pa_cons (pe_dget (hu1 hr) (pv 1) (pv 4) (fun _ _ => rfl)) pa_nil)))))))
    (pss_one (ps_ret (pe_tup (pa_cons (pv 2) (pa_cons (pv 3) pa_nil))))))), ?_⟩
  intro p1 n1
  generalize hg2 : upd _ p1 _ = H2
  obtain ⟨e2, h2⟩ := new_facts n1 hg2
  clear hg2
  refine ⟨(Nat.le_of_ble_eq_true rfl), fun p3 n3 => ?_⟩
  generalize hg4 : upd _ p3 _ = H4
  obtain ⟨e4, h4⟩ := new_facts n3 hg4
  clear hg4
  refine ⟨_, _, rfl, _, rfl, _, rfl, ⟨_, (ha.ext (e2.trans e4))⟩, ?_⟩
  refine forL zs V.str (fun i σ' H' => ∃ (v : Option V) (q : Addr) (vs : List V), σ' = [some (.ref a), some (.ref d), some (.ref p1), some (.ref q), v] ∧ Ext H H' ∧ H' p1 = some (.dK (zkV (zs.take i) vs)) ∧ RelP ((zs.take i).map (bgP zs L)) vs H' ∧
      H' q = some (.tup [.int (sumP ((zs.map L).take i)).1, .int (sumP ((zs.map L).take i)).2]))
    ?_ (fun i σ H' p => ?_) (fun i z σ H5 hz p => ?_) fun σ H5 p => ?_
  · refine ⟨none, p3, [], rfl, e2.trans e4, e4 _ _ h2, RelL.nil, h4⟩
  · obtain ⟨v, q, vs, rfl, e5, h5, r5, q5⟩ := p
    exact ha.ext e5
  · obtain ⟨v, q, vs, rfl, e5, h5, r5, q5⟩ := p
    obtain ⟨u, gu, hu⟩ := hd.get (sub _ (List.mem_of_getElem? hz))
    have l5 : vs.length = (zs.take i).length := by rw [r5.1, List.length_map]
    have nb := nth_not_before nd hz
    have lt : (zs.take i).length ≤ 1000 := by rw [List.length_take]; omega
    have lz : i < zs.length := (List.getElem?_eq_some_iff.mp hz).1
    have tk : zs.take (i + 1) = zs.take i ++ [z] := by rw [List.take_succ, hz]; rfl
    have tm : (zs.map L).take (i + 1) = (zs.map L).take i ++ [L z] := by rw [List.take_succ, List.getElem?_map, hz]; rfl
    refine ⟨_, rfl, _, rfl, _, rfl, _, _, rfl, (dput_zk h5 l5 nb lt), _, rfl, ?_⟩
    generalize hg6 : upd _ p1 _ = H6
    obtain ⟨b6, h6⟩ := but_upd h5 hg6
    clear hg6
    have e6 := ext_but b6 e5 n1
    refine ⟨_, rfl, _, rfl, _, _, rfl, (gu.ext e6), _, _, _, _, rfl, (b6.get q5), (e6 _ _ hu), fun p7 H7 e7 h7 => ?_⟩
    refine ⟨some (.str z), p7, vs ++ [.ref q], rfl, e6.trans e7, ?_, ?_, ?_⟩
    · rw [tk]
      exact e7 _ _ h6
    · rw [tk, List.map_append]
      refine RelL.snoc ((r5.but b6).ext e7) ⟨q, rfl, ?_⟩
      rw [bgP, pos_nth nd hz]
      exact e7 _ _ (b6.get q5)
    · rw [tm, sumP_snoc]
      exact h7
  · obtain ⟨v, q, vs, rfl, e5, h5, r5, q5⟩ := p
    rw [List.take_length] at h5 r5
    rw [List.take_of_length_le (by rw [List.length_map]; exact Nat.le_refl _)] at q5
    refine ⟨_, rfl, _, rfl, (Nat.le_of_ble_eq_true rfl), fun p6 n6 => ?_⟩
    generalize hg7 : upd _ p6 _ = H7
    obtain ⟨e7, h7⟩ := new_facts n6 hg7
    clear hg7
    refine (k _ _ _ _ (e5.trans e7) h7 ?_ (e7 _ _ q5))
    exact ⟨⟨vs, e7 _ _ h5, r5.ext e7⟩, nd⟩
end
end My
namespace My
open PySem PySem.Spec PyProof.Rows L2
local macro_rules | `(tactic| walk_at "side") => `(tactic| first | assumption | decide | exact Or.inl ⟨by decide, by decide⟩ | exact Or.inr ⟨by decide, by decide⟩ | exact ⟨by decide, by decide, by decide⟩ | omega | (unfold CMulW; decide +kernel) | (dsimp only; first | assumption | omega | decide +kernel) | exact len_ok (Nat.le_of_ble_eq_true rfl) | fail "side")
local macro_rules | `(tactic| walk_at "rd") => `(tactic| first
  | refine ⟨_, _, _, _, rfl, rfl, SqL.of upd_same, atI_nat (j := 0) rfl, ?_⟩ | refine ⟨_, _, _, _, rfl, rfl, SqL.of upd_same, atI_nat (j := 1) rfl, ?_⟩ | refine ⟨_, _, _, _, rfl, rfl, SqL.of upd_same, atI_nat (j := 2) rfl, ?_⟩
  | refine ⟨_, _, _, _, rfl, rfl, upd_same, rfl, ?_⟩
  | refine ⟨_, _, rfl, rfl, ?_⟩ | refine ⟨_, rfl, ?_⟩ | refine ⟨_, _, rfl, ?_⟩ | refine Or.inl ⟨_, rfl, ?_⟩ | refine Or.inr ⟨_, rfl, ?_⟩ | refine ⟨(by walk_at "side"), ?_⟩ | fail "rd")
abbrev s_lexch : Stmt := top 65
theorem sc_lexch : FnScope ["_law_world", "_law_lengths", "_law_name"] ["_law_world"] (defScope s_lexch) := ⟨rfl, rfl, rfl, by decide +kernel, rfl, by decide +kernel, by decide +kernel⟩
/-- a world of the law: two rows, lengths, a root -/
structure WorldAt (K : PySem.W.Frag) (H : Hp) (W : Addr) (us ls ks : List Str) (L : Str → Int × Int) (R : Int) : Prop where
  ex : ∃ U M D, DGet H W (.str "upper") (some (.ref U)) ∧ DGet H W (.str "lower") (some (.ref M)) ∧ DGet H W (.str "lengths") (some (.ref D)) ∧ DGet H W (.str "root") (some (.int R)) ∧ H U = some (.lst (us.map V.str)) ∧ H M = some (.lst (ls.map V.str)) ∧ PairD H D ks L
  rows : RowsOk us ls
  le : us.length ≤ 10
  srt : SortOf us ks
  len : ∀ z ∈ us, LenP R (L z)
  ro : R = 0 ∨ R = 2 ∨ R = 3 ∨ R = 5
theorem WorldAt.ext {K : PySem.W.Frag} {H H' : Hp} {W : Addr} {us ls ks : List Str} {L : Str → Int × Int} {R : Int} (h : WorldAt K H W us ls ks L R) (e : Ext H H') : WorldAt K H' W us ls ks L R :=
  ⟨let ⟨U, M, D, a, b, c, d, x, y, z⟩ := h.ex; ⟨U, M, D, a.ext e, b.ext e, c.ext e, d.ext e, e _ _ x, e _ _ y, z.ext e⟩, h.rows, h.le, h.srt, h.len, h.ro⟩
theorem zkV_fst : ∀ {ks : List Str} {vs : List V}, vs.length = ks.length → (zkV ks vs).map (·.1) = ks.map Sum.inr
  | [], _, _ => rfl
  | k :: ks, [], h => by simp at h
  | k :: ks, v :: vs, h => by
    have ih := zkV_fst (ks := ks) (vs := vs) (by simpa using h)
    unfold zkV at ih ⊢
    rw [List.zip_cons_cons, List.map_cons, List.map_cons, List.map_cons, ih]
def inF (R : Int) (L : Str → Int × Int) (z : Str) : Nm := inN R (L z)
theorem rtOk_of {R : Int} (h : R = 0 ∨ R = 2 ∨ R = 3 ∨ R = 5) : RtOk R := by
  rcases h with rfl | rfl | rfl | rfl
  · exact .inl rfl
  · exact .inr (by decide +kernel)
  · exact .inr (by decide +kernel)
  · exact .inr (by decide +kernel)
/-- an order whose rows are told to have no dict -/
def OrdN (K : PySem.W.Frag) (C : Addr) (H : Hp) (o : Addr) (zs ys : List Str) : Prop := ∃ a b, OrdAB K C H o a b zs ys ∧ NoD K H a ∧ NoD K H b
theorem OrdN.ext {K : PySem.W.Frag} {C : Addr} {H H' : Hp} {o : Addr} {zs ys : List Str} (h : OrdN K C H o zs ys) (e : Ext H H') : OrdN K C H' o zs ys := let ⟨a, b, x, y, z⟩ := h; ⟨a, b, x.ext e, y.ext e, z.ext e⟩
theorem mkO_useB {K : PySem.W.Frag} {C a b : Addr} {zs ys : List Str} {H : Hp} {R : Addr → Hp → Prop} {E : XK} {args : Addr → List V} (hargs : ∀ x, args x = [.ref x, .ref a, .ref b]) (ha : SqT K H a (zs.map V.str)) (hb : SqT K H b (ys.map V.str)) (ro : RowsOk zs ys) (k : ∀ x H', Ext H H' → OrdAB K C H' x a b zs ys → R x H') :
    ∀ x dx, H x = none → H dx = none → dx ≠ x → spOInit K C (args x) (upd (upd H dx (.own x)) x (.ins C dx [])) (fun v H2 => v = .non ∧ R x H2) E := fun x dx hx hd ne => by
  have e1 : Ext H (upd (upd H dx (.own x)) x (.ins C dx [])) := ext_mut (ext_new (ext_refl H) hd) hx
  exact ⟨x, dx, a, b, zs, ys, hargs x, upd_same, ha.ext e1, hb.ext e1, ro, fun H' kp oa => ⟨rfl, k x H' (fun c o q => kp c o (e1 c o q) (ne_of_none q hx)) oa⟩⟩
def spLExch (K : PySem.W.Frag) (C CN CX : Addr) : Sp := fun vs H Q _ => ∃ W us ls ks L R, vs = [.ref W] ∧ WorldAt K H W us ls ks L R ∧ XG R us ls (inF R L) ∧ ∀ x o H', Ext H H' → XchAt K C CN CX H' x R us ls (inF R L) → XOrd CX H' x o → OrdN K C H' o us ls → Q (.ref x) H'
section
variable {P : Program} {w : World} {K : PySem.W.Frag} {mg : Str → Option Value} {base : Heap} {C CN CX : Addr}
theorem ok_lexch (T : Bn mg) (D : DefAt K mg "_law_exchange" s_lexch) (OT : OrdT K mg C) (XT : XchT K mg CX) (F__law_number : FnAt P w K mg base 5 "_law_number" ["_law_pair", "_law_root"] (spLNum CN)) (F_init : OInitAt P w K mg base 5 C (spOInit K C)) (FX_init : XInitAt P w K mg base 9 CX (spXInit K C CN CX)) : FnAt P w K mg base 11 "_law_exchange" ["_law_world"] (spLExch K C CN CX) := by
  refine fnAt D sc_lexch (fun _ _ _ _ _ _ us hl => match us, hl with | [_], _ => rfl) (fun vs H Q E h => ?_) fun f cdv A outer s H vs Q E hr h => ?_
  · obtain ⟨W, us, ls, ks, L, R, rfl, _⟩ := h
    rfl
  obtain ⟨W, us, ls, ks, L, R, rfl, wa, xg, k⟩ := h
  obtain ⟨U, M, DL, gU, gM, gD, gR, hU, hM, hd⟩ := wa.ex
  refine ⟨_, (pss_cons (ps_set (i := 1) sc_lexch.nd rfl (Or.inl rfl) pe_dnewK)
    (pss_cons (ps_for PassesOwn.never rfl (pi_list (pe_callB (call_sortedD rfl) (by rfl) T.b_sorted (by decide +kernel) (pa_cons (pe_dget (hu1 hr) (pv 0) pe_str (fun _ _ => rfl)) pa_nil))) (pg_name (i := 2) sc_lexch.nd rfl (Or.inl rfl))
      (pss_one (ps_dput (hu1 hr) (pv 1) (pv 2) (callA F__law_number (hr.mono (by decide)) rfl (pa_cons (pe_dget (hu1 hr) (pe_dget (hu1 hr) (pv 0) pe_str (fun _ _ => rfl)) (pv 2) (fun _ _ => rfl)) (pa_cons (pe_dget (hu1 hr) (pv 0) pe_str (fun _ _ => rfl)) pa_nil))) rfl)))
    (pss_one (ps_ret (mkX FX_init XT (hr.mono (by decide)) (pa_cons (mkO F_init OT (hr.mono (by decide)) (pa_cons (pe_callTy call_tupleF (by rfl) T.b_tuple (by decide +kernel) (pa_cons (pe_dget (hu1 hr) (pv 0) pe_str (fun _ _ => rfl)) pa_nil)) (pa_cons (pe_callTy call_tupleF (by rfl) T.b_tuple (by decide +kernel) (pa_cons (pe_dget (hu1 hr) (pv 0) pe_str (fun _ _ => rfl)) pa_nil)) pa_nil))) (pa_cons (pv 1) pa_nil))))))), ?_⟩
  obtain ⟨vs, hD, rD⟩ := hd.ex
  have hk : (zkV ks vs).map (·.1) = ks.map Sum.inr := zkV_fst (rD.1.trans (List.length_map _))
  have lk : ks.length < 64 := by rw [wa.srt.pm.length_eq]; have := wa.le; omega
  intro p1 n1
  generalize hg2 : upd _ p1 _ = H2
  obtain ⟨e2, h2⟩ := new_facts n1 hg2
  clear hg2
  refine ⟨_, rfl, _, _, rfl, (gD.ext e2), _, _, _, rfl, (Rd.of (e2 _ _ hD)), hk, lk, fun v3 p3 h3 h3' n3 => ?_⟩
  generalize hg4 : upd _ p3 _ = H4
  obtain ⟨e4, h4⟩ := new_facts n3 hg4
  clear hg4
  refine ⟨_, rfl, ⟨_, (SqL.of h4)⟩, ?_⟩
  have n3d : v3.Nodup := h3.nodup_iff.mpr (wa.srt.pm.nodup_iff.mpr wa.rows.nd)
  have l3 : v3.length < 64 := by rw [h3.length_eq]; exact lk
  refine forL v3 V.str (fun i σ' H' => ∃ (v : Option V) (vs : List V), σ' = [some (.ref W), some (.ref p1), v] ∧ Ext H H' ∧ H' p3 = some (.lst (v3.map V.str)) ∧ H' p1 = some (.dK (zkV (v3.take i) vs)) ∧ RelL (NumV CN) ((v3.take i).map (inF R L)) vs H')
    ?_ (fun i σ H' p => ?_) (fun i z σ H5 hz p => ?_) fun σ H5 p => ?_
  · refine ⟨none, [], rfl, e2.trans e4, h4, e4 _ _ h2, RelL.nil⟩
  · obtain ⟨v, vs, rfl, e5, g5, h5, r5⟩ := p
    exact SqL.of g5
  · obtain ⟨v, vs, rfl, e5, g5, h5, r5⟩ := p
    have mz : z ∈ ks := h3.mem_iff.mp (List.mem_of_getElem? hz)
    have lz := wa.len z (wa.srt.pm.mem_iff.mp mz)
    have ro := rtOk_of wa.ro
    have l5 : vs.length = (v3.take i).length := by rw [r5.1, List.length_map]
    have nb := nth_not_before n3d hz
    have lt : (v3.take i).length ≤ 1000 := by rw [List.length_take]; omega
    have tk : v3.take (i + 1) = v3.take i ++ [z] := by rw [List.take_succ, hz]; rfl
    have r0 := lz.rt
    obtain ⟨u, gu, hu⟩ := hd.get mz
    refine ⟨_, rfl, _, _, rfl, (gD.ext e5), _, rfl, _, _, rfl, (gu.ext e5), _, rfl, _, _, rfl, (gR.ext e5), _, _, _, rfl, (e5 _ _ hu), ro, r0, fun p6 H6 e6 h6 => ?_⟩
    obtain ⟨dx7, d7⟩ := id h6
    refine ⟨_, rfl, _, rfl, _, _, rfl, (dput_zk (e6 _ _ h5) l5 nb lt), ?_⟩
    generalize hg8 : upd _ p1 _ = H8
    obtain ⟨b8, h8⟩ := but_upd (e6 _ _ h5) hg8
    have e8 := ext_but b8 (e5.trans e6) n1
    refine ⟨some (.str z), vs ++ [.ref p6], rfl, e8, b8.get (e6 _ _ g5), ?_, ?_⟩
    · rw [tk]
      exact h8
    · rw [tk, List.map_append]
      refine RelL.snoc ((r5.ext e6).but b8) ⟨p6, rfl, h6.but b8⟩
  · obtain ⟨v, vs, rfl, e5, g5, h5, r5⟩ := p
    rw [List.take_length] at h5 r5
    have nD : NumD CN H5 p1 v3 (inF R L) := numD_mk h5 (all_of_rel ((RelL.map (R := NumV CN) (f := inF R L)).mp r5)) n3d
    have pm : v3.Perm us := h3.trans wa.srt.pm
    have ro := wa.rows
    refine ⟨_, rfl, _, _, rfl, (gU.ext e5), _, _, rfl, .inl ⟨(SqL.of (e5 _ _ hU)), newT_use (K := K) fun p6 H7 e7 t7 d7 => ?_⟩⟩
    refine ⟨_, rfl, _, _, rfl, (gM.ext (e5.trans e7)), _, _, rfl, .inl ⟨(SqL.of ((e5.trans e7) _ _ hM)), newT_use (K := K) fun p8 H9 e9 t9 d9 => ?_⟩⟩
    refine mkO_useB (fun _ => rfl) (t7.ext e9) t9 ro fun p10 H10 e10 h10 => ?_
    refine ⟨_, rfl, ?_⟩
    refine mkX_useO (fun _ => rfl) h10.at (nD.ext ((e7.trans e9).trans e10)) pm xg fun p12 H12 e12 h12 o12 => ?_
    exact k _ _ _ ((((e5.trans e7).trans e9).trans e10).trans e12) h12 o12 ⟨_, _, h10.ext e12, d7.ext ((e9.trans e10).trans e12), d9.ext (e10.trans e12)⟩
end
end My
namespace My
open PySem PySem.Spec PyProof.Rows L2
open SeqAt MeetsSeq
open AutoSeq1 (wpAny_loadPart')
section
variable {prog : Program} {w : World} {A : Around} {s : Shared} {E : Value → Shared → Prop}
theorem str_declines_dict (b : Str) (u : Tok) (l : Addr) (es : Array DictEntry) (ep : Nat) (dd : Option Addr) (sl : Array (Option Value)) :
    Meets (Builtin.«str.__eq__» ⟨[.str b u, .ref l], []⟩) (fun _ R s => s.heap.get? l = some { cls := .type "dict", dict := dd, data := .dict es ep, slots := sl } ∧ R (.ok (.ret .notImplemented)) s) :=
  .of_wp fun prog w A R s h => by obtain ⟨hp, g, d, tk, os⟩ := s; obtain ⟨hl, h⟩ := h; wp_walk using wpAny_loadPart' hl, wpAny_load hl; exact ⟨_, rfl, h⟩
theorem rc_str_dict {l : Addr} {b : Str} {u : Tok} {es : Array DictEntry} {ep : Nat} {dd : Option Addr} {sl : Array (Option Value)} {Q : Value → Shared → Prop} (ho : s.heap.get? l = some { cls := .type "dict", dict := dd, data := .dict es ep, slots := sl }) (hu : A.units < cLine) (h : Q (.bool false) s) :
    wpAny (model prog w) A (richCompare .Eq (.str b u) (.ref l)) Q E s := by
  have hT : s.TypeIs (.ref l) "dict" := ⟨_, ho, rfl⟩
  refine SeqAt.rc_eq_decline_or (k := false) (typeIs_str s b u) hT (by decide) PySem.F.sub_dict_str PySem.F.slot_str_eq PySem.F.slot_dict_eq_refl
    (fun _ hq => call_meets PySem.F.slot_str_eq (typeIs_str s b u) PySem.F.entry_str_eq (PySem.F.args_str_eq_2 _ _) (str_declines_dict b u l es ep dd sl) ⟨ho, hq⟩)
    (fun Q' hq => ?_) (fun _ hq => wpAny_of_eq (rfl : isSame (.str b u) (.ref l) = pure false) hq) (.inr hu) h
  refine wpAny_call_entry PySem.F.slot_dict_eq_refl hT PySem.F.entry_dict_eq ?_ (PySem.F.args_dict_eq_2 _ _)
  show wpAny _ _ (Builtin.Dict.dictSlotArgs "__eq__" ⟨[.ref l, .str b u], []⟩ >>= _) _ _ s
  refine wpAny_bind ?_
  unfold Builtin.Dict.dictSlotArgs
  refine wpAny_bind (wpAny_notOrdered_dict hT ?_)
  refine wpAny_pure (wpAny_bind (wpAny_isInstance (T := "str") (typeIs_str s b u) PySem.F.sub_str_dict ?_))
  simp only [Bool.not_false, if_true]
  exact wpAny_bind (wpAny_rule (wpAny_pure ⟨_, rfl, hq⟩))
theorem eq_str_dict {l : Addr} (b : Str) (u : Tok) {es : Array DictEntry} {ep : Nat} {dd : Option Addr} {sl : Array (Option Value)} (ho : s.heap.get? l = some { cls := .type "dict", dict := dd, data := .dict es ep, slots := sl }) (hu : A.units < cLine) : EqAt A s (.str b u) (.ref l) false := fun prog w E Q h => by
  unfold eqBool
  refine wpAny_holding ?_
  refine wpAny_ite_split (fun hab => absurd (eq_of_beq hab) nofun) (fun _ => ?_)
  exact wpAny_bind (rc_str_dict ho hu (wpAny_truthy_bool h))
end
/-- kinds that are no text -/
inductive NoTx (K : PySem.W.Frag) (H : Hp) : V → Prop
  | non : NoTx K H .non
  | bl (b : Bool) : NoTx K H (.bl b)
  | int (i : Int) : NoTx K H (.int i)
  | lst {a : Addr} {xs : List V} (h : SqL K H a xs) : NoTx K H (.ref a)
  | tup {a : Addr} {xs : List V} (h : SqT K H a xs) : NoTx K H (.ref a)
  | dct {a : Addr} {kvs : List (Key × V)} (h : H a = some (.dK kvs)) : NoTx K H (.ref a)
theorem inV_strs (z : Str) : ∀ zs : List Str, inV (.str z) (zs.map V.str) = decide (z ∈ zs)
  | [] => rfl
  | y :: r => by
    unfold inV
    rw [List.map_cons, List.any_cons]
    have ih := inV_strs z r
    unfold inV at ih
    rw [ih, Bool.eq_iff_iff, Bool.or_eq_true, decide_eq_true_iff, decide_eq_true_iff, List.mem_cons]
    have e : eqV (.str y) (.str z) = true ↔ z = y := by
      show (y == z) = true ↔ z = y
      rw [beq_iff_eq]
      exact ⟨fun h => h.symm, fun h => h.symm⟩
    rw [e]
/-- v in a tuple of texts -/
def rInTx (K : PySem.W.Frag) : R2 := fun x y H Q => ∃ (p : Addr) (zs : List Str), y = .ref p ∧ SqT K H p (zs.map V.str) ∧ ((∃ z, x = .str z ∧ Q (.bl (decide (z ∈ zs))) H) ∨ (NoTx K H x ∧ Q (.bl false) H))
section
variable {X : Cx}
theorem op_inTx (hu : X.A.units + 1 < cLine) : OpR X (compareOp .In) (rInTx X.K) := by
  intro pins s σ H x y v u Q I rx ry h
  obtain ⟨p, zs, rfl, hq, h⟩ := h
  cases ry
  obtain ⟨its, r, pl, hz⟩ := I.tuple hq
  have isT : s.heap.IsTuple p its.toArray := by obtain ⟨o, ho, hcl, n, hd⟩ := pl; exact ⟨o, ho, hcl, n, hd⟩
  have tx : ∀ w ∈ its, ∃ z t, w = Value.str z t := fun w hw => by
    obtain ⟨j, hj, e⟩ := List.getElem_of_mem hw
    have hl : j < (zs.map V.str).length := by rw [r.length]; exact hj
    obtain ⟨u', hu', ru⟩ := r.get (i := j) (x := (zs.map V.str)[j]) (List.getElem?_eq_getElem hl)
    rw [List.getElem?_eq_getElem hj] at hu'
    cases hu'
    rw [List.getElem_map] at ru
    obtain ⟨t, et⟩ := ru
    exact ⟨_, t, by rw [← e, et]⟩
  have hu' : X.A.in1.units < cLine := by
    have : X.A.in1.units = X.A.units + 1 ∨ X.A.in1.units = X.A.units := by first | exact .inl rfl | exact .inr rfl
    omega
  rcases h with ⟨z, rfl, q⟩ | ⟨nt, q⟩
  · exact op_in_seq pins s σ H (.str z) (.ref p) _ (.ref p) Q I rx rfl ⟨p, _, rfl, .inr hq, rfl, by rw [List.all_map]; exact List.all_eq_true.mpr fun _ _ => rfl, by rw [inV_strs]; exact q⟩
  · refine SeqAt.in_tupleAt (fun _ => false) isT (fun w hw => ?_) ⟨.bl false, H, I, by rw [show its.toArray.any (fun _ => false) = false by simp]; rfl, q⟩
    obtain ⟨z, t, rfl⟩ := tx w (by simpa using hw)
    cases nt with
    | non => cases rx; exact EqAt.str_none z t
    | bl b => cases rx; exact EqAt.str_bool z t b
    | int i => obtain ⟨t2, rfl⟩ := rx; exact EqAt.str_int z t i t2
    | lst hl => cases rx; obtain ⟨its2, _, pl2, _⟩ := I.list hl; exact EqAt.str_list z t pl2.isList hu'
    | tup hl => cases rx; obtain ⟨its2, _, pl2, _⟩ := I.tuple hl; exact EqAt.str_tuple z t pl2 hu'
    | dct hd =>
      cases rx
      obtain ⟨_, _, vs, _, o, es, ep, ho, hex, hd2, _⟩ := (show ObjOk X.prog X.w H s.heap _ (.dK _) from I.hok _ _ hd)
      obtain ⟨cls, dd, data, sl⟩ := o
      have hc : cls = .type "dict" := hex.1
      have hd' : data = .dict es ep := hd2
      subst hc hd'
      exact eq_str_dict z t ho hu'
end
end My
namespace My
open PySem PySem.Spec PyProof.Rows L2 TL
local macro_rules | `(tactic| walk_at "side") => `(tactic| first | assumption | decide | exact Or.inl ⟨by decide, by decide⟩ | exact Or.inr ⟨by decide, by decide⟩ | exact ⟨by decide, by decide, by decide⟩ | omega | (unfold CMulW; decide +kernel) | (dsimp only; first | assumption | omega | decide +kernel) | exact len_ok (Nat.le_of_ble_eq_true rfl) | fail "side")
local macro_rules | `(tactic| walk_at "rd") => `(tactic| first
  | refine ⟨_, _, _, _, rfl, rfl, SqL.of upd_same, atI_nat (j := 0) rfl, ?_⟩ | refine ⟨_, _, _, _, rfl, rfl, SqL.of upd_same, atI_nat (j := 1) rfl, ?_⟩ | refine ⟨_, _, _, _, rfl, rfl, SqL.of upd_same, atI_nat (j := 2) rfl, ?_⟩
  | refine ⟨_, _, _, _, rfl, rfl, upd_same, rfl, ?_⟩
  | refine ⟨_, _, rfl, rfl, ?_⟩ | refine ⟨_, rfl, ?_⟩ | refine ⟨_, _, rfl, ?_⟩ | refine Or.inl ⟨_, rfl, ?_⟩ | refine Or.inr ⟨_, rfl, ?_⟩ | refine ⟨(by walk_at "side"), ?_⟩ | fail "rd")
abbrev s_oform : Stmt := inClass (top 40) 12
theorem sc_oform : FnScope ["self", "one", "other", "name", "is_ahead_above", "is_ahead_below"] ["self", "one", "other"] (defScope s_oform) := ⟨rfl, rfl, rfl, by decide +kernel, rfl, by decide +kernel, by decide +kernel⟩
def aheadI (zs : List Str) (u v : Str) : Int := if pos zs u < pos zs v then 1 else 0
def frm (zs ys : List Str) (u v : Str) : Int := aheadI zs u v - aheadI ys u v
def spOForm (K : PySem.W.Frag) (C : Addr) : Sp := fun vs H Q _ => ∃ (o a b : Addr) (zs ys : List Str) (u v : Str), vs = [.ref o, .str u, .str v] ∧ OrdAB K C H o a b zs ys ∧ NoD K H a ∧ NoD K H b ∧ u ∈ zs ∧ v ∈ zs ∧ ∀ H', Ext H H' → Q (.int (frm zs ys u v)) H'
section
variable {P : Program} {w : World} {K : PySem.W.Frag} {mg : Str → Option Value} {base : Heap} {C : Addr}
theorem ok_oform (T : Bn mg) (D : MethT K C "form" "Order.form" s_oform) (OT : OrdT K mg C) : MethAt P w K mg base 2 C "form" ["self", "one", "other"] (spOForm K C) := by
  refine methAt D sc_oform (fun _ _ _ _ _ _ us hl => match us, hl with | [_, _, _], _ => rfl) (fun vs H Q E h => ?_) fun f cdv A outer s H vs Q E hr h => ?_
  · obtain ⟨o, a, b, zs, ys, u, v, rfl, _⟩ := h
    rfl
  obtain ⟨o, a, b, zs, ys, u, v, rfl, ⟨dx, c, e, ha, hb, hc, ro⟩, na, nb, hu, hv, k⟩ := h
  refine ⟨_, (pss_cons (ps_for PassesOwn.never rfl (pi_tup (pe_tup (pa_cons (pv 1) (pa_cons (pv 2) pa_nil)))) (pg_name (i := 3) sc_oform.nd rfl (Or.inl rfl))
      (pss_one (ps_if (pt_cmpR op_notIn_seq (pv 3) (pe_fld (pv 0) rfl) rfl) (pss_one ps_never) pss_nil)))
    (pss_cons (ps_set (i := 4) sc_oform.nd rfl (Or.inl rfl) (pe_cmpR op_lt (pe_bmT PySem.F.plainAttrs_tuple PySem.F.slot_tuple_index PySem.F.type_tuple_index mt_tup_indexF (pe_fld (pv 0) rfl) (pa_cons (pv 1) pa_nil)) (pe_bmT PySem.F.plainAttrs_tuple PySem.F.slot_tuple_index PySem.F.type_tuple_index mt_tup_indexF (pe_fld (pv 0) rfl) (pa_cons (pv 2) pa_nil)) (nomark _)))
    (pss_cons (ps_set (i := 5) sc_oform.nd rfl (Or.inl rfl) (pe_cmpR op_lt (pe_bmT PySem.F.plainAttrs_tuple PySem.F.slot_tuple_index PySem.F.type_tuple_index mt_tup_indexF (pe_fld (pv 0) rfl) (pa_cons (pv 1) pa_nil)) (pe_bmT PySem.F.plainAttrs_tuple PySem.F.slot_tuple_index PySem.F.type_tuple_index mt_tup_indexF (pe_fld (pv 0) rfl) (pa_cons (pv 2) pa_nil)) (nomark _)))
    (pss_one (ps_ret (pe_op op_sub (pe_callTy call_int1 (by rfl) T.b_int (by decide +kernel) (pa_cons (pv 4) pa_nil)) (pe_callTy call_int1 (by rfl) T.b_int (by decide +kernel) (pa_cons (pv 5) pa_nil)))))))), ?_⟩
  have flat : (zs.map V.str).all flatV = true := by
    rw [List.all_map]
    exact List.all_eq_true.mpr fun _ _ => rfl
  refine ⟨_, rfl, _, rfl, len_ok (Nat.le_of_ble_eq_true rfl), fun q hq => ?_⟩
  have x1 := ext_new (o := HO.tup [V.str u, .str v]) (ext_refl H) hq
  refine ⟨q, rfl, ⟨_, SqT.of upd_same⟩, ?_⟩
  refine for_it (walk_tup (xs := [V.str u, .str v])) (fun i σ' H' => ∃ z, σ' = [some (.ref o), some (.str u), some (.str v), z, none, none] ∧ H' = upd H q (.tup [V.str u, .str v])) ⟨none, rfl, rfl⟩ (fun i σ' H' _ p => ?_) (fun i x σ' H1 H' hi p y => ?_) fun σ' H' p => ?_
  · obtain ⟨z, _, rfl⟩ := p
    exact SqT.of upd_same
  · obtain ⟨z, rfl, rfl⟩ := p
    obtain ⟨rfl, hx⟩ := y
    have hx' : ∃ n, x = .str n ∧ n ∈ zs := by
      match i, hi, hx with
      | 0, _, hx => cases hx; exact ⟨u, rfl, hu⟩
      | 1, _, hx => cases hx; exact ⟨v, rfl, hv⟩
    obtain ⟨n, rfl, hn⟩ := hx'
    refine ⟨_, rfl, _, rfl, o, C, dx, _, _, rfl, x1 _ _ e, OT.cl, OT.nA, ofs_a a b c, a, _, rfl, .inr (ha.ext x1), rfl, flat, ?_⟩
    rw [if_pos rfl, inV_strs, decide_eq_true hn]
    exact ⟨_, rfl, iteF ⟨_, rfl, rfl⟩⟩
  · obtain ⟨z, rfl, rfl⟩ := p
    have hu2 : u ∈ ys := ro.pm.mem_iff.mpr hu
    have hv2 : v ∈ ys := ro.pm.mem_iff.mpr hv
    have ha1 := ha.ext x1
    have hb1 := hb.ext x1
    have e1 := x1 _ _ e
    refine ⟨_, rfl, o, C, dx, _, _, rfl, e1, OT.cl, OT.nA, ofs_a a b c, ⟨a, _, rfl, ha1, na.ext x1⟩, _, rfl, ?_⟩
    dsimp only [tNil]
    refine idxT_use ha1 hu ?_
    refine ⟨_, rfl, o, C, dx, _, _, rfl, e1, OT.cl, OT.nA, ofs_a a b c, ⟨a, _, rfl, ha1, na.ext x1⟩, _, rfl, ?_⟩
    dsimp only [tNil]
    refine idxT_use ha1 hv ?_
    refine ⟨_, _, rfl, rfl, ?_⟩
    refine ⟨_, rfl, o, C, dx, _, _, rfl, e1, OT.cl, OT.nB, ofs_b a b c, ⟨b, _, rfl, hb1, nb.ext x1⟩, _, rfl, ?_⟩
    dsimp only [tNil]
    refine idxT_use hb1 hu2 ?_
    refine ⟨_, rfl, o, C, dx, _, _, rfl, e1, OT.cl, OT.nB, ofs_b a b c, ⟨b, _, rfl, hb1, nb.ext x1⟩, _, rfl, ?_⟩
    dsimp only [tNil]
    refine idxT_use hb1 hv2 ?_
    refine ⟨_, _, rfl, rfl, ?_⟩
    refine ⟨_, rfl, .inr ⟨_, rfl, _, rfl, .inr ⟨_, rfl, _, _, rfl, rfl, ?_⟩⟩⟩
    have ec : ∀ l : List Str, (if decide (((pos l u : Nat) : Int) < (pos l v : Nat)) = true then (1 : Int) else 0) = aheadI l u v := fun l => by
      unfold aheadI
      by_cases h : pos l u < pos l v
      · rw [if_pos h, if_pos (decide_eq_true (by omega))]
      · rw [if_neg h, if_neg (by rw [decide_eq_true_iff]; omega)]
    rw [ec, ec]
    exact k _ x1
end
end My
namespace My
open PySem PySem.Spec PyProof.Rows L2
local macro_rules | `(tactic| walk_at "side") => `(tactic| first | assumption | decide | exact Or.inl ⟨by decide, by decide⟩ | exact Or.inr ⟨by decide, by decide⟩ | exact ⟨by decide, by decide, by decide⟩ | omega | (unfold CMulW; decide +kernel) | (dsimp only; first | assumption | omega | decide +kernel) | exact len_ok (Nat.le_of_ble_eq_true rfl) | fail "side")
local macro_rules | `(tactic| walk_at "rd") => `(tactic| first
  | refine ⟨_, _, _, _, rfl, rfl, SqL.of upd_same, atI_nat (j := 0) rfl, ?_⟩ | refine ⟨_, _, _, _, rfl, rfl, SqL.of upd_same, atI_nat (j := 1) rfl, ?_⟩ | refine ⟨_, _, _, _, rfl, rfl, SqL.of upd_same, atI_nat (j := 2) rfl, ?_⟩
  | refine ⟨_, _, _, _, rfl, rfl, upd_same, rfl, ?_⟩
  | refine ⟨_, _, rfl, rfl, ?_⟩ | refine ⟨_, rfl, ?_⟩ | refine ⟨_, _, rfl, ?_⟩ | refine Or.inl ⟨_, rfl, ?_⟩ | refine Or.inr ⟨_, rfl, ?_⟩ | refine ⟨(by walk_at "side"), ?_⟩ | fail "rd")
theorem cm_small {a b : Int} (ha : -100000 < a ∧ a < 100000) (hb : -100000 < b ∧ b < 100000) : CMulW a b := by
  have lg : ∀ x : Int, -100000 < x ∧ x < 100000 → x.natAbs.log2 < 17 := fun x h => by
    by_cases z : x.natAbs = 0
    · rw [z]
      decide
    · rw [Nat.log2_lt z]
      have : x.natAbs < 100000 := by omega
      exact Nat.lt_of_lt_of_le this (by decide)
  have h1 := lg a ha
  have h2 := lg b hb
  unfold CMulW
  omega
theorem frm_bound (zs ys : List Str) (u v : Str) : -1 ≤ frm zs ys u v ∧ frm zs ys u v ≤ 1 := by
  unfold frm aheadI
  repeat' split
  all_goals omega
end My
namespace My
open PySem PySem.Spec PyProof.Rows L2
def pl : Nat → PyData → Bool
  | _, .none => true
  | _, .int _ => true
  | _, .str x => PyData.strOk x
  | n + 1, .list xs => xs.all (pl n)
  | n + 1, .tuple xs => xs.all (pl n)
  | _, _ => false
theorem pl_all {n : Nat} (f : ∀ d, pl n d = true → d.canLay0 = true ∧ d.depth ≤ n) : ∀ xs : List PyData, xs.all (pl n) = true → PyData.canLayAll0 xs = true ∧ PyData.depthAll xs ≤ n
  | [], _ => ⟨rfl, Nat.zero_le _⟩
  | x :: xs, h => by
    rw [List.all_cons, Bool.and_eq_true] at h
    obtain ⟨a, b⟩ := pl_all f xs h.2
    obtain ⟨c, d⟩ := f x h.1
    rw [PyData.canLayAll0, PyData.depthAll, a, c]
    exact ⟨rfl, Nat.max_le.mpr ⟨d, b⟩⟩
theorem pl_ok : ∀ n d, pl n d = true → d.canLay0 = true ∧ d.depth ≤ n
  | n, .none, _ => by rw [PyData.canLay0, PyData.depth]; exact ⟨rfl, Nat.zero_le _⟩
  | n, .int _, _ => by rw [PyData.canLay0, PyData.depth]; exact ⟨rfl, Nat.zero_le _⟩
  | n, .str x, h => by
    have h' : PyData.strOk x = true := by cases n <;> exact h
    rw [PyData.canLay0, PyData.depth]
    exact ⟨h', Nat.zero_le _⟩
  | 0, .list xs, h => by cases h
  | 0, .tuple xs, h => by cases h
  | n + 1, .list xs, h => by
    obtain ⟨a, b⟩ := pl_all (pl_ok n) xs h
    rw [PyData.canLay0, PyData.depth]
    exact ⟨a, Nat.succ_le_succ b⟩
  | n + 1, .tuple xs, h => by
    obtain ⟨a, b⟩ := pl_all (pl_ok n) xs h
    rw [PyData.canLay0, PyData.depth]
    exact ⟨a, Nat.succ_le_succ b⟩
  | 0, .bool _, h => by cases h
  | n + 1, .bool _, h => by cases h
  | 0, .dict _, h => by cases h
  | n + 1, .dict _, h => by cases h
theorem pl_shaped {n : Nat} {d : PyData} (hn : n ≤ 64) (h : pl n d = true) : SeqAt.shaped d = true := by
  obtain ⟨a, b⟩ := pl_ok n d h
  unfold SeqAt.shaped
  rw [a, decide_eq_true (Nat.le_trans b hn)]
  rfl
theorem eqv_all {n : Nat} (f : ∀ d e, pl n d = true → pl n e = true → (PyData.eqv d e = true ↔ d = e)) : ∀ xs ys : List PyData, xs.all (pl n) = true → ys.all (pl n) = true → (PyData.eqvAll xs ys = true ↔ xs = ys)
  | [], [], _, _ => by rw [PyData.eqvAll]; simp
  | [], _ :: _, _, _ => by rw [PyData.eqvAll]; simp
  | _ :: _, [], _, _ => by rw [PyData.eqvAll]; simp
  | x :: xs, y :: ys, h, g => by
    rw [List.all_cons, Bool.and_eq_true] at h g
    rw [PyData.eqvAll, Bool.and_eq_true, f x y h.1 g.1, eqv_all f xs ys h.2 g.2, List.cons.injEq]
theorem eqv_pl : ∀ n d e, pl n d = true → pl n e = true → (PyData.eqv d e = true ↔ d = e) := by
  intro n
  induction n with
  | zero =>
    intro d e h g
    cases d <;> cases e <;> first | (cases h; done) | (cases g; done) | (rw [PyData.eqv]; simp)
  | succ n ih =>
    intro d e h g
    cases d with
    | list xs =>
      cases e with
      | list ys => rw [PyData.eqv, eqv_all ih xs ys h g, PyData.list.injEq]
      | _ => rw [PyData.eqv]; simp
    | tuple xs =>
      cases e with
      | tuple ys => rw [PyData.eqv, eqv_all ih xs ys h g, PyData.tuple.injEq]
      | _ => rw [PyData.eqv]; simp
    | bool b => cases h
    | dict k => cases h
    | none => cases e <;> first | (cases g; done) | (rw [PyData.eqv]; simp)
    | int i => cases e <;> first | (cases g; done) | (rw [PyData.eqv]; simp)
    | str x => cases e <;> first | (cases g; done) | (rw [PyData.eqv]; simp)
/-- d == e, d != e -/
theorem eqD_use {K : PySem.W.Frag} {H : Hp} {x y : V} {d e : PyData} {Q : VK} (n : Nat) (hn : n ≤ 64) (hx : Dp K H x d) (hy : Dp K H y e) (px : pl n d = true) (py : pl n e = true) (q : ∀ b : Bool, (b = true ↔ d = e) → Q (.bl b) H) : rEqD K x y H Q :=
  ⟨d, e, hx, hy, pl_shaped hn px, pl_shaped hn py, q _ (eqv_pl n d e px py)⟩
theorem neD_use {K : PySem.W.Frag} {H : Hp} {x y : V} {d e : PyData} {Q : VK} (n : Nat) (hn : n ≤ 64) (hx : Dp K H x d) (hy : Dp K H y e) (px : pl n d = true) (py : pl n e = true) (q : ∀ b : Bool, (b = true ↔ d = e) → Q (.bl (!b)) H) : rNeD K x y H Q :=
  ⟨d, e, hx, hy, pl_shaped hn px, pl_shaped hn py, q _ (eqv_pl n d e px py)⟩
theorem pl_ints (n : Nat) (ns : List Int) : (ns.map PyData.int).all (pl n) = true := by
  rw [List.all_map]
  exact List.all_eq_true.mpr fun _ _ => by cases n <;> rfl
theorem pl_strs {n : Nat} {ss : List Str} (h : ∀ s ∈ ss, PyData.strOk s = true) : (ss.map PyData.str).all (pl n) = true := by
  rw [List.all_map]
  exact List.all_eq_true.mpr fun s hs => by cases n <;> exact h s hs
theorem dp_ints {K : PySem.W.Frag} {H : Hp} : ∀ ns : List Int, DpAll K H (ns.map V.int) (ns.map PyData.int) := by
  intro ns
  induction ns with
  | nil => exact .nil
  | cons x r ih => exact .cons (.int x) ih
end My
namespace My
open PySem PySem.Spec PyProof.Rows L2
local macro_rules | `(tactic| walk_at "side") => `(tactic| first | assumption | decide | exact Or.inl ⟨by decide, by decide⟩ | exact Or.inr ⟨by decide, by decide⟩ | exact ⟨by decide, by decide, by decide⟩ | omega | (unfold CMulW; decide +kernel) | (dsimp only; first | assumption | omega | decide +kernel) | exact len_ok (Nat.le_of_ble_eq_true rfl) | fail "side")
local macro_rules | `(tactic| walk_at "rd") => `(tactic| first
  | refine ⟨_, _, _, _, rfl, rfl, SqL.of upd_same, atI_nat (j := 0) rfl, ?_⟩ | refine ⟨_, _, _, _, rfl, rfl, SqL.of upd_same, atI_nat (j := 1) rfl, ?_⟩ | refine ⟨_, _, _, _, rfl, rfl, SqL.of upd_same, atI_nat (j := 2) rfl, ?_⟩
  | refine ⟨_, _, _, _, rfl, rfl, upd_same, rfl, ?_⟩
  | refine ⟨_, _, rfl, rfl, ?_⟩ | refine ⟨_, rfl, ?_⟩ | refine ⟨_, _, rfl, ?_⟩ | refine Or.inl ⟨_, rfl, ?_⟩ | refine Or.inr ⟨_, rfl, ?_⟩ | refine ⟨(by walk_at "side"), ?_⟩ | fail "rd")
theorem lock_ext {H H' : Hp} {p : Addr} {u : HO} {od : Obj} (h : H p = some u) (e : Ext (upd H p (.frz od u)) H') : Ext H (upd H' p u) := fun a o q => by
  by_cases c : a = p
  · rw [c, h] at q
    rw [c, upd_same, q]
  · rw [upd_ne c]
    exact e a o (by rw [upd_ne c]; exact q)
/-- the names that have a root in their length, a dict walked -/
theorem pos_block {K : PySem.W.Frag} {σ : L2.St} {H : Hp} {p : Addr} {zs : List Str} {vs : List V} {L : Str → Int × Int} {j m : Nat} {Q : VK} (h : H p = some (.dK (zkV zs vs))) (r : RelP (zs.map L) vs H) (nd : zs.Nodup) (le : zs.length ≤ 1000) (hj0 : σ[j]? = some (some (.ref p)))
    (hj : ∀ x : V, ((wipe σ [m]).set m (some x))[j]? = some (some (.ref p))) (hm : ∀ x : V, ((wipe σ [m]).set m (some x))[m]? = some (some x)) (hw : ∀ x : V, wipe ((wipe σ [m]).set m (some x)) [m] = wipe σ [m])
    (k : ∀ D H' (acc : List Str), Ext H H' → H' D = some (.lst (acc.map V.str)) → (∀ z ∈ acc, z ∈ zs) → (acc = [] ↔ ∀ z ∈ zs, (L z).2 ≤ 0) → Q (.ref D) H') :
    tLockE (tLc (iKeys (tVar j)) (gName m) (tTest (tOp (rI0 fun i j => V.bl (decide (j < i))) (tOp (rIxT K) (tDGet (tVar j) (tVar m)) (tC (V.int 1))) (tC (V.int 0)))) (tVar m) [m]) σ H Q := by
  have lv : vs.length = zs.length := r.1.trans (List.length_map _)
  refine ⟨p, _, h, trivial, fun od => ?_⟩
  refine ⟨_, hj0, p, od, rfl, .inl ⟨_, upd_same, fun D hD => ?_⟩⟩
  have Dp : D ≠ p := fun c => by rw [c, upd_same] at hD; cases hD
  have old : ∀ q o, H q = some o → (∀ ks, o ≠ .dK ks) → upd H p (.frz od (.dK (zkV zs vs))) q = some o := fun q o e n => by
    rw [upd_ne fun c => by rw [c, h] at e; exact n _ (Option.some.inj e).symm]
    exact e
  refine lc_it walk_keys (fun i H' => Ext (upd H p (.frz od (.dK (zkV zs vs)))) H' ∧ H' D = some (.lst (((zs.take i).filter fun z => decide (0 < (L z).2)).map V.str)))
    ⟨ext_new (ext_refl _) hD, upd_same⟩ (fun i H' _ q => q.1 _ _ upd_same) (fun i x H1 H' hi q y => ?_) fun H' q => ?_
  · obtain ⟨rfl, ky, v, hk, rfl⟩ := y
    obtain ⟨e1, h1⟩ := q
    rw [zkV_length lv] at hi
    have gz : zs[i]? = some zs[i] := List.getElem?_eq_getElem hi
    have gv : vs[i]? = some vs[i] := List.getElem?_eq_getElem (by omega)
    rw [zkV_at gz gv] at hk
    cases hk
    have mz : zs[i] ∈ zs := List.getElem_mem hi
    have tk : zs.take (i + 1) = zs.take i ++ [zs[i]] := by rw [List.take_succ, gz]; rfl
    obtain ⟨q, eq, hq⟩ := r.2 i (L zs[i]) vs[i] (by rw [List.getElem?_map, gz]; rfl) gv
    have hq1 := e1 _ _ (old q _ hq fun _ z => by cases z)
    have dg : DGet H' p (.str zs[i]) (some (.ref q)) := by
      refine .inl ⟨_, .inr zs[i], .inr ⟨od, e1 _ _ upd_same⟩, rfl, ?_⟩
      rw [valV_zk _ _ _ mz (by omega), pos_nth nd gz, gv, eq]
    refine ⟨hw _, _, hj _, _, hm _, p, _, rfl, dg, q, _, _, _, rfl, rfl, SqT.of hq1, rfl, _, _, rfl, rfl, _, rfl, ite2 (fun c => ?_) (fun c => ?_)⟩
    · refine ⟨_, hm _, _, h1, ?_, ext_mut e1 hD, ?_⟩
      · rw [List.length_map]
        refine len_lt (Nat.le_trans (List.length_filter_le _ _) ?_)
        rw [List.length_take]
        omega
      · rw [upd_same, tk, List.filter_append, List.map_append, List.filter_cons_of_pos (by exact c)]
        rfl
    · refine ⟨e1, ?_⟩
      rw [tk, List.filter_append, List.filter_cons_of_neg (by exact c), List.filter_nil, List.append_nil]
      exact h1
  · obtain ⟨e1, h1⟩ := q
    refine ⟨e1 _ _ upd_same, k D _ (zs.filter fun z => decide (0 < (L z).2)) (lock_ext h e1) ?_ (fun z hz => (List.mem_filter.mp hz).1) ?_⟩
    · rw [upd_ne Dp, h1, zkV_length lv, List.take_length]
    · rw [List.filter_eq_nil_iff]
      refine forall_congr' fun z => imp_congr_right fun _ => ?_
      rw [decide_eq_true_eq]
      omega
theorem if_op {r : R2} {ta tb : TE} {ts es : TS} {D : Ends} {σ : L2.St} {H : Hp} (h : ta σ H fun x H1 => tb σ H1 fun y H2 => r x y H2 fun v H' => ∃ c, v = .bl c ∧ if c = true then ts D σ H' else es D σ H') : tIfS (tTest (tOp r ta tb)) ts es D σ H := h
/-- one more length -/
def setL (L : Str → Int × Int) (z : Str) (p : Int × Int) (y : Str) : Int × Int := if y = z then p else L y
theorem setL_self {L : Str → Int × Int} {z : Str} {p : Int × Int} : setL L z p z = p := if_pos rfl
theorem setL_other {L : Str → Int × Int} {z y : Str} {p : Int × Int} (h : y ≠ z) : setL L z p y = L y := if_neg h
theorem setL_map {L : Str → Int × Int} {z : Str} {p : Int × Int} {l : List Str} (h : z ∉ l) : l.map (setL L z p) = l.map L := List.map_congr_left fun y hy => setL_other fun e => h (e ▸ hy)
theorem LenP.set {R : Int} {L : Str → Int × Int} {z : Str} {p : Int × Int} {l : List Str} (h : ∀ y ∈ l, LenP R (L y)) (lp : LenP R p) : ∀ y ∈ l ++ [z], LenP R (setL L z p y) := fun y hy => by
  unfold setL
  split
  · exact lp
  · rename_i ne
    rcases List.mem_append.mp hy with q | q
    · exact h y q
    · exact absurd (List.mem_singleton.mp q) ne
end My
namespace My
open PySem PySem.Spec PyProof.Rows L2
local macro_rules | `(tactic| walk_at "side") => `(tactic| first | assumption | decide | exact Or.inl ⟨by decide, by decide⟩ | exact Or.inr ⟨by decide, by decide⟩ | exact ⟨by decide, by decide, by decide⟩ | omega | (unfold CMulW; decide +kernel) | (dsimp only; first | assumption | omega | decide +kernel) | exact len_ok (Nat.le_of_ble_eq_true rfl) | fail "side")
local macro_rules | `(tactic| walk_at "rd") => `(tactic| first
  | refine ⟨_, _, _, _, rfl, rfl, SqL.of upd_same, atI_nat (j := 0) rfl, ?_⟩ | refine ⟨_, _, _, _, rfl, rfl, SqL.of upd_same, atI_nat (j := 1) rfl, ?_⟩ | refine ⟨_, _, _, _, rfl, rfl, SqL.of upd_same, atI_nat (j := 2) rfl, ?_⟩
  | refine ⟨_, _, _, _, rfl, rfl, upd_same, rfl, ?_⟩
  | refine ⟨_, _, rfl, rfl, ?_⟩ | refine ⟨_, rfl, ?_⟩ | refine ⟨_, _, rfl, ?_⟩ | refine Or.inl ⟨_, rfl, ?_⟩ | refine Or.inr ⟨_, rfl, ?_⟩ | refine ⟨(by walk_at "side"), ?_⟩ | fail "rd")
abbrev s_lanyw : Stmt := top 70
theorem sc_lanyw : FnScope ["_law_dice_here", "_law_most", "_law_rows", "_law_root", "_law_lengths", "_law_name"] ["_law_dice_here", "_law_most"] (defScope s_lanyw) := ⟨rfl, rfl, rfl, by decide +kernel, rfl, by decide +kernel, by decide +kernel⟩
def spLAnyW (K : PySem.W.Frag) : Sp := fun vs H Q _ => ∃ a n, vs = [.ref a, .int (n : Nat)] ∧ H a = some (DiceO a) ∧ 1 ≤ n ∧ n ≤ 8 ∧ ∀ W us ls ks L R H', Ext H H' → WorldAt K H' W us ls ks L R → us.length ≤ 8 → Q (.ref W) H'
section
variable {P : Program} {w : World} {K : PySem.W.Frag} {mg : Str → Option Value} {base : Heap} {C CN CX : Addr}
theorem ok_lanyw (T : Bn mg) (D : DefAt K mg "_law_any_world" s_lanyw) (F__law_pick : FnAt P w K mg base 2 "_law_pick" ["_law_dice_here", "_law_items"] (spPick K)) (F__law_any_rows : FnAt P w K mg base 4 "_law_any_rows" ["_law_dice_here", "_law_most"] spLAny) (F__law_length : FnAt P w K mg base 3 "_law_length" ["_law_dice_here", "_law_root"] spLLen) : FnAt P w K mg base 6 "_law_any_world" ["_law_dice_here", "_law_most"] (spLAnyW K) := by
  refine fnAt D sc_lanyw (fun _ _ _ _ _ _ us hl => match us, hl with | [_, _], _ => rfl) (fun vs H Q E h => ?_) fun f cdv A outer s H vs Q E hr h => ?_
  · obtain ⟨a, n, rfl, _⟩ := h
    rfl
  obtain ⟨a, n, rfl, ha, n1, n8', k⟩ := h
  refine ⟨_, (pss_cons (ps_set (i := 2) sc_lanyw.nd rfl (Or.inl rfl) (callA F__law_any_rows (hr.mono (by decide)) rfl (pa_cons (pv 0) (pa_cons (pv 1) pa_nil))))
    (pss_cons (ps_set (i := 3) sc_lanyw.nd rfl (Or.inl rfl) (callA F__law_pick (hr.mono (by decide)) rfl (pa_cons (pv 0) (pa_cons (pe_lst (pa_cons pe_int (pa_cons pe_int (pa_cons pe_int (pa_cons pe_int (pa_cons pe_int pa_nil)))))) pa_nil))))
    (pss_cons (ps_set (i := 4) sc_lanyw.nd rfl (Or.inr rfl) pe_dnewK)
    (pss_cons (ps_for PassesOwn.never rfl (pi_list (pe_callB cr_sortedB (by rfl) T.b_sorted (by decide +kernel) (pa_cons (pe_ix ix_tup (pv 2) pe_int (fun _ _ => rfl)) pa_nil))) (pg_name (i := 5) sc_lanyw.nd rfl (Or.inl rfl))
      (pss_one (ps_dput (hu1 hr) (pv 4) (pv 5) (callA F__law_length (hr.mono (by decide)) rfl (pa_cons (pv 0) (pa_cons (pv 3) pa_nil))) rfl)))
    (Evl.pss_cut (ps_if (pt_cmpR (op_eqD (hu64 hr)) (pe_lock (pe_lc (own := [("_law_name", 5)]) (g := gName 5) (tt := _) rfl sc_lanyw.nd (pi_keys (pv 4)) (blkOk_by (N := ["_law_dice_here", "_law_most", "_law_rows", "_law_root", "_law_lengths", "_law_name"]) (sc := defScope s_lanyw) (by decide +kernel)) (fun _ _ _ _ _ => pg_name (i := 5) sc_lanyw.nd rfl (Or.inl rfl)) (fun _ _ _ _ _ => pts_one (pt_cmpR op_gt (pe_ix (show IxR _ (rIxT K) from ix_tup) (pe_dget (hu1 hr) (pv 4) (pv 5) (fun _ _ => rfl)) pe_int (fun _ _ => rfl)) pe_int (nomark _))) (fun _ _ _ _ _ => (pv 5)))) (pe_lst pa_nil) (nomark _)) (pss_one (ps_set (i := 3) sc_lanyw.nd rfl (Or.inl rfl) pe_int)) pss_nil)
    (pss_one (ps_ret (pe_disp (pps_cons pe_str (pe_ix ix_tup (pv 2) pe_int (fun _ _ => rfl)) (pps_cons pe_str (pe_ix ix_tup (pv 2) pe_int (fun _ _ => rfl)) (pps_cons pe_str (pv 4) (pps_cons pe_str (pv 3) pps_nil)))) rfl rfl (by intro z; cases z) (Nat.le_of_ble_eq_true rfl))))))))), ?_⟩
  refine ⟨_, rfl, _, rfl, a, n, rfl, ha, n1, n8', fun t U M H2 us ls e2 ht hU hM wro le8 ten => ?_⟩
  have le : us.length ≤ 10 := by omega
  have l6 : us.length < 64 := by omega
  refine ⟨_, rfl, (Nat.le_of_ble_eq_true rfl), fun p3 n3 => ?_⟩
  generalize hg4 : upd _ p3 _ = H4
  obtain ⟨e4, h4⟩ := new_facts n3 hg4
  clear hg4
  refine ⟨_, _, _, rfl, ((e2.trans e4) _ _ ha), (SqL.of h4), (List.cons_ne_nil _ _), (Nat.le_of_ble_eq_true rfl), fun v5 h5 => ?_⟩
  intro p6 n6
  generalize hg7 : upd _ p6 _ = H7
  obtain ⟨e7, h7⟩ := new_facts n6 hg7
  clear hg7
  refine ⟨_, rfl, _, _, _, _, rfl, rfl, (SqT.of ((e4.trans e7) _ _ ht)), rfl, _, _, rfl, (.inl (SqL.of ((e4.trans e7) _ _ hU))), l6, fun v8 p8 h8 h8' n8 => ?_⟩
  generalize hg9 : upd _ p8 _ = H9
  obtain ⟨e9, h9⟩ := new_facts n8 hg9
  clear hg9
  refine ⟨_, rfl, ⟨_, (SqL.of h9)⟩, ?_⟩
  obtain ⟨R, rfl, ro⟩ : ∃ R : Int, v5 = .int R ∧ (R = 0 ∨ R = 2 ∨ R = 3 ∨ R = 5) := by
    simp only [List.mem_cons, List.not_mem_nil, or_false] at h5
    rcases h5 with rfl | rfl | rfl | rfl | rfl
    · exact ⟨_, rfl, by decide⟩
    · exact ⟨_, rfl, by decide⟩
    · exact ⟨_, rfl, by decide⟩
    · exact ⟨_, rfl, by decide⟩
    · exact ⟨_, rfl, by decide⟩
  have nd8 : v8.Nodup := h8.nodup_iff.mpr wro.nd
  have l8 : v8.length < 64 := by rw [h8.length_eq]; exact l6
  refine forL v8 V.str (fun i σ' H' => ∃ (v : Option V) (vs : List V) (L : Str → Int × Int), σ' = [some (.ref a), some (.int (n : Nat)), some (.ref t), some (.int R), some (.ref p6), v] ∧ Ext H4 H' ∧ H' p8 = some (.lst (v8.map V.str)) ∧ H' p6 = some (.dK (zkV (v8.take i) vs)) ∧ RelP ((v8.take i).map L) vs H' ∧ ∀ z ∈ v8.take i, LenP R (L z))
    ?_ (fun i σ H' p => ?_) (fun i z σ H5 hz p => ?_) fun σ H5 p => ?_
  · refine ⟨none, [], fun _ => (0, 0), rfl, e7.trans e9, h9, e9 _ _ h7, RelL.nil, fun z hz => ?_⟩
    rw [List.take_zero] at hz
    cases hz
  · obtain ⟨v, vs, L, rfl, e5, g5, h5, r5, le5⟩ := p
    exact SqL.of g5
  · obtain ⟨v, vs, L, rfl, e5, g5, h5, r5, le5⟩ := p
    have l5 : vs.length = (v8.take i).length := by rw [r5.1, List.length_map]
    have nb := nth_not_before nd8 hz
    have lt : (v8.take i).length ≤ 1000 := by rw [List.length_take]; omega
    have tk : v8.take (i + 1) = v8.take i ++ [z] := by rw [List.take_succ, hz]; rfl
    refine ⟨_, rfl, _, rfl, _, _, rfl, (((e2.trans e4).trans e5) _ _ ha), fun p10 v10 H10 e10 h10 h10' => ?_⟩
    refine ⟨_, rfl, _, rfl, _, _, rfl, (dput_zk (e10 _ _ h5) l5 nb lt), ?_⟩
    generalize hg8 : upd _ p6 _ = H8
    obtain ⟨b8, h8⟩ := but_upd (e10 _ _ h5) hg8
    have e8 := ext_but b8 (e5.trans e10) n6
    refine ⟨some (.str z), vs ++ [.ref p10], setL L z v10, rfl, e8, b8.get (e10 _ _ g5), ?_, ?_, ?_⟩
    · rw [tk]
      exact h8
    · rw [tk, List.map_append, setL_map nb]
      refine RelL.snoc ((r5.ext e10).but b8) ⟨p10, rfl, ?_⟩
      rw [setL_self]
      exact b8.get h10
    · rw [tk]
      exact LenP.set le5 h10'
  · obtain ⟨v, vs, L, rfl, e5, g5, h5, r5, le5⟩ := p
    rw [List.take_length] at h5 r5 le5
    have pd : PairD H5 p6 v8 L := ⟨⟨vs, h5, r5⟩, nd8⟩
    refine ⟨fun σ' H' => ∃ (R' : Int) (v : Option V), σ' = [some (.ref a), some (.int (n : Nat)), some (.ref t), some (.int R'), some (.ref p6), v] ∧ Ext H4 H' ∧ PairD H' p6 v8 L ∧ (∀ z ∈ v8, LenP R' (L z)) ∧ (R' = 0 ∨ R' = 2 ∨ R' = 3 ∨ R' = 5), ?_, fun σ H6 p => ?_⟩
    · refine if_op ?_
      refine pos_block h5 r5 nd8 (by omega) (by exact rfl) (by exact fun _ => rfl) (by exact fun _ => rfl) (by exact fun _ => rfl) fun D H6 acc e6 hD hacc hiff => ?_
      refine ⟨(Nat.le_of_ble_eq_true rfl), fun p10 n10 => ?_⟩
      generalize hg11 : upd _ p10 _ = H11
      obtain ⟨e11, h11⟩ := new_facts n10 hg11
      clear hg11
      have sk : ∀ s ∈ acc, PyData.strOk s = true := fun s hs => nm_ok (wro.nm s (h8.mem_iff.mp (hacc s hs)))
      refine eqD_use 1 (by decide) (.lst (SqL.of (e11 _ _ hD)) (dp_strs acc)) (.lst (SqL.of h11) (dp_strs [])) (pl_strs sk) rfl fun b hb => ?_
      have hb2 : b = true ↔ ∀ z ∈ v8, (L z).2 ≤ 0 := by
        rw [hb, ← hiff]
        exact ⟨fun e => List.map_eq_nil_iff.mp (PyData.list.inj e), fun e => by rw [e]⟩
      have pd6 := (pd.ext e6).ext e11
      refine ⟨_, rfl, ite2 (fun c => ?_) (fun c => ?_)⟩
      · have hz := hb2.mp c
        exact ⟨0, _, rfl, (e5.trans e6).trans e11, pd6, fun z m => let l := le5 z m; ⟨l.x0, l.x6, l.y0, l.y2, l.pos, fun _ => by have := hz z m; have := l.y0; omega⟩, .inl rfl⟩
      · exact ⟨R, _, rfl, (e5.trans e6).trans e11, pd6, le5, ro⟩
    · obtain ⟨R', v, rfl, e6, pd6, le6, ro6⟩ := p
      intro p10 n10
      generalize hg11 : upd _ p10 _ = H11
      obtain ⟨e11, h11⟩ := new_facts n10 hg11
      clear hg11
      refine ⟨_, rfl, _, _, _, _, rfl, rfl, (SqT.of (((e4.trans e6).trans e11) _ _ ht)), rfl, _, rfl, _, _, _, _, rfl, rfl, (SqT.of (((e4.trans e6).trans e11) _ _ ht)), rfl, _, rfl, _, rfl, h11, ?_⟩
      refine ⟨[(.inr "upper", .ref U), (.inr "lower", .ref M), (.inr "lengths", .ref p6), (.inr "root", .int R')], rfl, (Nat.le_of_ble_eq_true rfl), ?_⟩
      generalize hg12 : upd _ p10 _ = H12
      have e12 : Ext H6 H12 := by rw [← hg12]; exact ext_mut e11 n10
      have h12 : H12 p10 = some (.dK (mergeK [] [(.inr "upper", .ref U), (.inr "lower", .ref M), (.inr "lengths", .ref p6), (.inr "root", .int R')])) := by rw [← hg12]; exact upd_same
      refine k p10 us ls v8 L R' H12 (((e2.trans e4).trans e6).trans e12) ⟨⟨U, M, p6, .inl ⟨_, .inr "upper", .inl h12, rfl, by rfl⟩, .inl ⟨_, .inr "lower", .inl h12, rfl, by rfl⟩, .inl ⟨_, .inr "lengths", .inl h12, rfl, by rfl⟩, .inl ⟨_, .inr "root", .inl h12, rfl, by rfl⟩, ((e4.trans e6).trans e12) _ _ hU, ((e4.trans e6).trans e12) _ _ hM, pd6.ext e12⟩, wro, le, ⟨h8, h8'⟩, fun z m => le6 z (h8.mem_iff.mpr m), ro6⟩ le8
end
end My
namespace My
open PySem PySem.Spec PyProof.Rows L2
local macro_rules | `(tactic| walk_at "side") => `(tactic| first | assumption | decide | exact Or.inl ⟨by decide, by decide⟩ | exact Or.inr ⟨by decide, by decide⟩ | exact ⟨by decide, by decide, by decide⟩ | omega | (unfold CMulW; decide +kernel) | (dsimp only; first | assumption | omega | decide +kernel) | exact len_ok (Nat.le_of_ble_eq_true rfl) | fail "side")
local macro_rules | `(tactic| walk_at "rd") => `(tactic| first
  | refine ⟨_, _, _, _, rfl, rfl, SqL.of upd_same, atI_nat (j := 0) rfl, ?_⟩ | refine ⟨_, _, _, _, rfl, rfl, SqL.of upd_same, atI_nat (j := 1) rfl, ?_⟩ | refine ⟨_, _, _, _, rfl, rfl, SqL.of upd_same, atI_nat (j := 2) rfl, ?_⟩
  | refine ⟨_, _, _, _, rfl, rfl, upd_same, rfl, ?_⟩
  | refine ⟨_, _, rfl, rfl, ?_⟩ | refine ⟨_, rfl, ?_⟩ | refine ⟨_, _, rfl, ?_⟩ | refine Or.inl ⟨_, rfl, ?_⟩ | refine Or.inr ⟨_, rfl, ?_⟩ | refine ⟨(by walk_at "side"), ?_⟩ | fail "rd")
abbrev s_ncomp : Stmt := inClass (top 22) 15
theorem sc_ncomp : FnScope ["self", "other", "number", "root", "top", "part"] ["self", "other"] (defScope s_ncomp) := ⟨rfl, rfl, rfl, by decide +kernel, rfl, by decide +kernel, by decide +kernel⟩
abbrev s_fits : Stmt := top 49
theorem sc_fits : FnScope ["one", "other"] ["one", "other"] (defScope s_fits) := ⟨rfl, rfl, rfl, by decide +kernel, rfl, by decide +kernel, by decide +kernel⟩
abbrev s_iol : Stmt := top 56
theorem sc_iol : FnScope ["starts", "point", "low", "high", "middle"] ["starts", "point"] (defScope s_iol) := ⟨rfl, rfl, rfl, by decide +kernel, rfl, by decide +kernel, by decide +kernel⟩
abbrev s_xtotal : Stmt := inClass (top 46) 4
theorem sc_xtotal : FnScope ["self"] ["self"] (defScope s_xtotal) := ⟨rfl, rfl, rfl, by decide +kernel, rfl, by decide +kernel, by decide +kernel⟩
abbrev s_xroot : Stmt := inClass (top 46) 5
theorem sc_xroot : FnScope ["self"] ["self"] (defScope s_xroot) := ⟨rfl, rfl, rfl, by decide +kernel, rfl, by decide +kernel, by decide +kernel⟩
def cmpN (n m : Nm) : Int := sgn (n.t * m.b - m.t * n.b) (n.p * m.b - m.p * n.b) (rt1 n m)
def spCmp (CN : Addr) : Sp := fun vs H Q _ => ∃ a v n m, vs = [.ref a, v] ∧ NumAt CN H a n ∧ Opd CN H v m ∧ Good 2000 n ∧ Good 2000 m ∧ OneRoot n m ∧ ∀ H', Ext H H' → Q (.int (cmpN n m)) H'
/-- a number that may be a point -/
structure PtFit (R : Int) (n : Nm) : Prop where
  good : Good 2000 n
  rt : n.r = 0 ∨ n.r = R
def spXTotal (K : PySem.W.Frag) (C CN CX : Addr) : Sp := fun vs H Q _ => ∃ x R zs ys f, vs = [.ref x] ∧ XchAt K C CN CX H x R zs ys f ∧ ∀ q, NumAt CN H q (sumN (zs.map f)) → Q (.ref q) H
def spXRoot (K : PySem.W.Frag) (C CN CX : Addr) : Sp := fun vs H Q _ => ∃ x R zs ys f, vs = [.ref x] ∧ XchAt K C CN CX H x R zs ys f ∧ ∀ r, RootIs (zs.map f) r → Q (.int r) H
def spFits (K : PySem.W.Frag) (C CN CX : Addr) : Sp := fun vs H Q _ => ∃ x R zs ys f q n, vs = [.ref x, .ref q] ∧ XchAt K C CN CX H x R zs ys f ∧ NumAt CN H q n ∧ (n.r = 0 ∨ n.r = R) ∧ Q (.bl true) H
def spIsPt (K : PySem.W.Frag) (C CN CX : Addr) : Sp := fun vs H Q _ => ∃ x R zs ys f q n, vs = [.ref x, .ref q] ∧ XchAt K C CN CX H x R zs ys f ∧ NumAt CN H q n ∧ PtFit R n ∧ 0 ≤ sgn n.t n.p n.r ∧ cmpN n (sumN (zs.map f)) < 0 ∧ ∀ H', Ext H H' → Q (.bl true) H'
def spReqPt (K : PySem.W.Frag) (C CN CX : Addr) : Sp := fun vs H Q _ => ∃ x R zs ys f q n, vs = [.ref x, .ref q] ∧ XchAt K C CN CX H x R zs ys f ∧ NumAt CN H q n ∧ PtFit R n ∧ 0 ≤ sgn n.t n.p n.r ∧ cmpN n (sumN (zs.map f)) < 0 ∧ ∀ H', Ext H H' → Q .non H'
/-- the last of the starts that is not above the point -/
def LastAt (ns : List Nm) (n : Nm) (i : Nat) : Prop := i + 1 < ns.length ∧ (i = 0 ∨ ∃ m, ns[i]? = some m ∧ cmpN m n ≤ 0) ∧ (i + 2 = ns.length ∨ ∃ m, ns[i + 1]? = some m ∧ 0 < cmpN m n)
def spIol (K : PySem.W.Frag) (CN : Addr) : Sp := fun vs H Q _ => ∃ t q xs ns R n, vs = [.ref t, .ref q] ∧ SqT K H t xs ∧ RelL (NumV CN) ns xs H ∧ 2 ≤ ns.length ∧ ns.length ≤ 1000 ∧ (∀ m ∈ ns, PtFit R m) ∧ NumAt CN H q n ∧ PtFit R n ∧ ∀ i H', Ext H H' → LastAt ns n i → Q (.int (i : Nat)) H'
theorem PtFit.one {R : Int} {n m : Nm} (h : PtFit R n) (g : PtFit R m) : OneRoot n m := by
  rcases h.rt with a | a
  · exact .inl a
  · rcases g.rt with b | b
    · exact .inr (.inl b)
    · exact .inr (.inr (by rw [a, b]))
theorem Fit.pt {R : Int} {n : Nm} (h : Fit R n) : PtFit R n := ⟨h.good.mono (by decide), h.rt⟩
section
variable {P : Program} {w : World} {K : PySem.W.Frag} {mg : Str → Option Value} {base : Heap} {C CN CX : Addr}
theorem ok_ncomp (D : MethT K CN "compared" "Number.compared" s_ncomp) (NC : NumT K mg CN) (F__argument : FnAt P w K mg base 6 "_argument" ["value"] (spOpd CN)) (F__common_root : FnAt P w K mg base 3 "_common_root" ["one", "other"] (spCRoot CN))
    (F__difference_above : FnAt P w K mg base 3 "_difference_above" ["one", "other"] (spDiff CN)) (F_sign_of_sum : FnAt P w K mg base 2 "sign_of_sum" ["top", "part", "root"] spSgn) : MethAt P w K mg base 7 CN "compared" ["self", "other"] (spCmp CN) := by
  refine methAt D sc_ncomp (fun _ _ _ _ _ _ us hl => match us, hl with | [_, _], _ => rfl) (fun vs H Q E h => ?_) fun f cdv A outer s H vs Q E hr h => ?_
  · obtain ⟨a, v, n, m, rfl, _⟩ := h
    rfl
  obtain ⟨a, v, n, m, rfl, hn, hv, g, g', h1, k⟩ := h
  refine ⟨_, (pss_cons (ps_set (i := 2) sc_ncomp.nd rfl (Or.inl rfl) (callA F__argument (hr.mono (by decide)) rfl (pa_cons (pv 1) pa_nil)))
    (pss_cons (ps_set (i := 3) sc_ncomp.nd rfl (Or.inl rfl) (callA F__common_root (hr.mono (by decide)) rfl (pa_cons (pv 0) (pa_cons (pv 2) pa_nil))))
    (pss_cons (ps_asg (callA F__difference_above (hr.mono (by decide)) rfl (pa_cons (pv 0) (pa_cons (pv 2) pa_nil))) (pg_tup (by rfl) (pgs_cons (pg_name (i := 4) sc_ncomp.nd rfl (Or.inl rfl)) (pgs_cons (pg_name (i := 5) sc_ncomp.nd rfl (Or.inl rfl)) pgs_nil))))
    (pss_one (ps_ret (callA F_sign_of_sum (hr.mono (by decide)) rfl (pa_cons (pv 4) (pa_cons (pv 5) (pa_cons (pv 3) pa_nil))))))))), _, rfl, v, m, rfl, hv, fun b H1 e1 hm => ?_⟩
  have hn1 := hn.ext e1
  refine ⟨_, rfl, _, rfl, a, b, n, m, rfl, hn1, hm, h1, ?_⟩
  refine ⟨_, rfl, _, rfl, a, b, n, m, rfl, hn1, hm, g, g', fun q H2 e2 hq => ?_⟩
  refine ⟨q, _, rfl, SqT.of hq, rfl, _, _, rfl, _, _, rfl, rfl, ?_⟩
  refine ⟨_, rfl, _, rfl, _, rfl, _, _, _, rfl, ?_, ?_, rt1_zr g g', fun H3 e3 => k H3 ((e1.trans e2).trans e3)⟩
  · exact Sz.mono (n := 4001) (Sz.sub (n := 4000) (Sz.mul (n := 2000) (m := 2000) g.t g'.b) (Sz.mul (n := 2000) (m := 2000) g'.t g.b)) (by decide)
  · exact Sz.mono (n := 4001) (Sz.sub (n := 4000) (Sz.mul (n := 2000) (m := 2000) g.p g'.b) (Sz.mul (n := 2000) (m := 2000) g'.p g.b)) (by decide)
theorem ok_xtotal (D : PropT K CX "total" "Exchange.total" s_xtotal) (XT : XchT K mg CX) : PropAt P w K mg base 1 CX "total" (spXTotal K C CN CX) := by
  refine propAt D sc_xtotal (fun _ _ _ _ _ _ us hl => match us, hl with | [_], _ => rfl) (fun vs H Q E h => ?_) fun f cdv A outer s H vs Q E hr h => ?_
  · obtain ⟨x, R, zs, ys, f, rfl, _⟩ := h
    rfl
  obtain ⟨x, R, zs, ys, f, rfl, xa, k⟩ := h
  obtain ⟨_, xcl, x1, x2, x3, x4, x5, x6, x7, x8, x9, x10, x11, _⟩ := id XT
  refine ⟨_, (pss_one (ps_ret (pe_fld (pv 0) rfl))), ?_⟩
  obtain ⟨_, _, _, _, _, _, _, _, _, _, _, _, d1, xp, _⟩ := id xa
  exact ⟨_, rfl, _, _, _, _, _, rfl, d1, xcl, x7, rfl, k _ xp.tot⟩
theorem ok_xroot (D : PropT K CX "root" "Exchange.root" s_xroot) (XT : XchT K mg CX) : PropAt P w K mg base 1 CX "root" (spXRoot K C CN CX) := by
  refine propAt D sc_xroot (fun _ _ _ _ _ _ us hl => match us, hl with | [_], _ => rfl) (fun vs H Q E h => ?_) fun f cdv A outer s H vs Q E hr h => ?_
  · obtain ⟨x, R, zs, ys, f, rfl, _⟩ := h
    rfl
  obtain ⟨x, R, zs, ys, f, rfl, xa, k⟩ := h
  obtain ⟨_, xcl, x1, x2, x3, x4, x5, x6, x7, x8, x9, x10, x11, _⟩ := id XT
  refine ⟨_, (pss_one (ps_ret (pe_fld (pv 0) rfl))), ?_⟩
  obtain ⟨_, _, _, _, _, _, _, _, _, _, _, _, d1, xp, _⟩ := id xa
  exact ⟨_, rfl, _, _, _, _, _, rfl, d1, xcl, x8, rfl, k _ xp.rt⟩
theorem ok_fits (T : Bn mg) (D : DefAt K mg "fits_root" s_fits) (XT : XchT K mg CX) (NC : NumT K mg CN) (PX_root : PropAt P w K mg base 1 CX "root" (spXRoot K C CN CX)) (F_root : PropAt P w K mg base 1 CN "root" (spProp CN fun n => .int n.r)) : FnAt P w K mg base 3 "fits_root" ["one", "other"] (spFits K C CN CX) := by
  refine fnAt D sc_fits (fun _ _ _ _ _ _ us hl => match us, hl with | [_, _], _ => rfl) (fun vs H Q E h => ?_) fun f cdv A outer s H vs Q E hr h => ?_
  · obtain ⟨x, R, zs, ys, f, q, n, rfl, _⟩ := h
    rfl
  obtain ⟨x, R, zs, ys, f, q, n, rfl, xa, hn, rt, k⟩ := h
  obtain ⟨dx1, xo1, xa1, xb1, xl1, xs1, xt1, xn1, xr1, xd1, xe1, xf1, d1, xp1, xg1⟩ := id xa
  obtain ⟨dxn, dn⟩ := id hn
  refine ⟨_, (pss_one (ps_ret (pe_or (pe_cmpR op_eq (show PE _ _ (tProp CX (spXRoot K C CN CX) [] E0 (tVar 0)) from propA PX_root XT.cl (hr.mono (by decide)) (pv 0)) pe_int (nomark _)) (pe_or (pe_cmpR op_eq (propA F_root NC.cl (hr.mono (by decide)) (pv 1)) pe_int (nomark _)) (pe_one (pe_cmpR op_eq (show PE _ _ (tProp CX (spXRoot K C CN CX) [] E0 (tVar 0)) from propA PX_root XT.cl (hr.mono (by decide)) (pv 0)) (propA F_root NC.cl (hr.mono (by decide)) (pv 1)) (nomark _))))))), ?_⟩
  refine ⟨_, rfl, _, _, _, rfl, d1, _, _, _, _, _, rfl, xa, fun v2 h2 => ?_⟩
  refine ⟨rfl, _, rfl, ite2 (fun c => k) fun c => ?_⟩
  refine ⟨_, rfl, _, _, _, rfl, dn, _, _, rfl, hn, rfl, _, rfl, ite2 (fun c => k) fun c' => ?_⟩
  refine ⟨_, rfl, _, _, _, rfl, d1, _, _, _, _, _, rfl, xa, fun v3 h3 => ?_⟩
  refine ⟨_, rfl, _, _, _, rfl, dn, _, _, rfl, hn, rfl, ?_⟩
  have r2 : v2 = R := by
    obtain ⟨⟨m, hm, e⟩, _⟩ := h2
    obtain ⟨z, hz, rfl⟩ := List.mem_map.mp hm
    rcases (xg1.fit z hz).rt with q | q
    · rw [← e, q] at c
      exact absurd (decide_eq_true rfl) c
    · rw [← e, q]
  have r3 : v3 = v2 := by
    obtain ⟨⟨m, hm, e⟩, l⟩ := h2
    obtain ⟨⟨m', hm', e'⟩, l'⟩ := h3
    have := l m' hm'
    have := l' m hm
    omega
  have r4 : n.r = R := rt.resolve_left fun q => c' (decide_eq_true (congrArg V.int q))
  have e : V.int v3 = V.int n.r := by rw [r3, r2, r4]
  show Q (.bl (decide (V.int v3 = V.int n.r))) H
  rw [decide_eq_true e]
  exact k
theorem ok_iol (T : Bn mg) (D : DefAt K mg "_index_of_last" s_iol) (NC : NumT K mg CN) (M_compared : MethAt P w K mg base 7 CN "compared" ["self", "other"] (spCmp CN)) : FnAt P w K mg base 8 "_index_of_last" ["starts", "point"] (spIol K CN) := by
  refine fnAt D sc_iol (fun _ _ _ _ _ _ us hl => match us, hl with | [_, _], _ => rfl) (fun vs H Q E h => ?_) fun f cdv A outer s H vs Q E hr h => ?_
  · obtain ⟨t, q, xs, ns, R, n, rfl, _⟩ := h
    rfl
  obtain ⟨t, q, xs, ns, R, n, rfl, ht, rl, l2, l1000, fit, hn, fn, k⟩ := h
  refine ⟨_, (pss_cons (ps_par (i := 2) (j := 3) rfl sc_iol.nd rfl rfl (by decide) rfl rfl (pa_cons pe_int (pa_cons (pe_op op_sub (pe_callB call_len_seq (by rfl) T.b_len (by decide +kernel) (pa_cons (pv 0) pa_nil)) pe_int) pa_nil)) (by rfl))
    (pss_cons (ps_while PassesOwn.never (pt_cmpR op_gt (pe_op op_sub (pv 3) (pv 2)) pe_int (nomark _))
      (pss_cons (ps_set (i := 4) sc_iol.nd rfl (Or.inl rfl) (pe_op op_fdivX (pe_op op_add (pv 2) (pv 3)) pe_int))
    (pss_one (ps_if (pt_cmpR op_gt (methA M_compared NC.cl (hr.mono (by decide)) (pe_ix ix_tup (pv 0) (pv 4) (fun _ _ => rfl)) (pa_cons (pv 1) pa_nil)) pe_int (nomark _)) (pss_one (ps_set (i := 3) sc_iol.nd rfl (Or.inl rfl) (pv 4))) (pss_one (ps_set (i := 2) sc_iol.nd rfl (Or.inl rfl) (pv 4)))))))
    (pss_one (ps_ret (pv 2))))), ?_⟩
  have lx : xs.length = ns.length := rl.1
  obtain ⟨dx1, d1⟩ := id hn
  refine ⟨_, rfl, _, _, rfl, (.inr ht), _, _, rfl, rfl, _, _, rfl, ?_⟩
  refine ⟨fun m σ' H' => ∃ (lo hi : Nat) (v : Option V), m = hi - lo ∧ σ' = [some (.ref t), some (.ref q), some (.int (lo : Nat)), some (.int (hi : Nat)), v] ∧ Ext H H' ∧ lo < hi ∧ hi < ns.length ∧ (lo = 0 ∨ ∃ m, ns[lo]? = some m ∧ cmpN m n ≤ 0) ∧ (hi + 1 = ns.length ∨ ∃ m, ns[hi]? = some m ∧ 0 < cmpN m n), ⟨_, 0, xs.length - 1, none, rfl, ?_, ext_refl H, by omega, by omega, .inl rfl, .inl (by omega)⟩, ?_⟩
  · have : ((xs.length : Nat) : Int) - 1 = ((xs.length - 1 : Nat) : Int) := by omega
    show [some (V.ref t), some (V.ref q), some (V.int 0), some (V.int (((xs.length : Nat) : Int) - 1)), none] = _
    rw [this]
    rfl
  rintro m σ' H' ⟨lo, hi, v, rfl, rfl, e1, l1, l3, c1, c2⟩
  refine ⟨_, rfl, _, rfl, _, _, rfl, rfl, _, _, rfl, rfl, _, rfl, ite2 (fun c => ⟨_, fun _ _ h => h, ?_⟩) fun c => ⟨_, rfl, ?_⟩⟩
  · have c9 : (1 : Int) < ((hi : Nat) : Int) - ((lo : Nat) : Int) := of_decide_eq_true c
    have hm : ((lo : Nat) : Int) + ((hi : Nat) : Int) = (((lo + hi) : Nat) : Int) := by omega
    have hmid : (((lo : Nat) : Int) + ((hi : Nat) : Int)).fdiv 2 = (((lo + hi) / 2 : Nat) : Int) := by
      rw [hm, Int.fdiv_eq_ediv_of_nonneg _ (by decide)]
      omega
    have lm : (lo + hi) / 2 < ns.length := by omega
    have lmx : (lo + hi) / 2 < xs.length := by omega
    obtain ⟨p2, e2, np2⟩ := rl.2 _ _ _ (List.getElem?_eq_getElem lm) (List.getElem?_eq_getElem lmx)
    have at2 : atI xs ((((lo : Nat) : Int) + ((hi : Nat) : Int)).fdiv 2) = some (.ref p2) := by
      rw [hmid]
      exact atI_nat ((List.getElem?_eq_getElem lmx).trans (congrArg some e2))
    have fm := fit _ (List.getElem_mem lm)
    have gm := fm.good
    have gn := fn.good
    have o1 := fm.one fn
    obtain ⟨dx2, d2⟩ := id np2
    refine ⟨_, rfl, _, rfl, _, _, rfl, rfl, _, _, rfl, rfl, ⟨(by omega), (Nat.le_of_ble_eq_true rfl)⟩, _, rfl, _, rfl, _, _, _, _, rfl, rfl, (ht.ext e1), at2, _, _, _, rfl, (e1 _ _ d2), rfl, _, rfl, _, _, _, _, rfl, (np2.ext e1), (.inl ⟨_, ⟨rfl, (hn.ext e1)⟩⟩), gm, gn, o1, fun H3 e3 => ?_⟩
    refine ⟨_, _, rfl, rfl, _, rfl, ite2 (fun c2' => ?_) fun c2' => ?_⟩
    · have c3 : 0 < cmpN ns[(lo + hi) / 2] n := of_decide_eq_true c2'
      refine ⟨_, rfl, ?_⟩
      dsimp only
      rw [hmid]
      exact ⟨_, by omega, lo, (lo + hi) / 2, _, rfl, rfl, e1.trans e3, by omega, lm, c1, .inr ⟨_, List.getElem?_eq_getElem lm, c3⟩⟩
    · have c3 : ¬ 0 < cmpN ns[(lo + hi) / 2] n := fun z => c2' (decide_eq_true z)
      refine ⟨_, rfl, ?_⟩
      dsimp only
      rw [hmid]
      exact ⟨_, by omega, (lo + hi) / 2, hi, _, rfl, rfl, e1.trans e3, by omega, l3, .inr ⟨_, List.getElem?_eq_getElem lm, by omega⟩, c2⟩
  · have : (lo : Nat) + 1 = hi := by
      have := decide_eq_false_iff_not.mp (Bool.eq_false_iff.mpr c)
      omega
    refine k lo H' e1 ⟨by omega, c1, ?_⟩
    subst this
    exact c2
end
end My
namespace My
open PySem
/-- a number of the root r -/
def Rt (r : Int) (n : Nm) : Prop := n.r = if n.p = 0 then 0 else r
section
variable {r : Int} {n m l : Nm}
theorem rt1_of (h0 : 0 ≤ r) (h : Rt r n) (g : Rt r m) : (n.p ≠ 0 ∨ m.p ≠ 0) → rt1 n m = r := fun c => by
  unfold rt1
  unfold Rt at h g
  rw [h, g]
  by_cases a : n.p = 0 <;> by_cases b : m.p = 0
  · exact absurd c (by rw [a, b]; simp)
  · rw [if_pos a, if_neg b]; split <;> omega
  · rw [if_neg a, if_pos b]; split <;> omega
  · rw [if_neg a, if_neg b]; split <;> omega
theorem pp_or {x y a b : Int} (h : a * x + b * y ≠ 0) : a ≠ 0 ∨ b ≠ 0 := by
  refine Classical.byContradiction fun z => h ?_
  have a0 : a = 0 := Classical.byContradiction fun q => z (.inl q)
  have b0 : b = 0 := Classical.byContradiction fun q => z (.inr q)
  rw [a0, b0]; simp
end
section
variable {k : Nat} {n m : Nm}
theorem subN_good (hn : Good k n) (hm : Good k m) : Good (2 * k + 1) (subN n m) :=
  lst_good (rt1_valid hn hm (Int.mul_ne_zero hn.b0 hm.b0) (fun x y => by rw [x, y]; simp)) (((hn.t.mul hm.b).sub (hm.t.mul hn.b)).mono (by omega)) (((hn.p.mul hm.b).sub (hm.p.mul hn.b)).mono (by omega)) ((hn.b.mul hm.b).mono (by omega))
theorem normA_sz (hn : Good k n) : Sz (2 * k + 11) (normA n) := Sz.mono (Sz.sub (n := k + k + 10) ((hn.t.mul hn.t).mono (by omega)) ((hn.p.mul hn.p).mul hn.zr)) (by omega)
theorem overN_good (hn : Good k n) (hm : Good k m) (h0 : ¬ (m.t = 0 ∧ m.p = 0)) : Good (3 * k + 11) (overN n m) :=
  lst_good (rt1_valid hn hm (Int.mul_ne_zero hn.b0 (normA_ne hm h0)) (fun x y => by rw [x, y]; simp))
    (((Sz.sub (n := k + k + 10) ((hn.t.mul hm.t).mono (by omega)) ((hn.p.mul hm.p).mul (rt1_zr hn hm))).mul hm.b).mono (by omega)) ((((hn.p.mul hm.t).sub (hn.t.mul hm.p)).mul hm.b).mono (by omega)) ((hn.b.mul (normA_sz hm)).mono (by omega))
end
end My
namespace My
open PySem PySem.Spec PyProof.Rows L2
local macro_rules | `(tactic| walk_at "side") => `(tactic| first | assumption | decide | exact Or.inl ⟨by decide, by decide⟩ | exact Or.inr ⟨by decide, by decide⟩ | exact ⟨by decide, by decide, by decide⟩ | omega | (unfold CMulW; decide +kernel) | (dsimp only; first | assumption | omega | decide +kernel) | exact len_ok (Nat.le_of_ble_eq_true rfl) | fail "side")
local macro_rules | `(tactic| walk_at "rd") => `(tactic| first
  | refine ⟨_, _, _, _, rfl, rfl, SqL.of upd_same, atI_nat (j := 0) rfl, ?_⟩ | refine ⟨_, _, _, _, rfl, rfl, SqL.of upd_same, atI_nat (j := 1) rfl, ?_⟩ | refine ⟨_, _, _, _, rfl, rfl, SqL.of upd_same, atI_nat (j := 2) rfl, ?_⟩
  | refine ⟨_, _, _, _, rfl, rfl, upd_same, rfl, ?_⟩
  | refine ⟨_, _, rfl, rfl, ?_⟩ | refine ⟨_, rfl, ?_⟩ | refine ⟨_, _, rfl, ?_⟩ | refine Or.inl ⟨_, rfl, ?_⟩ | refine Or.inr ⟨_, rfl, ?_⟩ | refine ⟨(by walk_at "side"), ?_⟩ | fail "rd")
abbrev s_ispt : Stmt := top 50
theorem sc_ispt : FnScope ["exchange", "value"] ["exchange", "value"] (defScope s_ispt) := ⟨rfl, rfl, rfl, by decide +kernel, rfl, by decide +kernel, by decide +kernel⟩
abbrev s_reqpt : Stmt := top 52
theorem sc_reqpt : FnScope ["exchange", "value"] ["exchange", "value"] (defScope s_reqpt) := ⟨rfl, rfl, rfl, by decide +kernel, rfl, by decide +kernel, by decide +kernel⟩
abbrev s_xpa : Stmt := inClass (top 46) 13
theorem sc_xpa : FnScope ["self", "point"] ["self", "point"] (defScope s_xpa) := ⟨rfl, rfl, rfl, by decide +kernel, rfl, by decide +kernel, by decide +kernel⟩
abbrev s_xcall : Stmt := inClass (top 46) 11
theorem sc_xcall : FnScope ["self", "point"] ["self", "point"] (defScope s_xcall) := ⟨rfl, rfl, rfl, by decide +kernel, rfl, by decide +kernel, by decide +kernel⟩
/-- what a point of the exchange is -/
structure PtOk (R : Int) (zs : List Str) (f : Str → Nm) (n : Nm) : Prop where
  fit : PtFit R n
  lo : 0 ≤ sgn n.t n.p n.r
  hi : cmpN n (sumN (zs.map f)) < 0
def PieceAt (zs : List Str) (f : Str → Nm) (n : Nm) (z : Str) : Prop := ∃ i, zs[i]? = some z ∧ LastAt (sumsN (zs.map f)) n i
def spXPiece (K : PySem.W.Frag) (C CN CX : Addr) : Sp := fun vs H Q _ => ∃ x R zs ys f q n, vs = [.ref x, .ref q] ∧ XchAt K C CN CX H x R zs ys f ∧ NumAt CN H q n ∧ PtOk R zs f n ∧ ∀ z H', Ext H H' → PieceAt zs f n z → Q (.str z) H'
def spXCall (K : PySem.W.Frag) (C CN CX : Addr) : Sp := fun vs H Q _ => ∃ x R zs ys f q n, vs = [.ref x, .ref q] ∧ XchAt K C CN CX H x R zs ys f ∧ NumAt CN H q n ∧ PtOk R zs f n ∧ ∀ z p H', Ext H H' → PieceAt zs f n z → NumAt CN H' p (addN n (shfN zs ys f z)) → Q (.ref p) H'
theorem tot_fit {R : Int} {zs ys : List Str} {f : Str → Nm} (xg : XG R zs ys f) : Fit R (sumN (zs.map f)) := by
  have := xg.up (zs.map f).length (Nat.le_refl _)
  rwa [List.take_length] at this
theorem sums_fit {R : Int} {ns : List Nm} (h : SumsFit R ns) : ∀ m ∈ sumsN ns, PtFit R m := fun m hm => by
  unfold sumsN at hm
  obtain ⟨i, hi, rfl⟩ := List.mem_map.mp hm
  exact (h i (by have := List.mem_range.mp hi; omega)).pt
theorem shf_fit {R : Int} {zs ys : List Str} {f : Str → Nm} (xg : XG R zs ys f) {z : Str} (hz : z ∈ zs) : Good 2000 (shfN zs ys f z) ∧ ((shfN zs ys f z).r = 0 ∨ (shfN zs ys f z).r = R) := by
  have f1 := xg.lo (pos ys z) (by rw [List.length_map]; exact Nat.le_of_lt (pos_lt (xg.rows.pm.mem_iff.mpr hz)))
  have f2 := xg.up (pos zs z) (by rw [List.length_map]; exact Nat.le_of_lt (pos_lt hz))
  refine ⟨(subN_good f1.good f2.good).mono (by decide), ?_⟩
  show (if _ = 0 then 0 else rt1 _ _) = 0 ∨ (if _ = 0 then 0 else rt1 _ _) = R
  split
  · exact .inl rfl
  · unfold rt1
    split
    · exact f2.rt
    · exact f1.rt
section
variable {P : Program} {w : World} {K : PySem.W.Frag} {mg : Str → Option Value} {base : Heap} {C CN CX : Addr}
theorem ok_ispt (T : Bn mg) (D : DefAt K mg "is_point" s_ispt) (XT : XchT K mg CX) (NC : NumT K mg CN) (NI : NumI K CN) (F_fits_root : FnAt P w K mg base 3 "fits_root" ["one", "other"] (spFits K C CN CX)) (PX_total : PropAt P w K mg base 1 CX "total" (spXTotal K C CN CX)) (F_sign : PropAt P w K mg base 3 CN "sign" (spPropE CN 5000 fun n => .int (sgn n.t n.p n.r))) (M_compared : MethAt P w K mg base 7 CN "compared" ["self", "other"] (spCmp CN)) : FnAt P w K mg base 8 "is_point" ["exchange", "value"] (spIsPt K C CN CX) := by
  refine fnAt D sc_ispt (fun _ _ _ _ _ _ us hl => match us, hl with | [_, _], _ => rfl) (fun vs H Q E h => ?_) fun f cdv A outer s H vs Q E hr h => ?_
  · obtain ⟨x, R, zs, ys, f, q, n, rfl, _⟩ := h
    rfl
  obtain ⟨x, R, zs, ys, f, q, n, rfl, xa, hn, fn, lo, hi, k⟩ := h
  obtain ⟨dx1, xo1, xa1, xb1, xl1, xs1, xt1, xn1, xr1, xd1, xe1, xf1, d1, xp1, xg1⟩ := id xa
  obtain ⟨dxn, dn⟩ := id hn
  have ty : TyX K H (.ref q) (.ref CN) := hn.ty NC.cl NI
  have kn := NI.kNum
  have rt := fn.rt
  have g5 : Good 5000 n := fn.good.mono (by decide)
  have gn := fn.good
  have tf := (tot_fit xg1).pt
  have gt := tf.good
  have o1 := fn.one tf
  refine ⟨_, (pss_cons (ps_if (PW.pt (pw_or (pt_not (pt_val (pe_callB call_isi (by rfl) T.b_isinstance (by decide +kernel) (pa_cons (pv 1) (pa_cons (pe_glob (v := .ref CN) rfl NC.g rfl) pa_nil))))) (pw_or1 (pt_not (pt_val (callA F_fits_root (hr.mono (by decide)) rfl (pa_cons (pv 0) (pa_cons (pv 1) pa_nil)))))))) (pss_one (ps_ret pe_bl)) pss_nil)
    (pss_one (ps_ret (pe_and (pe_cmpR op_ge (propA F_sign NC.cl (hr.mono (by decide)) (pv 1)) pe_int (nomark _)) (pe_one (pe_cmpR op_lt (methA M_compared NC.cl (hr.mono (by decide)) (pv 1) (pa_cons (propA PX_total XT.cl (hr.mono (by decide)) (pv 0)) pa_nil)) pe_int (nomark _))))))), ?_⟩
  refine ⟨_, rfl, _, _, _, _, _, rfl, (ClsV.own _), ty, kn, _, rfl, iteF ?_⟩
  refine ⟨_, rfl, _, rfl, _, _, _, _, _, _, _, rfl, xa, hn, rt, _, rfl, iteF ?_⟩
  refine ⟨_, rfl, _, _, _, rfl, dn, _, _, rfl, hn, g5, fun H2 e2 => ?_⟩
  refine ⟨_, _, rfl, rfl, _, rfl, ?_⟩
  rw [if_pos (decide_eq_true lo)]
  have kk : ∀ H', Ext H H' → Q (.bl (decide (cmpN n (sumN (zs.map f)) < 0))) H' := fun H' e => by
    rw [decide_eq_true hi]
    exact k H' e
  refine ⟨_, rfl, _, _, _, rfl, (e2 _ _ dn), rfl, _, rfl, _, _, _, rfl, (e2 _ _ d1), _, _, _, _, _, rfl, (xa.ext e2), fun p3 h3 => ?_⟩
  obtain ⟨dx4, d4⟩ := id h3
  refine ⟨_, _, _, _, rfl, (hn.ext e2), (.inl ⟨_, ⟨rfl, h3⟩⟩), gn, gt, o1, fun H5 e5 => ?_⟩
  refine ⟨_, _, rfl, rfl, (kk _ (e2.trans e5))⟩
theorem ok_reqpt (T : Bn mg) (D : DefAt K mg "require_point" s_reqpt) (F_is_point : FnAt P w K mg base 8 "is_point" ["exchange", "value"] (spIsPt K C CN CX)) : FnAt P w K mg base 9 "require_point" ["exchange", "value"] (spReqPt K C CN CX) := by
  refine fnAt D sc_reqpt (fun _ _ _ _ _ _ us hl => match us, hl with | [_, _], _ => rfl) (fun vs H Q E h => ?_) fun f cdv A outer s H vs Q E hr h => ?_
  · obtain ⟨x, R, zs, ys, f, q, n, rfl, _⟩ := h
    rfl
  obtain ⟨x, R, zs, ys, f, q, n, rfl, xa, hn, fn, lo, hi, k⟩ := h
  refine ⟨_, (pss_one (ps_if (pt_not (pt_val (callA F_is_point (hr.mono (by decide)) rfl (pa_cons (pv 0) (pa_cons (pv 1) pa_nil))))) (pss_one ps_never) pss_nil)), ?_⟩
  obtain ⟨dx1, xo1, xa1, xb1, xl1, xs1, xt1, xn1, xr1, xd1, xe1, xf1, d1, ⟨xpo1, xpa1, xpb1, ⟨xln1, xls1, xpl1⟩, ⟨xsv1, xps1, xpsr1⟩, ⟨xtv1, xpt1, xptr1⟩, xpn1, xpr1, ⟨xdn1, xds1, xpd1⟩, ⟨xen1, xes1, xpe1⟩, ⟨xfn1, xfs1, xpf1⟩⟩, xg1⟩ := id xa
  obtain ⟨dx2, qa2, qb2, qc2, d2, _⟩ := id xpo1
  obtain ⟨dx3, d3⟩ := id xpn1
  obtain ⟨dx4, d4⟩ := id hn
  refine ⟨_, rfl, _, rfl, _, _, _, _, _, _, _, rfl, xa, hn, fn, lo, hi, fun H5 e5 => ?_⟩
  refine ⟨_, rfl, iteF ?_⟩
  refine (k _ e5)
theorem ok_xpa (D : MethT K CX "piece_at" "Exchange.piece_at" s_xpa) (XT : XchT K mg CX) (F_require_point : FnAt P w K mg base 9 "require_point" ["exchange", "value"] (spReqPt K C CN CX)) (F__index_of_last : FnAt P w K mg base 8 "_index_of_last" ["starts", "point"] (spIol K CN)) : MethAt P w K mg base 10 CX "piece_at" ["self", "point"] (spXPiece K C CN CX) := by
  refine methAt D sc_xpa (fun _ _ _ _ _ _ us hl => match us, hl with | [_, _], _ => rfl) (fun vs H Q E h => ?_) fun f cdv A outer s H vs Q E hr h => ?_
  · obtain ⟨x, R, zs, ys, f, q, n, rfl, _⟩ := h
    rfl
  obtain ⟨x, R, zs, ys, f, q, n, rfl, xa, hn, ⟨fn, lo, hi⟩, k⟩ := h
  obtain ⟨_, xcl, x1, x2, x3, x4, x5, x6, x7, x8, x9, x10, x11, _⟩ := id XT
  obtain ⟨dx1, xo1, xa1, xb1, xl1, xs1, xt1, xn1, xr1, xd1, xe1, xf1, d1, xp1, xg1⟩ := id xa
  obtain ⟨sv, hsv, rsv⟩ := xp1.st
  have ab := xp1.ab
  have hst := SqT.of (K := K) hsv
  have l2 : 2 ≤ (sumsN (zs.map f)).length := by rw [sumsN_len, List.length_map]; have := xg1.rows.ne; omega
  have l1000 : (sumsN (zs.map f)).length ≤ 1000 := by rw [sumsN_len, List.length_map]; have := xg1.rows.le; omega
  have fs := sums_fit xg1.up
  refine ⟨_, (pss_cons (ps_expr (callA F_require_point (hr.mono (by decide)) rfl (pa_cons (pv 0) (pa_cons (pv 1) pa_nil))))
    (pss_one (ps_ret (pe_ix ix_tup (pe_fld (pv 0) rfl) (callA F__index_of_last (hr.mono (by decide)) rfl (pa_cons (pe_fld (pv 0) rfl) (pa_cons (pv 1) pa_nil))) (fun _ _ => rfl))))), ?_⟩
  obtain ⟨dx2, d2⟩ := id hn
  refine ⟨_, rfl, _, rfl, _, _, _, _, _, _, _, rfl, xa, hn, fn, lo, hi, fun H3 e3 => ?_⟩
  refine ⟨_, rfl, _, _, _, _, _, rfl, (e3 _ _ d1), xcl, x2, rfl, _, rfl, _, _, _, _, _, rfl, (e3 _ _ d1), xcl, x5, rfl, _, rfl, _, _, _, _, _, _, rfl, (hst.ext e3), (rsv.ext e3), l2, l1000, fs, (hn.ext e3), fn, fun p4 H4 e4 h4 => ?_⟩
  have lt : p4 < zs.length := by have := h4.1; rw [sumsN_len, List.length_map] at this; omega
  have at4 : atI (zs.map V.str) ((p4 : Nat) : Int) = some (.str zs[p4]) := atI_nat (by rw [List.getElem?_map, List.getElem?_eq_getElem lt]; rfl)
  have pc : PieceAt zs f n zs[p4] := ⟨p4, List.getElem?_eq_getElem lt, h4⟩
  refine ⟨_, _, _, _, rfl, rfl, (ab.ext (e3.trans e4)), at4, (k _ _ (e3.trans e4) pc)⟩
theorem ok_xcall (D : SpT K CX "__call__" "Exchange.__call__" s_xcall) (XT : XchT K mg CX) (M_piece_at : MethAt P w K mg base 10 CX "piece_at" ["self", "point"] (spXPiece K C CN CX)) (O_add : OpAt P w K mg base 7 CN .Add (spBin CN addN)) : SpAt P w K mg base 11 CX "__call__" ["self", "point"] (spXCall K C CN CX) := by
  refine spAt D sc_xcall (fun _ _ _ _ _ _ us hl => match us, hl with | [_, _], _ => rfl) (fun vs H Q E h => ?_) fun f cdv A outer s H vs Q E hr h => ?_
  · obtain ⟨x, R, zs, ys, f, q, n, rfl, _⟩ := h
    rfl
  obtain ⟨x, R, zs, ys, f, q, n, rfl, xa, hn, po, k⟩ := h
  have gn := po.fit.good
  obtain ⟨_, xcl, x1, x2, x3, x4, x5, x6, x7, x8, x9, x10, x11, _⟩ := id XT
  obtain ⟨dx1, xo1, xa1, xb1, xl1, xs1, xt1, xn1, xr1, xd1, xe1, xf1, d1, xp1, xg1⟩ := id xa
  obtain ⟨sns, sso, sD⟩ := xp1.sh
  refine ⟨_, (pss_one (ps_ret (pe_op (opA O_add (hr.mono (by decide))) (pv 1) (pe_dget (hu1 hr) (pe_fld (pv 0) rfl) (methA M_piece_at XT.cl (hr.mono (by decide)) (pv 0) (pa_cons (pv 1) pa_nil)) (fun _ _ => rfl))))), ?_⟩
  obtain ⟨dx2, d2⟩ := id hn
  refine ⟨_, rfl, _, rfl, _, _, _, _, _, rfl, d1, xcl, x11, rfl, _, rfl, _, _, _, rfl, d1, rfl, _, rfl, _, _, _, _, _, _, _, rfl, xa, hn, po, fun v3 H3 e3 h3 => ?_⟩
  have mz : v3 ∈ zs := by
    obtain ⟨i, hi, _⟩ := h3
    exact List.mem_of_getElem? hi
  obtain ⟨sp, gsp, nsp⟩ := sD.get (sso.pm.mem_iff.mpr mz)
  obtain ⟨gs, rs⟩ := shf_fit xg1 mz
  have o1 : OneRoot n (shfN zs ys f v3) := po.fit.one ⟨gs, rs⟩
  obtain ⟨dxs, ds⟩ := id nsp
  refine ⟨_, _, rfl, (gsp.ext e3), _, _, _, rfl, (e3 _ _ d2), (.inr ⟨_, ⟨_, ⟨_, ⟨rfl, (e3 _ _ ds)⟩⟩⟩⟩), _, _, _, _, rfl, (hn.ext e3), (.inl ⟨_, ⟨rfl, (nsp.ext e3)⟩⟩), gn, gs, o1, fun p4 H4 e4 h4 => ?_⟩
  obtain ⟨dx5, d5⟩ := id h4
  refine (k _ _ _ (e3.trans e4) h3 h4)
end
end My
namespace My
open PySem PySem.Spec PyProof.Rows L2
local macro_rules | `(tactic| walk_at "side") => `(tactic| first | assumption | decide | exact Or.inl ⟨by decide, by decide⟩ | exact Or.inr ⟨by decide, by decide⟩ | exact ⟨by decide, by decide, by decide⟩ | omega | (unfold CMulW; decide +kernel) | (dsimp only; first | assumption | omega | decide +kernel) | exact len_ok (Nat.le_of_ble_eq_true rfl) | fail "side")
local macro_rules | `(tactic| walk_at "rd") => `(tactic| first
  | refine ⟨_, _, _, _, rfl, rfl, SqL.of upd_same, atI_nat (j := 0) rfl, ?_⟩ | refine ⟨_, _, _, _, rfl, rfl, SqL.of upd_same, atI_nat (j := 1) rfl, ?_⟩ | refine ⟨_, _, _, _, rfl, rfl, SqL.of upd_same, atI_nat (j := 2) rfl, ?_⟩
  | refine ⟨_, _, _, _, rfl, rfl, upd_same, rfl, ?_⟩
  | refine ⟨_, _, rfl, rfl, ?_⟩ | refine ⟨_, rfl, ?_⟩ | refine ⟨_, _, rfl, ?_⟩ | refine Or.inl ⟨_, rfl, ?_⟩ | refine Or.inr ⟨_, rfl, ?_⟩ | refine ⟨(by walk_at "side"), ?_⟩ | fail "rd")
abbrev s_ocont : Stmt := inClass (top 40) 17
theorem sc_ocont : FnScope ["self", "value"] ["self", "value"] (defScope s_ocont) := ⟨rfl, rfl, rfl, by decide +kernel, rfl, by decide +kernel, by decide +kernel⟩
def spOCont (K : PySem.W.Frag) (C : Addr) : Sp := fun vs H Q _ => ∃ (o : Addr) (y : V) (zs ys : List Str), vs = [.ref o, y] ∧ OrdAt K C H o zs ys ∧ ((∃ z, y = .str z ∧ Q (.bl (decide (z ∈ zs))) H) ∨ (NoTx K H y ∧ Q (.bl false) H))
section
variable {P : Program} {w : World} {K : PySem.W.Frag} {mg : Str → Option Value} {base : Heap} {C : Addr}
theorem ok_ocont (D : SpT K C "__contains__" "Order.__contains__" s_ocont) (OT : OrdT K mg C) : SpAt P w K mg base 2 C "__contains__" ["self", "value"] (spOCont K C) := by
  refine spAt D sc_ocont (fun _ _ _ _ _ _ us hl => match us, hl with | [_, _], _ => rfl) (fun vs H Q E h => ?_) fun f cdv A outer s H vs Q E hr h => ?_
  · obtain ⟨o, y, zs, ys, rfl, _⟩ := h
    rfl
  obtain ⟨o, y, zs, ys, rfl, ⟨dx, a, b, c, e, ha, hb, hc, ro⟩, k⟩ := h
  refine ⟨_, (pss_one (ps_ret (pe_cmpR (op_inTx (hu1 hr)) (pv 1) (pe_fld (pv 0) rfl) rfl))), ?_⟩
  refine ⟨_, rfl, _, rfl, o, C, dx, _, _, rfl, e, OT.cl, OT.nA, ofs_a a b c, a, zs, rfl, ha, ?_⟩
  exact k
end
end My
namespace My
open PySem PySem.Spec PyProof.Rows L2
local macro_rules | `(tactic| walk_at "side") => `(tactic| first | assumption | decide | exact Or.inl ⟨by decide, by decide⟩ | exact Or.inr ⟨by decide, by decide⟩ | exact ⟨by decide, by decide, by decide⟩ | omega | (unfold CMulW; decide +kernel) | (dsimp only; first | assumption | omega | decide +kernel) | exact len_ok (Nat.le_of_ble_eq_true rfl) | fail "side")
local macro_rules | `(tactic| walk_at "rd") => `(tactic| first
  | refine ⟨_, _, _, _, rfl, rfl, SqL.of upd_same, atI_nat (j := 0) rfl, ?_⟩ | refine ⟨_, _, _, _, rfl, rfl, SqL.of upd_same, atI_nat (j := 1) rfl, ?_⟩ | refine ⟨_, _, _, _, rfl, rfl, SqL.of upd_same, atI_nat (j := 2) rfl, ?_⟩
  | refine ⟨_, _, _, _, rfl, rfl, upd_same, rfl, ?_⟩
  | refine ⟨_, _, rfl, rfl, ?_⟩ | refine ⟨_, rfl, ?_⟩ | refine ⟨_, _, rfl, ?_⟩ | refine Or.inl ⟨_, rfl, ?_⟩ | refine Or.inr ⟨_, rfl, ?_⟩ | refine ⟨(by walk_at "side"), ?_⟩ | fail "rd")
abbrev s_oneedless : Stmt := inClass (top 40) 9
theorem sc_oneedless : FnScope ["self", "pairs", "index"] ["self"] (defScope s_oneedless) := ⟨rfl, rfl, rfl, by decide +kernel, rfl, by decide +kernel, by decide +kernel⟩
section
variable {P : Program} {w : World} {K : PySem.W.Frag} {mg : Str → Option Value} {base : Heap} {C : Addr}
/-- the needless pairs among the first names -/
def ndN (zs : List Str) (ps : List Int) : Nat → List (Str × Str)
  | 0 => []
  | k + 1 => if ps.getD (k + 1) 0 = ps.getD k 0 + 1 then ndN zs ps k ++ [(zs.getD k Str.empty, zs.getD (k + 1) Str.empty)] else ndN zs ps k
def ndl (zs ys : List Str) : List (Str × Str) := ndN zs (plc zs ys) (zs.length - 1)
theorem ndN_len (zs : List Str) (ps : List Int) : ∀ k, (ndN zs ps k).length ≤ k
  | 0 => Nat.le_refl _
  | k + 1 => by
    have := ndN_len zs ps k
    rw [ndN]
    split
    · rw [List.length_append]
      exact Nat.succ_le_succ this
    · omega
/-- a row of new pairs of texts -/
def PrL (H : Hp) (acc : List V) (l : List (Str × Str)) : Prop := acc.length = l.length ∧ ∀ (i : Nat) (v : V), acc[i]? = some v → ∃ (q : Addr) (u : Str × Str), v = V.ref q ∧ l[i]? = some u ∧ H q = some (.tup [.str u.1, .str u.2])
theorem PrL.nil {H : Hp} : PrL H [] [] := ⟨rfl, fun i v h => by simp at h⟩
theorem PrL.ext {H H' : Hp} {acc : List V} {l : List (Str × Str)} (h : PrL H acc l) (e : Ext H H') : PrL H' acc l := ⟨h.1, fun i v hi => let ⟨q, u, a, b, c⟩ := h.2 i v hi; ⟨q, u, a, b, e _ _ c⟩⟩
theorem PrL.mut {H : Hp} {acc xs : List V} {l : List (Str × Str)} {D : Addr} {o : HO} (h : PrL H acc l) (hD : H D = some (.lst xs)) : PrL (upd H D o) acc l := ⟨h.1, fun i v hi => let ⟨q, u, a, b, c⟩ := h.2 i v hi; ⟨q, u, a, b, by
  rw [upd_ne fun z => by rw [z, hD] at c; cases c]
  exact c⟩⟩
theorem PrL.snoc {H : Hp} {acc : List V} {l : List (Str × Str)} {q : Addr} {u : Str × Str} (h : PrL H acc l) (hq : H q = some (.tup [.str u.1, .str u.2])) : PrL H (acc ++ [.ref q]) (l ++ [u]) :=
  ⟨by rw [List.length_append, List.length_append, h.1]; rfl, fun i v hi => by
    by_cases hl : i < acc.length
    · rw [List.getElem?_append_left hl] at hi
      obtain ⟨q', u', a, b, c⟩ := h.2 i v hi
      exact ⟨q', u', a, by rw [List.getElem?_append_left (by rw [← h.1]; exact hl)]; exact b, c⟩
    · rw [List.getElem?_append_right (by omega)] at hi
      have e : i - acc.length = 0 := by
        have := (List.getElem?_eq_some_iff.mp hi).1
        simp at this
        omega
      rw [e] at hi
      cases hi
      exact ⟨q, u, rfl, by rw [List.getElem?_append_right (by rw [← h.1]; omega), ← h.1, e]; rfl, hq⟩⟩
def spNeedless (K : PySem.W.Frag) (C : Addr) : Sp := fun vs H Q _ => ∃ o zs ys, vs = [.ref o] ∧ OrdAt K C H o zs ys ∧ ∀ p acc H', Ext H H' → SqT K H' p acc → PrL H' acc (ndl zs ys) → Q (.ref p) H'
theorem ok_oneedless (T : Bn mg) (D : PropT K C "needless" "Order.needless" s_oneedless) (OT : OrdT K mg C) : PropAt P w K mg base 1 C "needless" (spNeedless K C) := by
  refine propAt D sc_oneedless (fun _ _ _ _ _ _ us hl => match us, hl with | [_], _ => rfl) (fun vs H Q E h => ?_) fun f cdv A outer s H vs Q E hr h => ?_
  · obtain ⟨o, zs, ys, rfl, _⟩ := h
    rfl
  obtain ⟨o, zs, ys, rfl, ⟨dx, a, b, c, e, ha, hb, hc, ro⟩, k⟩ := h
  have l1 := ro.le
  refine ⟨_, (pss_cons (ps_set (i := 1) sc_oneedless.nd rfl (Or.inl rfl) (pe_lst pa_nil))
    (pss_cons (ps_for PassesOwn.never rfl (pi_range2 (by rfl) T.b_range (pa_cons pe_int (pa_cons (pe_callB call_len_seq (by rfl) T.b_len (by decide +kernel) (pa_cons (pe_fld (pv 0) rfl) pa_nil)) pa_nil))) (pg_name (i := 2) sc_oneedless.nd rfl (Or.inl rfl))
      (pss_one (ps_if (pt_cmpR op_eq (pe_ix ix_tup (pe_fld (pv 0) rfl) (pv 2) (fun _ _ => rfl)) (pe_op op_add (pe_ix ix_tup (pe_fld (pv 0) rfl) (pe_op op_sub (pv 2) pe_int) (fun _ _ => rfl)) pe_int) (nomark _)) (pss_one (ps_expr (pe_bm PySem.F.plainAttrs_list PySem.F.slot_list_append PySem.F.type_list_append mt_append (pv 1) (pa_cons (pe_tup (pa_cons (pe_ix ix_tup (pe_fld (pv 0) rfl) (pe_op op_sub (pv 2) pe_int) (fun _ _ => rfl)) (pa_cons (pe_ix ix_tup (pe_fld (pv 0) rfl) (pv 2) (fun _ _ => rfl)) pa_nil))) pa_nil)))) pss_nil)))
    (pss_one (ps_ret (pe_callTy call_tuple_of (by rfl) T.b_tuple (by decide +kernel) (pa_cons (pv 1) pa_nil)))))), ?_⟩
  refine ⟨len_ok (Nat.le_of_ble_eq_true rfl), fun D hD => ?_⟩
  have x1 := ext_new (o := HO.lst []) (ext_refl H) hD
  have lp : (plc zs ys).length = zs.length := by unfold plc; rw [List.length_map]
  refine ⟨_, rfl, o, C, dx, _, _, rfl, x1 _ _ e, OT.cl, OT.nA, ofs_a a b c, a, _, rfl, .inr (ha.ext x1), 1, _, rfl, ⟨by decide, by decide, by omega, by rw [List.length_map]; omega⟩, ?_⟩
  have hn : (((zs.map V.str).length : Nat) : Int) - 1 = ((zs.length - 1 : Nat) : Int) := by
    rw [List.length_map]
    have := ro.ne
    omega
  rw [hn, Int.toNat_natCast]
  refine for_it (walk_range (lo := 1) (n := zs.length - 1)) (fun i σ' H' => ∃ (acc : List V) (u : Option V), σ' = [some (.ref o), some (.ref D), u] ∧ Ext H H' ∧ H' D = some (.lst acc) ∧ PrL H' acc (ndN zs (plc zs ys) i))
    ⟨[], none, rfl, x1, upd_same, .nil⟩ (fun _ _ _ _ _ => trivial) (fun i x σ' H1 H' hi p y => ?_) fun σ' H' p => ?_
  · obtain ⟨rfl, rfl⟩ := y
    obtain ⟨acc, u, rfl, p1, p2, p3⟩ := p
    have ei : (1 : Int) + (i : Nat) = ((i + 1 : Nat) : Int) := by omega
    dsimp only
    rw [ei]
    have e' := p1 _ _ e
    have g1 : ((plc zs ys).map V.int)[i + 1]? = some (.int ((plc zs ys).getD (i + 1) 0)) := by
      rw [List.getElem?_map, List.getD_eq_getElem?_getD, List.getElem?_eq_getElem (by omega)]
      rfl
    have g0 : ((plc zs ys).map V.int)[i]? = some (.int ((plc zs ys).getD i 0)) := by
      rw [List.getElem?_map, List.getD_eq_getElem?_getD, List.getElem?_eq_getElem (by omega)]
      rfl
    have a1 : (zs.map V.str)[i + 1]? = some (.str (zs.getD (i + 1) Str.empty)) := by
      rw [List.getElem?_map, List.getD_eq_getElem?_getD, List.getElem?_eq_getElem (by omega)]
      rfl
    have a0 : (zs.map V.str)[i]? = some (.str (zs.getD i Str.empty)) := by
      rw [List.getElem?_map, List.getD_eq_getElem?_getD, List.getElem?_eq_getElem (by omega)]
      rfl
    have em : ((i + 1 : Nat) : Int) - 1 = ((i : Nat) : Int) := by omega
    have h0 : ∀ {l : List V} {v : V}, l[i]? = some v → atI l (((i + 1 : Nat) : Int) - 1) = some v := fun h => by
      rw [em]
      exact atI_nat h
    refine ⟨_, rfl, o, C, dx, _, _, rfl, e', OT.cl, OT.nP, ofs_p a b c, _, rfl, _, _, _, _, rfl, rfl, hc.ext p1, atI_nat g1, ?_⟩
    refine ⟨_, rfl, o, C, dx, _, _, rfl, e', OT.cl, OT.nP, ofs_p a b c, _, rfl, _, _, rfl, rfl, _, _, _, _, rfl, rfl, hc.ext p1, h0 g0, _, _, rfl, rfl, rfl, _, rfl, ?_⟩
    have ec : decide (V.int ((plc zs ys).getD (i + 1) 0) = .int ((plc zs ys).getD i 0 + 1)) = decide ((plc zs ys).getD (i + 1) 0 = (plc zs ys).getD i 0 + 1) := by
      rw [dec_int]
      rfl
    rw [ec]
    refine ite2 (fun c1 => ?_) (fun c1 => ?_)
    · have c' := of_decide_eq_true c1
      refine ⟨_, rfl, .inl ⟨rfl, _, SqL.of p2⟩, ?_⟩
      refine ⟨_, rfl, o, C, dx, _, _, rfl, e', OT.cl, OT.nA, ofs_a a b c, _, rfl, _, _, rfl, rfl, _, _, _, _, rfl, rfl, ha.ext p1, h0 a0, ?_⟩
      refine ⟨_, rfl, o, C, dx, _, _, rfl, e', OT.cl, OT.nA, ofs_a a b c, _, rfl, _, _, _, _, rfl, rfl, ha.ext p1, atI_nat a1, ?_⟩
      refine ⟨len_ok (Nat.le_of_ble_eq_true rfl), fun q hq => ?_⟩
      have x2 := ext_new (o := HO.tup [V.str (zs.getD i Str.empty), V.str (zs.getD (i + 1) Str.empty)]) (ext_refl H') hq
      have p2' := x2 _ _ p2
      have len := ndN_len zs (plc zs ys) i
      refine ⟨D, acc, _, rfl, rfl, p2', ?_, ?_⟩
      · rw [p3.1]
        exact len_lt (by omega)
      · refine ⟨_, _, rfl, ext_mut (p1.trans x2) hD, upd_same, ?_⟩
        rw [ndN, if_pos c']
        exact ((p3.ext x2).snoc (u := (_, _)) upd_same).mut p2'
    · have c' : ¬ (plc zs ys).getD (i + 1) 0 = (plc zs ys).getD i 0 + 1 := fun z => c1 (decide_eq_true z)
      refine ⟨acc, _, rfl, p1, p2, ?_⟩
      rw [ndN, if_neg c']
      exact p3
  · obtain ⟨acc, u, rfl, p1, p2, p3⟩ := p
    refine ⟨_, rfl, D, _, rfl, .inl ⟨SqL.of p2, fun l hl => ?_⟩⟩
    have x2 := ext_new (o := HO.tup acc) (ext_refl H') hl
    exact k l acc _ (p1.trans x2) (SqT.of upd_same) (p3.ext x2)
end
end My
namespace My
open PySem PySem.Spec PyProof.Rows L2
local macro_rules | `(tactic| walk_at "side") => `(tactic| first | assumption | decide | exact Or.inl ⟨by decide, by decide⟩ | exact Or.inr ⟨by decide, by decide⟩ | exact ⟨by decide, by decide, by decide⟩ | omega | (unfold CMulW; decide +kernel) | (dsimp only; first | assumption | omega | decide +kernel) | exact len_ok (Nat.le_of_ble_eq_true rfl) | fail "side")
local macro_rules | `(tactic| walk_at "rd") => `(tactic| first
  | refine ⟨_, _, _, _, rfl, rfl, SqL.of upd_same, atI_nat (j := 0) rfl, ?_⟩ | refine ⟨_, _, _, _, rfl, rfl, SqL.of upd_same, atI_nat (j := 1) rfl, ?_⟩ | refine ⟨_, _, _, _, rfl, rfl, SqL.of upd_same, atI_nat (j := 2) rfl, ?_⟩
  | refine ⟨_, _, _, _, rfl, rfl, upd_same, rfl, ?_⟩
  | refine ⟨_, _, rfl, rfl, ?_⟩ | refine ⟨_, rfl, ?_⟩ | refine ⟨_, _, rfl, ?_⟩ | refine Or.inl ⟨_, rfl, ?_⟩ | refine Or.inr ⟨_, rfl, ?_⟩ | refine ⟨(by walk_at "side"), ?_⟩ | fail "rd")
abbrev s_ojoined : Stmt := inClass (top 40) 14
theorem sc_ojoined : FnScope ["self", "dropped", "pair", "upper", "name", "lower"] ["self"] (defScope s_ojoined) := ⟨rfl, rfl, rfl, by decide +kernel, rfl, by decide +kernel, by decide +kernel⟩
/-- the second names of the needless pairs, and a row without them -/
def drp (zs ys : List Str) : List Str := (ndl zs ys).map Prod.snd
def jnd (zs ys xs : List Str) : List Str := xs.filter fun z => !decide (z ∈ drp zs ys)
theorem mem_ndN (zs : List Str) (ps : List Int) (u : Str × Str) : ∀ k, u ∈ ndN zs ps k → ∃ j, j < k ∧ u = (zs.getD j Str.empty, zs.getD (j + 1) Str.empty)
  | 0, h => by cases h
  | k + 1, h => by
    rw [ndN] at h
    split at h
    · rcases List.mem_append.mp h with h | h
      · obtain ⟨j, a, b⟩ := mem_ndN zs ps u k h
        exact ⟨j, by omega, b⟩
      · exact ⟨k, by omega, List.mem_singleton.mp h⟩
    · obtain ⟨j, a, b⟩ := mem_ndN zs ps u k h
      exact ⟨j, by omega, b⟩
theorem head_kept {zs ys : List Str} (ro : RowsOk zs ys) : zs[0]'(by have := ro.ne; omega) ∉ drp zs ys := fun h => by
  obtain ⟨u, hu, e⟩ := List.mem_map.mp h
  obtain ⟨j, hj, rfl⟩ := mem_ndN _ _ _ _ hu
  have l : j + 1 < zs.length := by omega
  replace e : zs.getD (j + 1) Str.empty = zs[0]'(by have := ro.ne; omega) := e
  rw [List.getD_eq_getElem?_getD, List.getElem?_eq_getElem l] at e
  exact (List.pairwise_iff_getElem.mp (List.nodup_iff_pairwise_ne.mp ro.nd)) 0 (j + 1) (by omega) l (by omega) e.symm
theorem jnd_rows {zs ys : List Str} (ro : RowsOk zs ys) : RowsOk (jnd zs ys zs) (jnd zs ys ys) := by
  refine ⟨fun z hz => ro.nm z (List.mem_filter.mp hz).1, ?_, ro.pm.filter _, ?_, Nat.le_trans (List.length_filter_le _ _) ro.le⟩
  · exact List.nodup_iff_pairwise_ne.mpr ((List.nodup_iff_pairwise_ne.mp ro.nd).sublist List.filter_sublist)
  · have n := ro.ne
    refine List.length_pos_of_mem (a := zs[0]'(by omega)) (List.mem_filter.mpr ⟨List.getElem_mem _, ?_⟩)
    rw [decide_eq_false (head_kept ro)]
    rfl
theorem filt_strs (p : Str → Bool) (zs : List Str) : (zs.map V.str).filter (fun v => p (sOf v)) = (zs.filter p).map V.str := by
  rw [List.filter_map]
  rfl
section
variable {P : Program} {w : World} {K : PySem.W.Frag} {mg : Str → Option Value} {base : Heap} {C : Addr}
theorem ok_ojoined (T : Bn mg) (D : MethT K C "joined" "Order.joined" s_ojoined) (OT : OrdT K mg C) (F_init : OInitAt P w K mg base 5 C (spOInit K C)) (P_needless : PropAt P w K mg base 1 C "needless" (spNeedless K C)) : MethAt P w K mg base 7 C "joined" ["self"] (spOrd K C (fun zs ys => jnd zs ys zs) (fun zs ys => jnd zs ys ys)) := by
  refine methAt D sc_ojoined (fun _ _ _ _ _ _ us hl => match us, hl with | [_], _ => rfl) (fun vs H Q E h => ?_) fun f cdv A outer s H vs Q E hr h => ?_
  · obtain ⟨o, zs, ys, rfl, _⟩ := h
    rfl
  obtain ⟨o, zs, ys, rfl, oa, k⟩ := h
  obtain ⟨dx, a, b, c, e, ha, hb, hc, ro⟩ := id oa
  have l1 := ro.le
  have l2 := ro.len
  refine ⟨_, (pss_cons (ps_set (i := 1) sc_ojoined.nd rfl (Or.inr rfl) (pe_lc (own := [("pair", 2)]) (g := gName 2) (tt := tYes) rfl sc_ojoined.nd (pi_tup (propA P_needless OT.cl (hr.mono (by decide)) (pv 0))) (blkOk_by (N := ["self", "dropped", "pair", "upper", "name", "lower"]) (sc := defScope s_ojoined) (by decide +kernel)) (fun _ _ _ _ _ => pg_name (i := 2) sc_ojoined.nd rfl (Or.inl rfl)) (fun _ _ _ _ _ => pts_nil) (fun _ _ _ _ _ => (pe_ix (show IxR _ (rIxT K) from ix_tup) (pv 2) pe_int (fun _ _ => rfl)))))
    (pss_cons (ps_set (i := 3) sc_ojoined.nd rfl (Or.inl rfl) (pe_callTy call_tuple_of (by rfl) T.b_tuple (by decide +kernel) (pa_cons (pe_lc (own := [("name", 4)]) (g := gName 4) (tt := _) rfl sc_ojoined.nd (pi_tup (pe_fld (pv 0) rfl)) (blkOk_by (N := ["self", "dropped", "pair", "upper", "name", "lower"]) (sc := defScope s_ojoined) (by decide +kernel)) (fun _ _ _ _ _ => pg_name (i := 4) sc_ojoined.nd rfl (Or.inl rfl)) (fun _ _ _ _ _ => pts_one (pt_cmpR (show OpR _ _ (rIn K true) from op_notIn_seq) (pv 4) (pv 1) rfl)) (fun _ _ _ _ _ => (pv 4))) pa_nil)))
    (pss_cons (ps_set (i := 5) sc_ojoined.nd rfl (Or.inl rfl) (pe_callTy call_tuple_of (by rfl) T.b_tuple (by decide +kernel) (pa_cons (pe_lc (own := [("name", 4)]) (g := gName 4) (tt := _) rfl sc_ojoined.nd (pi_tup (pe_fld (pv 0) rfl)) (blkOk_by (N := ["self", "dropped", "pair", "upper", "name", "lower"]) (sc := defScope s_ojoined) (by decide +kernel)) (fun _ _ _ _ _ => pg_name (i := 4) sc_ojoined.nd rfl (Or.inl rfl)) (fun _ _ _ _ _ => pts_one (pt_cmpR (show OpR _ _ (rIn K true) from op_notIn_seq) (pv 4) (pv 1) rfl)) (fun _ _ _ _ _ => (pv 4))) pa_nil)))
    (pss_one (ps_ret (mkO F_init OT (hr.mono (by decide)) (pa_cons (pv 3) (pa_cons (pv 5) pa_nil)))))))), ?_⟩
  refine ⟨_, rfl, o, dx, _, rfl, e, o, zs, ys, rfl, oa, fun p acc H1 e1 hp pr => ?_⟩
  have len : acc.length ≤ 1000 := by
    have := ndN_len zs (plc zs ys) (zs.length - 1)
    rw [pr.1]
    unfold ndl
    omega
  refine ⟨p, rfl, ⟨_, hp⟩, fun D hD => map_tup (xs := acc) (fun i _ => .str (((ndl zs ys).getD i (Str.empty, Str.empty)).2)) hp hD (by omega) (fun _ => rfl) (fun i v H' hi e' Q' k' => ?_) fun H2 e2 hl => ?_⟩
  · obtain ⟨q, u, rfl, hu, hq⟩ := (pr.ext e').2 i v hi
    refine ⟨_, rfl, q, _, 1, _, rfl, rfl, SqT.of hq, atI_nat (j := 1) rfl, ?_⟩
    have eu : ((ndl zs ys).getD i (Str.empty, Str.empty)).2 = u.2 := by
      rw [List.getD_eq_getElem?_getD, hu]
      rfl
    rw [eu] at k'
    exact k' H' (ext_refl _)
  have ed : acc.mapIdx (fun i _ => V.str (((ndl zs ys).getD i (Str.empty, Str.empty)).2)) = (drp zs ys).map V.str := by
    unfold drp
    apply List.ext_getElem?
    intro i
    rw [List.getElem?_mapIdx, List.getElem?_map, List.getElem?_map]
    by_cases hi : i < acc.length
    · have hi2 : i < (ndl zs ys).length := by rw [← pr.1]; exact hi
      rw [List.getElem?_eq_getElem hi, List.getElem?_eq_getElem hi2, List.getD_eq_getElem?_getD, List.getElem?_eq_getElem hi2]
      rfl
    · have hi2 : ¬ i < (ndl zs ys).length := by rw [← pr.1]; exact hi
      rw [List.getElem?_eq_none (by omega), List.getElem?_eq_none (by omega)]
      rfl
  rw [ed] at hl
  have e12 := e1.trans e2
  have flat : ((drp zs ys).map V.str).all flatV = true := by
    rw [List.all_map]
    exact List.all_eq_true.mpr fun _ _ => rfl
  have ea := e12 _ _ e
  have ha2 := ha.ext e12
  refine ⟨_, rfl, o, C, dx, _, _, rfl, ea, OT.cl, OT.nA, ofs_a a b c, a, rfl, ⟨_, ha2⟩, fun D2 hD2 => filt_tup (xs := zs.map V.str) (fun v => !decide (sOf v ∈ drp zs ys)) ha2 hD2 (by rw [List.length_map]; omega) (fun _ => rfl) (fun i v H' hi e' Q' k' => ?_) (fun v H' Q' q => ⟨_, rfl, q⟩) fun H3 e3 hl3 => ?_⟩
  · rw [List.getElem?_map] at hi
    obtain ⟨z, hz, rfl⟩ := Option.map_eq_some_iff.mp hi
    refine ⟨_, rfl, _, rfl, D, _, rfl, .inl (SqL.of (e' _ _ hl)), rfl, flat, ?_⟩
    rw [if_pos rfl, inV_strs]
    exact ⟨_, rfl, k' H' (ext_refl _)⟩
  rw [filt_strs (fun z => !decide (z ∈ drp zs ys))] at hl3
  refine ⟨D2, _, rfl, .inl ⟨SqL.of hl3, fun q1 hq1 => ?_⟩⟩
  have x4 := ext_new (o := HO.tup ((jnd zs ys zs).map V.str)) (ext_refl H3) hq1
  have e4 := e3.trans x4
  have hb4 := (hb.ext e12).ext e4
  have hd4 := e4 _ _ hl
  refine ⟨_, rfl, o, C, dx, _, _, rfl, e4 _ _ ea, OT.cl, OT.nB, ofs_b a b c, b, rfl, ⟨_, hb4⟩, fun D3 hD3 => filt_tup (xs := ys.map V.str) (fun v => !decide (sOf v ∈ drp zs ys)) hb4 hD3 (by rw [List.length_map]; omega) (fun _ => rfl) (fun i v H' hi e' Q' k' => ?_) (fun v H' Q' q => ⟨_, rfl, q⟩) fun H5 e5 hl5 => ?_⟩
  · rw [List.getElem?_map] at hi
    obtain ⟨z, hz, rfl⟩ := Option.map_eq_some_iff.mp hi
    refine ⟨_, rfl, _, rfl, D, _, rfl, .inl (SqL.of (e' _ _ hd4)), rfl, flat, ?_⟩
    rw [if_pos rfl, inV_strs]
    exact ⟨_, rfl, k' H' (ext_refl _)⟩
  rw [filt_strs (fun z => !decide (z ∈ drp zs ys))] at hl5
  refine ⟨D3, _, rfl, .inl ⟨SqL.of hl5, fun q2 hq2 => ?_⟩⟩
  have x6 := ext_new (o := HO.tup ((jnd zs ys ys).map V.str)) (ext_refl H5) hq2
  refine ⟨_, rfl, _, rfl, mk_useA (zs := jnd zs ys zs) (ys := jnd zs ys ys) (SqT.of (x6 _ _ (e5 _ _ upd_same))) (SqT.of upd_same) (jnd_rows ro) fun x H' ex oa' => ?_⟩
  exact k x H' ((((e12.trans e4).trans e5).trans x6).trans ex) oa'
end
end My
namespace My
open PySem PySem.Spec PyProof.Rows L2
local macro_rules | `(tactic| walk_at "side") => `(tactic| first | assumption | decide | exact Or.inl ⟨by decide, by decide⟩ | exact Or.inr ⟨by decide, by decide⟩ | exact ⟨by decide, by decide, by decide⟩ | omega | (unfold CMulW; decide +kernel) | (dsimp only; first | assumption | omega | decide +kernel) | exact len_ok (Nat.le_of_ble_eq_true rfl) | fail "side")
local macro_rules | `(tactic| walk_at "rd") => `(tactic| first
  | refine ⟨_, _, _, _, rfl, rfl, SqL.of upd_same, atI_nat (j := 0) rfl, ?_⟩ | refine ⟨_, _, _, _, rfl, rfl, SqL.of upd_same, atI_nat (j := 1) rfl, ?_⟩ | refine ⟨_, _, _, _, rfl, rfl, SqL.of upd_same, atI_nat (j := 2) rfl, ?_⟩
  | refine ⟨_, _, _, _, rfl, rfl, upd_same, rfl, ?_⟩
  | refine ⟨_, _, rfl, rfl, ?_⟩ | refine ⟨_, rfl, ?_⟩ | refine ⟨_, _, rfl, ?_⟩ | refine Or.inl ⟨_, rfl, ?_⟩ | refine Or.inr ⟨_, rfl, ?_⟩ | refine ⟨(by walk_at "side"), ?_⟩ | fail "rd")
abbrev s_joined : Stmt := top 53
theorem sc_joined : FnScope ["exchange", "order", "told", "lengths", "head", "name"] ["exchange"] (defScope s_joined) := ⟨rfl, rfl, rfl, by decide +kernel, rfl, by decide +kernel, by decide +kernel⟩
/-- a function changed at one name -/
def setF {α : Type} (F : Str → α) (k : Str) (v : α) (y : Str) : α := if y = k then v else F y
theorem setF_self {α : Type} {F : Str → α} {k : Str} {v : α} : setF F k v k = v := if_pos rfl
theorem setF_other {α : Type} {F : Str → α} {k y : Str} {v : α} (h : y ≠ k) : setF F k v y = F y := if_neg h
/-- what joining has behind the names of l: the head, and the lengths of the heads -/
def jstep {α : Type} (add : α → α → α) (mem : Str → Bool) (f : Str → α) (s : Str × (Str → α)) (z : Str) : Str × (Str → α) := if mem z = true then (z, setF s.2 z (f z)) else (s.1, setF s.2 s.1 (add (s.2 s.1) (f z)))
def jS {α : Type} (add : α → α → α) (o : α) (mem : Str → Bool) (f : Str → α) (l : List Str) : Str × (Str → α) := l.foldl (jstep add mem f) (Str.empty, fun _ => o)
def memB (ms : List Str) (z : Str) : Bool := decide (z ∈ ms)
abbrev jN (ms : List Str) (f : Str → Nm) (l : List Str) : Str × (Str → Nm) := jS addN zN (memB ms) f l
theorem jS_next {α : Type} {add : α → α → α} {o : α} {mem : Str → Bool} {f : Str → α} {l : List Str} {i : Nat} {z : Str} (hz : l[i]? = some z) : jS add o mem f (l.take (i + 1)) = jstep add mem f (jS add o mem f (l.take i)) z := by
  rw [take_next hz]
  unfold jS
  rw [List.foldl_append]
  rfl
structure JOk (R : Int) (zs ys : List Str) (f : Str → Nm) : Prop where
  xg : XG R (jnd zs ys zs) (jnd zs ys ys) (jN (jnd zs ys zs) f zs).2
  fst : ∀ z, zs[0]? = some z → z ∈ jnd zs ys zs
  fit : ∀ (i : Nat) z, zs[i]? = some z → PtFit R ((jN (jnd zs ys zs) f (zs.take i)).2 (jN (jnd zs ys zs) f (zs.take i)).1)
def spXJoin (K : PySem.W.Frag) (C CN CX : Addr) : Sp := fun vs H Q _ => ∃ x R zs ys f, vs = [.ref x] ∧ XchAt K C CN CX H x R zs ys f ∧ JOk R zs ys f ∧ ∀ x' H', Ext H H' → XchAt K C CN CX H' x' R (jnd zs ys zs) (jnd zs ys ys) (jN (jnd zs ys zs) f zs).2 → Q (.ref x') H'
theorem putK_old {v : V} {k : Str} : ∀ {ks : List Str} {vs : List V}, vs.length = ks.length → k ∈ ks → putK (zkV ks vs) (.inr k) v = zkV ks (List.zipWith (fun z x => if z = k then v else x) ks vs) := by
  have key : ∀ (ks : List Str) (vs : List V), vs.length = ks.length → (zkV ks vs).map (fun kv => if kv.1 = (.inr k : Key) then (kv.1, v) else kv) = zkV ks (List.zipWith (fun z x => if z = k then v else x) ks vs) := by
    intro ks
    induction ks with
    | nil => intro vs _; rfl
    | cons z ks ih =>
      intro vs l
      match vs, l with
      | x :: vs, l =>
        have := ih vs (by simpa using l)
        unfold zkV at this ⊢
        rw [List.zip_cons_cons, List.map_cons, List.map_cons, this, List.zipWith_cons_cons, List.zip_cons_cons, List.map_cons]
        congr 1
        dsimp only
        by_cases e : z = k
        · rw [if_pos (by rw [e]), if_pos e]
        · rw [if_neg (fun q => e (Sum.inr.inj q)), if_neg e]
  intro ks vs l m
  unfold putK
  have an : ((zkV ks vs).any fun kv => decide (kv.1 = (.inr k : Key))) = true := by
    rw [List.any_eq_true]
    have lt := pos_lt m
    have hk : (zkV ks vs).map (·.1) = ks.map Sum.inr := by rw [zkV_keys, l, List.take_length]
    have : (.inr k : Key) ∈ (zkV ks vs).map (·.1) := by rw [hk]; exact List.mem_map.mpr ⟨k, m, rfl⟩
    obtain ⟨p, hp, e⟩ := List.mem_map.mp this
    exact ⟨p, hp, decide_eq_true e⟩
  rw [if_pos an]
  exact key ks vs l
theorem dput_old {H : Hp} {a : Addr} {ks : List Str} {vs : List V} {k : Str} {v : V} (e : H a = some (.dK (zkV ks vs))) (l : vs.length = ks.length) (m : k ∈ ks) (le : ks.length ≤ 1000) : DPut H a (.str k) v (upd H a (.dK (zkV ks (List.zipWith (fun z x => if z = k then v else x) ks vs)))) := by
  have := DPut.k (k := .inr k) (v := v) e (by rw [zkV_length l]; exact len_lt le)
  rw [putK_old l m] at this
  exact this
theorem setF_rel {CN : Addr} {H : Hp} {ks : List Str} {vs : List V} {F : Str → Nm} {k : Str} {n : Nm} {p : Addr} (r : RelL (NumV CN) (ks.map F) vs H) (hp : NumAt CN H p n) : RelL (NumV CN) (ks.map (setF F k n)) (List.zipWith (fun z x => if z = k then V.ref p else x) ks vs) H := by
  refine ⟨?_, fun i m v hm hv => ?_⟩
  · rw [List.length_zipWith, List.length_map, r.1, List.length_map]
    exact Nat.min_self _
  · rw [List.getElem?_map] at hm
    obtain ⟨z, hz, rfl⟩ := Option.map_eq_some_iff.mp hm
    rw [List.getElem?_zipWith, hz] at hv
    cases hx : vs[i]? with
    | none => rw [hx] at hv; cases hv
    | some x =>
      rw [hx] at hv
      cases hv
      unfold setF
      by_cases c : z = k
      · rw [if_pos c, if_pos c]
        exact ⟨p, rfl, hp⟩
      · rw [if_neg c, if_neg c]
        exact r.2 i (F z) x (by rw [List.getElem?_map, hz]; rfl) hx
theorem rel_get {CN d : Addr} {H : Hp} {ks : List Str} {vs : List V} {F : Str → Nm} {z : Str} (h : H d = some (.dK (zkV ks vs))) (r : RelL (NumV CN) (ks.map F) vs H) (m : z ∈ ks) : ∃ p, DGet H d (.str z) (some (.ref p)) ∧ NumAt CN H p (F z) := by
  have lt := pos_lt m
  have lx : vs.length = ks.length := by rw [r.1, List.length_map]
  have hx : vs[pos ks z]? = some vs[pos ks z] := List.getElem?_eq_getElem (by omega)
  obtain ⟨p, e, n⟩ := r.2 _ (F z) _ (by rw [List.getElem?_map, pos_get m]; rfl) hx
  refine ⟨p, ?_, n⟩
  have := DGet.k (k := .inr z) h
  rw [valV_zk _ _ _ m (by omega), hx, e] at this
  exact this
theorem filt_jnd (zs ys : List Str) : zs.filter (memB (jnd zs ys zs)) = jnd zs ys zs := by
  unfold jnd
  refine List.filter_congr fun z hz => ?_
  unfold memB
  by_cases c : z ∈ drp zs ys
  · rw [decide_eq_true c, decide_eq_false (fun q => by simpa [c] using (List.mem_filter.mp q).2)]
    rfl
  · rw [decide_eq_false c, decide_eq_true (List.mem_filter.mpr ⟨hz, by rw [decide_eq_false c]; rfl⟩)]
    rfl
section
variable {P : Program} {w : World} {K : PySem.W.Frag} {mg : Str → Option Value} {base : Heap} {C CN CX : Addr}
theorem ok_joined (T : Bn mg) (D : DefAt K mg "joined" s_joined) (XT : XchT K mg CX) (OT : OrdT K mg C) (NC : NumT K mg CN) (F_require_exchange : FnAt P w K mg base 1 "require_exchange" ["value"] (spReqX K C CN CX)) (PX_order : PropAt P w K mg base 1 CX "order" (spXOrder CX)) (PX_lengths : PropAt P w K mg base 1 CX "lengths" (spXDict K C CN CX fun _ _ f => f)) (M_joined : MethAt P w K mg base 7 C "joined" ["self"] (spOrd K C (fun zs ys => jnd zs ys zs) (fun zs ys => jnd zs ys ys)))
    (S_cont : SpAt P w K mg base 2 C "__contains__" ["self", "value"] (spOCont K C)) (IX_iter : ItrAt P w K mg base 1 CX (spXItr K C CN CX)) (O_add : OpAt P w K mg base 7 CN .Add (spBin CN addN)) (FX_init : XInitAt P w K mg base 9 CX (spXInit K C CN CX)) : FnAt P w K mg base 11 "joined" ["exchange"] (spXJoin K C CN CX) := by
  refine fnAt D sc_joined (fun _ _ _ _ _ _ us hl => match us, hl with | [_], _ => rfl) (fun vs H Q E h => ?_) fun f cdv A outer s H vs Q E hr h => ?_
  · obtain ⟨x, R, zs, ys, f, rfl, _⟩ := h
    rfl
  obtain ⟨x, R, zs, ys, f, rfl, xa, jo, k⟩ := h
  obtain ⟨_, xcl, x1, x2, x3, x4, x5, x6, x7, x8, x9, x10, x11, _⟩ := id XT
  have ocl := OT.cl
  have xg := xa.xg
  obtain ⟨dx1, xo1, xa1, xb1, xl1, xs1, xt1, xn1, xr1, xd1, xe1, xf1, d1, xp1, _⟩ := id xa
  have xo : XOrd CX H x xo1 := ⟨_, _, _, _, _, _, _, _, _, _, _, d1⟩
  have oa := xp1.ord
  obtain ⟨dxo, qao, qbo, qco, dO, _⟩ := id oa
  refine ⟨_, (pss_cons (ps_expr (callA F_require_exchange (hr.mono (by decide)) rfl (pa_cons (pv 0) pa_nil)))
    (pss_cons (ps_par3 (i := 1) (j := 2) (l := 3) rfl sc_joined.nd rfl rfl rfl (by decide) (by decide) (by decide) rfl rfl rfl (pa_cons (meth0A M_joined OT.cl (hr.mono (by decide)) (propA PX_order XT.cl (hr.mono (by decide)) (pv 0))) (pa_cons (propA PX_lengths XT.cl (hr.mono (by decide)) (pv 0)) (pa_cons pe_dnewK pa_nil))) (by rfl))
    (pss_cons (ps_set (i := 4) sc_joined.nd rfl (Or.inl rfl) pe_str)
    (pss_cons (ps_for PassesOwn.never rfl (pi_ownT IX_iter (hr.mono (by decide)) (pv 0)) (pg_name (i := 5) sc_joined.nd rfl (Or.inl rfl))
      (pss_one (ps_if (pt_cmpR (show OpR _ _ (rInOwn C (spOCont K C) E0 id) from inA S_cont (hr.mono (by decide))) (pv 5) (pv 1) rfl) (pss_cons (ps_set (i := 4) sc_joined.nd rfl (Or.inl rfl) (pv 5))
    (pss_one (ps_dput (hu1 hr) (pv 3) (pv 4) (pe_dget (hu1 hr) (pv 2) (pv 5) (fun _ _ => rfl)) rfl))) (pss_one (ps_dput (hu1 hr) (pv 3) (pv 4) (pe_op (opA O_add (hr.mono (by decide))) (pe_dget (hu1 hr) (pv 3) (pv 4) (fun _ _ => rfl)) (pe_dget (hu1 hr) (pv 2) (pv 5) (fun _ _ => rfl))) rfl)))))
    (pss_one (ps_ret (mkX FX_init XT (hr.mono (by decide)) (pa_cons (pv 1) (pa_cons (pv 3) pa_nil))))))))), ?_⟩
  refine ⟨_, rfl, _, _, _, _, _, rfl, xa, _, rfl, _, _, _, rfl, d1, _, _, rfl, xo, _, _, _, rfl, dO, rfl, _, _, _, rfl, oa, fun p2 H2 e2 h2 => ?_⟩
  obtain ⟨dx3, qa3, qb3, qc3, d3, _⟩ := id h2
  refine ⟨_, rfl, _, _, _, rfl, (e2 _ _ d1), _, _, _, _, _, rfl, (xa.ext e2), fun p4 v4 H4 e4 h4 h4' => ?_⟩
  intro p5 n5
  generalize hg6 : upd _ p5 _ = H6
  obtain ⟨e6, h6⟩ := new_facts n5 hg6
  clear hg6
  refine ⟨_, _, _, rfl, _, rfl, _, _, _, rfl, (((e2.trans e4).trans e6) _ _ d1), fun p7 => ?_⟩
  refine ⟨_, _, _, _, _, rfl, (xa.ext ((e2.trans e4).trans e6)), fun p8 p8' n8 h8 h8' => ?_⟩
  refine ⟨_, _, rfl, h8, upd_same, ?_⟩
  rw [ItX.dropH_upd n8]
  refine forT zs V.str (fun i σ' H' => ∃ (v : Option V) (vs : List V), σ' = [some (.ref x), some (.ref p2), some (.ref p4), some (.ref p5), some (.str (jN (jnd zs ys zs) f (zs.take i)).1), v] ∧ Ext H4 H' ∧ SqT K H' p8' (zs.map V.str) ∧ H' p5 = some (.dK (zkV ((zs.take i).filter (memB (jnd zs ys zs))) vs)) ∧ RelL (NumV CN) (((zs.take i).filter (memB (jnd zs ys zs))).map (jN (jnd zs ys zs) f (zs.take i)).2) vs H' ∧ (0 < i → (jN (jnd zs ys zs) f (zs.take i)).1 ∈ (zs.take i).filter (memB (jnd zs ys zs))))
    ?_ (fun i σ H' p => ?_) (fun i z σ H9 hz p => ?_) fun σ H9 p => ?_
  · exact ⟨none, [], rfl, e6, h8', h6, RelL.nil, fun c => absurd c (Nat.lt_irrefl 0)⟩
  · obtain ⟨v, vs, rfl, e9, g9, h9, r9, hd9⟩ := p
    exact g9
  · obtain ⟨v, vs, rfl, e9, g9, h9, r9, hd9⟩ := p
    have mz := List.mem_of_getElem? hz
    have lz : i < zs.length := (List.getElem?_eq_some_iff.mp hz).1
    have tk : zs.take (i + 1) = zs.take i ++ [z] := take_next hz
    have nb := nth_not_before xg.rows.nd hz
    have l9 : vs.length = ((zs.take i).filter (memB (jnd zs ys zs))).length := by rw [r9.1, List.length_map]
    have le9 : ((zs.take i).filter (memB (jnd zs ys zs))).length ≤ 1000 := by
      have := List.length_filter_le (memB (jnd zs ys zs)) (zs.take i)
      rw [List.length_take] at this
      have := xg.rows.le
      omega
    obtain ⟨u, gu, hu⟩ := (h4.get (h4'.pm.mem_iff.mpr mz))
    obtain ⟨dxu, du⟩ := id hu
    have jn := jS_next (add := addN) (o := zN) (mem := memB (jnd zs ys zs)) (f := f) hz
    rw [tk, List.filter_append]
    rw [show jN (jnd zs ys zs) f (zs.take i ++ [z]) = jstep addN (memB (jnd zs ys zs)) f (jN (jnd zs ys zs) f (zs.take i)) z from tk ▸ jn]
    have c2 := (h2.ext (e4.trans e9))
    obtain ⟨dx9, qa9, qb9, qc9, d9, _⟩ := id c2
    by_cases c : z ∈ jnd zs ys zs
    · have cm : memB (jnd zs ys zs) z = true := decide_eq_true c
      have dc : decide (z ∈ jnd zs ys zs) = true := decide_eq_true c
      have nb' : z ∉ (zs.take i).filter (memB (jnd zs ys zs)) := fun q => nb (List.mem_filter.mp q).1
      have dp := dput_zk (v := V.ref u) h9 l9 nb' le9
      refine ⟨_, rfl, _, rfl, _, _, _, rfl, d9, _, _, _, _, rfl, c2, .inl ⟨z, rfl, _, rfl, _, rfl, ?_⟩⟩
      dsimp only
      rw [dc, if_pos (show id true = true from rfl), show jstep addN (memB (jnd zs ys zs)) f (jN (jnd zs ys zs) f (zs.take i)) z = (z, setF (jN (jnd zs ys zs) f (zs.take i)).2 z (f z)) from if_pos cm, List.filter_cons_of_pos cm, List.filter_nil]
      refine ⟨_, rfl, _, rfl, _, rfl, _, _, rfl, (gu.ext e9), _, rfl, _, rfl, _, _, rfl, dp, ?_⟩
      generalize hg8 : upd _ p5 _ = H10
      obtain ⟨b10, h10⟩ := but_upd h9 hg8
      refine ⟨some (.str z), vs ++ [.ref u], rfl, ext_but b10 e9 n5, g9.but b10, h10, ?_, fun _ => List.mem_append_right _ (List.mem_singleton.mpr rfl)⟩
      dsimp only
      rw [List.map_append]
      refine RelL.snoc ?_ ⟨u, rfl, by rw [setF_self]; exact (hu.ext e9).but b10⟩
      rw [List.map_congr_left (g := (jN (jnd zs ys zs) f (zs.take i)).2) fun y hy => setF_other (k := z) fun q => nb' (q ▸ hy)]
      exact r9.but b10
    · have cm : memB (jnd zs ys zs) z = false := decide_eq_false c
      have dc : decide (z ∈ jnd zs ys zs) = false := decide_eq_false c
      have i0 : 0 < i := Nat.pos_of_ne_zero fun q => c (jo.fst z (q ▸ hz))
      have hm := hd9 i0
      have pf := jo.fit i z hz
      have fz := xg.fit z mz
      generalize hjs : jN (jnd zs ys zs) f (zs.take i) = js at *
      obtain ⟨hd, F⟩ := js
      dsimp only at hm pf ⊢
      obtain ⟨w0, gw0, nw0⟩ := rel_get h9 r9 hm
      obtain ⟨dxw, dw⟩ := id nw0
      have gp := pf.good
      have gf : Good 2000 (f z) := fz.good.mono (by decide)
      have o1 := pf.one fz.pt
      refine ⟨_, rfl, _, rfl, _, _, _, rfl, d9, _, _, _, _, rfl, c2, .inl ⟨z, rfl, _, rfl, _, rfl, ?_⟩⟩
      dsimp only
      rw [dc, if_neg (show ¬ id false = true from Bool.false_ne_true), show jstep addN (memB (jnd zs ys zs)) f (hd, F) z = (hd, setF F hd (addN (F hd) (f z))) from if_neg (by rw [cm]; decide), List.filter_cons_of_neg (by rw [cm]; decide), List.filter_nil, List.append_nil]
      refine ⟨_, rfl, _, rfl, _, _, rfl, gw0, _, rfl, _, rfl, _, _, rfl, (gu.ext e9), _, _, _, rfl, dw, (.inr ⟨_, ⟨_, ⟨_, ⟨rfl, (e9 _ _ du)⟩⟩⟩⟩), _, _, _, _, rfl, nw0, (.inl ⟨_, ⟨rfl, (hu.ext e9)⟩⟩), gp, gf, o1, fun p10 H10 e10 h10 => ?_⟩
      obtain ⟨dx11, d11⟩ := id h10
      have h10' := e10 _ _ h9
      have dp := dput_old (v := V.ref p10) h10' l9 hm le9
      refine ⟨_, rfl, _, rfl, _, _, rfl, dp, ?_⟩
      generalize hg8 : upd _ p5 _ = H11
      obtain ⟨b11, h11⟩ := but_upd h10' hg8
      refine ⟨some (.str z), _, rfl, ext_but b11 (e9.trans e10) n5, (g9.ext e10).but b11, h11, ?_, fun _ => hm⟩
      exact (setF_rel (r9.ext e10) h10).but b11
  · obtain ⟨v, vs, rfl, e9, g9, h9, r9, hd9⟩ := p
    rw [List.take_length] at h9 r9
    rw [filt_jnd] at h9 r9
    have nD : NumD CN H9 p5 (jnd zs ys zs) (jN (jnd zs ys zs) f zs).2 := numD_mk h9 (all_of_rel ((RelL.map (R := NumV CN)).mp r9)) jo.xg.rows.nd
    refine ⟨_, rfl, _, rfl, ?_⟩
    refine mkX_useR (fun _ => rfl) (h2.ext (e4.trans e9)) nD (List.Perm.refl _) jo.xg fun p10 H10 e10 h10 => ?_
    exact k _ _ (((e2.trans e4).trans e9).trans e10) h10
end
end My
namespace My
open PySem PySem.Spec PyProof.Rows L2
theorem lst10 (t : Int) : lst t 0 0 1 = ⟨t, 0, 0, 1⟩ := by
  rw [lst1]
  rfl
theorem rt1_in {R : Int} (h : 0 ≤ R) (a b : Int × Int) : rt1 (inN R a) (inN R b) = if a.2 = 0 ∧ b.2 = 0 then 0 else R := by
  unfold rt1 inN
  dsimp only
  by_cases x : a.2 = 0
  · by_cases y : b.2 = 0
    · simp [x, y]
    · simp only [x, y, if_true, if_false, and_false]
      split <;> omega
  · by_cases y : b.2 = 0
    · simp only [x, y, if_true, if_false, false_and]
      split <;> omega
    · simp [x, y]
theorem in_eq {R r : Int} {p : Int × Int} (h : p.2 ≠ 0 → r = R) : inN r p = inN R p := by
  unfold inN
  by_cases c : p.2 = 0
  · simp [c]
  · simp [c, h c]
def mulP (R : Int) (a b : Int × Int) : Int × Int := (a.1 * b.1 + a.2 * b.2 * R, a.1 * b.2 + a.2 * b.1)
theorem add_in {R : Int} (h : 0 ≤ R) (a b : Int × Int) : addN (inN R a) (inN R b) = inN R (addP a b) := by
  show lst (a.1 * 1 + b.1 * 1) (a.2 * 1 + b.2 * 1) (rt1 (inN R a) (inN R b)) (1 * 1) = _
  rw [Int.mul_one, Int.mul_one, Int.mul_one, Int.mul_one, Int.mul_one, lst1]
  refine in_eq fun hp => ?_
  rw [rt1_in h, if_neg fun ⟨x, y⟩ => hp (by show a.2 + b.2 = 0; omega)]
theorem sub_in {R : Int} (h : 0 ≤ R) (a b : Int × Int) : subN (inN R a) (inN R b) = inN R (subP a b) := by
  show lst (a.1 * 1 - b.1 * 1) (a.2 * 1 - b.2 * 1) (rt1 (inN R a) (inN R b)) (1 * 1) = _
  rw [Int.mul_one, Int.mul_one, Int.mul_one, Int.mul_one, Int.mul_one, lst1]
  refine in_eq fun hp => ?_
  rw [rt1_in h, if_neg fun ⟨x, y⟩ => hp (by show a.2 - b.2 = 0; omega)]
theorem fold_in {R : Int} (h : 0 ≤ R) (L : Str → Int × Int) : ∀ (l : List Str) (a : Int × Int), (l.map (inF R L)).foldl addN (inN R a) = inN R ((l.map L).foldl addP a)
  | [], _ => rfl
  | z :: l, a => by
    rw [List.map_cons, List.map_cons, List.foldl_cons, List.foldl_cons]
    have e : addN (inN R a) (inF R L z) = inN R (addP a (L z)) := add_in h a (L z)
    rw [e]
    exact fold_in h L l _
theorem sum_in {R : Int} (h : 0 ≤ R) (L : Str → Int × Int) (l : List Str) : sumN (l.map (inF R L)) = inN R (sumP (l.map L)) := fold_in h L l (0, 0)
theorem sum_in_take {R : Int} (h : 0 ≤ R) (L : Str → Int × Int) (l : List Str) (i : Nat) : sumN ((l.map (inF R L)).take i) = inN R (sumP ((l.map L).take i)) := by
  rw [← List.map_take, ← List.map_take]
  exact sum_in h L _
theorem beg_in {R : Int} (h : 0 ≤ R) (L : Str → Int × Int) (zs : List Str) (z : Str) : begN zs (inF R L) z = inN R (bgP zs L z) := sum_in_take h L zs _
def shP (zs ys : List Str) (L : Str → Int × Int) (z : Str) : Int × Int := subP (bgP ys L z) (bgP zs L z)
theorem shf_in {R : Int} (h : 0 ≤ R) (L : Str → Int × Int) (zs ys : List Str) (z : Str) : shfN zs ys (inF R L) z = inN R (shP zs ys L z) := by
  unfold shfN
  rw [beg_in h, beg_in h, sub_in h]
  rfl
structure Bd (R M : Int) (p : Int × Int) : Prop where
  a : -M ≤ p.1
  b : p.1 ≤ M
  c : -M ≤ p.2
  d : p.2 ≤ M
  z : R = 0 → p.2 = 0
theorem Bd.mono {R M N : Int} {p : Int × Int} (h : Bd R M p) (l : M ≤ N) : Bd R N p := ⟨by have := h.a; omega, by have := h.b; omega, by have := h.c; omega, by have := h.d; omega, h.z⟩
theorem Bd.add {R M N : Int} {p q : Int × Int} (h : Bd R M p) (g : Bd R N q) : Bd R (M + N) (addP p q) := by
  obtain ⟨a, b, c, d, z⟩ := h
  obtain ⟨a', b', c', d', z'⟩ := g
  exact ⟨by show _ ≤ p.1 + q.1; omega, by show p.1 + q.1 ≤ _; omega, by show _ ≤ p.2 + q.2; omega, by show p.2 + q.2 ≤ _; omega, fun e => by show p.2 + q.2 = 0; rw [z e, z' e]; rfl⟩
theorem Bd.sub {R M N : Int} {p q : Int × Int} (h : Bd R M p) (g : Bd R N q) : Bd R (M + N) (subP p q) := by
  obtain ⟨a, b, c, d, z⟩ := h
  obtain ⟨a', b', c', d', z'⟩ := g
  exact ⟨by show _ ≤ p.1 - q.1; omega, by show p.1 - q.1 ≤ _; omega, by show _ ≤ p.2 - q.2; omega, by show p.2 - q.2 ≤ _; omega, fun e => by show p.2 - q.2 = 0; rw [z e, z' e]; rfl⟩
theorem mul_ab {x y M N : Int} (h1 : -M ≤ x) (h2 : x ≤ M) (g1 : -N ≤ y) (g2 : y ≤ N) : -(M * N) ≤ x * y ∧ x * y ≤ M * N := by
  have hM : x.natAbs ≤ M.natAbs := by omega
  have hN : y.natAbs ≤ N.natAbs := by omega
  have p := Nat.mul_le_mul hM hN
  rw [← Int.natAbs_mul, ← Int.natAbs_mul] at p
  have : 0 ≤ M * N := Int.mul_nonneg (by omega) (by omega)
  omega
theorem Bd.mul {R : Int} {p q : Int × Int} (h : Bd R 6 p) (g : Bd R 120 q) (r0 : 0 ≤ R) (r5 : R ≤ 5) : Bd R 4320 (mulP R p q) := by
  have m1 := mul_ab h.a h.b g.a g.b
  have m2 := mul_ab h.c h.d g.c g.d
  have m3 := mul_ab h.a h.b g.c g.d
  have m4 := mul_ab h.c h.d g.a g.b
  have m5 := mul_ab (M := 720) (N := 5) m2.1 m2.2 (by omega) r5
  exact ⟨by show _ ≤ p.1 * q.1 + p.2 * q.2 * R; omega, by show p.1 * q.1 + p.2 * q.2 * R ≤ _; omega, by show _ ≤ p.1 * q.2 + p.2 * q.1; omega, by show p.1 * q.2 + p.2 * q.1 ≤ _; omega,
    fun e => by show p.1 * q.2 + p.2 * q.1 = 0; rw [h.z e, g.z e, Int.mul_zero, Int.zero_mul]; rfl⟩
theorem Bd.fold {R M : Int} : ∀ (ps : List (Int × Int)) (a : Int × Int) (N : Int), Bd R N a → (∀ p ∈ ps, Bd R M p) → Bd R (N + M * ps.length) (ps.foldl addP a)
  | [], a, N, h, _ => by
    have : N + M * (([] : List (Int × Int)).length : Int) = N := by simp
    rw [this]
    exact h
  | p :: ps, a, N, h, g => by
    have ih := Bd.fold ps (addP a p) (N + M) (h.add (g p List.mem_cons_self)) fun q hq => g q (List.mem_cons_of_mem _ hq)
    rw [List.foldl_cons]
    have : N + M * ((p :: ps).length : Int) = N + M + M * (ps.length : Int) := by
      rw [List.length_cons]
      push_cast
      rw [Int.mul_add]
      omega
    rw [this]
    exact ih
theorem Bd.sum {R M N : Int} {ps : List (Int × Int)} (g : ∀ p ∈ ps, Bd R M p) (le : M * ps.length ≤ N) : Bd R N (sumP ps) := by
  have := Bd.fold ps (0, 0) 0 ⟨by decide, by decide, by decide, by decide, fun _ => rfl⟩ g
  exact this.mono (by omega)
theorem LenP.bd {R : Int} {p : Int × Int} (h : LenP R p) : Bd R 6 p := ⟨by have := h.x0; omega, h.x6, by have := h.y0; omega, by have := h.y2; omega, h.rt⟩
theorem in_good {R : Int} {p : Int × Int} (ro : RtOk R) (h : Bd R 100000 p) : Good 900 (inN R p) := by
  have z : ∀ x : Int, -100000 ≤ x → x ≤ 100000 → Sz 900 x := fun x a b => Sz.mono (n := 17) (by unfold Sz; omega) (by decide)
  refine ⟨z _ h.a h.b, z _ h.c h.d, z 1 (by decide) (by decide), Int.le_refl _, com1 _ _, ?_⟩
  by_cases c : p.2 = 0
  · exact .inl ⟨if_pos c, c⟩
  · refine .inr ⟨c, ?_⟩
    show rootOk (if p.2 = 0 then 0 else R) = true
    rw [if_neg c]
    exact ro.elim (fun e => absurd (h.z e) c) id
theorem in_rt (R : Int) (p : Int × Int) : (inN R p).r = 0 ∨ (inN R p).r = R := by
  show (if p.2 = 0 then 0 else R) = 0 ∨ (if p.2 = 0 then 0 else R) = R
  split
  · exact .inl rfl
  · exact .inr rfl
theorem in_fit {R : Int} {p : Int × Int} (ro : RtOk R) (h : Bd R 100000 p) : Fit R (inN R p) := ⟨in_good ro h, in_rt R p⟩
theorem in_pos {R : Int} {p : Int × Int} (h : LenP R p) (r0 : 0 ≤ R) : 0 < sgn (inN R p).t (inN R p).p (inN R p).r := by
  obtain ⟨x0, _, y0, _, ps, _⟩ := h
  show 0 < sgn p.1 p.2 _
  generalize hr : (inN R p).r = r
  have hr0 : 0 ≤ r := by rcases in_rt R p with e | e <;> omega
  unfold sgn sgI
  by_cases c : p.2 = 0
  · have : 0 < p.1 := by omega
    simp [c, this, show p.1 ≠ 0 by omega]
  · have c0 : 0 < p.2 := by omega
    by_cases d : p.1 = 0
    · have : ¬ p.2 * p.2 * r < 0 := by
        have := Int.mul_nonneg (Int.mul_nonneg (Int.le_of_lt c0) (Int.le_of_lt c0)) hr0
        omega
      simp [c, d, c0, this]
    · have : 0 < p.1 := by omega
      simp [c, d, c0, this]
section
variable {R : Int} {zs ys : List Str} {L : Str → Int × Int}
theorem bg_bd (le : zs.length ≤ 10) (len : ∀ z ∈ zs, LenP R (L z)) (i : Nat) : Bd R 60 (sumP ((zs.map L).take i)) := by
  refine Bd.sum (M := 6) (fun p hp => ?_) ?_
  · obtain ⟨z, hz, rfl⟩ := List.mem_map.mp (List.mem_of_mem_take hp)
    exact (len z hz).bd
  · rw [List.length_take, List.length_map]
    omega
theorem mkXG (ro : RtOk R) (r0 : 0 ≤ R) (rows : RowsOk zs ys) (le : zs.length ≤ 10) (len : ∀ z ∈ zs, LenP R (L z)) : XG R zs ys (inF R L) := by
  have le2 : ys.length ≤ 10 := by rw [rows.len]; exact le
  have len2 : ∀ z ∈ ys, LenP R (L z) := fun z hz => len z (rows.pm.mem_iff.mp hz)
  refine ⟨rows, fun z hz => in_fit ro ((len z hz).bd.mono (by decide)), fun z hz => in_pos (len z hz) r0, fun i _ => ?_, fun i _ => ?_⟩
  · rw [sum_in_take r0]
    exact in_fit ro ((bg_bd le len i).mono (by decide))
  · rw [sum_in_take r0]
    exact in_fit ro ((bg_bd le2 len2 i).mono (by decide))
theorem sh_bd (rows : RowsOk zs ys) (le : zs.length ≤ 10) (len : ∀ z ∈ zs, LenP R (L z)) (z : Str) : Bd R 120 (shP zs ys L z) := by
  have le2 : ys.length ≤ 10 := by rw [rows.len]; exact le
  have len2 : ∀ z ∈ ys, LenP R (L z) := fun z hz => len z (rows.pm.mem_iff.mp hz)
  exact (Bd.sub (bg_bd le2 len2 _) (bg_bd le len _)).mono (by decide)
end
end My
namespace My
open PySem PySem.Spec PyProof.Rows L2
def sumI (l : List Str) (g : Str → Int) : Int := l.foldr (fun z t => g z + t) 0
theorem sumI_cons (z : Str) (l : List Str) (g : Str → Int) : sumI (z :: l) g = g z + sumI l g := rfl
theorem sumI_congr {g g' : Str → Int} : ∀ {l : List Str}, (∀ z ∈ l, g z = g' z) → sumI l g = sumI l g'
  | [], _ => rfl
  | z :: l, h => by rw [sumI_cons, sumI_cons, h z List.mem_cons_self, sumI_congr fun y hy => h y (List.mem_cons_of_mem _ hy)]
theorem sumI_zero {g : Str → Int} : ∀ {l : List Str}, (∀ z ∈ l, g z = 0) → sumI l g = 0
  | [], _ => rfl
  | z :: l, h => by rw [sumI_cons, h z List.mem_cons_self, sumI_zero fun y hy => h y (List.mem_cons_of_mem _ hy)]; rfl
theorem sumI_add (g g' : Str → Int) : ∀ l : List Str, sumI l (fun z => g z + g' z) = sumI l g + sumI l g'
  | [] => rfl
  | z :: l => by rw [sumI_cons, sumI_cons, sumI_cons, sumI_add g g' l]; omega
theorem sumI_sub (g g' : Str → Int) : ∀ l : List Str, sumI l (fun z => g z - g' z) = sumI l g - sumI l g'
  | [] => rfl
  | z :: l => by rw [sumI_cons, sumI_cons, sumI_cons, sumI_sub g g' l]; omega
theorem sumI_perm {g : Str → Int} {l l' : List Str} (p : l.Perm l') : sumI l g = sumI l' g := by
  induction p with
  | nil => rfl
  | cons x _ ih => rw [sumI_cons, sumI_cons, ih]
  | swap x y l => rw [sumI_cons, sumI_cons, sumI_cons, sumI_cons]; omega
  | trans _ _ a b => rw [a, b]
theorem foldP_two (L : Str → Int × Int) : ∀ (l : List Str) (a : Int × Int), (l.map L).foldl addP a = (a.1 + sumI l (fun z => (L z).1), a.2 + sumI l fun z => (L z).2)
  | [], a => by show a = (a.1 + 0, a.2 + 0); rw [Int.add_zero, Int.add_zero]
  | z :: l, a => by
    rw [List.map_cons, List.foldl_cons, foldP_two L l, sumI_cons, sumI_cons]
    show (a.1 + (L z).1 + _, a.2 + (L z).2 + _) = _
    rw [Int.add_assoc, Int.add_assoc]
theorem sumP_two (L : Str → Int × Int) (l : List Str) : sumP (l.map L) = (sumI l (fun z => (L z).1), sumI l fun z => (L z).2) := by
  unfold sumP
  rw [foldP_two, Int.zero_add, Int.zero_add]
theorem pos_self (c : Str) (r : List Str) : pos (c :: r) c = 0 := by
  unfold pos
  rw [List.findIdx_cons, decide_eq_true rfl]
  rfl
theorem pos_step {c w : Str} {r : List Str} (h : w ≠ c) : pos (c :: r) w = pos r w + 1 := by
  unfold pos
  rw [List.findIdx_cons, decide_eq_false fun e => h e.symm]
  rfl
/-- the sum over what is ahead of a place -/
theorem ahead_sum {g : Str → Int} : ∀ {zs : List Str} (n : Nat), zs.Nodup → sumI (zs.take n) g = sumI zs fun w => if pos zs w < n then g w else 0
  | [], n, _ => by simp [sumI]
  | c :: r, 0, _ => by
    rw [List.take_zero]
    exact (sumI_zero fun z _ => if_neg (Nat.not_lt_zero _)).symm
  | c :: r, n + 1, nd => by
    have nc := List.nodup_cons.mp nd
    rw [List.take_succ_cons, sumI_cons, sumI_cons, ahead_sum n nc.2, pos_self, if_pos (Nat.succ_pos n)]
    congr 1
    refine sumI_congr fun w hw => ?_
    have ne : w ≠ c := fun e => nc.1 (by rw [← e]; exact hw)
    rw [pos_step ne]
    by_cases q : pos r w < n
    · rw [if_pos q, if_pos (by omega)]
    · rw [if_neg q, if_neg (by omega)]
section
variable {us ls zs : List Str} {L : Str → Int × Int}
theorem bg1 (nd : zs.Nodup) (z : Str) : (bgP zs L z).1 = sumI zs fun w => if pos zs w < pos zs z then (L w).1 else 0 := by
  unfold bgP
  rw [← List.map_take, sumP_two]
  exact ahead_sum _ nd
theorem bg2 (nd : zs.Nodup) (z : Str) : (bgP zs L z).2 = sumI zs fun w => if pos zs w < pos zs z then (L w).2 else 0 := by
  unfold bgP
  rw [← List.map_take, sumP_two]
  exact ahead_sum _ nd
theorem pos_one {w z : Str} (hw : w ∈ zs) (hz : z ∈ zs) (e : pos zs w = pos zs z) : w = z := by
  have a := pos_get hw
  rw [e, pos_get hz] at a
  exact (Option.some.inj a).symm
theorem sh1 (nu : us.Nodup) (pm : ls.Perm us) (z : Str) : (bgP ls L z).1 - (bgP us L z).1 = sumI us fun w => -(frm us ls w z * (L w).1) := by
  rw [bg1 nu, bg1 (pm.nodup_iff.mpr nu), sumI_perm pm, ← sumI_sub]
  refine sumI_congr fun w _ => ?_
  unfold frm aheadI
  repeat' split
  all_goals simp
theorem sh2 (nu : us.Nodup) (pm : ls.Perm us) (z : Str) : (bgP ls L z).2 - (bgP us L z).2 = sumI us fun w => -(frm us ls w z * (L w).2) := by
  rw [bg2 nu, bg2 (pm.nodup_iff.mpr nu), sumI_perm pm, ← sumI_sub]
  refine sumI_congr fun w _ => ?_
  unfold frm aheadI
  repeat' split
  all_goals simp
theorem frm_turn (pm : ls.Perm us) {w z : Str} (hw : w ∈ us) (hz : z ∈ us) (ne : w ≠ z) : frm us ls z w = -frm us ls w z := by
  have a : pos us w ≠ pos us z := fun q => ne (pos_one hw hz q)
  have b : pos ls w ≠ pos ls z := fun q => ne (pos_one (pm.mem_iff.mpr hw) (pm.mem_iff.mpr hz) q)
  unfold frm aheadI
  by_cases c : pos us w < pos us z
  · by_cases d : pos ls w < pos ls z
    · rw [if_pos c, if_pos d, if_neg (by omega), if_neg (by omega)]
      rfl
    · rw [if_pos c, if_neg d, if_neg (by omega), if_pos (by omega)]
      rfl
  · by_cases d : pos ls w < pos ls z
    · rw [if_neg c, if_pos d, if_pos (by omega), if_neg (by omega)]
      rfl
    · rw [if_neg c, if_neg d, if_pos (by omega), if_pos (by omega)]
      rfl
end
end My
namespace My
open PySem PySem.Spec L2
def fm (ps : List Int) (i : Nat) : Int := (ps.take i).foldl mx 0
theorem mx_le {f p b : Int} (h : f ≤ b) (g : p ≤ b) : mx f p ≤ b := by
  unfold mx
  split <;> assumption
theorem le_mx {f p : Int} : f ≤ mx f p ∧ p ≤ mx f p := by
  unfold mx
  split <;> omega
theorem fm_succ {ps : List Int} {i : Nat} (h : i < ps.length) : fm ps (i + 1) = mx (fm ps i) ps[i] := by
  unfold fm
  rw [List.take_succ, List.getElem?_eq_getElem h, List.foldl_append]
  rfl
theorem fm_le {ps : List Int} {b : Int} (h0 : 0 ≤ b) : ∀ i, i ≤ ps.length → (∀ j (hj : j < ps.length), j < i → ps[j] ≤ b) → fm ps i ≤ b
  | 0, _, _ => h0
  | i + 1, hi, h => by
    rw [fm_succ (by omega)]
    exact mx_le (fm_le h0 i (by omega) fun j hj hji => h j hj (by omega)) (h i (by omega) (by omega))
theorem fm_ge {ps : List Int} : ∀ i, i ≤ ps.length → ∀ j (hj : j < ps.length), j < i → ps[j] ≤ fm ps i
  | 0, _, j, _, h => by omega
  | i + 1, hi, j, hj, h => by
    rw [fm_succ (by omega)]
    by_cases e : j = i
    · subst e
      exact le_mx.2
    · exact Int.le_trans (fm_ge i (by omega) j hj (by omega)) le_mx.1
theorem pos_at {l : List Str} (nd : l.Nodup) {m : Nat} (h : m < l.length) : pos l l[m] = m := by
  have mem : l[m] ∈ l := List.getElem_mem h
  have pl := pos_lt mem
  have g := pos_get mem
  rw [List.getElem?_eq_getElem pl] at g
  have e : l[pos l l[m]] = l[m] := Option.some.inj g
  have pw := List.pairwise_iff_getElem.mp (List.nodup_iff_pairwise_ne.mp nd)
  rcases Nat.lt_trichotomy (pos l l[m]) m with a | a | a
  · exact absurd e (pw _ _ pl h a)
  · exact a
  · exact absurd e.symm (pw _ _ h pl a)
theorem plc_len (zs ys : List Str) : (plc zs ys).length = zs.length := by unfold plc; rw [List.length_map]
theorem plc_at {zs ys : List Str} {j : Nat} (h : j < (plc zs ys).length) : (plc zs ys)[j] = ((pos ys (zs[j]'(by rw [plc_len] at h; exact h)) : Nat) : Int) := List.getElem_map ..
/-- the first e names of both rows are the same -/
def pre (zs ys : List Str) (e : Nat) : Bool := (zs.take e).all fun x => decide (x ∈ ys.take e)
def cutsN (zs ys : List Str) : Nat → Nat → List Nat
  | _, 0 => []
  | i, d + 1 => if pre zs ys (i + 1) = true then (i + 1) :: cutsN zs ys (i + 1) d else cutsN zs ys (i + 1) d
theorem pre_iff {zs ys : List Str} {e : Nat} : pre zs ys e = true ↔ ∀ x ∈ zs.take e, x ∈ ys.take e := by
  unfold pre
  rw [List.all_eq_true]
  exact ⟨fun h x hx => of_decide_eq_true (h x hx), fun h x hx => decide_eq_true (h x hx)⟩
theorem nd_take {zs : List Str} (h : zs.Nodup) (e : Nat) : (zs.take e).Nodup := List.nodup_iff_pairwise_ne.mpr ((List.nodup_iff_pairwise_ne.mp h).sublist (List.take_sublist _ _))
theorem pre_back {zs ys : List Str} (ro : RowsOk zs ys) {e : Nat} (h : pre zs ys e = true) : ∀ x ∈ ys.take e, x ∈ zs.take e :=
  perm_len (nd_take ro.nd e) (pre_iff.mp h) (by rw [List.length_take, List.length_take, ro.len])
theorem pre_fm {zs ys : List Str} (ro : RowsOk zs ys) {i : Nat} (hi : i < zs.length) : fm (plc zs ys) (i + 1) = (i : Int) ↔ pre zs ys (i + 1) = true := by
  have len := plc_len zs ys
  constructor
  · intro e
    refine pre_iff.mpr fun x hx => ?_
    obtain ⟨j, hj, ej⟩ := List.getElem_of_mem hx
    rw [List.length_take] at hj
    rw [List.getElem_take] at ej
    have ge := fm_ge (ps := plc zs ys) (i + 1) (by omega) j (by omega) (by omega)
    rw [e, plc_at (by omega), ej] at ge
    have mem : x ∈ ys := ro.pm.mem_iff.mpr (List.mem_of_mem_take hx)
    refine List.mem_of_getElem? (i := pos ys x) ?_
    rw [List.getElem?_take_of_lt (by omega)]
    exact pos_get mem
  · intro p
    have hl := ro.len
    refine Int.le_antisymm (fm_le (by omega) _ (by omega) fun j hj hji => ?_) ?_
    · rw [plc_at hj]
      have m1 : zs[j]'(by omega) ∈ ys.take (i + 1) := pre_iff.mp p _ (List.mem_of_getElem? (i := j) (by rw [List.getElem?_take_of_lt hji, List.getElem?_eq_getElem (by omega)]))
      obtain ⟨m, hm, em⟩ := List.getElem_of_mem m1
      rw [List.length_take] at hm
      rw [List.getElem_take] at em
      rw [← em, pos_at ro.symm.nd (by omega)]
      omega
    · have m1 : ys[i]'(by omega) ∈ zs.take (i + 1) := pre_back ro p _ (List.mem_of_getElem? (i := i) (by rw [List.getElem?_take_of_lt (by omega), List.getElem?_eq_getElem (by omega)]))
      obtain ⟨j, hj, ej⟩ := List.getElem_of_mem m1
      rw [List.length_take] at hj
      rw [List.getElem_take] at ej
      have ge := fm_ge (ps := plc zs ys) (i + 1) (by omega) j (by omega) (by omega)
      rw [plc_at (by omega), ej, pos_at ro.symm.nd (by omega)] at ge
      exact ge
theorem bend_cuts {zs ys : List Str} (ro : RowsOk zs ys) : ∀ (d i : Nat), i + d = zs.length → bend (i : Nat) (fm (plc zs ys) i) ((plc zs ys).drop i) = (cutsN zs ys i d).map fun e => ((e : Nat) : Int)
  | 0, i, h => by
    rw [List.drop_eq_nil_of_le (by rw [plc_len]; omega), bend, cutsN]
    rfl
  | d + 1, i, h => by
    have len := plc_len zs ys
    have hp : i < (plc zs ys).length := by omega
    rw [List.drop_eq_getElem_cons hp, bend, ← fm_succ hp, cutsN]
    have ih := bend_cuts ro d (i + 1) (by omega)
    have ec : ((i : Nat) : Int) + 1 = ((i + 1 : Nat) : Int) := by omega
    rw [ec, ih]
    by_cases e : pre zs ys (i + 1) = true
    · rw [if_pos e, if_pos ((pre_fm ro (by omega)).mpr e)]
      rfl
    · rw [if_neg e, if_neg fun z => e ((pre_fm ro (by omega)).mp z)]
/-- where the blocks end -/
def cuts (zs ys : List Str) : List Nat := cutsN zs ys 0 zs.length
theorem bend_eq {zs ys : List Str} (ro : RowsOk zs ys) : bend 0 0 (plc zs ys) = (cuts zs ys).map fun e => ((e : Nat) : Int) := bend_cuts ro zs.length 0 (by omega)
theorem cutsN_len (zs ys : List Str) : ∀ d i, (cutsN zs ys i d).length ≤ d
  | 0, _ => Nat.le_refl _
  | d + 1, i => by
    have := cutsN_len zs ys d (i + 1)
    rw [cutsN]
    split
    · rw [List.length_cons]; omega
    · omega
/-- a block's rows -/
def cutP (zs ys : List Str) (p : Nat × Nat) : List Str × List Str := ((zs.take p.2).drop p.1, (ys.take p.2).drop p.1)
def blks (zs ys : List Str) : List (List Str × List Str) := ((0 :: cuts zs ys).zip (cuts zs ys)).map (cutP zs ys)
/-- cuts ascend, and all are such places -/
theorem cutsN_ok (zs ys : List Str) : ∀ d i, ∀ b, b ≤ i → pre zs ys b = true → ∀ p ∈ (b :: cutsN zs ys i d).zip (cutsN zs ys i d), p.1 < p.2 ∧ p.2 ≤ i + d ∧ pre zs ys p.1 = true ∧ pre zs ys p.2 = true
  | 0, i, b, _, _, p, hp => by rw [cutsN] at hp; simp at hp
  | d + 1, i, b, hb, pb, p, hp => by
    rw [cutsN] at hp
    split at hp
    · rename_i c
      rw [List.zip_cons_cons] at hp
      rcases List.mem_cons.mp hp with e | e
      · subst e
        exact ⟨by show b < i + 1; omega, by show i + 1 ≤ _; omega, pb, c⟩
      · have := cutsN_ok zs ys d (i + 1) (i + 1) (Nat.le_refl _) c p e
        exact ⟨this.1, by omega, this.2.2⟩
    · have := cutsN_ok zs ys d (i + 1) b (by omega) pb p hp
      exact ⟨this.1, by omega, this.2.2⟩
theorem cut_pair {zs ys : List Str} {p : Nat × Nat} (h : p ∈ (0 :: cuts zs ys).zip (cuts zs ys)) : p.1 < p.2 ∧ p.2 ≤ zs.length ∧ pre zs ys p.1 = true ∧ pre zs ys p.2 = true := by
  have := cutsN_ok zs ys zs.length 0 0 (Nat.le_refl _) rfl p h
  exact ⟨this.1, by omega, this.2.2⟩
theorem pre_perm {zs ys : List Str} (ro : RowsOk zs ys) {e : Nat} (h : pre zs ys e = true) : (ys.take e).Perm (zs.take e) := by
  refine (List.perm_ext_iff_of_nodup (nd_take ro.symm.nd e) (nd_take ro.nd e)).mpr fun x => ⟨pre_back ro h x, pre_iff.mp h x⟩
theorem cut_rows {zs ys : List Str} (ro : RowsOk zs ys) {p : Nat × Nat} (h : p.1 < p.2 ∧ p.2 ≤ zs.length ∧ pre zs ys p.1 = true ∧ pre zs ys p.2 = true) : RowsOk (cutP zs ys p).1 (cutP zs ys p).2 := by
  obtain ⟨h1, h2, h3, h4⟩ := h
  have sub : List.Sublist ((zs.take p.2).drop p.1) zs := (List.drop_sublist _ _).trans (List.take_sublist _ _)
  have hl : ((zs.take p.2).drop p.1).length = p.2 - p.1 := by rw [List.length_drop, List.length_take]; omega
  have l40 := ro.le
  refine ⟨fun z hz => ro.nm z (sub.subset hz), List.nodup_iff_pairwise_ne.mpr ((List.nodup_iff_pairwise_ne.mp ro.nd).sublist sub), ?_, ?_, ?_⟩
  · have q := pre_perm ro h4
    have r := pre_perm ro h3
    have ez : zs.take p.2 = zs.take p.1 ++ (zs.take p.2).drop p.1 := by
      have := (List.take_append_drop p.1 (zs.take p.2)).symm
      rw [List.take_take, Nat.min_eq_left (by omega)] at this
      exact this
    have ey : ys.take p.2 = ys.take p.1 ++ (ys.take p.2).drop p.1 := by
      have := (List.take_append_drop p.1 (ys.take p.2)).symm
      rw [List.take_take, Nat.min_eq_left (by omega)] at this
      exact this
    rw [ez, ey] at q
    have q2 := q.trans (r.symm.append_right ((zs.take p.2).drop p.1))
    exact (List.perm_append_left_iff _).mp q2
  · show 1 ≤ ((zs.take p.2).drop p.1).length
    omega
  · show ((zs.take p.2).drop p.1).length ≤ 40
    omega
end My
namespace My
open PySem PySem.Spec L2
theorem filt_head {α : Type} {p : α → Bool} : ∀ {l : List α} {v : α}, (l.filter p)[0]? = some v → ∃ k : Nat, l[k]? = some v ∧ ∀ (m : Nat) (x : α), m < k → l[m]? = some x → p x = false
  | [], v, h => by simp at h
  | a :: r, v, h => by
    rw [List.filter_cons] at h
    by_cases c : p a = true
    · rw [if_pos c] at h
      exact ⟨0, h, fun m x hm => absurd hm (by omega)⟩
    · rw [if_neg c] at h
      obtain ⟨k, h1, h2⟩ := filt_head h
      refine ⟨k + 1, h1, fun m x hm hx => ?_⟩
      match m, hx with
      | 0, hx => cases hx; exact Bool.eq_false_iff.mpr c
      | m + 1, hx => exact h2 m x (by omega) hx
theorem filt_adj {α : Type} {p : α → Bool} : ∀ {l : List α} {j : Nat} {u v : α}, (l.filter p)[j]? = some u → (l.filter p)[j + 1]? = some v → ∃ i k : Nat, i < k ∧ l[i]? = some u ∧ l[k]? = some v ∧ ∀ (m : Nat) (x : α), i < m → m < k → l[m]? = some x → p x = false
  | [], j, u, v, h, _ => by simp at h
  | a :: r, j, u, v, h, g => by
    rw [List.filter_cons] at h g
    by_cases c : p a = true
    · rw [if_pos c] at h g
      cases j with
      | zero =>
        obtain ⟨k, h1, h2⟩ := filt_head (l := r) (p := p) (v := v) g
        refine ⟨0, k + 1, by omega, h, h1, fun m x hm hk hx => ?_⟩
        match m, hm, hx with
        | m + 1, _, hx => exact h2 m x (by omega) hx
      | succ j =>
        obtain ⟨i, k, h1, h2, h3, h4⟩ := filt_adj (l := r) (p := p) (j := j) h g
        refine ⟨i + 1, k + 1, by omega, h2, h3, fun m x hm hk hx => ?_⟩
        match m, hm, hx with
        | m + 1, _, hx => exact h4 m x (by omega) (by omega) hx
    · rw [if_neg c] at h g
      obtain ⟨i, k, h1, h2, h3, h4⟩ := filt_adj (l := r) (p := p) (j := j) h g
      refine ⟨i + 1, k + 1, by omega, h2, h3, fun m x hm hk hx => ?_⟩
      match m, hm, hx with
      | m + 1, _, hx => exact h4 m x (by omega) (by omega) hx
theorem mem_ndN2 (zs : List Str) (ps : List Int) (u : Str × Str) : ∀ k, u ∈ ndN zs ps k ↔ ∃ j, j < k ∧ u = (zs.getD j Str.empty, zs.getD (j + 1) Str.empty) ∧ ps.getD (j + 1) 0 = ps.getD j 0 + 1
  | 0 => by
    rw [ndN]
    exact ⟨fun h => absurd h List.not_mem_nil, fun ⟨j, h, _⟩ => absurd h (Nat.not_lt_zero _)⟩
  | k + 1 => by
    have ih := mem_ndN2 zs ps u k
    rw [ndN]
    by_cases c : ps.getD (k + 1) 0 = ps.getD k 0 + 1
    · rw [if_pos c, List.mem_append, ih, List.mem_singleton]
      constructor
      · rintro (⟨j, h1, h2, h3⟩ | h)
        · exact ⟨j, by omega, h2, h3⟩
        · exact ⟨k, by omega, h, c⟩
      · rintro ⟨j, h1, h2, h3⟩
        by_cases e : j = k
        · subst e
          exact .inr h2
        · exact .inl ⟨j, by omega, h2, h3⟩
    · rw [if_neg c, ih]
      constructor
      · rintro ⟨j, h1, h2, h3⟩
        exact ⟨j, by omega, h2, h3⟩
      · rintro ⟨j, h1, h2, h3⟩
        by_cases e : j = k
        · subst e
          exact absurd h3 c
        · exact ⟨j, by omega, h2, h3⟩
theorem plc_getD {zs ys : List Str} {j : Nat} {a : Str} (h : zs[j]? = some a) : (plc zs ys).getD j 0 = ((pos ys a : Nat) : Int) := by
  unfold plc
  rw [List.getD_eq_getElem?_getD, List.getElem?_map, h]
  rfl
theorem getD_at {zs : List Str} {j : Nat} {a : Str} (h : zs[j]? = some a) : zs.getD j Str.empty = a := by
  rw [List.getD_eq_getElem?_getD, h]
  rfl
theorem pos_of {l : List Str} (nd : l.Nodup) {m : Nat} {x : Str} (h : l[m]? = some x) : pos l x = m := by
  obtain ⟨hm, e⟩ := List.getElem?_eq_some_iff.mp h
  rw [← e]
  exact pos_at nd hm
theorem drp_mem {zs ys : List Str} {b : Str} (h : b ∈ drp zs ys) : ∃ m a, zs[m]? = some a ∧ zs[m + 1]? = some b ∧ pos ys b = pos ys a + 1 := by
  unfold drp at h
  obtain ⟨u, hu, rfl⟩ := List.mem_map.mp h
  unfold ndl at hu
  obtain ⟨j, h1, h2, h3⟩ := (mem_ndN2 _ _ _ _).mp hu
  have l1 : j + 1 < zs.length := by omega
  have g0 : zs[j]? = some (zs[j]'(by omega)) := List.getElem?_eq_getElem (by omega)
  have g1 : zs[j + 1]? = some zs[j + 1] := List.getElem?_eq_getElem l1
  rw [plc_getD g0, plc_getD g1] at h3
  subst h2
  refine ⟨j, _, g0, ?_, ?_⟩
  · show zs[j + 1]? = some (zs.getD (j + 1) Str.empty)
    rw [getD_at g1]
    exact g1
  · show pos ys (zs.getD (j + 1) Str.empty) = _
    rw [getD_at g1]
    omega
theorem drp_in {zs ys : List Str} {m : Nat} {a b : Str} (ha : zs[m]? = some a) (hb : zs[m + 1]? = some b) (h : pos ys b = pos ys a + 1) : b ∈ drp zs ys := by
  unfold drp
  have l1 := (List.getElem?_eq_some_iff.mp hb).1
  refine List.mem_map.mpr ⟨(zs.getD m Str.empty, zs.getD (m + 1) Str.empty), ?_, getD_at hb⟩
  unfold ndl
  refine (mem_ndN2 _ _ _ _).mpr ⟨m, by omega, rfl, ?_⟩
  rw [plc_getD ha, plc_getD hb]
  omega
theorem ndl_jnd {zs ys : List Str} (ro : RowsOk zs ys) : ndl (jnd zs ys zs) (jnd zs ys ys) = [] := by
  refine List.eq_nil_iff_forall_not_mem.mpr fun w hw => ?_
  have rj := jnd_rows ro
  unfold ndl at hw
  obtain ⟨j, h1, _, h3⟩ := (mem_ndN2 _ _ _ _).mp hw
  have l1 : j + 1 < (jnd zs ys zs).length := by omega
  have gu : (jnd zs ys zs)[j]? = some ((jnd zs ys zs)[j]'(by omega)) := List.getElem?_eq_getElem (by omega)
  have gv : (jnd zs ys zs)[j + 1]? = some (jnd zs ys zs)[j + 1] := List.getElem?_eq_getElem l1
  have mu : (jnd zs ys zs)[j]'(by omega) ∈ jnd zs ys ys := rj.pm.mem_iff.mpr (List.getElem_mem _)
  have mv : (jnd zs ys zs)[j + 1] ∈ jnd zs ys ys := rj.pm.mem_iff.mpr (List.getElem_mem _)
  rw [plc_getD gu, plc_getD gv] at h3
  generalize (jnd zs ys zs)[j]'(by omega) = u at gu mu h3
  generalize (jnd zs ys zs)[j + 1] = v at gv mv h3
  have qu := pos_get mu
  have qv := pos_get mv
  rw [show pos (jnd zs ys ys) v = pos (jnd zs ys ys) u + 1 by omega] at qv
  obtain ⟨i, k, ik, zu, zv, zb⟩ := filt_adj (l := zs) gu gv
  obtain ⟨i', k', ik', yu, yv, yb⟩ := filt_adj (l := ys) qu qv
  have nz := ro.nd
  have ny := ro.symm.nd
  have vn : v ∉ drp zs ys := fun m => by
    have := (List.mem_filter.mp mv).2
    rw [decide_eq_true m] at this
    cases this
  have pu := pos_of ny yu
  have pv := pos_of ny yv
  have dr : ∀ x, (!decide (x ∈ drp zs ys)) = false → x ∈ drp zs ys := fun x h => of_decide_eq_true (by simpa using h)
  have ch : ∀ t, i + t < k → ∃ x, zs[i + t]? = some x ∧ pos ys x = pos ys u + t := fun t => by
    induction t with
    | zero => exact fun _ => ⟨u, zu, rfl⟩
    | succ t ih =>
      intro ht
      obtain ⟨x, hx, px⟩ := ih (by omega)
      have lt : i + (t + 1) < zs.length := by
        have := (List.getElem?_eq_some_iff.mp zv).1
        omega
      have gy : zs[i + (t + 1)]? = some zs[i + (t + 1)] := List.getElem?_eq_getElem lt
      have md := dr _ (zb _ _ (by omega) ht gy)
      obtain ⟨m, a, ga, gb, e⟩ := drp_mem md
      have em : m + 1 = i + (t + 1) := (pos_of nz gb).symm.trans (pos_of nz gy)
      have em' : m = i + t := by omega
      rw [em', hx] at ga
      cases ga
      exact ⟨_, gy, by omega⟩
  have ch' : ∀ t, i' + t < k' → ∃ y, ys[i' + t]? = some y ∧ pos zs y = i + t := fun t => by
    induction t with
    | zero => exact fun _ => ⟨u, yu, pos_of nz zu⟩
    | succ t ih =>
      intro ht
      obtain ⟨x, hx, px⟩ := ih (by omega)
      have lt : i' + (t + 1) < ys.length := by
        have := (List.getElem?_eq_some_iff.mp yv).1
        omega
      have gy : ys[i' + (t + 1)]? = some ys[i' + (t + 1)] := List.getElem?_eq_getElem lt
      have md := dr _ (yb _ _ (by omega) ht gy)
      obtain ⟨m, a, ga, gb, e⟩ := drp_mem md
      rw [pos_of ny gy] at e
      have ma : a ∈ ys := ro.pm.mem_iff.mpr (List.mem_of_getElem? ga)
      have ea := pos_get ma
      rw [show pos ys a = i' + t by omega, hx] at ea
      cases ea
      have m1 := pos_of nz ga
      exact ⟨_, gy, by rw [pos_of nz gb]; omega⟩
  rcases Nat.lt_trichotomy (k - i) (k' - i') with c | c | c
  · obtain ⟨y, hy, py⟩ := ch' (k - i) (by omega)
    have my : y ∈ zs := ro.pm.mem_iff.mp (List.mem_of_getElem? hy)
    have ey := pos_get my
    rw [py, show i + (k - i) = k by omega, zv] at ey
    cases ey
    have := pos_of ny hy
    omega
  · obtain ⟨x, hx, px⟩ := ch (k - i - 1) (by omega)
    have e1 : i + (k - i - 1) + 1 = k := by omega
    refine vn (drp_in hx (by rw [e1]; exact zv) ?_)
    omega
  · obtain ⟨x, hx, px⟩ := ch (k' - i') (by omega)
    have mx : x ∈ ys := ro.pm.mem_iff.mpr (List.mem_of_getElem? hx)
    have ex := pos_get mx
    rw [px, pu, show i' + (k' - i') = k' by omega, yv] at ex
    cases ex
    have a1 := pos_of nz hx
    have a2 := pos_of nz zv
    omega
end My
namespace My
open PySem PySem.Spec L2
/-- what stands first of its group -/
def hdB (zs ys : List Str) (z : Str) : Bool := !decide (z ∈ drp zs ys)
abbrev jP (m : Str → Bool) (L : Str → Int × Int) (l : List Str) : Str × (Str → Int × Int) := jS addP (0, 0) m L l
theorem jfold_congr {α : Type} {add : α → α → α} {m m' : Str → Bool} {f : Str → α} : ∀ (l : List Str) (s : Str × (Str → α)), (∀ z ∈ l, m z = m' z) → l.foldl (jstep add m f) s = l.foldl (jstep add m' f) s
  | [], _, _ => rfl
  | z :: l, s, h => by
    rw [List.foldl_cons, List.foldl_cons]
    have e : jstep add m f s z = jstep add m' f s z := by unfold jstep; rw [h z List.mem_cons_self]
    rw [e]
    exact jfold_congr l _ fun y hy => h y (List.mem_cons_of_mem _ hy)
theorem memB_hd {zs ys : List Str} {z : Str} (hz : z ∈ zs) : memB (jnd zs ys zs) z = hdB zs ys z := by
  unfold memB hdB jnd
  by_cases c : z ∈ drp zs ys
  · rw [decide_eq_true c, decide_eq_false (fun q => by simpa [c] using (List.mem_filter.mp q).2)]
    rfl
  · rw [decide_eq_false c, decide_eq_true (List.mem_filter.mpr ⟨hz, by rw [decide_eq_false c]; rfl⟩)]
    rfl
theorem jN_hd {zs ys : List Str} {f : Str → Nm} {l : List Str} (h : ∀ z ∈ l, z ∈ zs) : jN (jnd zs ys zs) f l = jS addN zN (hdB zs ys) f l := jfold_congr l _ fun z hz => memB_hd (h z hz)
theorem jfold_in {R : Int} (h : 0 ≤ R) (m : Str → Bool) (L : Str → Int × Int) : ∀ (l : List Str) (s : Str × (Str → Int × Int)), l.foldl (jstep addN m (inF R L)) (s.1, inF R s.2) = ((l.foldl (jstep addP m L) s).1, inF R (l.foldl (jstep addP m L) s).2)
  | [], _ => rfl
  | z :: l, s => by
    rw [List.foldl_cons, List.foldl_cons, ← jfold_in h m L l]
    congr 1
    unfold jstep
    by_cases c : m z = true
    · rw [if_pos c, if_pos c]
      congr 1
      funext y
      unfold setF inF
      dsimp only
      split <;> rfl
    · rw [if_neg c, if_neg c]
      congr 1
      funext y
      unfold setF inF
      dsimp only
      split
      · exact add_in h _ _
      · rfl
theorem jS_in {R : Int} (h : 0 ≤ R) (m : Str → Bool) (L : Str → Int × Int) (l : List Str) : jS addN zN m (inF R L) l = ((jP m L l).1, inF R (jP m L l).2) := jfold_in h m L l (Str.empty, fun _ => (0, 0))
/-- where the head of the i-th name stands -/
def hdI (m : Str → Bool) (l : List Str) : Nat → Nat
  | 0 => 0
  | i + 1 => if m (l.getD (i + 1) Str.empty) = true then i + 1 else hdI m l i
theorem hdI_le (m : Str → Bool) (l : List Str) : ∀ i, hdI m l i ≤ i
  | 0 => Nat.le_refl _
  | i + 1 => by
    rw [hdI]
    split
    · exact Nat.le_refl _
    · exact Nat.le_succ_of_le (hdI_le m l i)
theorem hdI_mem {m : Str → Bool} {l : List Str} (h : m (l.getD 0 Str.empty) = true) : ∀ i, m (l.getD (hdI m l i) Str.empty) = true
  | 0 => h
  | i + 1 => by
    rw [hdI]
    split
    · assumption
    · exact hdI_mem h i
theorem hdI_gap {m : Str → Bool} {l : List Str} : ∀ i k, hdI m l i < k → k ≤ i → ¬ m (l.getD k Str.empty) = true
  | 0, k, h, g => absurd h (by rw [hdI]; omega)
  | i + 1, k, h, g => by
    rw [hdI] at h
    by_cases c : m (l.getD (i + 1) Str.empty) = true
    · rw [if_pos c] at h
      omega
    · rw [if_neg c] at h
      by_cases e : k = i + 1
      · rw [e]
        exact c
      · exact hdI_gap i k h (by omega)
theorem hdI_self {m : Str → Bool} {l : List Str} {i : Nat} (h : m (l.getD i Str.empty) = true) : hdI m l i = i := by
  cases i with
  | zero => rfl
  | succ i => rw [hdI, if_pos h]
theorem hdI_prev {m : Str → Bool} {l : List Str} {i : Nat} (h : ¬ m (l.getD (i + 1) Str.empty) = true) : hdI m l (i + 1) = hdI m l i := by rw [hdI, if_neg h]
/-- the head of a name of the upper row -/
def hdZ (m : Str → Bool) (zs : List Str) (z : Str) : Str := zs.getD (hdI m zs (pos zs z)) Str.empty
theorem sumI_app (g : Str → Int) : ∀ l l' : List Str, sumI (l ++ l') g = sumI l g + sumI l' g
  | [], l' => by show sumI l' g = 0 + sumI l' g; omega
  | z :: l, l' => by rw [List.cons_append, sumI_cons, sumI_cons, sumI_app g l l']; omega
theorem sumI_one (g : Str → Int) (z : Str) : sumI [z] g = g z := by rw [sumI_cons]; show g z + 0 = _; omega
theorem sumI_swap (h : Str → Str → Int) : ∀ A l : List Str, sumI A (fun x => sumI l fun z => h x z) = sumI l fun z => sumI A fun x => h x z
  | [], l => (sumI_zero fun _ _ => rfl).symm
  | a :: A, l => by
    rw [sumI_cons, sumI_swap h A l, ← sumI_add]
    rfl
theorem sumI_pick {v : Int} {k : Str} : ∀ {A : List Str}, A.Nodup → sumI A (fun x => if k = x then v else 0) = if k ∈ A then v else 0
  | [], _ => by rw [if_neg List.not_mem_nil]; rfl
  | a :: A, nd => by
    have nc := List.nodup_cons.mp nd
    rw [sumI_cons, sumI_pick nc.2]
    by_cases e : k = a
    · subst e
      rw [if_pos rfl, if_neg nc.1, if_pos List.mem_cons_self]
      omega
    · rw [if_neg e]
      by_cases c : k ∈ A
      · rw [if_pos c, if_pos (List.mem_cons_of_mem _ c)]; omega
      · rw [if_neg c, if_neg fun q => (List.mem_cons.mp q).elim e c]; omega
theorem getD_mem {l : List Str} {i : Nat} (h : i < l.length) : l[i]? = some (l.getD i Str.empty) := by
  rw [List.getD_eq_getElem?_getD, List.getElem?_eq_getElem h]
  rfl
theorem nd_at {l : List Str} (nd : l.Nodup) {i j : Nat} {z : Str} (h : l[i]? = some z) (g : l[j]? = some z) : i = j := (pos_nth nd h).symm.trans (pos_nth nd g)
theorem not_take {l : List Str} (nd : l.Nodup) {i k : Nat} {z : Str} (h : l[i]? = some z) (g : k ≤ i) : z ∉ l.take k := fun m => by
  obtain ⟨j, hj, e⟩ := List.mem_iff_getElem.mp m
  rw [List.length_take] at hj
  rw [List.getElem_take] at e
  have := nd_at nd h ((List.getElem?_eq_getElem (by omega)).trans (congrArg some e))
  omega
theorem in_take {l : List Str} {i k : Nat} {z : Str} (h : l[i]? = some z) (g : i < k) : z ∈ l.take k := by
  have : (l.take k)[i]? = some z := by rw [List.getElem?_take, if_pos g, h]
  exact List.mem_of_getElem? this
/-- the sums over whole groups of a row -/
theorem group_sum {m : Str → Bool} {l : List Str} {Hd : Str → Str} {g : Str → Int} {k : Nat} (nd : l.Nodup) (h0 : ∀ z, l[0]? = some z → m z = true) (hH : ∀ i z, l[i]? = some z → Hd z = l.getD (hdI m l i) Str.empty) (hk : k = l.length ∨ ∃ z, l[k]? = some z ∧ m z = true) :
    sumI ((l.take k).filter m) (fun x => sumI l fun z => if Hd z = x then g z else 0) = sumI (l.take k) g := by
  have kl : k ≤ l.length := by
    rcases hk with h | ⟨z, h, _⟩
    · omega
    · have := (List.getElem?_eq_some_iff.mp h).1; omega
  have ndA : ((l.take k).filter m).Nodup := (nd_take nd k).filter _
  rw [sumI_swap, sumI_congr (g' := fun z => if Hd z ∈ (l.take k).filter m then g z else 0) fun z _ => sumI_pick ndA]
  have m0 : 0 < l.length → m (l.getD 0 Str.empty) = true := fun h => h0 _ (getD_mem h)
  have e : sumI l (fun z => if Hd z ∈ (l.take k).filter m then g z else 0) = sumI (l.take k ++ l.drop k) fun z => if Hd z ∈ (l.take k).filter m then g z else 0 := by rw [List.take_append_drop]
  rw [e, sumI_app]
  have a : sumI (l.take k) (fun z => if Hd z ∈ (l.take k).filter m then g z else 0) = sumI (l.take k) g := by
    refine sumI_congr fun z hz => if_pos ?_
    obtain ⟨i, hi, rfl⟩ := List.mem_iff_getElem.mp hz
    rw [List.length_take] at hi
    have gi : l[i]? = some (l.take k)[i] := by rw [List.getElem_take]; exact List.getElem?_eq_getElem (by omega)
    rw [hH i _ gi]
    have le := hdI_le m l i
    refine List.mem_filter.mpr ⟨in_take (getD_mem (by omega)) (by omega), hdI_mem (m0 (by omega)) i⟩
  have b : sumI (l.drop k) (fun z => if Hd z ∈ (l.take k).filter m then g z else 0) = 0 := by
    refine sumI_zero fun z hz => if_neg fun q => ?_
    obtain ⟨i, hi, rfl⟩ := List.mem_iff_getElem.mp hz
    rw [List.length_drop] at hi
    have gi : l[k + i]? = some (l.drop k)[i] := by rw [List.getElem_drop]; exact List.getElem?_eq_getElem (by omega)
    rw [hH _ _ gi] at q
    have le := hdI_le m l (k + i)
    have nt := (List.mem_filter.mp q).1
    have ge : k ≤ hdI m l (k + i) := by
      refine Nat.le_of_not_lt fun c => ?_
      rcases hk with h | ⟨y, h, my⟩
      · omega
      · refine hdI_gap (k + i) k c (by omega) ?_
        rw [getD_at h]
        exact my
    exact not_take nd (getD_mem (by omega)) ge nt
  rw [a, b]
  omega
end My
namespace My
open PySem PySem.Spec L2
def jG (zs ys : List Str) (L : Str → Int × Int) : Str → Int × Int := (jP (hdB zs ys) L zs).2
section
variable {zs ys : List Str} {L : Str → Int × Int}
theorem hd_first (ro : RowsOk zs ys) : ∀ z, zs[0]? = some z → hdB zs ys z = true := fun z h => by
  unfold hdB
  rw [decide_eq_false]
  · rfl
  · intro c
    obtain ⟨m, a, _, h2, _⟩ := drp_mem c
    have := nd_at ro.nd h h2
    omega
theorem hd_first2 (ro : RowsOk zs ys) : ∀ z, ys[0]? = some z → hdB zs ys z = true := fun z h => by
  unfold hdB
  rw [decide_eq_false]
  · rfl
  · intro c
    obtain ⟨m, a, _, _, h3⟩ := drp_mem c
    rw [pos_nth ro.symm.nd h] at h3
    omega
theorem hdZ_at (ro : RowsOk zs ys) {m : Str → Bool} : ∀ i z, zs[i]? = some z → hdZ m zs z = zs.getD (hdI m zs i) Str.empty := fun i z h => by
  unfold hdZ
  rw [pos_nth ro.nd h]
theorem hdZ_at2 (ro : RowsOk zs ys) : ∀ i z, ys[i]? = some z → hdZ (hdB zs ys) zs z = ys.getD (hdI (hdB zs ys) ys i) Str.empty
  | 0, z, h => by
    have hm := hd_first2 ro z h
    have mz : z ∈ zs := ro.pm.mem_iff.mp (List.mem_of_getElem? h)
    unfold hdZ
    rw [hdI_self (by rw [getD_at (pos_get mz)]; exact hm), getD_at (pos_get mz)]
    exact (getD_at h).symm
  | i + 1, z, h => by
    have mz : z ∈ zs := ro.pm.mem_iff.mp (List.mem_of_getElem? h)
    by_cases c : hdB zs ys z = true
    · unfold hdZ
      rw [hdI_self (by rw [getD_at (pos_get mz)]; exact c), getD_at (pos_get mz), hdI_self (by rw [getD_at h]; exact c), getD_at h]
    · have cd : z ∈ drp zs ys := by
        unfold hdB at c
        refine Classical.byContradiction fun q => c ?_
        rw [decide_eq_false q]
        rfl
      obtain ⟨j, a, h1, h2, h3⟩ := drp_mem cd
      rw [pos_nth ro.symm.nd h] at h3
      have ma : a ∈ ys := ro.pm.mem_iff.mpr (List.mem_of_getElem? h1)
      have ga := pos_get ma
      rw [show pos ys a = i by omega] at ga
      have ih := hdZ_at2 ro i a ga
      rw [hdI_prev (by rw [getD_at h]; exact c), ← ih]
      unfold hdZ
      rw [pos_nth ro.nd h1, pos_nth ro.nd h2, hdI_prev (by rw [getD_at h2]; exact c)]
/-- the lengths of the heads behind the first n names -/
theorem jP_sum (ro : RowsOk zs ys) : ∀ n, n ≤ zs.length → (0 < n → (jP (hdB zs ys) L (zs.take n)).1 = zs.getD (hdI (hdB zs ys) zs (n - 1)) Str.empty) ∧
    ∀ x, (jP (hdB zs ys) L (zs.take n)).2 x = (sumI (zs.take n) (fun z => if hdZ (hdB zs ys) zs z = x then (L z).1 else 0), sumI (zs.take n) fun z => if hdZ (hdB zs ys) zs z = x then (L z).2 else 0)
  | 0, _ => ⟨fun h => absurd h (Nat.lt_irrefl 0), fun x => rfl⟩
  | n + 1, le => by
    obtain ⟨ih1, ih2⟩ := jP_sum ro n (by omega)
    have hz := getD_mem (l := zs) (i := n) (by omega)
    generalize hgz : zs.getD n Str.empty = z at hz
    have es : jP (hdB zs ys) L (zs.take (n + 1)) = jstep addP (hdB zs ys) L (jP (hdB zs ys) L (zs.take n)) z := jS_next hz
    have zat := hdZ_at ro (m := hdB zs ys) n z hz
    have old : ∀ (g : Str → Int), hdI (hdB zs ys) zs n = n → sumI (zs.take n) (fun y => if hdZ (hdB zs ys) zs y = z then g y else 0) = 0 := fun g hn => by
      refine sumI_zero fun y hy => if_neg fun q => ?_
      obtain ⟨i, hi, rfl⟩ := List.mem_iff_getElem.mp hy
      rw [List.length_take] at hi
      have gi : zs[i]? = some (zs.take n)[i] := by rw [List.getElem_take]; exact List.getElem?_eq_getElem (by omega)
      rw [hdZ_at ro i _ gi] at q
      have := hdI_le (hdB zs ys) zs i
      have := nd_at ro.nd (q ▸ getD_mem (l := zs) (i := hdI (hdB zs ys) zs i) (by omega)) hz
      omega
    rw [es, take_next hz]
    simp only [sumI_app, sumI_one]
    unfold jstep
    by_cases c : hdB zs ys z = true
    · have hn : hdI (hdB zs ys) zs n = n := hdI_self (by rw [hgz]; exact c)
      rw [hn, hgz] at zat
      rw [if_pos c]
      refine ⟨fun _ => ?_, fun x => ?_⟩
      · show z = zs.getD (hdI (hdB zs ys) zs n) Str.empty
        rw [hn, hgz]
      · show setF _ z (L z) x = _
        by_cases e : x = z
        · subst e
          rw [setF_self, old _ hn, old _ hn, zat, if_pos rfl, if_pos rfl]
          exact Prod.ext (by show (L x).1 = 0 + (L x).1; omega) (by show (L x).2 = 0 + (L x).2; omega)
        · rw [setF_other e, ih2 x, zat, if_neg (fun q => e q.symm), if_neg (fun q => e q.symm)]
          exact Prod.ext (by show _ = _ + (0 : Int); omega) (by show _ = _ + (0 : Int); omega)
    · have n0 : 0 < n := Nat.pos_of_ne_zero fun q => c (hd_first ro z (q ▸ hz))
      obtain ⟨i, rfl⟩ : ∃ i, n = i + 1 := ⟨n - 1, by omega⟩
      have hp := hdI_prev (m := hdB zs ys) (l := zs) (i := i) (by rw [hgz]; exact c)
      rw [if_neg c, ih1 n0]
      rw [hp] at zat
      have e1 : i + 1 - 1 = i := rfl
      rw [e1, ← zat]
      refine ⟨fun _ => ?_, fun x => ?_⟩
      · show _ = zs.getD (hdI (hdB zs ys) zs (i + 1)) Str.empty
        rw [hp]
        exact zat
      · show setF _ (hdZ (hdB zs ys) zs z) _ x = _
        by_cases e : x = hdZ (hdB zs ys) zs z
        · subst e
          rw [setF_self, ih2, if_pos rfl, if_pos rfl]
          rfl
        · rw [setF_other e, ih2 x, if_neg (fun q => e q.symm), if_neg (fun q => e q.symm)]
          exact Prod.ext (by show _ = _ + (0 : Int); omega) (by show _ = _ + (0 : Int); omega)
theorem jG_sum (ro : RowsOk zs ys) (x : Str) : jG zs ys L x = (sumI zs (fun z => if hdZ (hdB zs ys) zs z = x then (L z).1 else 0), sumI zs fun z => if hdZ (hdB zs ys) zs z = x then (L z).2 else 0) := by
  have := (jP_sum (L := L) ro zs.length (Nat.le_refl _)).2 x
  rw [List.take_length] at this
  exact this
theorem filter_take {p : Str → Bool} {h : Str} : ∀ {l : List Str}, h ∈ l → p h = true → (l.filter p).take (pos (l.filter p) h) = (l.take (pos l h)).filter p
  | [], m, _ => absurd m List.not_mem_nil
  | a :: l, m, hp => by
    by_cases e : a = h
    · subst e
      rw [List.filter_cons_of_pos hp, pos_self, pos_self]
      rfl
    · have m' : h ∈ l := (List.mem_cons.mp m).resolve_left fun q => e q.symm
      have ih := filter_take m' hp
      have pc : ∀ r : List Str, pos (a :: r) h = pos r h + 1 := fun r => by
        unfold pos
        rw [List.findIdx_cons, decide_eq_false e]
        rfl
      rw [pc, List.take_succ_cons]
      by_cases c : p a = true
      · rw [List.filter_cons_of_pos c, List.filter_cons_of_pos c, pc, List.take_succ_cons, ih]
      · rw [List.filter_cons_of_neg c, List.filter_cons_of_neg c, ih]
/-- sums over whole groups -/
theorem bg_group {l : List Str} (ro : RowsOk zs ys) (pm : l.Perm zs) (h0 : ∀ z, l[0]? = some z → hdB zs ys z = true) (hH : ∀ i z, l[i]? = some z → hdZ (hdB zs ys) zs z = l.getD (hdI (hdB zs ys) l i) Str.empty) {k : Nat} (hk : k = l.length ∨ ∃ z, l[k]? = some z ∧ hdB zs ys z = true) :
    sumP (((l.take k).filter (hdB zs ys)).map (jG zs ys L)) = sumP ((l.take k).map L) := by
  have nd : l.Nodup := pm.nodup_iff.mpr ro.nd
  rw [sumP_two, sumP_two]
  have a := group_sum (g := fun z => (L z).1) nd h0 hH hk
  have b := group_sum (g := fun z => (L z).2) nd h0 hH hk
  refine Prod.ext ?_ ?_
  · show sumI _ (fun x => (jG zs ys L x).1) = sumI _ _
    rw [← a]
    refine sumI_congr fun x _ => ?_
    rw [jG_sum ro]
    exact (sumI_perm pm).symm
  · show sumI _ (fun x => (jG zs ys L x).2) = sumI _ _
    rw [← b]
    refine sumI_congr fun x _ => ?_
    rw [jG_sum ro]
    exact (sumI_perm pm).symm
theorem bg_join1 (ro : RowsOk zs ys) {h : Str} (m : h ∈ jnd zs ys zs) : bgP (jnd zs ys zs) (jG zs ys L) h = bgP zs L h := by
  obtain ⟨m1, m2⟩ := List.mem_filter.mp m
  unfold bgP
  rw [← List.map_take, ← List.map_take, show (jnd zs ys zs).take (pos (jnd zs ys zs) h) = (zs.take (pos zs h)).filter (hdB zs ys) from filter_take m1 m2]
  exact bg_group ro (List.Perm.refl _) (hd_first ro) (hdZ_at ro) (.inr ⟨h, pos_get m1, m2⟩)
theorem bg_join2 (ro : RowsOk zs ys) {h : Str} (m : h ∈ jnd zs ys ys) : bgP (jnd zs ys ys) (jG zs ys L) h = bgP ys L h := by
  obtain ⟨m1, m2⟩ := List.mem_filter.mp m
  unfold bgP
  rw [← List.map_take, ← List.map_take, show (jnd zs ys ys).take (pos (jnd zs ys ys) h) = (ys.take (pos ys h)).filter (hdB zs ys) from filter_take m1 m2]
  exact bg_group ro ro.pm (hd_first2 ro) (hdZ_at2 ro) (.inr ⟨h, pos_get m1, m2⟩)
theorem tot_join (ro : RowsOk zs ys) : sumP ((jnd zs ys zs).map (jG zs ys L)) = sumP (zs.map L) := by
  have := bg_group (L := L) ro (List.Perm.refl zs) (hd_first ro) (hdZ_at ro) (k := zs.length) (.inl rfl)
  rw [List.take_length] at this
  exact this
theorem sh_join (ro : RowsOk zs ys) {h : Str} (m : h ∈ jnd zs ys zs) : shP (jnd zs ys zs) (jnd zs ys ys) (jG zs ys L) h = shP zs ys L h := by
  unfold shP
  rw [bg_join1 ro m, bg_join2 ro ((jnd_rows ro).pm.mem_iff.mpr m)]
theorem bg_next {l : List Str} (nd : l.Nodup) {i : Nat} {a b : Str} (ha : l[i]? = some a) (hb : l[i + 1]? = some b) : bgP l L b = addP (bgP l L a) (L a) := by
  unfold bgP
  rw [pos_nth nd ha, pos_nth nd hb, take_next (x := L a) (by rw [List.getElem?_map, ha]; rfl)]
  exact sumP_snoc _ _
/-- a name has the shift of its head -/
theorem sh_head (ro : RowsOk zs ys) : ∀ i z, zs[i]? = some z → shP zs ys L z = shP zs ys L (zs.getD (hdI (hdB zs ys) zs i) Str.empty)
  | 0, z, h => by
    rw [show hdI (hdB zs ys) zs 0 = 0 from rfl, getD_at h]
  | i + 1, z, h => by
    by_cases c : hdB zs ys z = true
    · rw [hdI_self (by rw [getD_at h]; exact c), getD_at h]
    · have cd : z ∈ drp zs ys := by
        unfold hdB at c
        refine Classical.byContradiction fun q => c ?_
        rw [decide_eq_false q]
        rfl
      obtain ⟨j, a, h1, h2, h3⟩ := drp_mem cd
      have ej : j = i := by have := nd_at ro.nd h h2; omega
      rw [ej] at h1 h2
      have ih := sh_head ro i a h1
      rw [hdI_prev (by rw [getD_at h]; exact c), ← ih]
      have ma : a ∈ ys := ro.pm.mem_iff.mpr (List.mem_of_getElem? h1)
      have mz : z ∈ ys := ro.pm.mem_iff.mpr (List.mem_of_getElem? h)
      have gz := pos_get mz
      rw [h3] at gz
      unfold shP
      rw [bg_next ro.nd h1 h2, bg_next ro.symm.nd (pos_get ma) gz]
      exact Prod.ext (by show _ + _ - (_ + _) = (_ - _ : Int); omega) (by show _ + _ - (_ + _) = (_ - _ : Int); omega)
end
end My
namespace My
def PosP (r x y : Int) : Prop := 0 < sgn x y r
theorem sgn_neg {x y r : Int} : sgn (-x) (-y) r = -sgn x y r := by
  have e : ∀ i : Int, sgI (-i) = -sgI i := fun i => by unfold sgI; split <;> split <;> (try split) <;> (try split) <;> omega
  unfold sgn
  rw [e, e, Int.neg_mul_neg, Int.neg_mul_neg]
  have : (-sgI x = -sgI y ∨ -sgI y = 0) ↔ (sgI x = sgI y ∨ sgI y = 0) := by omega
  by_cases c : sgI x = sgI y ∨ sgI y = 0
  · rw [if_pos c, if_pos (this.mpr c)]
  · rw [if_neg c, if_neg (fun q => c (this.mp q))]
    split <;> rfl
theorem sgI_pos {i : Int} (h : 0 < i) : sgI i = 1 := by unfold sgI; rw [if_neg (by omega), if_pos h]
theorem sgI_neg {i : Int} (h : i < 0) : sgI i = -1 := by unfold sgI; rw [if_neg (by omega), if_neg (by omega)]
theorem sgI_0 : sgI 0 = 0 := rfl
theorem posP_iff {r x y : Int} (r0 : 0 ≤ r) : PosP r x y ↔ (0 ≤ x ∧ 0 ≤ y ∧ (0 < x ∨ 0 < y)) ∨ (0 < x ∧ y < 0 ∧ y * y * r < x * x) ∨ (x < 0 ∧ 0 < y ∧ x * x ≤ y * y * r) := by
  unfold PosP sgn
  rcases Int.lt_trichotomy x 0 with hx | hx | hx <;> rcases Int.lt_trichotomy y 0 with hy | hy | hy
  · simp [sgI_neg hx, sgI_neg hy]; omega
  · simp [sgI_neg hx, hy, sgI_0]; omega
  · simp only [sgI_neg hx, sgI_pos hy]
    by_cases c : y * y * r < x * x
    · simp [c]; omega
    · simp [c]; exact .inr ⟨hx, hy, by omega⟩
  · simp [sgI_neg hy, hx, sgI_0]
    have := Int.mul_nonneg (Int.mul_nonneg_of_nonpos_of_nonpos (Int.le_of_lt hy) (Int.le_of_lt hy)) r0
    split <;> omega
  · simp [hx, hy, sgI_0]
  · simp [sgI_pos hy, hx, sgI_0]
    have := Int.mul_nonneg (Int.mul_nonneg (Int.le_of_lt hy) (Int.le_of_lt hy)) r0
    split <;> omega
  · simp only [sgI_pos hx, sgI_neg hy]
    by_cases c : y * y * r < x * x
    · simp [c]; exact .inr (.inl ⟨hx, hy⟩)
    · simp [c]; omega
  · simp [sgI_pos hx, hy, sgI_0]; omega
  · simp [sgI_pos hx, sgI_pos hy]; omega
theorem sq_cross {a b c d : Int} (ha : 0 ≤ a) (hb : 0 ≤ b) (hc : 0 ≤ c) (hd : 0 ≤ d) {r : Int} (r0 : 0 ≤ r) (h1 : a * a ≤ b * b * r) (h2 : c * c ≤ d * d * r) : a * c ≤ b * d * r := by
  have p : (a * c) * (a * c) ≤ (b * d * r) * (b * d * r) := by
    have := Int.mul_le_mul h1 h2 (Int.mul_nonneg hc hc) (Int.mul_nonneg (Int.mul_nonneg hb hb) r0)
    have e1 : (a * c) * (a * c) = a * a * (c * c) := by grind
    have e2 : (b * d * r) * (b * d * r) = b * b * r * (d * d * r) := by grind
    omega
  have q0 : 0 ≤ b * d * r := Int.mul_nonneg (Int.mul_nonneg hb hd) r0
  have p0 : 0 ≤ a * c := Int.mul_nonneg ha hc
  by_cases l : a * c ≤ b * d * r
  · exact l
  · have := Int.mul_self_lt_mul_self q0 (show b * d * r < a * c by omega)
    omega
theorem mono_sq {a b : Int} (h : 0 ≤ a) (l : a ≤ b) : a * a ≤ b * b := Int.mul_le_mul l l h (by omega)
theorem mono_sqr {a b r : Int} (h : 0 ≤ a) (l : a ≤ b) (r0 : 0 ≤ r) : a * a * r ≤ b * b * r := Int.mul_le_mul_of_nonneg_right (mono_sq h l) r0
/-- adding below: both nought or less -/
theorem add_lo {a b c d r : Int} (ha : 0 ≤ a) (hb : 0 ≤ b) (hc : 0 ≤ c) (hd : 0 ≤ d) (r0 : 0 ≤ r) (h1 : a * a ≤ b * b * r) (h2 : c * c ≤ d * d * r) : (a + c) * (a + c) ≤ (b + d) * (b + d) * r := by
  have x := sq_cross ha hb hc hd r0 h1 h2
  have e1 : (a + c) * (a + c) = a * a + c * c + 2 * (a * c) := by grind
  have e2 : (b + d) * (b + d) * r = b * b * r + d * d * r + 2 * (b * d * r) := by grind
  omega
theorem cross2 {a b c d : Int} (ha : 0 ≤ a) (hb : 0 ≤ b) (hc : 0 ≤ c) (hd : 0 ≤ d) {r : Int} (r0 : 0 ≤ r) (h1 : b * b * r ≤ a * a) (h2 : d * d * r ≤ c * c) : b * d * r ≤ a * c := by
  have p : (b * d * r) * (b * d * r) ≤ (a * c) * (a * c) := by
    have := Int.mul_le_mul h1 h2 (Int.mul_nonneg (Int.mul_nonneg hd hd) r0) (Int.mul_nonneg ha ha)
    have e1 : (a * c) * (a * c) = a * a * (c * c) := by grind
    have e2 : (b * d * r) * (b * d * r) = b * b * r * (d * d * r) := by grind
    omega
  have q0 : 0 ≤ b * d * r := Int.mul_nonneg (Int.mul_nonneg hb hd) r0
  have p0 : 0 ≤ a * c := Int.mul_nonneg ha hc
  by_cases l : b * d * r ≤ a * c
  · exact l
  · have := Int.mul_self_lt_mul_self p0 (show a * c < b * d * r by omega)
    omega
theorem add_hi {a b c d r : Int} (ha : 0 ≤ a) (hb : 0 ≤ b) (hc : 0 ≤ c) (hd : 0 ≤ d) (r0 : 0 ≤ r) (h1 : b * b * r < a * a) (h2 : d * d * r ≤ c * c) : (b + d) * (b + d) * r < (a + c) * (a + c) := by
  have x := cross2 ha hb hc hd r0 (Int.le_of_lt h1) h2
  have e1 : (a + c) * (a + c) = a * a + c * c + 2 * (a * c) := by grind
  have e2 : (b + d) * (b + d) * r = b * b * r + d * d * r + 2 * (b * d * r) := by grind
  omega
theorem sub_hi {u v a b r : Int} (ha : 0 ≤ a) (hb : 0 ≤ b) (hu : a ≤ u) (hv : b ≤ v) (r0 : 0 ≤ r) (h1 : v * v * r < u * u) (h2 : a * a ≤ b * b * r) : (v - b) * (v - b) * r < (u - a) * (u - a) := by
  by_cases l : (u - a) * (u - a) ≤ (v - b) * (v - b) * r
  · have := add_lo (show 0 ≤ u - a by omega) (show 0 ≤ v - b by omega) ha hb r0 l h2
    rw [show u - a + a = u by omega, show v - b + b = v by omega] at this
    omega
  · omega
theorem sub_lo {u v a b r : Int} (ha : 0 ≤ a) (hb : 0 ≤ b) (hu : a ≤ u) (hv : b ≤ v) (r0 : 0 ≤ r) (h1 : u * u ≤ v * v * r) (h2 : b * b * r < a * a) : (u - a) * (u - a) ≤ (v - b) * (v - b) * r := by
  by_cases l : (u - a) * (u - a) ≤ (v - b) * (v - b) * r
  · exact l
  · have := add_hi ha hb (show 0 ≤ u - a by omega) (show 0 ≤ v - b by omega) r0 h2 (by omega)
    rw [show a + (u - a) = u by omega, show b + (v - b) = v by omega] at this
    omega
theorem posP_mix {r x y x' y' : Int} (r0 : 0 ≤ r) (hx : 0 < x) (hy : y < 0) (h : y * y * r < x * x) (hx' : x' < 0) (hy' : 0 < y') (h' : x' * x' ≤ y' * y' * r) : PosP r (x + x') (y + y') := by
  rw [posP_iff r0]
  have e1 : -y * -y * r = y * y * r := by grind
  have e2 : -x' * -x' = x' * x' := by grind
  by_cases a : 0 ≤ x + x' <;> by_cases b : 0 ≤ y + y'
  · refine .inl ⟨a, b, ?_⟩
    by_cases c : 0 < x + x' ∨ 0 < y + y'
    · exact c
    · exfalso
      have ex : x' = -x := by omega
      have ey : y' = -y := by omega
      subst ex; subst ey
      have e3 : -x * -x = x * x := by grind
      omega
  · refine .inr (.inl ⟨?_, by omega, ?_⟩)
    · by_cases c : 0 < x + x'
      · exact c
      · exfalso
        have ex : x' = -x := by omega
        subst ex
        have m := mono_sqr (a := y') (b := -y) (r := r) (by omega) (by omega) r0
        have e3 : -x * -x = x * x := by grind
        omega
    · have := sub_hi (u := x) (v := -y) (a := -x') (b := y') (r := r) (by omega) (by omega) (by omega) (by omega) r0 (by omega) (by omega)
      have e3 : (-y - y') * (-y - y') * r = (y + y') * (y + y') * r := by grind
      have e4 : (x - -x') * (x - -x') = (x + x') * (x + x') := by grind
      omega
  · refine .inr (.inr ⟨by omega, ?_, ?_⟩)
    · by_cases c : 0 < y + y'
      · exact c
      · exfalso
        have ey : y' = -y := by omega
        subst ey
        have m := mono_sq (a := x) (b := -x') (by omega) (by omega)
        omega
    · have := sub_lo (u := -x') (v := y') (a := x) (b := -y) (r := r) (by omega) (by omega) (by omega) (by omega) r0 (by omega) (by omega)
      have e3 : (y' - -y) * (y' - -y) * r = (y + y') * (y + y') * r := by grind
      have e4 : (-x' - x) * (-x' - x) = (x + x') * (x + x') := by grind
      omega
  · exfalso
    have m1 := mono_sq (a := x) (b := -x') (by omega) (by omega)
    have m2 := mono_sqr (a := y') (b := -y) (r := r) (by omega) (by omega) r0
    omega
theorem posP_b {r x y x' y' : Int} (r0 : 0 ≤ r) (hx : 0 ≤ x) (hy : 0 ≤ y) (hs : 0 < x ∨ 0 < y) (hx' : 0 < x') (hy' : y' < 0) (h' : y' * y' * r < x' * x') : PosP r (x + x') (y + y') := by
  rw [posP_iff r0]
  by_cases b : 0 ≤ y + y'
  · exact .inl ⟨by omega, b, .inl (by omega)⟩
  · refine .inr (.inl ⟨by omega, by omega, ?_⟩)
    have m1 := mono_sq (a := x') (b := x + x') (by omega) (by omega)
    have m2 := mono_sqr (a := -(y + y')) (b := -y') (r := r) (by omega) (by omega) r0
    have e1 : -y' * -y' * r = y' * y' * r := by grind
    have e2 : -(y + y') * -(y + y') * r = (y + y') * (y + y') * r := by grind
    omega
theorem posP_c {r x y x' y' : Int} (r0 : 0 ≤ r) (hx : 0 ≤ x) (hy : 0 ≤ y) (hs : 0 < x ∨ 0 < y) (hx' : x' < 0) (hy' : 0 < y') (h' : x' * x' ≤ y' * y' * r) : PosP r (x + x') (y + y') := by
  rw [posP_iff r0]
  by_cases b : 0 ≤ x + x'
  · exact .inl ⟨b, by omega, .inr (by omega)⟩
  · refine .inr (.inr ⟨by omega, by omega, ?_⟩)
    have m1 := mono_sq (a := -(x + x')) (b := -x') (by omega) (by omega)
    have m2 := mono_sqr (a := y') (b := y + y') (r := r) (by omega) (by omega) r0
    have e1 : -x' * -x' = x' * x' := by grind
    have e2 : -(x + x') * -(x + x') = (x + x') * (x + x') := by grind
    omega
theorem PosP.add {r x y x' y' : Int} (r0 : 0 ≤ r) (h : PosP r x y) (h' : PosP r x' y') : PosP r (x + x') (y + y') := by
  rcases (posP_iff r0).mp h with ⟨a, b, c⟩ | ⟨a, b, c⟩ | ⟨a, b, c⟩ <;> rcases (posP_iff r0).mp h' with ⟨a', b', c'⟩ | ⟨a', b', c'⟩ | ⟨a', b', c'⟩
  · exact (posP_iff r0).mpr (.inl ⟨by omega, by omega, by omega⟩)
  · exact posP_b r0 a b c a' b' c'
  · exact posP_c r0 a b c a' b' c'
  · rw [Int.add_comm x, Int.add_comm y]
    exact posP_b r0 a' b' c' a b c
  · refine (posP_iff r0).mpr (.inr (.inl ⟨by omega, by omega, ?_⟩))
    have e1 : -y * -y * r = y * y * r := by grind
    have e3 : -y' * -y' * r = y' * y' * r := by grind
    have := add_hi (a := x) (b := -y) (c := x') (d := -y') (r := r) (by omega) (by omega) (by omega) (by omega) r0 (by omega) (by omega)
    have e2 : (-y + -y') * (-y + -y') * r = (y + y') * (y + y') * r := by grind
    omega
  · exact posP_mix r0 a b c a' b' c'
  · rw [Int.add_comm x, Int.add_comm y]
    exact posP_c r0 a' b' c' a b c
  · rw [Int.add_comm x, Int.add_comm y]
    exact posP_mix r0 a' b' c' a b c
  · refine (posP_iff r0).mpr (.inr (.inr ⟨by omega, by omega, ?_⟩))
    have e1 : -x * -x = x * x := by grind
    have e3 : -x' * -x' = x' * x' := by grind
    have := add_lo (a := -x) (b := y) (c := -x') (d := y') (r := r) (by omega) (by omega) (by omega) (by omega) r0 (by omega) (by omega)
    have e2 : (-x + -x') * (-x + -x') = (x + x') * (x + x') := by grind
    omega
end My
namespace My
open PySem PySem.Spec L2
theorem sgI_scale {c x : Int} (h : 0 < c) : sgI (x * c) = sgI x := by
  rcases Int.lt_trichotomy x 0 with z | z | z
  · rw [sgI_neg z, sgI_neg (Int.mul_neg_of_neg_of_pos z h)]
  · rw [z, Int.zero_mul]
  · rw [sgI_pos z, sgI_pos (Int.mul_pos z h)]
theorem sgn_scale {c x y r : Int} (h : 0 < c) : sgn (x * c) (y * c) r = sgn x y r := by
  have e : (y * c * (y * c) * r < x * c * (x * c)) ↔ (y * y * r < x * x) := by
    have h2 : 0 < c * c := Int.mul_pos h h
    have e1 : y * c * (y * c) * r = (y * y * r) * (c * c) := by grind
    have e2 : x * c * (x * c) = (x * x) * (c * c) := by grind
    rw [e1, e2]
    exact Int.mul_lt_mul_right h2
  unfold sgn
  rw [sgI_scale h, sgI_scale h]
  by_cases q : y * y * r < x * x
  · rw [if_pos q, if_pos (e.mpr q)]
  · rw [if_neg q, if_neg (fun z => q (e.mp z))]
theorem sgn_root {x y r r' : Int} (h : y ≠ 0 → r = r') : sgn x y r = sgn x y r' := by
  by_cases q : y = 0
  · subst q
    unfold sgn
    rw [if_pos (.inr rfl), if_pos (.inr rfl)]
  · rw [h q]
/-- the number n has the value p / d, its root is R -/
structure Rep (R : Int) (n : Nm) (p : Int × Int) (d : Int) : Prop where
  rt : Rt R n
  b : 0 < n.b
  t : n.t * d = p.1 * n.b
  p : n.p * d = p.2 * n.b
theorem cmp_rep {R d e : Int} {n m : Nm} {p q : Int × Int} (r0 : 0 ≤ R) (h : Rep R n p d) (g : Rep R m q e) (d0 : 0 < d) (e0 : 0 < e) : cmpN n m = sgn (p.1 * e - q.1 * d) (p.2 * e - q.2 * d) R := by
  have a : cmpN n m = sgn (n.t * m.b - m.t * n.b) (n.p * m.b - m.p * n.b) R := by
    unfold cmpN
    refine sgn_root fun hy => rt1_of r0 h.rt g.rt ?_
    have : n.p * m.b + m.p * (-n.b) ≠ 0 := fun z => hy (by grind)
    exact pp_or this
  have e1 : (n.t * m.b - m.t * n.b) * (d * e) = (p.1 * e - q.1 * d) * (n.b * m.b) := by
    have := h.t; have := g.t
    grind
  have e2 : (n.p * m.b - m.p * n.b) * (d * e) = (p.2 * e - q.2 * d) * (n.b * m.b) := by
    have := h.p; have := g.p
    grind
  rw [a, ← sgn_scale (Int.mul_pos d0 e0), e1, e2, sgn_scale (Int.mul_pos h.b g.b)]
theorem sgn_rep {R d : Int} {n : Nm} {p : Int × Int} (h : Rep R n p d) (d0 : 0 < d) : sgn n.t n.p n.r = sgn p.1 p.2 R := by
  have a : sgn n.t n.p n.r = sgn n.t n.p R := sgn_root fun hy => by
    have := h.rt
    unfold Rt at this
    rw [this, if_neg hy]
  rw [a, ← sgn_scale d0, h.t, h.p, sgn_scale h.b]
theorem in_rep {R c : Int} {p : Int × Int} : Rep R (inN R p) (p.1 * c, p.2 * c) c := ⟨rfl, Int.one_pos, by show p.1 * c = p.1 * c * 1; omega, by show p.2 * c = p.2 * c * 1; omega⟩
theorem in_rep1 {R : Int} {p : Int × Int} : Rep R (inN R p) p 1 := ⟨rfl, Int.one_pos, rfl, rfl⟩
theorem in_small {R : Int} {p : Int × Int} (ro : RtOk R) (h : Bd R 100000 p) : Good 100 (inN R p) := by
  have z : ∀ x : Int, -100000 ≤ x → x ≤ 100000 → Sz 100 x := fun x a b => Sz.mono (n := 17) (by unfold Sz; omega) (by decide)
  have g := in_good ro h
  exact ⟨z _ h.a h.b, z _ h.c h.d, z 1 (by decide) (by decide), g.b1, g.cop, g.rt⟩
theorem two_good : Good 100 ⟨2, 0, 0, 1⟩ := ⟨Sz.mono (n := 2) (by unfold Sz; decide) (by decide), by unfold Sz; exact Nat.two_pow_pos _, Sz.mono (n := 1) (by unfold Sz; decide) (by decide), Int.le_refl _, com1 _ _, .inl ⟨rfl, rfl⟩⟩
/-- the half of a pair -/
def halfN (R : Int) (p : Int × Int) : Nm := overN (inN R p) ⟨2, 0, 0, 1⟩
theorem half_rt {R : Int} (r0 : 0 ≤ R) (p : Int × Int) : p.2 ≠ 0 → rt1 (inN R p) ⟨2, 0, 0, 1⟩ = R := fun h => rt1_of r0 (show Rt R (inN R p) from rfl) rfl (.inl h)
theorem half_rep {R : Int} (r0 : 0 ≤ R) {p : Int × Int} : Rep R (halfN R p) p 2 := by
  have nb : (1 * ((2 : Int) * 2 - 0 * 0 * 0)) ≠ 0 := by decide
  have A := lst_is (t := (p.1 * 2 - p.2 * 0 * rt1 (inN R p) ⟨2, 0, 0, 1⟩) * 1) (p := (p.2 * 2 - p.1 * 0) * 1) (r := rt1 (inN R p) ⟨2, 0, 0, 1⟩) nb
  have hr := half_rt r0 p
  have e : halfN R p = lst ((p.1 * 2 - p.2 * 0 * rt1 (inN R p) ⟨2, 0, 0, 1⟩) * 1) ((p.2 * 2 - p.1 * 0) * 1) (rt1 (inN R p) ⟨2, 0, 0, 1⟩) (1 * ((2 : Int) * 2 - 0 * 0 * 0)) := rfl
  rw [e]
  generalize rt1 (inN R p) ⟨2, 0, 0, 1⟩ = r' at *
  generalize coms _ _ _ = c at *
  generalize lst _ _ _ _ = m at *
  obtain ⟨c0, ht, hp, hb, hrr, b1, _⟩ := A
  refine ⟨?_, by omega, ?_, ?_⟩
  · unfold Rt
    rw [hrr]
    by_cases z : p.2 = 0
    · rw [if_pos (by rw [z]; omega), if_pos]
      have : m.p * c = 0 := by rw [hp, z]; omega
      exact (Int.mul_eq_zero.mp this).resolve_right c0
    · rw [if_neg (by omega), if_neg (fun q => z (by rw [q] at hp; omega)), hr z]
  · refine Int.eq_of_mul_eq_mul_right c0 ?_
    have e1 : m.t * 2 * c = (m.t * c) * 2 := by grind
    have e2 : p.1 * m.b * c = p.1 * (m.b * c) := by grind
    rw [e1, e2, ht, hb]
    omega
  · refine Int.eq_of_mul_eq_mul_right c0 ?_
    have e1 : m.p * 2 * c = (m.p * c) * 2 := by grind
    have e2 : p.2 * m.b * c = p.2 * (m.b * c) := by grind
    rw [e1, e2, hp, hb]
    omega
theorem half_fit {R : Int} {p : Int × Int} (ro : RtOk R) (r0 : 0 ≤ R) (h : Bd R 100000 p) : PtFit R (halfN R p) := by
  refine ⟨(overN_good (in_small ro h) two_good (fun z => absurd z.1 (by decide))).mono (by decide), ?_⟩
  have := (half_rep r0 (p := p)).rt
  unfold Rt at this
  rw [this]
  split
  · exact .inl rfl
  · exact .inr rfl
def stP (zs : List Str) (L : Str → Int × Int) (i : Nat) : Int × Int := sumP ((zs.map L).take i)
/-- the i-th piece holds the half of P -/
structure Lies (R : Int) (zs : List Str) (L : Str → Int × Int) (P : Int × Int) (i : Nat) : Prop where
  lt : i < zs.length
  lo : ¬ PosP R (2 * (stP zs L i).1 - P.1) (2 * (stP zs L i).2 - P.2)
  hi : PosP R (2 * (stP zs L (i + 1)).1 - P.1) (2 * (stP zs L (i + 1)).2 - P.2)
section
variable {R : Int} {zs ys : List Str} {L : Str → Int × Int} {n : Nm} {P : Int × Int}
theorem sums_at (r0 : 0 ≤ R) {i : Nat} (h : i ≤ zs.length) : (sumsN (zs.map (inF R L)))[i]? = some (inN R (stP zs L i)) := by
  unfold sumsN
  rw [List.getElem?_map, List.getElem?_range (by rw [List.length_map]; omega)]
  show some (sumN ((zs.map (inF R L)).take i)) = _
  rw [sum_in_take r0]
  rfl
theorem cmp_st (r0 : 0 ≤ R) (h : Rep R n P 2) (q : Int × Int) : cmpN (inN R q) n = sgn (2 * q.1 - P.1) (2 * q.2 - P.2) R := by
  rw [cmp_rep r0 in_rep1 h (by decide) (by decide)]
  congr 1 <;> omega
theorem cmp_st2 (r0 : 0 ≤ R) (h : Rep R n P 2) (q : Int × Int) : cmpN n (inN R q) = -sgn (2 * q.1 - P.1) (2 * q.2 - P.2) R := by
  rw [cmp_rep r0 h in_rep1 (by decide) (by decide), ← sgn_neg]
  congr 1 <;> omega
theorem lies_of (r0 : 0 ≤ R) (h : Rep R n P 2) (po : PtOk R zs (inF R L) n) {i : Nat} (la : LastAt (sumsN (zs.map (inF R L))) n i) : Lies R zs L P i := by
  obtain ⟨l1, l2, l3⟩ := la
  rw [sumsN_len, List.length_map] at l1 l3
  have lt : i < zs.length := by omega
  refine ⟨lt, ?_, ?_⟩
  · rcases l2 with rfl | ⟨m, hm, c⟩
    · have := po.lo
      rw [sgn_rep h (by decide)] at this
      intro q
      unfold PosP at q
      have e : sgn (2 * (stP zs L 0).1 - P.1) (2 * (stP zs L 0).2 - P.2) R = sgn (-P.1) (-P.2) R := by
        show sgn (2 * 0 - P.1) (2 * 0 - P.2) R = _
        congr 1 <;> omega
      rw [e, sgn_neg] at q
      omega
    · rw [sums_at r0 (by omega)] at hm
      cases hm
      rw [cmp_st r0 h] at c
      intro q
      unfold PosP at q
      omega
  · rcases l3 with e | ⟨m, hm, c⟩
    · have := po.hi
      rw [sum_in r0, cmp_st2 r0 h] at this
      have es : stP zs L (i + 1) = sumP (zs.map L) := by
        unfold stP
        rw [List.take_of_length_le (by rw [List.length_map]; omega)]
      rw [es]
      unfold PosP
      omega
    · rw [sums_at r0 (by omega)] at hm
      cases hm
      rw [cmp_st r0 h] at c
      exact c
theorem pos_up {x y a b : Int} (r0 : 0 ≤ R) (h : PosP R x y) (a0 : 0 ≤ a) (b0 : 0 ≤ b) : PosP R (x + a) (y + b) := by
  by_cases c : a = 0 ∧ b = 0
  · rw [c.1, c.2, Int.add_zero, Int.add_zero]
    exact h
  · exact h.add r0 ((posP_iff r0).mpr (.inl ⟨a0, b0, by omega⟩))
/-- p is nought or more in both parts below q -/
def LeC (p q : Int × Int) : Prop := p.1 ≤ q.1 ∧ p.2 ≤ q.2
theorem pos_leC (r0 : 0 ≤ R) {p q : Int × Int} (l : LeC p q) (h : PosP R (2 * p.1 - P.1) (2 * p.2 - P.2)) : PosP R (2 * q.1 - P.1) (2 * q.2 - P.2) := by
  have := pos_up (a := 2 * q.1 - 2 * p.1) (b := 2 * q.2 - 2 * p.2) r0 h (by have := l.1; omega) (by have := l.2; omega)
  have e1 : 2 * p.1 - P.1 + (2 * q.1 - 2 * p.1) = 2 * q.1 - P.1 := by omega
  have e2 : 2 * p.2 - P.2 + (2 * q.2 - 2 * p.2) = 2 * q.2 - P.2 := by omega
  rwa [e1, e2] at this
theorem st_step (nn : ∀ z ∈ zs, 0 ≤ (L z).1 ∧ 0 ≤ (L z).2) (i : Nat) : LeC (stP zs L i) (stP zs L (i + 1)) := by
  by_cases h : i < zs.length
  · have e : stP zs L (i + 1) = addP (stP zs L i) (L zs[i]) := by
      unfold stP
      rw [take_next (x := L zs[i]) (by rw [List.getElem?_map, List.getElem?_eq_getElem h]; rfl)]
      exact sumP_snoc _ _
    have := nn _ (List.getElem_mem h)
    rw [e]
    exact ⟨by show _ ≤ (stP zs L i).1 + (L zs[i]).1; omega, by show _ ≤ (stP zs L i).2 + (L zs[i]).2; omega⟩
  · have e : stP zs L (i + 1) = stP zs L i := by
      unfold stP
      rw [List.take_of_length_le (by rw [List.length_map]; omega), List.take_of_length_le (by rw [List.length_map]; omega)]
    rw [e]
    exact ⟨Int.le_refl _, Int.le_refl _⟩
theorem st_mono (nn : ∀ z ∈ zs, 0 ≤ (L z).1 ∧ 0 ≤ (L z).2) (i : Nat) : ∀ d, LeC (stP zs L i) (stP zs L (i + d))
  | 0 => ⟨Int.le_refl _, Int.le_refl _⟩
  | d + 1 => by
    have a := st_mono nn i d
    have b := st_step nn (i + d)
    exact ⟨Int.le_trans a.1 b.1, Int.le_trans a.2 b.2⟩
theorem st_le (nn : ∀ z ∈ zs, 0 ≤ (L z).1 ∧ 0 ≤ (L z).2) {i j : Nat} (h : i ≤ j) : LeC (stP zs L i) (stP zs L j) := by
  have := st_mono nn i (j - i)
  rwa [show i + (j - i) = j by omega] at this
theorem lies_one (r0 : 0 ≤ R) (nn : ∀ z ∈ zs, 0 ≤ (L z).1 ∧ 0 ≤ (L z).2) {i j : Nat} (h : Lies R zs L P i) (g : Lies R zs L P j) : i = j := by
  have key : ∀ {i j : Nat}, Lies R zs L P i → Lies R zs L P j → ¬ i < j := fun {i j} h g l => g.lo (pos_leC r0 (st_le nn (show i + 1 ≤ j from l)) h.hi)
  have := key h g
  have := key g h
  omega
end
end My
namespace My
open PySem PySem.Spec L2
theorem sumI_bd {g : Str → Int} {c : Int} : ∀ {l : List Str}, (∀ z ∈ l, 0 ≤ g z ∧ g z ≤ c) → 0 ≤ sumI l g ∧ sumI l g ≤ c * l.length
  | [], _ => ⟨Int.le_refl 0, by show (0 : Int) ≤ c * 0; omega⟩
  | z :: l, h => by
    have a := h z List.mem_cons_self
    have b := sumI_bd (l := l) fun y hy => h y (List.mem_cons_of_mem _ hy)
    rw [sumI_cons, List.length_cons]
    have : c * ((l.length + 1 : Nat) : Int) = c * (l.length : Int) + c := by push_cast; rw [Int.mul_add, Int.mul_one]
    rw [this]
    omega
theorem sumI_ge {g : Str → Int} {z : Str} : ∀ {l : List Str}, (∀ y ∈ l, 0 ≤ g y) → z ∈ l → g z ≤ sumI l g
  | [], _, m => absurd m List.not_mem_nil
  | y :: l, h, m => by
    rw [sumI_cons]
    have a := h y List.mem_cons_self
    have h' : ∀ x ∈ l, 0 ≤ g x := fun x hx => h x (List.mem_cons_of_mem _ hx)
    rcases List.mem_cons.mp m with rfl | m
    · have : 0 ≤ sumI l g := by
        clear m a h
        induction l with
        | nil => exact Int.le_refl 0
        | cons x l ih =>
          rw [sumI_cons]
          have := h' x List.mem_cons_self
          have := ih fun w hw => h' w (List.mem_cons_of_mem _ hw)
          omega
      omega
    · have := sumI_ge h' m
      omega
section
variable {R : Int} {zs ys : List Str} {L : Str → Int × Int} {n : Nm} {P : Int × Int}
theorem hd_in (ro : RowsOk zs ys) {i : Nat} (h : i < zs.length) : zs.getD (hdI (hdB zs ys) zs i) Str.empty ∈ jnd zs ys zs := by
  have le := hdI_le (hdB zs ys) zs i
  have l0 : 0 < zs.length := by omega
  exact List.mem_filter.mpr ⟨List.mem_of_getElem? (getD_mem (by omega)), hdI_mem (hd_first ro _ (getD_mem l0)) i⟩
/-- parts of the sums of a group -/
theorem part_bd (le : zs.length ≤ 10) (len : ∀ z ∈ zs, LenP R (L z)) (m : Str → Bool) (x : Str) (k : Nat) : Bd R 60 (sumI (zs.take k) (fun z => if hdZ m zs z = x then (L z).1 else 0), sumI (zs.take k) fun z => if hdZ m zs z = x then (L z).2 else 0) := by
  have lk : ((zs.take k).length : Int) ≤ 10 := by rw [List.length_take]; omega
  have l0 : (0 : Int) ≤ ((zs.take k).length : Int) := by omega
  have a := sumI_bd (l := zs.take k) (g := fun z => if hdZ m zs z = x then (L z).1 else 0) (c := 6) fun z hz => by
    have lp := len z (List.mem_of_mem_take hz)
    have := lp.x0; have := lp.x6
    split <;> omega
  have b := sumI_bd (l := zs.take k) (g := fun z => if hdZ m zs z = x then (L z).2 else 0) (c := 6) fun z hz => by
    have lp := len z (List.mem_of_mem_take hz)
    have := lp.y0; have := lp.y2
    split <;> omega
  refine ⟨?_, ?_, ?_, ?_, fun e => sumI_zero fun z hz => ?_⟩
  · have := a.1; show -60 ≤ sumI _ _; omega
  · have := a.2; show sumI _ _ ≤ 60; omega
  · have := b.1; show -60 ≤ sumI _ _; omega
  · have := b.2; show sumI _ _ ≤ 60; omega
  · split
    · exact (len z (List.mem_of_mem_take hz)).rt e
    · rfl
theorem jG_nn (ro : RowsOk zs ys) (len : ∀ z ∈ zs, LenP R (L z)) (x : Str) : 0 ≤ (jG zs ys L x).1 ∧ 0 ≤ (jG zs ys L x).2 := by
  rw [jG_sum ro]
  refine ⟨(sumI_bd (c := 6) fun z hz => ?_).1, (sumI_bd (c := 6) fun z hz => ?_).1⟩
  · have lp := len z hz
    have := lp.x0; have := lp.x6
    split <;> omega
  · have lp := len z hz
    have := lp.y0; have := lp.y2
    split <;> omega
theorem jG_bd (ro : RowsOk zs ys) (le : zs.length ≤ 10) (len : ∀ z ∈ zs, LenP R (L z)) (x : Str) : Bd R 60 (jG zs ys L x) := by
  rw [jG_sum ro]
  have := part_bd le len (hdB zs ys) x zs.length
  rw [List.take_length] at this
  exact this
theorem jG_pos (ro : RowsOk zs ys) (len : ∀ z ∈ zs, LenP R (L z)) {x : Str} (m : x ∈ jnd zs ys zs) : 0 < (jG zs ys L x).1 ∨ 0 < (jG zs ys L x).2 := by
  obtain ⟨m1, m2⟩ := List.mem_filter.mp m
  have self : hdZ (hdB zs ys) zs x = x := by
    unfold hdZ
    rw [hdI_self (by rw [getD_at (pos_get m1)]; exact m2), getD_at (pos_get m1)]
  have lp := len x m1
  rw [jG_sum ro]
  have a := sumI_ge (l := zs) (g := fun z => if hdZ (hdB zs ys) zs z = x then (L z).1 else 0) (z := x) (fun z hz => by
    have := (len z hz).x0
    split <;> omega) m1
  have b := sumI_ge (l := zs) (g := fun z => if hdZ (hdB zs ys) zs z = x then (L z).2 else 0) (z := x) (fun z hz => by
    have := (len z hz).y0
    split <;> omega) m1
  rw [if_pos self] at a b
  have := lp.x0; have := lp.y0; have := lp.pos
  by_cases c : 0 < (L x).1
  · exact .inl (Int.lt_of_lt_of_le c a)
  · exact .inr (Int.lt_of_lt_of_le (by omega) b)
theorem in_posC {p : Int × Int} (r0 : 0 ≤ R) (h : 0 ≤ p.1 ∧ 0 ≤ p.2) (g : 0 < p.1 ∨ 0 < p.2) : 0 < sgn (inN R p).t (inN R p).p (inN R p).r := by
  rw [sgn_rep (in_rep1 (R := R) (p := p)) (by decide)]
  exact (posP_iff r0).mpr (.inl ⟨h.1, h.2, g⟩)
theorem jnd_len (zs ys l : List Str) : (jnd zs ys l).length ≤ l.length := List.length_filter_le _ _
theorem jG_xg (rok : RtOk R) (r0 : 0 ≤ R) (ro : RowsOk zs ys) (le : zs.length ≤ 10) (len : ∀ z ∈ zs, LenP R (L z)) : XG R (jnd zs ys zs) (jnd zs ys ys) (inF R (jG zs ys L)) := by
  have bd := jG_bd (L := L) ro le len
  have sm : ∀ l : List Str, l.length ≤ 10 → ∀ i, Bd R 100000 (sumP ((l.map (jG zs ys L)).take i)) := fun l hl i => by
    refine (Bd.sum (M := 60) (N := 600) (fun p hp => ?_) ?_).mono (by decide)
    · obtain ⟨z, _, rfl⟩ := List.mem_map.mp (List.mem_of_mem_take hp)
      exact bd z
    · rw [List.length_take, List.length_map]
      omega
  have l1 : (jnd zs ys zs).length ≤ 10 := Nat.le_trans (jnd_len zs ys zs) le
  have l2 : (jnd zs ys ys).length ≤ 10 := Nat.le_trans (jnd_len zs ys ys) (by rw [ro.len]; exact le)
  refine ⟨jnd_rows ro, fun z hz => in_fit rok ((bd z).mono (by decide)), fun z hz => in_posC r0 (jG_nn ro len z) (jG_pos ro len hz), fun i _ => ?_, fun i _ => ?_⟩
  · rw [sum_in_take r0]
    exact in_fit rok (sm _ l1 i)
  · rw [sum_in_take r0]
    exact in_fit rok (sm _ l2 i)
theorem jN_jG (r0 : 0 ≤ R) : (jN (jnd zs ys zs) (inF R L) zs).2 = inF R (jG zs ys L) := by
  rw [jN_hd fun z hz => hz, jS_in r0]
  rfl
theorem mkJOk (rok : RtOk R) (r0 : 0 ≤ R) (ro : RowsOk zs ys) (le : zs.length ≤ 10) (len : ∀ z ∈ zs, LenP R (L z)) : JOk R zs ys (inF R L) := by
  refine ⟨?_, fun z hz => ?_, fun i z hz => ?_⟩
  · rw [jN_jG r0]
    exact jG_xg rok r0 ro le len
  · exact List.mem_filter.mpr ⟨List.mem_of_getElem? hz, hd_first ro z hz⟩
  · rw [jN_hd fun z hz => List.mem_of_mem_take hz, jS_in r0]
    dsimp only
    rw [show inF R (jP (hdB zs ys) L (zs.take i)).2 (jP (hdB zs ys) L (zs.take i)).1 = inN R ((jP (hdB zs ys) L (zs.take i)).2 (jP (hdB zs ys) L (zs.take i)).1) from rfl]
    have lt := (List.getElem?_eq_some_iff.mp hz).1
    rw [(jP_sum (L := L) ro i (by omega)).2]
    exact (in_fit rok ((part_bd le len (hdB zs ys) _ i).mono (by decide))).pt
/-- joining keeps shifts of points -/
theorem join_same (r0 : 0 ≤ R) (ro : RowsOk zs ys) (len : ∀ z ∈ zs, LenP R (L z)) (rep : Rep R n P 2) (po1 : PtOk R zs (inF R L) n) (po2 : PtOk R (jnd zs ys zs) (inF R (jG zs ys L)) n) {z h : Str} (p1 : PieceAt zs (inF R L) n z) (p2 : PieceAt (jnd zs ys zs) (inF R (jG zs ys L)) n h) :
    shfN (jnd zs ys zs) (jnd zs ys ys) (inF R (jG zs ys L)) h = shfN zs ys (inF R L) z := by
  obtain ⟨i, hi, la⟩ := p1
  obtain ⟨j, hj, lb⟩ := p2
  have A := lies_of r0 rep po1 la
  have B := lies_of r0 rep po2 lb
  have nnL : ∀ z ∈ zs, 0 ≤ (L z).1 ∧ 0 ≤ (L z).2 := fun z hz => ⟨(len z hz).x0, (len z hz).y0⟩
  have nnG : ∀ z ∈ jnd zs ys zs, 0 ≤ (jG zs ys L z).1 ∧ 0 ≤ (jG zs ys L z).2 := fun z _ => jG_nn ro len z
  have lt := A.lt
  have mh := hd_in ro lt
  have le := hdI_le (hdB zs ys) zs i
  have ndj := (jnd_rows ro).nd
  have gh := getD_mem (l := zs) (i := hdI (hdB zs ys) zs i) (by omega)
  generalize hh0 : zs.getD (hdI (hdB zs ys) zs i) Str.empty = h0 at mh gh
  have gj := pos_get mh
  have C : Lies R (jnd zs ys zs) (jG zs ys L) P (pos (jnd zs ys zs) h0) := by
    refine ⟨pos_lt mh, ?_, ?_⟩
    · have e : stP (jnd zs ys zs) (jG zs ys L) (pos (jnd zs ys zs) h0) = stP zs L (hdI (hdB zs ys) zs i) := by
        show bgP (jnd zs ys zs) (jG zs ys L) h0 = _
        rw [bg_join1 ro mh]
        unfold bgP
        rw [pos_nth ro.nd gh]
        rfl
      rw [e]
      exact fun q => A.lo (pos_leC r0 (st_le nnL le) q)
    · by_cases c : pos (jnd zs ys zs) h0 + 1 < (jnd zs ys zs).length
      · have gv := getD_mem c
        generalize (jnd zs ys zs).getD (pos (jnd zs ys zs) h0 + 1) Str.empty = v at gv
        have mv := List.mem_of_getElem? gv
        obtain ⟨a, k, h1, h2, h3, h4⟩ := filt_adj gj gv
        obtain rfl : a = hdI (hdB zs ys) zs i := nd_at ro.nd h2 gh
        have e : stP (jnd zs ys zs) (jG zs ys L) (pos (jnd zs ys zs) h0 + 1) = stP zs L k := by
          have := bg_join1 (L := L) ro mv
          unfold bgP at this
          rw [pos_nth ndj gv, pos_nth ro.nd h3] at this
          exact this
        have ik : i < k := Nat.lt_of_not_le fun q => hdI_gap i k h1 q (by rw [getD_at h3]; exact (List.mem_filter.mp mv).2)
        rw [e]
        exact pos_leC r0 (st_le nnL ik) A.hi
      · have e : stP (jnd zs ys zs) (jG zs ys L) (pos (jnd zs ys zs) h0 + 1) = stP zs L zs.length := by
          unfold stP
          rw [List.take_of_length_le (by rw [List.length_map]; omega), List.take_of_length_le (by rw [List.length_map]; omega)]
          exact tot_join ro
        rw [e]
        exact pos_leC r0 (st_le nnL lt) A.hi
  have ej := lies_one r0 nnG B C
  rw [ej, gj] at hj
  cases hj
  rw [shf_in r0, shf_in r0, sh_join ro mh, sh_head ro i z hi, hh0]
end
end My
namespace My
open PySem PySem.Spec PyProof.Rows L2
local macro_rules | `(tactic| walk_at "side") => `(tactic| first | assumption | decide | exact Or.inl ⟨by decide, by decide⟩ | exact Or.inr ⟨by decide, by decide⟩ | exact ⟨by decide, by decide, by decide⟩ | omega | (unfold CMulW; decide +kernel) | (dsimp only; first | assumption | omega | decide +kernel) | exact len_ok (Nat.le_of_ble_eq_true rfl) | fail "side")
local macro_rules | `(tactic| walk_at "rd") => `(tactic| first
  | refine ⟨_, _, _, _, rfl, rfl, SqL.of upd_same, atI_nat (j := 0) rfl, ?_⟩ | refine ⟨_, _, _, _, rfl, rfl, SqL.of upd_same, atI_nat (j := 1) rfl, ?_⟩ | refine ⟨_, _, _, _, rfl, rfl, SqL.of upd_same, atI_nat (j := 2) rfl, ?_⟩
  | refine ⟨_, _, _, _, rfl, rfl, upd_same, rfl, ?_⟩
  | refine ⟨_, _, rfl, rfl, ?_⟩ | refine ⟨_, rfl, ?_⟩ | refine ⟨_, _, rfl, ?_⟩ | refine Or.inl ⟨_, rfl, ?_⟩ | refine Or.inr ⟨_, rfl, ?_⟩ | refine ⟨(by walk_at "side"), ?_⟩ | fail "rd")
section
variable {P : Program} {w : World} {K : PySem.W.Frag} {mg : Str → Option Value} {base : Heap} {C CN CX : Addr}
theorem ok_nneq (NE : NEqT K CN) (S_eq : SpAt P w K mg base 1 CN "__eq__" ["self", "other"] (spEqN CN)) : NeAt P w K mg base 1 CN (spEqN CN) := by
  obtain ⟨f1, nk, e1⟩ := NE.ex
  obtain ⟨f2, fd2, hs, hf, hb, G⟩ := S_eq.ex
  cases hs.symm.trans e1
  exact ⟨f1, fd2, nk, hb, G⟩
end
end My
namespace My
open PySem PySem.Spec PyProof.Rows L2
local macro_rules | `(tactic| walk_at "side") => `(tactic| first | assumption | decide | exact Or.inl ⟨by decide, by decide⟩ | exact Or.inr ⟨by decide, by decide⟩ | exact ⟨by decide, by decide, by decide⟩ | omega | (unfold CMulW; decide +kernel) | (dsimp only; first | assumption | omega | decide +kernel) | exact len_ok (Nat.le_of_ble_eq_true rfl) | fail "side")
local macro_rules | `(tactic| walk_at "rd") => `(tactic| first
  | refine ⟨_, _, _, _, rfl, rfl, SqL.of upd_same, atI_nat (j := 0) rfl, ?_⟩ | refine ⟨_, _, _, _, rfl, rfl, SqL.of upd_same, atI_nat (j := 1) rfl, ?_⟩ | refine ⟨_, _, _, _, rfl, rfl, SqL.of upd_same, atI_nat (j := 2) rfl, ?_⟩
  | refine ⟨_, _, _, _, rfl, rfl, upd_same, rfl, ?_⟩
  | refine ⟨_, _, rfl, rfl, ?_⟩ | refine ⟨_, rfl, ?_⟩ | refine ⟨_, _, rfl, ?_⟩ | refine Or.inl ⟨_, rfl, ?_⟩ | refine Or.inr ⟨_, rfl, ?_⟩ | refine ⟨(by walk_at "side"), ?_⟩ | fail "rd")
abbrev s_lpts : Stmt := top 71
theorem sc_lpts : FnScope ["_law_dice_here", "_law_world", "_law_begins_here", "_law_found", "_law_name", "_law_begin", "_law_length_here", "_law_twice"] ["_law_dice_here", "_law_world"] (defScope s_lpts) := ⟨rfl, rfl, rfl, by decide +kernel, rfl, by decide +kernel, by decide +kernel⟩
abbrev s_lshift : Stmt := top 72
theorem sc_lshift : FnScope ["_law_world", "_law_name", "_law_above", "_law_below"] ["_law_world", "_law_name"] (defScope s_lshift) := ⟨rfl, rfl, rfl, by decide +kernel, rfl, by decide +kernel, by decide +kernel⟩
abbrev s_lbyf : Stmt := top 73
theorem sc_lbyf : FnScope ["_law_order", "_law_world", "_law_name", "_law_found", "_law_other", "_law_sign", "_law_length_here"] ["_law_order", "_law_world", "_law_name"] (defScope s_lbyf) := ⟨rfl, rfl, rfl, by decide +kernel, rfl, by decide +kernel, by decide +kernel⟩
/-- a point of the exchange: the half of a pair from nought to the total -/
structure Pnt (R : Int) (us : List Str) (L : Str → Int × Int) (n : Nm) (P : Int × Int) : Prop where
  rep : Rep R n P 2
  fit : PtFit R n
  x : 0 ≤ P.1
  y : 0 ≤ P.2
  hi : PosP R (2 * (sumP (us.map L)).1 - P.1) (2 * (sumP (us.map L)).2 - P.2)
def spLPts (K : PySem.W.Frag) (CN : Addr) : Sp := fun vs H Q _ => ∃ a W us ls ks L R, vs = [.ref a, .ref W] ∧ H a = some (DiceO a) ∧ WorldAt K H W us ls ks L R ∧ ∀ p xs ns H', Ext H H' → SqL K H' p xs → RelL (NumV CN) ns xs H' → ns.length ≤ 20 → (∀ n ∈ ns, ∃ P, Pnt R us L n P) → Q (.ref p) H'
def spLShift (K : PySem.W.Frag) : Sp := fun vs H Q _ => ∃ W us ls ks L R z, vs = [.ref W, .str z] ∧ WorldAt K H W us ls ks L R ∧ z ∈ us ∧ ∀ q H', Ext H H' → H' q = some (.tup [.int (shP us ls L z).1, .int (shP us ls L z).2]) → Q (.ref q) H'
def fmT (us ls : List Str) (L : Str → Int × Int) (z w : Str) : Int × Int := (frm us ls z w * (L w).1, frm us ls z w * (L w).2)
def spLByF (K : PySem.W.Frag) (C : Addr) : Sp := fun vs H Q _ => ∃ o W us ls ks L R z, vs = [.ref o, .ref W, .str z] ∧ OrdN K C H o us ls ∧ WorldAt K H W us ls ks L R ∧ z ∈ us ∧ ∀ q H', Ext H H' → H' q = some (.tup [.int (sumP (us.map (fmT us ls L z))).1, .int (sumP (us.map (fmT us ls L z))).2]) → Q (.ref q) H'
theorem frm_self (us ls : List Str) (z : Str) : frm us ls z z = 0 := by
  unfold frm aheadI
  rw [if_neg (Nat.lt_irrefl _), if_neg (Nat.lt_irrefl _)]
  rfl
theorem fm_shift {us ls : List Str} {L : Str → Int × Int} (ro : RowsOk us ls) {z : Str} (hz : z ∈ us) : sumP (us.map (fmT us ls L z)) = shP us ls L z := by
  rw [sumP_two]
  have t : ∀ w ∈ us, frm us ls z w = -frm us ls w z := fun w hw => by
    by_cases e : w = z
    · subst e
      rw [frm_self]
      rfl
    · exact frm_turn ro.pm hw hz e
  have a := sh1 (L := L) ro.nd ro.pm z
  have b := sh2 (L := L) ro.nd ro.pm z
  refine Prod.ext ?_ ?_
  · show sumI us (fun w => frm us ls z w * (L w).1) = (bgP ls L z).1 - (bgP us L z).1
    rw [a]
    exact sumI_congr fun w hw => by rw [t w hw, Int.neg_mul]
  · show sumI us (fun w => frm us ls z w * (L w).2) = (bgP ls L z).2 - (bgP us L z).2
    rw [b]
    exact sumI_congr fun w hw => by rw [t w hw, Int.neg_mul]
theorem pnt_beg {R : Int} {us : List Str} {L : Str → Int × Int} (rok : RtOk R) (r0 : 0 ≤ R) (le : us.length ≤ 10) (len : ∀ z ∈ us, LenP R (L z)) {z : Str} (hz : z ∈ us) : Pnt R us L (inN R (bgP us L z)) ((bgP us L z).1 * 2, (bgP us L z).2 * 2) ∧ Pnt R us L (halfN R (addP (addP (bgP us L z) (bgP us L z)) (L z))) (addP (addP (bgP us L z) (bgP us L z)) (L z)) := by
  have nn : ∀ z ∈ us, 0 ≤ (L z).1 ∧ 0 ≤ (L z).2 := fun z hz => ⟨(len z hz).x0, (len z hz).y0⟩
  have lt := pos_lt hz
  have b0 : LeC (0, 0) (bgP us L z) := st_le nn (Nat.zero_le (pos us z))
  have e1 : stP us L (pos us z + 1) = addP (bgP us L z) (L z) := by
    unfold stP
    rw [take_next (x := L z) (by rw [List.getElem?_map, pos_get hz]; rfl)]
    exact sumP_snoc _ _
  have e2 : stP us L us.length = sumP (us.map L) := by
    unfold stP
    rw [List.take_of_length_le (by rw [List.length_map]; exact Nat.le_refl _)]
  have l2 := st_le nn (show pos us z + 1 ≤ us.length from lt)
  rw [e1, e2] at l2
  have lz := len z hz
  have x0 := lz.x0; have y0 := lz.y0; have ps := lz.pos
  have bd := bg_bd le len (pos us z)
  have bd1 : Bd R 100000 (bgP us L z) := bd.mono (by decide)
  have bd2 : Bd R 100000 (addP (addP (bgP us L z) (bgP us L z)) (L z)) := ((bd.add bd).add lz.bd).mono (by decide)
  have l21 : (bgP us L z).1 + (L z).1 ≤ (sumP (us.map L)).1 := l2.1
  have l22 : (bgP us L z).2 + (L z).2 ≤ (sumP (us.map L)).2 := l2.2
  have b01 : 0 ≤ (bgP us L z).1 := b0.1
  have b02 : 0 ≤ (bgP us L z).2 := b0.2
  refine ⟨⟨in_rep, (in_fit rok bd1).pt, by show 0 ≤ _ * (2 : Int); omega, by show 0 ≤ _ * (2 : Int); omega, (posP_iff r0).mpr (.inl ⟨?_, ?_, ?_⟩)⟩, ⟨half_rep r0, half_fit rok r0 bd2, ?_, ?_, (posP_iff r0).mpr (.inl ⟨?_, ?_, ?_⟩)⟩⟩
  · dsimp only; omega
  · dsimp only; omega
  · dsimp only; omega
  · show 0 ≤ (bgP us L z).1 + (bgP us L z).1 + (L z).1; omega
  · show 0 ≤ (bgP us L z).2 + (bgP us L z).2 + (L z).2; omega
  · show 0 ≤ 2 * (sumP (us.map L)).1 - ((bgP us L z).1 + (bgP us L z).1 + (L z).1); omega
  · show 0 ≤ 2 * (sumP (us.map L)).2 - ((bgP us L z).2 + (bgP us L z).2 + (L z).2); omega
  · show 0 < 2 * (sumP (us.map L)).1 - ((bgP us L z).1 + (bgP us L z).1 + (L z).1) ∨ 0 < 2 * (sumP (us.map L)).2 - ((bgP us L z).2 + (bgP us L z).2 + (L z).2); omega
theorem Pnt.ok {R : Int} {us : List Str} {L L' : Str → Int × Int} {l : List Str} {n : Nm} {P : Int × Int} (r0 : 0 ≤ R) (h : Pnt R us L n P) (e : sumP (l.map L') = sumP (us.map L)) : PtOk R l (inF R L') n := by
  refine ⟨h.fit, ?_, ?_⟩
  · rw [sgn_rep h.rep (by decide)]
    by_cases c : 0 < P.1 ∨ 0 < P.2
    · have : PosP R P.1 P.2 := (posP_iff r0).mpr (.inl ⟨h.x, h.y, c⟩)
      unfold PosP at this
      omega
    · have a : P.1 = 0 := by have := h.x; omega
      have b : P.2 = 0 := by have := h.y; omega
      rw [a, b]
      exact Int.le_refl 0
  · rw [sum_in r0, e, cmp_st2 r0 h.rep]
    have := h.hi
    unfold PosP at this
    omega
section
variable {P : Program} {w : World} {K : PySem.W.Frag} {mg : Str → Option Value} {base : Heap} {C CN CX : Addr}
theorem ok_lpts (T : Bn mg) (D : DefAt K mg "_law_points" s_lpts) (NC : NumT K mg CN) (F__law_roll : FnAt P w K mg base 1 "_law_roll" ["_law_dice_here", "_law_total"] spRoll) (F__law_begins : FnAt P w K mg base 2 "_law_begins" ["_law_row", "_law_lengths"] (spLBegins K)) (F__law_plus : FnAt P w K mg base 1 "_law_plus" ["_law_one", "_law_other"] (spPairs addP))
    (F__law_number : FnAt P w K mg base 5 "_law_number" ["_law_pair", "_law_root"] (spLNum CN)) (M_over : MethAt P w K mg base 7 CN "over" ["self", "other"] (spOver CN)) : FnAt P w K mg base 8 "_law_points" ["_law_dice_here", "_law_world"] (spLPts K CN) := by
  refine fnAt D sc_lpts (fun _ _ _ _ _ _ us hl => match us, hl with | [_, _], _ => rfl) (fun vs H Q E h => ?_) fun f cdv A outer s H vs Q E hr h => ?_
  · obtain ⟨a, W, us, ls, ks, L, R, rfl, _⟩ := h
    rfl
  obtain ⟨a, W, us, ls, ks, L, R, rfl, ha, wa, k⟩ := h
  obtain ⟨U, M, DL, gU, gM, gD, gR, hU, hM, hd⟩ := wa.ex
  have su : ∀ z ∈ us, z ∈ ks := fun z hz => wa.srt.pm.mem_iff.mpr hz
  have nd := wa.rows.nd
  have le : us.length ≤ 1000 := by have := wa.le; omega
  refine ⟨_, (pss_cons (ps_set (i := 2) sc_lpts.nd rfl (Or.inl rfl) (pe_ix ix_tup (callA F__law_begins (hr.mono (by decide)) rfl (pa_cons (pe_dget (hu1 hr) (pv 1) pe_str (fun _ _ => rfl)) (pa_cons (pe_dget (hu1 hr) (pv 1) pe_str (fun _ _ => rfl)) pa_nil))) pe_int (fun _ _ => rfl)))
    (pss_cons (ps_set (i := 3) sc_lpts.nd rfl (Or.inl rfl) (pe_lst pa_nil))
    (pss_cons (ps_for PassesOwn.never rfl (pi_list (pe_dget (hu1 hr) (pv 1) pe_str (fun _ _ => rfl))) (pg_name (i := 4) sc_lpts.nd rfl (Or.inl rfl))
      (pss_cons (ps_par (i := 5) (j := 6) rfl sc_lpts.nd rfl rfl (by decide) rfl rfl (pa_cons (pe_dget (hu1 hr) (pv 2) (pv 4) (fun _ _ => rfl)) (pa_cons (pe_dget (hu1 hr) (pe_dget (hu1 hr) (pv 1) pe_str (fun _ _ => rfl)) (pv 4) (fun _ _ => rfl)) pa_nil)) (by rfl))
    (pss_cons (ps_expr (pe_bm PySem.F.plainAttrs_list PySem.F.slot_list_append PySem.F.type_list_append mt_append (pv 3) (pa_cons (callA F__law_number (hr.mono (by decide)) rfl (pa_cons (pv 5) (pa_cons (pe_dget (hu1 hr) (pv 1) pe_str (fun _ _ => rfl)) pa_nil))) pa_nil)))
    (pss_one (ps_if (pt_cmpR op_eq (callA F__law_roll (hr.mono (by decide)) rfl (pa_cons (pv 0) (pa_cons pe_int pa_nil))) pe_int (nomark _)) (pss_cons (ps_set (i := 7) sc_lpts.nd rfl (Or.inl rfl) (callA F__law_plus (hr.mono (by decide)) rfl (pa_cons (callA F__law_plus (hr.mono (by decide)) rfl (pa_cons (pv 5) (pa_cons (pv 5) pa_nil))) (pa_cons (pv 6) pa_nil))))
    (pss_one (ps_expr (pe_bm PySem.F.plainAttrs_list PySem.F.slot_list_append PySem.F.type_list_append mt_append (pv 3) (pa_cons (methA M_over NC.cl (hr.mono (by decide)) (callA F__law_number (hr.mono (by decide)) rfl (pa_cons (pv 7) (pa_cons (pe_dget (hu1 hr) (pv 1) pe_str (fun _ _ => rfl)) pa_nil))) (pa_cons pe_int pa_nil)) pa_nil))))) pss_nil)))))
    (pss_one (ps_ret (pv 3)))))), ?_⟩
  refine ⟨_, rfl, _, _, rfl, gU, _, rfl, _, _, rfl, gD, _, _, _, _, _, rfl, (SqL.of hU), hd, su, nd, le, fun p1 p1' p1'' H1 e1 h1 h1' h1'' => ?_⟩
  refine ⟨_, _, _, _, rfl, rfl, (SqT.of h1), rfl, (Nat.le_of_ble_eq_true rfl), fun p2 n2 => ?_⟩
  generalize hg3 : upd _ p2 _ = H3
  obtain ⟨e3, h3⟩ := new_facts n2 hg3
  clear hg3
  refine ⟨_, rfl, _, _, rfl, (gU.ext (e1.trans e3)), _, rfl, ⟨_, (SqL.of ((e1.trans e3) _ _ hU))⟩, ?_⟩
  have r0 : 0 ≤ R := by have := wa.ro; omega
  have rok := rtOk_of wa.ro
  refine forL us V.str (fun i σ' H' => ∃ (v5 v6 v7 v8 : Option V) (xs : List V) (ns : List Nm), σ' = [some (.ref a), some (.ref W), some (.ref p1'), some (.ref p2), v5, v6, v7, v8] ∧ Ext H1 H' ∧ H' p2 = some (.lst xs) ∧ RelL (NumV CN) ns xs H' ∧ ns.length ≤ 2 * i ∧ ∀ n ∈ ns, ∃ P, Pnt R us L n P)
    ?_ (fun i σ H' p => ?_) (fun i z σ H5 hz p => ?_) fun σ H5 p => ?_
  · exact ⟨none, none, none, none, [], [], rfl, e3, h3, RelL.nil, Nat.le_refl _, fun n hn => absurd hn List.not_mem_nil⟩
  · obtain ⟨v5, v6, v7, v8, xs, ns, rfl, e5, h5, r5, l5, q5⟩ := p
    exact SqL.of (e5 _ _ (e1 _ _ hU))
  · obtain ⟨v5, v6, v7, v8, xs, ns, rfl, e5, h5, r5, l5, q5⟩ := p
    have mz := List.mem_of_getElem? hz
    have lt := (List.getElem?_eq_some_iff.mp hz).1
    have lx : xs.length ≤ 1000 := by rw [r5.1]; have := wa.le; omega
    have lz := wa.len z mz
    obtain ⟨pn1, pn2⟩ := pnt_beg rok r0 wa.le wa.len mz
    have bd := bg_bd wa.le wa.len (pos us z)
    have z2s : Sz 9000 2 := Sz.mono (n := 3) (by unfold Sz; omega) (by decide)
    have z1 : R = 0 → (bgP us L z).2 = 0 := bd.z
    have z2 : R = 0 → (addP (addP (bgP us L z) (bgP us L z)) (L z)).2 = 0 := ((bd.add bd).add lz.bd).z
    obtain ⟨q1, g1, hq1⟩ := h1'.get mz
    obtain ⟨q2, g2, hq2⟩ := hd.get (su _ mz)
    refine ⟨_, rfl, _, rfl, _, _, rfl, (g1.ext e5), _, rfl, _, _, rfl, (gD.ext (e1.trans e5)), _, rfl, _, _, rfl, (g2.ext (e1.trans e5)), _, _, rfl, _, rfl, (.inl ⟨rfl, ⟨_, (SqL.of h5)⟩⟩), _, rfl, _, rfl, _, _, rfl, (gR.ext (e1.trans e5)), _, _, _, rfl, (e5 _ _ hq1), rok, z1, fun p4 H4 e4 h4 => ?_⟩
    obtain ⟨dx9, d9⟩ := id h4
    refine ⟨_, _, _, rfl, rfl, (e4 _ _ h5), (len_lt (by omega)), ?_⟩
    generalize hg10 : upd _ p2 _ = H10
    obtain ⟨b10, h10⟩ := but_upd (e4 _ _ h5) hg10
    clear hg10
    have e10 := ext_but b10 (e5.trans e4) n2
    refine ⟨_, rfl, _, _, rfl, ((e1.trans e10) _ _ ha), (by omega), z2s, fun v11 h11 h11' => ?_⟩
    refine ⟨rfl, _, rfl, ?_⟩
    have q10 := numv_app (n := inN R (bgP us L z)) r5 e4 h4 (o := HO.lst (xs ++ [V.ref p4])) (e4 _ _ h5)
    have r10 : RelL (NumV CN) (ns ++ [inN R (bgP us L z)]) (xs ++ [V.ref p4]) H10 := ((r5.ext e4).but b10).snoc ⟨p4, rfl, h4.but b10⟩
    clear q10
    have n10 : ∀ n ∈ ns ++ [inN R (bgP us L z)], ∃ P, Pnt R us L n P := fun n hn => by
      rcases List.mem_append.mp hn with hn | hn
      · exact q5 n hn
      · rw [List.mem_singleton.mp hn]
        exact ⟨_, pn1⟩
    have l10 : (ns ++ [inN R (bgP us L z)]).length ≤ 2 * i + 1 := by rw [List.length_append]; show ns.length + 1 ≤ _; omega
    refine ite2 (fun c => ?_) fun c => ?_
    · have hq1' := b10.get (e4 _ _ (e5 _ _ hq1))
      have lx' : (xs ++ [V.ref p4]).length ≤ 1000 := by rw [r10.1]; have := wa.le; omega
      have gT : Good 2000 (inN R (addP (addP (bgP us L z) (bgP us L z)) (L z))) := (in_good rok (((bd.add bd).add lz.bd).mono (by decide))).mono (by decide)
      have g2x : Good 2000 ⟨2, 0, 0, 1⟩ := two_good.mono (by decide)
      refine ⟨_, rfl, _, rfl, _, _, _, _, rfl, hq1', hq1', fun p12 H12 e12 h12 => ?_⟩
      refine ⟨_, rfl, _, _, _, _, rfl, h12, (((e1.trans e10).trans e12) _ _ hq2), fun p13 H13 e13 h13 => ?_⟩
      refine ⟨_, rfl, (.inl ⟨rfl, ⟨_, (SqL.of ((e12.trans e13) _ _ h10))⟩⟩), _, rfl, _, rfl, _, _, rfl, (gR.ext (((e1.trans e10).trans e12).trans e13)), _, _, _, rfl, h13, rok, z2, fun p14 H14 e14 h14 => ?_⟩
      obtain ⟨dx15, d15⟩ := id h14
      refine ⟨_, _, _, rfl, d15, rfl, _, _, _, _, rfl, h14, (.inr ⟨_, ⟨rfl, rfl⟩⟩), gT, g2x, (.inr (.inl rfl)), (by decide), fun p16 H16 e16 h16 => ?_⟩
      obtain ⟨dx17, d17⟩ := id h16
      refine ⟨_, _, _, rfl, rfl, ((((e12.trans e13).trans e14).trans e16) _ _ h10), (len_lt (by omega)), ?_⟩
      generalize hg18 : upd _ p2 _ = H18
      obtain ⟨b18, h18⟩ := but_upd ((((e12.trans e13).trans e14).trans e16) _ _ h10) hg18
      clear hg18
      have e18 := ext_but b18 ((((e10.trans e12).trans e13).trans e14).trans e16) n2
      have r18 : RelL (NumV CN) (ns ++ [inN R (bgP us L z)] ++ [halfN R (addP (addP (bgP us L z) (bgP us L z)) (L z))]) (xs ++ [V.ref p4] ++ [V.ref p16]) H18 := ((r10.ext (((e12.trans e13).trans e14).trans e16)).but b18).snoc ⟨p16, rfl, h16.but b18⟩
      refine ⟨_, _, _, _, _, _, rfl, e18, h18, r18, by rw [List.length_append]; show (ns ++ [inN R (bgP us L z)]).length + 1 ≤ _; omega, fun n hn => ?_⟩
      rcases List.mem_append.mp hn with hn | hn
      · exact n10 n hn
      · rw [List.mem_singleton.mp hn]
        exact ⟨_, pn2⟩
    · exact ⟨_, _, _, _, _, _, rfl, e10, h10, r10, by omega, n10⟩
  · obtain ⟨v5, v6, v7, v8, xs, ns, rfl, e5, h5, r5, l5, q5⟩ := p
    refine ⟨_, rfl, k _ _ _ _ (e1.trans e5) (SqL.of h5) r5 (by have := wa.le; omega) q5⟩
theorem ok_lshift (D : DefAt K mg "_law_shift" s_lshift) (F__law_begins : FnAt P w K mg base 2 "_law_begins" ["_law_row", "_law_lengths"] (spLBegins K)) (F__law_minus : FnAt P w K mg base 1 "_law_minus" ["_law_one", "_law_other"] (spPairs subP)) : FnAt P w K mg base 3 "_law_shift" ["_law_world", "_law_name"] (spLShift K) := by
  refine fnAt D sc_lshift (fun _ _ _ _ _ _ us hl => match us, hl with | [_, _], _ => rfl) (fun vs H Q E h => ?_) fun f cdv A outer s H vs Q E hr h => ?_
  · obtain ⟨W, us, ls, ks, L, R, z, rfl, _⟩ := h
    rfl
  obtain ⟨W, us, ls, ks, L, R, z, rfl, wa, hz, k⟩ := h
  obtain ⟨U, M, DL, gU, gM, gD, gR, hU, hM, hd⟩ := wa.ex
  have su : ∀ z ∈ us, z ∈ ks := fun z hz => wa.srt.pm.mem_iff.mpr hz
  have sl : ∀ z ∈ ls, z ∈ ks := fun z hz => wa.srt.pm.mem_iff.mpr (wa.rows.pm.mem_iff.mp hz)
  have nd := wa.rows.nd
  have nl := wa.rows.symm.nd
  have le : us.length ≤ 1000 := by have := wa.le; omega
  have ll : ls.length ≤ 1000 := by rw [wa.rows.len]; exact le
  have hz2 := wa.rows.pm.mem_iff.mpr hz
  refine ⟨_, (pss_cons (ps_par (i := 2) (j := 3) rfl sc_lshift.nd rfl rfl (by decide) rfl rfl (pa_cons (pe_ix ix_tup (callA F__law_begins (hr.mono (by decide)) rfl (pa_cons (pe_dget (hu1 hr) (pv 0) pe_str (fun _ _ => rfl)) (pa_cons (pe_dget (hu1 hr) (pv 0) pe_str (fun _ _ => rfl)) pa_nil))) pe_int (fun _ _ => rfl)) (pa_cons (pe_ix ix_tup (callA F__law_begins (hr.mono (by decide)) rfl (pa_cons (pe_dget (hu1 hr) (pv 0) pe_str (fun _ _ => rfl)) (pa_cons (pe_dget (hu1 hr) (pv 0) pe_str (fun _ _ => rfl)) pa_nil))) pe_int (fun _ _ => rfl)) pa_nil)) (by rfl))
    (pss_one (ps_ret (callA F__law_minus (hr.mono (by decide)) rfl (pa_cons (pe_dget (hu1 hr) (pv 3) (pv 1) (fun _ _ => rfl)) (pa_cons (pe_dget (hu1 hr) (pv 2) (pv 1) (fun _ _ => rfl)) pa_nil)))))), ?_⟩
  refine ⟨_, rfl, _, _, rfl, gU, _, rfl, _, _, rfl, gD, _, _, _, _, _, rfl, (SqL.of hU), hd, su, nd, le, fun p1 p1' p1'' H1 e1 h1 h1' h1'' =>?_⟩
  refine ⟨_, _, _, _, rfl, rfl, (SqT.of h1), rfl, _, rfl, _, _, rfl, (gM.ext e1), _, rfl, _, _, rfl, (gD.ext e1), _, _, _, _, _, rfl, (SqL.of (e1 _ _ hM)), (hd.ext e1), sl, nl, ll, fun p2 p2' p2'' H2 e2 h2 h2' h2'' =>?_⟩
  refine ⟨_, _, _, _, rfl, rfl, (SqT.of h2), rfl, _, _, rfl, ?_⟩
  obtain ⟨q1, g1, hq1⟩ := h1'.get hz
  obtain ⟨q2, g2, hq2⟩ := h2'.get hz2
  refine ⟨_, rfl, _, rfl, _, _, rfl, g2, _, rfl, _, rfl, _, _, rfl, (g1.ext e2), _, _, _, _, rfl, hq2, (e2 _ _ hq1), fun p3 H3 e3 h3 => ?_⟩
  refine (k _ _ ((e1.trans e2).trans e3) h3)
theorem ok_lbyf (T : Bn mg) (D : DefAt K mg "_law_by_forms" s_lbyf) (OT : OrdT K mg C) (M_form : MethAt P w K mg base 2 C "form" ["self", "one", "other"] (spOForm K C)) (I_order : ItrAt P w K mg base 1 C (spItr K C)) (F__law_plus : FnAt P w K mg base 1 "_law_plus" ["_law_one", "_law_other"] (spPairs addP)) : FnAt P w K mg base 4 "_law_by_forms" ["_law_order", "_law_world", "_law_name"] (spLByF K C) := by
  refine fnAt D sc_lbyf (fun _ _ _ _ _ _ us hl => match us, hl with | [_, _, _], _ => rfl) (fun vs H Q E h => ?_) fun f cdv A outer s H vs Q E hr h => ?_
  · obtain ⟨o, W, us, ls, ks, L, R, z, rfl, _⟩ := h
    rfl
  obtain ⟨o, W, us, ls, ks, L, R, z, rfl, oa, wa, hz, k⟩ := h
  obtain ⟨U, M, DL, gU, gM, gD, gR, hU, hM, hd⟩ := wa.ex
  obtain ⟨oA, oB, oab, na, nb⟩ := id oa
  obtain ⟨odx, oC, od, _⟩ := id oab
  have oat := oab.at
  refine ⟨_, (pss_cons (ps_set (i := 3) sc_lbyf.nd rfl (Or.inl rfl) (pe_tup (pa_cons pe_int (pa_cons pe_int pa_nil))))
    (pss_cons (ps_for PassesOwn.never rfl (pi_ownT I_order (hr.mono (by decide)) (pv 0)) (pg_name (i := 4) sc_lbyf.nd rfl (Or.inl rfl))
      (pss_cons (ps_par (i := 5) (j := 6) rfl sc_lbyf.nd rfl rfl (by decide) rfl rfl (pa_cons (methA M_form OT.cl (hr.mono (by decide)) (pv 0) (pa_cons (pv 2) (pa_cons (pv 4) pa_nil))) (pa_cons (pe_dget (hu1 hr) (pe_dget (hu1 hr) (pv 1) pe_str (fun _ _ => rfl)) (pv 4) (fun _ _ => rfl)) pa_nil)) (by rfl))
    (pss_one (ps_set (i := 3) sc_lbyf.nd rfl (Or.inl rfl) (callA F__law_plus (hr.mono (by decide)) rfl (pa_cons (pv 3) (pa_cons (pe_tup (pa_cons (pe_op op_mulW (pv 5) (pe_ix ix_tup (pv 6) pe_int (fun _ _ => rfl))) (pa_cons (pe_op op_mulW (pv 5) (pe_ix ix_tup (pv 6) pe_int (fun _ _ => rfl))) pa_nil))) pa_nil)))))))
    (pss_one (ps_ret (pv 3))))), ?_⟩
  refine ⟨(Nat.le_of_ble_eq_true rfl), fun p1 n1 => ?_⟩
  generalize hg2 : upd _ p1 _ = H2
  obtain ⟨e2, h2⟩ := new_facts n1 hg2
  clear hg2
  refine ⟨_, rfl, _, _, _, rfl, (e2 _ _ od), fun p3 => ?_⟩
  refine ⟨_, _, _, rfl, (oat.ext e2), fun p4 p4' n4 h4 h4' => ?_⟩
  refine ⟨_, _, rfl, h4, upd_same, ?_⟩
  rw [ItX.dropH_upd n4]
  refine forT us V.str (fun i σ' H' => ∃ (v5 v6 v7 : Option V) (q : Addr), σ' = [some (.ref o), some (.ref W), some (.str z), some (.ref q), v5, v6, v7] ∧ Ext H2 H' ∧ H' q = some (.tup [.int (sumP ((us.take i).map (fmT us ls L z))).1, .int (sumP ((us.take i).map (fmT us ls L z))).2]))
    ?_ (fun i σ H' p => ?_) (fun i y σ H5 hy p => ?_) fun σ H5 p => ?_
  · exact ⟨none, none, none, p1, rfl, ext_refl _, h2⟩
  · obtain ⟨v5, v6, v7, q, rfl, e5, h5⟩ := p
    exact h4'.ext e5
  · obtain ⟨v5, v6, v7, q, rfl, e5, h5⟩ := p
    have my := List.mem_of_getElem? hy
    have ly := wa.len y my
    obtain ⟨q2, g2, hq2⟩ := hd.get (wa.srt.pm.mem_iff.mpr my)
    have tk : us.take (i + 1) = us.take i ++ [y] := take_next hy
    rw [tk, List.map_append, List.map_singleton, sumP_snoc]
    have lf : List.lookup ("form" : Str) (ofs oA oB oC) = none := rfl
    have := ly.x0
    have := ly.x6
    have := ly.y0
    have := ly.y2
    have fb := frm_bound us ls z y
    have c1 : CMulW (frm us ls z y) (L y).1 := cm_small (by omega) (by omega)
    have c2 : CMulW (frm us ls z y) (L y).2 := cm_small (by omega) (by omega)
    refine ⟨_, rfl, _, _, _, rfl, ((e2.trans e5) _ _ od), rfl, _, rfl, _, rfl, _, _, _, _, _, _, _, rfl, (oab.ext (e2.trans e5)), (na.ext (e2.trans e5)), (nb.ext (e2.trans e5)), hz, my, fun H8 e8 => ?_⟩
    refine ⟨_, rfl, _, _, rfl, (gD.ext ((e2.trans e5).trans e8)), _, rfl, _, _, rfl, (g2.ext ((e2.trans e5).trans e8)), _, _, rfl, _, rfl, _, rfl, _, rfl, _, _, _, _, rfl, rfl, (SqT.of (((e2.trans e5).trans e8) _ _ hq2)), rfl, _, _, rfl, rfl, c1, _, rfl, _, rfl, _, _, _, _, rfl, rfl, (SqT.of (((e2.trans e5).trans e8) _ _ hq2)), rfl, _, _, rfl, rfl, c2, (Nat.le_of_ble_eq_true rfl), fun p9 n9 => ?_⟩
    generalize hg10 : upd _ p9 _ = H10
    obtain ⟨e10, h10⟩ := new_facts n9 hg10
    clear hg10
    have h11 : H10 p9 = some (.tup [.int (fmT us ls L z y).1, .int (fmT us ls L z y).2]) := h10
    refine ⟨_, _, _, _, rfl, ((e8.trans e10) _ _ h5), h11, fun p12 H12 e12 h12 => ?_⟩
    refine ⟨_, _, _, _, rfl, (((e5.trans e8).trans e10).trans e12), h12⟩
  · obtain ⟨v5, v6, v7, q, rfl, e5, h5⟩ := p
    rw [List.take_length] at h5
    exact ⟨_, rfl, k _ _ (e2.trans e5) h5⟩
end
end My
namespace My
open PySem PySem.Spec L2
open PySem.Builtin in
theorem samePairsI {prog : Program} {w : World} {κ : Type} [DecidableEq κ] {knd : KeyKind prog w κ} {A : Around} {E : Value → Shared → Prop} {s : Shared} {nm : String} {a b : Addr} {es : Array DictEntry} {ep : Nat} {Q : Bool → Shared → Prop} (I : Nat → Shared → Prop)
    (ha : (a == sysModules) = false) (hb : (b == sysModules) = false)
    (hA : ∀ i s, I i s → ∃ o, s.heap.get? a = some o ∧ o.data = .dict es ep)
    (hB : ∀ i s, I i s → ∃ o esb epb, s.heap.get? b = some o ∧ o.data = .dict esb epb ∧ KeysOf knd esb ∧ esb.size = es.size)
    (step : ∀ i (h : i < es.size) s o esb epb, I i s → s.heap.get? b = some o → o.data = .dict esb epb → ∃ k j f, knd.is k es[i].key = true ∧ es[i].hash = knd.hash k ∧ esb.findIdx? (fun e => knd.is k e.key) = some j ∧ esb[j]? = some f ∧ wpAny (model prog w) A (eqBool es[i].val f.val) (fun r s' => r = true ∧ I (i + 1) s') E s)
    (h0 : I 0 s) (fin : ∀ s, I es.size s → Q true s) : wpAny (model prog w) A (Dict.samePairs nm a b) Q E s := by
  obtain ⟨oa, ga, da⟩ := hA 0 s h0
  obtain ⟨ob, esb, epb, gb, db, kb, sb⟩ := hB 0 s h0
  unfold Dict.samePairs Dict.showsAll
  rw [ha, hb]
  refine wpAny_bind (wpAny_pure (wpAny_bind (wpAny_pure (wpAny_bind (wpAny_dictEntries ga da (wpAny_bind (wpAny_dictEntries gb db ?_)))))))
  dsimp only
  rw [if_neg (by rw [sb]; simp)]
  refine wpAny_bind (wpAny_dictEpoch ga da ?_)
  rw [Std.Legacy.Range.forIn_eq_forIn_range']
  refine wpAny_bind (wpAny_forIn_list _ (fun l b s' => b = (none, ()) ∧ ∃ i, l = List.range' i (es.size - i) ∧ i ≤ es.size ∧ I i s') _ ?_ ?_ _ _ ⟨rfl, 0, by simp [Std.Legacy.Range.size], Nat.zero_le _, h0⟩)
  · rintro x rest b' s' ⟨rfl, i, hl, le, hi⟩
    have lt : i < es.size := by
      rcases Nat.lt_or_ge i es.size with c | c
      · exact c
      · rw [show es.size - i = 0 by omega] at hl
        simp at hl
    obtain ⟨n, hn⟩ : ∃ n, es.size - i = n + 1 := ⟨es.size - i - 1, by omega⟩
    rw [hn, List.range'_succ] at hl
    obtain ⟨rfl, hr⟩ := List.cons.inj hl
    obtain ⟨o1, g1, d1⟩ := hA x s' hi
    obtain ⟨o2, es2, ep2, g2, d2, k2, s2⟩ := hB x s' hi
    obtain ⟨k, j, f, q1, q2, q3, q4, q5⟩ := step x lt s' o2 es2 ep2 hi g2 d2
    refine wpAny_bind (wpAny_dictEntries g1 d1 ?_)
    rw [Array.getElem?_eq_getElem lt]
    dsimp only
    refine wpAny_bind (wpAny_holding ?_)
    rw [q2]
    refine wpAny_bind (wpAny_dictFind_of q1 g2 d2 k2 ?_)
    rw [q3]
    dsimp only
    refine wpAny_bind (wpAny_dictEntries g2 d2 ?_)
    rw [q4]
    dsimp only
    refine wpAny_holding (wpAny_mono q5 ?_ fun _ _ h => h)
    rintro r s3 ⟨rfl, h3⟩
    obtain ⟨o3, g3, d3⟩ := hA _ s3 h3
    rw [if_neg (by decide)]
    refine wpAny_bind (wpAny_dictEpoch g3 d3 ?_)
    rw [if_neg (by simp)]
    refine wpAny_pure ⟨rfl, x + 1, ?_, lt, h3⟩
    rw [hr]
    congr 1
    omega
  · rintro b' s' ⟨rfl, i, hl, le, hi⟩
    have : i = es.size := by
      have := congrArg List.length hl
      simp at this
      omega
    subst this
    exact wpAny_pure (fin _ hi)
open PySem.Builtin in
theorem args_ne (a b : Addr) : Dict.dictSlotArgs "__ne__" { pos := [Value.ref a, Value.ref b] } = pure (Value.ref a, Value.ref b) := rfl
theorem sub_dict : isSubtype (Value.type "dict") (Value.type "dict") = pure true := by rfl
section
variable {prog : Program} {w : World} {A : Around} {E : Value → Shared → Prop} {s : Shared} {a b : Addr} {Q : Value → Shared → Prop}
open PySem.Builtin in
theorem rc_dict_ne (ta : s.TypeIs (.ref a) "dict") (tb : s.TypeIs (.ref b) "dict") (hu : A.units < cLine) (h : wpAny (model prog w) A.in1 (Dict.samePairs "dict.__ne__" a b) (fun r s' => Q (.bool (r == false)) s') E s) : wpAny (model prog w) A (richCompare .NotEq (.ref a) (.ref b)) Q E s := by
  refine wpAny_richCompare_same_room ta tb PySem.F.slot_dict_ne (wpAny_call_entry PySem.F.slot_dict_ne ta PySem.F.entry_dict_ne ?_ (by trivial)) hu
  refine show wpAny _ _ (Dict.dictSlotArgs "__ne__" { pos := [Value.ref a, Value.ref b] } >>= _) _ _ _ from ?_
  rw [args_ne]
  refine wpAny_bind (wpAny_pure (wpAny_bind (wpAny_isInstance tb sub_dict ?_)))
  rw [if_neg (by decide)]
  refine wpAny_bind (wpAny_pure (wpAny_bind (wpAny_pure (wpAny_bind (wpAny_mono h ?_ fun _ _ h => h)))))
  intro r s' q
  exact wpAny_pure ⟨_, rfl, (fun c => by cases c), q⟩
end
end My
namespace My
open PySem PySem.Spec L2
/-- two dicts with the same keys, their values alike by D -/
def DDict (D : Eqv) : Eqv := fun x y H => ∃ (a b : Addr) (ka kb : List (Key × V)), x = .ref a ∧ y = .ref b ∧ a ≠ b ∧ H a = some (.dK ka) ∧ H b = some (.dK kb) ∧ ka.length = kb.length ∧ ∀ k v, (k, v) ∈ ka → ∃ v', valV kb k = some v' ∧ ∀ oa, D v v' (upd H a (.frz oa (.dK ka)))
theorem pairs_find {prog : Program} {w : World} {κ : Type} [DecidableEq κ] {knd : KeyKind prog w κ} {k : κ} {y : Value} : ∀ {es : List DictEntry} {kvs : List (κ × Value)}, Pairs knd es kvs → valueAt kvs k = some y → ∃ j f, es.findIdx? (fun e => knd.is k e.key) = some j ∧ es[j]? = some f ∧ f.val = y
  | [], [], .nil, h => by cases h
  | e :: es, kv :: kvs, .cons h1 h2 h3, h => by
    by_cases c : kv.1 = k
    · have hv : kv.2 = y := by
        unfold valueAt at h
        simpa [List.find?_cons, c] using h
      refine ⟨0, e, ?_, rfl, h2.trans hv⟩
      rw [List.findIdx?_cons, if_pos (c ▸ h1)]
    · have hv : valueAt kvs k = some y := by
        unfold valueAt at h ⊢
        simpa [List.find?_cons, c] using h
      obtain ⟨j, f, a, b, d⟩ := pairs_find h3 hv
      refine ⟨j + 1, f, ?_, by rw [List.getElem?_cons_succ]; exact b, d⟩
      rw [List.findIdx?_cons, if_neg fun q => c (knd.inj _ _ _ h1 q), a]
      rfl
theorem pairs_at {prog : Program} {w : World} {κ : Type} [DecidableEq κ] {knd : KeyKind prog w κ} : ∀ {es : List DictEntry} {kvs : List (κ × Value)}, Pairs knd es kvs → es.length = kvs.length ∧ ∀ (i : Nat) e, es[i]? = some e → ∃ kv, kvs[i]? = some kv ∧ knd.is kv.1 e.key = true ∧ e.val = kv.2
  | [], [], .nil => ⟨rfl, fun i e h => by simp at h⟩
  | e :: es, kv :: kvs, .cons h1 h2 h3 => by
    obtain ⟨l, g⟩ := pairs_at h3
    refine ⟨by rw [List.length_cons, List.length_cons, l], fun i e' h => ?_⟩
    match i, h with
    | 0, h => cases h; exact ⟨kv, rfl, h1, h2⟩
    | i + 1, h => exact g i e' h
theorem kv_at {κ : Type} : ∀ {ka : List (κ × V)} {vs : List (κ × Value)}, KV ka vs → ka.length = vs.length ∧ ∀ (i : Nat) p, vs[i]? = some p → ∃ v, ka[i]? = some (p.1, v) ∧ RelV v p.2
  | [], [], .nil => ⟨rfl, fun i e h => by simp at h⟩
  | (k, v) :: ka, q :: vs, .cons h1 h2 => by
    obtain ⟨l, g⟩ := kv_at h2
    refine ⟨by rw [List.length_cons, List.length_cons, l], fun i e' h => ?_⟩
    match i, h with
    | 0, h =>
      cases h
      obtain ⟨e1, e2⟩ := h1
      exact ⟨v, by rw [List.getElem?_cons_zero, ← e1], e2⟩
    | i + 1, h => exact g i e' h
section
variable {X : Cx} {n : Nat} {D : Eqv}
theorem loopD (mon : Mon D) (g : EqG X n D) {A : Around} {pins : List (Addr × Obj)} {s : Shared} {σ : L2.St} {H : Hp} {a b : Addr} {ka kb : List (Key × V)} {nm : String} {Q : Bool → Shared → Prop} (sub : Sub X n A) (inv : L2.Inv X pins σ H s) (ne : a ≠ b) (ha : H a = some (.dK ka)) (hb : H b = some (.dK kb)) (len : ka.length = kb.length)
    (hD : ∀ k v, (k, v) ∈ ka → ∃ v', valV kb k = some v' ∧ ∀ oa, D v v' (upd H a (.frz oa (.dK ka)))) (q : ∀ s', (∃ H', L2.Inv X pins σ H' s' ∧ Ext H H') → Q true s') : wpAny (model X.prog X.w) A (PySem.Builtin.Dict.samePairs nm a b) Q X.xe s := by
  obtain ⟨oa, inv1⟩ := inv.lock ha trivial
  obtain ⟨na, ga, _, es, ep, vs, da, sz, kv, dA⟩ := inv1.frzK upd_same
  obtain ⟨oa', es', ga', _, da', kok, prs, _⟩ := dA
  obtain rfl : oa' = oa := Option.some.inj (ga'.symm.trans ga)
  have : es' = es := by rw [da] at da'; injection da' with z _; exact z.symm
  subst this
  obtain ⟨lp, pa⟩ := pairs_at prs
  obtain ⟨lk, kva⟩ := kv_at kv
  have Hb : ∀ H', Ext (upd H a (.frz oa' (.dK ka))) H' → H' b = some (.dK kb) := fun H' e => e _ _ (by rw [upd_ne (Ne.symm ne)]; exact hb)
  have okb : ∀ s' H', L2.Inv X pins σ H' s' → Ext (upd H a (.frz oa' (.dK ka))) H' → (b == sysModules) = false ∧ ∃ vb, KV kb vb ∧ Heap.DictOf (mixKind X.prog X.w) s'.heap b vb := fun s' H' i e => by
    have := i.hok b _ (Hb H' e)
    simp only [ObjOk] at this
    exact ⟨this.2.1, this.2.2⟩
  refine samePairsI (knd := mixKind X.prog X.w) (es := es') (ep := ep) (fun _ s' => ∃ H', L2.Inv X pins σ H' s' ∧ Ext (upd H a (.frz oa' (.dK ka))) H') na (okb s _ inv1 (ext_refl _)).1 ?_ ?_ ?_ ⟨_, inv1, ext_refl _⟩ ?_
  · rintro i s' ⟨H', i', e'⟩
    obtain ⟨_, g1, _⟩ := i'.frzK (e' _ _ upd_same)
    exact ⟨_, g1, da⟩
  · rintro i s' ⟨H', i', e'⟩
    obtain ⟨_, vb, kvb, ob, esb, epb, gb, _, db, kob, pb, _⟩ := okb s' H' i' e'
    refine ⟨ob, esb, epb, gb, db, kob, ?_⟩
    have := (pairs_at pb).1
    have := (kv_at kvb).1
    have e1 : esb.toList.length = esb.size := Array.length_toList
    have e2 : es'.toList.length = es'.size := Array.length_toList
    omega
  · rintro i hi s' ob esb epb ⟨H', i', e'⟩ gb db
    obtain ⟨_, vb, kvb, ob', esb', epb', gb', _, db', kob, pb, _⟩ := okb s' H' i' e'
    obtain rfl : ob' = ob := Option.some.inj (gb'.symm.trans gb)
    have : esb' = esb := by rw [db] at db'; injection db' with z _; exact z.symm
    subst this
    have gi : es'.toList[i]? = some es'[i] := by rw [List.getElem?_eq_getElem (by rw [Array.length_toList]; exact hi)]; rfl
    obtain ⟨p, hp, h1, h2⟩ := pa i _ gi
    obtain ⟨v, hv, rv⟩ := kva i p hp
    obtain ⟨v', hv', hd⟩ := hD p.1 v (List.mem_of_getElem? hv)
    have rel := kvb.val p.1
    rw [hv'] at rel
    obtain ⟨y, hy, ry⟩ : ∃ y, valueAt vb p.1 = some y ∧ RelV v' y := by
      cases c : valueAt vb p.1 with
      | none => rw [c] at rel; exact absurd rel (by simp [RelO])
      | some y => rw [c] at rel; exact ⟨y, rfl, by simpa [RelO] using rel⟩
    obtain ⟨j, f, f1, f2, f3⟩ := pairs_find pb hy
    obtain ⟨k', k1, k2⟩ := kok es'[i] (Array.getElem_mem hi)
    have ek : k' = p.1 := (mixKind X.prog X.w).inj _ _ _ k1 h1
    refine ⟨p.1, j, f, h1, ek ▸ k2, ?_, ?_, ?_⟩
    · rw [← f1]
      cases esb'
      simp
    · rw [← f2]
      simp
    · rw [h2, f3]
      refine wpAny_mono (g A pins s' σ H' v v' p.2 y sub i' rv ry (mon _ _ _ _ e' (hd oa'))) ?_ fun _ _ h => h
      rintro r s2 ⟨rfl, H2, i2, e2⟩
      exact ⟨rfl, H2, i2, fun c o z => e2 _ _ (e' _ _ z)⟩
  · rintro s' ⟨H', i', e'⟩
    exact q s' ⟨_, i'.unlock (e' _ _ upd_same) (inv.nofrz ha trivial), lock_ext ha e'⟩
end
end My
namespace My
open PySem PySem.Spec PyProof.Rows L2
section
variable {X : Cx} {n : Nat} {D : Eqv}
theorem dict_ty {pins : List (Addr × Obj)} {s : Shared} {σ : L2.St} {H : Hp} {a : Addr} {ka : List (Key × V)} (inv : L2.Inv X pins σ H s) (ha : H a = some (.dK ka)) : s.TypeIs (.ref a) "dict" := by
  have := inv.hok a _ ha
  simp only [ObjOk] at this
  obtain ⟨_, _, vs, _, o, es, ep, g, ex, _⟩ := this
  exact ⟨o, g, ex.1⟩
def rNeG (D : Eqv) : R2 := fun x y H Q => D x y H ∧ ∀ H', Ext H H' → Q (.bl false) H'
theorem op_neDO (mon : Mon D) (g : EqG X n D) (hr : Room (n + 1) X.A) : OpR X (compareOp .NotEq) (rNeG (DDict D)) := by
  rintro pins s σ H x y v u Q inv rx ry ⟨⟨a, b, ka, kb, rfl, rfl, ne, ha, hb, len, hD⟩, k⟩
  cases rx
  cases ry
  have sub : Sub X (n + 1) X.A := ⟨hr, rfl⟩
  refine rc_dict_ne (dict_ty inv ha) (dict_ty inv hb) ?_ ?_
  · have := hr.un; omega
  · exact loopD mon g sub.in1 inv ne ha hb len hD fun s' ⟨H', i', e'⟩ => ⟨.bl false, H', i', rfl, k H' e'⟩
end
def NumSame (CN : Addr) : Addr → Addr → Hp → Prop := fun a b H => ∃ n, NumAt CN H a n ∧ NumAt CN H b n
theorem mon_num {CN : Addr} : Mon (DIns CN (NumSame CN)) := mon_ins fun a b H H' e ⟨n, x, y⟩ => ⟨n, x.ext e, y.ext e⟩
theorem eqG_num {X : Cx} {CN : Addr} (S_eq : SpAt X.prog X.w X.K X.mg X.base 1 CN "__eq__" ["self", "other"] (spEqN CN)) : EqG X 1 (DIns CN (NumSame CN)) := by
  obtain ⟨f, fd, hs, hf, hb, F⟩ := S_eq.ex
  have G : FnOk X.prog X.w X.K X.mg X.base CX0 1 f fd ["self", "other"] (spEq (NumSame CN)) := F.imp fun vs H Q E h => by
    obtain ⟨a, b, rfl, ⟨n, oa, ob⟩, q⟩ := h
    refine ⟨a, b, n, n, rfl, oa, ob, ?_⟩
    rw [decide_eq_true rfl]
    exact q H (ext_refl H)
  exact eqG_ins G hs hf hb pass0
theorem neDN {X : Cx} {CN : Addr} (S_eq : SpAt X.prog X.w X.K X.mg X.base 1 CN "__eq__" ["self", "other"] (spEqN CN)) (hr : Room 2 X.A) : OpR X (compareOp .NotEq) (rNeG (DDict (DIns CN (NumSame CN)))) := op_neDO mon_num (eqG_num S_eq) hr
end My
namespace My
open PySem PySem.Spec PyProof.Rows L2
structure CallAt (P : Program) (w : World) (K : PySem.W.Frag) (mg : Str → Option Value) (base : Heap) (k : Nat) (C : Addr) (ps : List Str) (sp : Sp) : Prop where
  ex : ∃ f fd, StX.CallO K C f ∧ Binds K fd ps [] ∧ FnOk P w K mg base CX0 k f fd ps sp
section
variable {P : Program} {w : World} {K : PySem.W.Frag} {mg : Str → Option Value} {base : Heap} {C CN CX : Addr}
theorem ok_xcallO (D : SpT K CX "__call__" "Exchange.__call__" s_xcall) (SX_call : SpAt P w K mg base 11 CX "__call__" ["self", "point"] (spXCall K C CN CX)) : CallAt P w K mg base 11 CX ["self", "point"] (spXCall K C CN CX) := by
  obtain ⟨f1, fd1, h1, i1, F⟩ := D.ex
  obtain ⟨f2, fd2, h2, i2, hb, G⟩ := SX_call.ex
  cases h1.symm.trans h2
  obtain ⟨oc, od, kV, doc, pm, an, cdv, ct, osl, _, lk, _⟩ := F.ex
  exact ⟨f1, fd2, ⟨h1, i1, by unfold PySem.W.fnIn; rw [lk]⟩, hb, G⟩
end
section
variable {X : Cx} {k : Nat} {C : Addr} {ps : List Str} {sp : Sp} {e fe : Expr} {es : List Expr} {tf : TE} {t : TA} {pos : Pos}
theorem callOA (F : CallAt X.prog X.w X.K X.mg X.base k C ps sp) (hr : Room k X.A) (hf : PE X fe tf) (ha : PA X (e :: es) t)
    (h1 : eval (fe.Call (e :: es) [] pos) X.env = (do
      let f ← eval fe X.env
      callWith pos f [] (backTo pos (starEach (e :: es) X.env)) (backToKw pos (keywordEach [] X.env))) := by rfl)
    (h2 : starEach (e :: es) X.env = (false, eval e X.env) :: starEach es X.env := by rfl) (h3 : (backTo pos (starEach es X.env)).any (fun x => x.1) = false := by rfl) :
    PE X (fe.Call (e :: es) [] pos) (StX.tCallO X C (fun vs H Q E => sp (vs ++ []) H Q E) E0 tf t) := by
  obtain ⟨f, fd, c, hb, G⟩ := F.ex
  exact StX.pe_callO hf c (G.raw hb .nil) hr pass0 ha h1 h2 h3
end
end My
namespace My
open PySem PySem.Spec PyProof.Rows L2
section
variable {X : Cx}
def tRevF (K : PySem.W.Frag) (te : TE) : TE := fun σ H Q => te σ H fun x H1 => ∃ a xs, x = .ref a ∧ SqT K H1 a xs ∧ ∀ p, NewT p xs.reverse H1 Q
theorem pe_revF {e : Expr} {te : TE} {k : Nat} {p1 p2 p3 pos : Pos} (he : PE X e te) : PE X (.Subscript e (.Slice none none (some (.UnaryOp .USub (.Constant (.int 1) k p1) p2)) p3) pos) (tRevF X.K te) := by
  refine ⟨fun pins s σ H Q I h => ?_⟩
  refine Subscript_ (thn (he.run pins s σ H _ I h) fun v s1 ⟨x, H1, I1, r1, q1⟩ => ?_)
  obtain ⟨a, xs, ex, hx, q⟩ := q1
  subst ex
  cases r1
  have hst : PO X (some (.UnaryOp .USub (.Constant (.int 1) k p1) p2)) (tPart (tUn (rU fun i => .int (-i)) (tC (.int 1)))) := po_some (pe_un un_neg pe_int)
  refine wpAny_Slice (thn (po_none.run pins s1 σ H1 (fun o H2 => o = none ∧ H2 = H1) I1 ⟨rfl, rfl⟩) fun vl s2 ⟨l, H2, I2, pl, el, e2⟩ => ?_)
  subst el e2
  refine thn (po_none.run pins s2 σ H2 (fun o H3 => o = none ∧ H3 = H2) I2 ⟨rfl, rfl⟩) fun vu s3 ⟨u, H3, I3, pu, eu, e3⟩ => ?_
  subst eu e3
  refine thn (hst.run pins s3 σ H3 (fun o H4 => o = some (-1) ∧ H4 = H3) I3 ⟨1, rfl, -1, rfl, rfl, rfl⟩) fun vs s4 ⟨o, H4, I4, ps, eo, e4⟩ => ?_
  subst eo e4
  cases pl
  cases pu
  have I5 : Inv X pins σ H4 { s4 with heap := s4.heap.push { cls := .type "slice", data := .fields #[.none, .none, vs] } } := I4.kept (t' := s4.toks) fun b ob q => Heap.get?_push_of_some _ q
  obtain ⟨its, r, ht, hz⟩ := I5.tuple hx
  have hlen := r.length
  show wpAny (model X.prog X.w) X.A (subscriptTail e (.Slice none none (some (.UnaryOp .USub (.Constant (.int 1) k p1) p2)) p3) (.ref a) (.ref s4.heap.objs.size)) (EP X pins σ Q) X.xe { s4 with heap := s4.heap.push { cls := .type "slice", data := .fields #[.none, .none, vs] } }
  refine tail_any (ops := [.ref a, .ref s4.heap.objs.size]) ht.typeIs (PyProof.Rows.slot_tuple_getitem.lookup) ?_ (by with_unfolding_all rfl)
  refine getItem_tuple_rev ht (Heap.IsSliceOf.new _ .none .none vs) ps ?_ (by rw [List.size_toArray]; omega)
  exact ⟨.ref _, _, laidT I5 r.reverse (by rw [List.length_reverse]; exact hz), rfl, q _ _ (I5.hok.fresh (Nat.le_refl _)) rfl⟩
end
end My
namespace My
open PySem PySem.Spec PyProof.Rows L2
local macro_rules | `(tactic| walk_at "side") => `(tactic| first | assumption | decide | exact Or.inl ⟨by decide, by decide⟩ | exact Or.inr ⟨by decide, by decide⟩ | exact ⟨by decide, by decide, by decide⟩ | omega | (unfold CMulW; decide +kernel) | (dsimp only; first | assumption | omega | decide +kernel) | exact len_ok (Nat.le_of_ble_eq_true rfl) | fail "side")
local macro_rules | `(tactic| walk_at "rd") => `(tactic| first
  | refine ⟨_, _, _, _, rfl, rfl, SqL.of upd_same, atI_nat (j := 0) rfl, ?_⟩ | refine ⟨_, _, _, _, rfl, rfl, SqL.of upd_same, atI_nat (j := 1) rfl, ?_⟩ | refine ⟨_, _, _, _, rfl, rfl, SqL.of upd_same, atI_nat (j := 2) rfl, ?_⟩
  | refine ⟨_, _, _, _, rfl, rfl, upd_same, rfl, ?_⟩
  | refine ⟨_, _, rfl, rfl, ?_⟩ | refine ⟨_, rfl, ?_⟩ | refine ⟨_, _, rfl, ?_⟩ | refine Or.inl ⟨_, rfl, ?_⟩ | refine Or.inr ⟨_, rfl, ?_⟩ | refine ⟨(by walk_at "side"), ?_⟩ | fail "rd")
end My
namespace My
open PySem PySem.Spec PyProof.Rows L2
local macro_rules | `(tactic| walk_at "side") => `(tactic| first | assumption | decide | exact Or.inl ⟨by decide, by decide⟩ | exact Or.inr ⟨by decide, by decide⟩ | exact ⟨by decide, by decide, by decide⟩ | omega | (unfold CMulW; decide +kernel) | (dsimp only; first | assumption | omega | decide +kernel) | exact len_ok (Nat.le_of_ble_eq_true rfl) | fail "side")
local macro_rules | `(tactic| walk_at "rd") => `(tactic| first
  | refine ⟨_, _, _, _, rfl, rfl, SqL.of upd_same, atI_nat (j := 0) rfl, ?_⟩ | refine ⟨_, _, _, _, rfl, rfl, SqL.of upd_same, atI_nat (j := 1) rfl, ?_⟩ | refine ⟨_, _, _, _, rfl, rfl, SqL.of upd_same, atI_nat (j := 2) rfl, ?_⟩
  | refine ⟨_, _, _, _, rfl, rfl, upd_same, rfl, ?_⟩
  | refine ⟨_, _, rfl, rfl, ?_⟩ | refine ⟨_, rfl, ?_⟩ | refine ⟨_, _, rfl, ?_⟩ | refine Or.inl ⟨_, rfl, ?_⟩ | refine Or.inr ⟨_, rfl, ?_⟩ | refine ⟨(by walk_at "side"), ?_⟩ | fail "rd")
abbrev s_oinverse2 : Stmt := inClass (top 40) 10
theorem sc_oinverse2 : FnScope ["self"] ["self"] (defScope s_oinverse2) := ⟨rfl, rfl, rfl, by decide +kernel, rfl, by decide +kernel, by decide +kernel⟩
abbrev s_oback2 : Stmt := inClass (top 40) 11
theorem sc_oback2 : FnScope ["self"] ["self"] (defScope s_oback2) := ⟨rfl, rfl, rfl, by decide +kernel, rfl, by decide +kernel, by decide +kernel⟩
/-- an order made of another one whose rows have no dict: so have its own -/
def spOrdN (K : PySem.W.Frag) (C : Addr) (f g : List Str → List Str → List Str) : Sp := fun vs H Q _ => ∃ o zs ys, vs = [.ref o] ∧ OrdN K C H o zs ys ∧ ∀ x H', Ext H H' → OrdN K C H' x (f zs ys) (g zs ys) → Q (.ref x) H'
section
variable {P : Program} {w : World} {K : PySem.W.Frag} {mg : Str → Option Value} {base : Heap} {C : Addr}
theorem ok_oinverseN (D : MethT K C "inverse" "Order.inverse" s_oinverse2) (OT : OrdT K mg C) (F_init : OInitAt P w K mg base 5 C (spOInit K C)) : MethAt P w K mg base 7 C "inverse" ["self"] (spOrdN K C (fun _ ys => ys) (fun zs _ => zs)) := by
  refine methAt D sc_oinverse2 (fun _ _ _ _ _ _ us hl => match us, hl with | [_], _ => rfl) (fun vs H Q E h => ?_) fun f cdv A outer s H vs Q E hr h => ?_
  · obtain ⟨o, zs, ys, rfl, _⟩ := h
    rfl
  obtain ⟨o, zs, ys, rfl, ⟨a, b, ⟨dx, c, e, ha, hb, hc, ro⟩, na, nb⟩, k⟩ := h
  refine ⟨_, (pss_one (ps_ret (mkO F_init OT (hr.mono (by decide)) (pa_cons (pe_fld (pv 0) rfl) (pa_cons (pe_fld (pv 0) rfl) pa_nil))))), _, rfl, o, C, dx, _, _, rfl, e, OT.cl, OT.nB, ofs_b a b c, _, rfl, o, C, dx, _, _, rfl, e, OT.cl, OT.nA, ofs_a a b c, ?_⟩
  exact mkO_useB (fun _ => rfl) hb ha ro.symm fun x H' e' q => k x H' e' ⟨_, _, q, nb.ext e', na.ext e'⟩
theorem ok_obackN (D : MethT K C "backwards" "Order.backwards" s_oback2) (OT : OrdT K mg C) (F_init : OInitAt P w K mg base 5 C (spOInit K C)) : MethAt P w K mg base 7 C "backwards" ["self"] (spOrdN K C (fun zs _ => zs.reverse) (fun _ ys => ys.reverse)) := by
  refine methAt D sc_oback2 (fun _ _ _ _ _ _ us hl => match us, hl with | [_], _ => rfl) (fun vs H Q E h => ?_) fun f cdv A outer s H vs Q E hr h => ?_
  · obtain ⟨o, zs, ys, rfl, _⟩ := h
    rfl
  obtain ⟨o, zs, ys, rfl, ⟨a, b, ⟨dx, c, e, ha, hb, hc, ro⟩, na, nb⟩, k⟩ := h
  refine ⟨_, (pss_one (ps_ret (mkO F_init OT (hr.mono (by decide)) (pa_cons (pe_revF (pe_fld (pv 0) rfl)) (pa_cons (pe_revF (pe_fld (pv 0) rfl)) pa_nil))))), _, rfl, o, C, dx, _, _, rfl, e, OT.cl, OT.nA, ofs_a a b c, a, _, rfl, ha, newT_use (K := K) fun p H1 e1 h1 n1 => ?_⟩
  refine ⟨_, rfl, o, C, dx, _, _, rfl, e1 _ _ e, OT.cl, OT.nB, ofs_b a b c, b, _, rfl, hb.ext e1, newT_use (K := K) fun q H2 e2 h2 n2 => ?_⟩
  rw [← List.map_reverse] at h1 h2
  exact mkO_useB (fun _ => rfl) (h1.ext e2) h2 ro.rev fun x H' e' q => k x H' ((e1.trans e2).trans e') ⟨_, _, q, (n1.ext e2).ext e', n2.ext e'⟩
end
end My
namespace My
open PySem PySem.Spec L2
def cutL (l : List Str) (p : Nat × Nat) : List Str := (l.take p.2).drop p.1
theorem cuts_flat {zs ys l : List Str} (hl : l.length = zs.length) (pl : pre zs ys zs.length = true) : ∀ d i b, b ≤ i → i + d = zs.length → (d = 0 → b = i) → (((b :: cutsN zs ys i d).zip (cutsN zs ys i d)).map (cutL l)).flatten = l.drop b
  | 0, i, b, h1, h2, h3 => by
    rw [cutsN]
    have : b = l.length := by have := h3 rfl; omega
    rw [this, List.drop_length]
    rfl
  | d + 1, i, b, h1, h2, h3 => by
    rw [cutsN]
    by_cases c : pre zs ys (i + 1) = true
    · rw [if_pos c, List.zip_cons_cons, List.map_cons, List.flatten_cons, cuts_flat hl pl d (i + 1) (i + 1) (Nat.le_refl _) (by omega) fun _ => rfl]
      unfold cutL
      dsimp only
      have e : l.drop b = (l.take (i + 1) ++ l.drop (i + 1)).drop b := by rw [List.take_append_drop]
      rw [e, List.drop_append_of_le_length (by rw [List.length_take]; omega)]
    · rw [if_neg c]
      refine cuts_flat hl pl d (i + 1) b (by omega) (by omega) fun d0 => ?_
      exfalso
      refine c ?_
      rw [show i + 1 = zs.length by omega]
      exact pl
theorem pre_all {zs ys : List Str} (ro : RowsOk zs ys) : pre zs ys zs.length = true := by
  refine pre_iff.mpr fun x hx => ?_
  rw [List.take_of_length_le (by rw [ro.len]; exact Nat.le_refl _)]
  exact ro.pm.mem_iff.mpr (List.mem_of_mem_take hx)
theorem blks_flat1 {zs ys : List Str} (ro : RowsOk zs ys) : ((blks zs ys).map Prod.fst).flatten = zs := by
  have := cuts_flat (l := zs) rfl (pre_all ro) zs.length 0 0 (Nat.le_refl _) (by omega) fun _ => rfl
  unfold blks
  rw [List.map_map]
  exact this
theorem blks_flat2 {zs ys : List Str} (ro : RowsOk zs ys) : ((blks zs ys).map Prod.snd).flatten = ys := by
  have := cuts_flat (l := ys) ro.len (pre_all ro) zs.length 0 0 (Nat.le_refl _) (by omega) fun _ => rfl
  unfold blks
  rw [List.map_map]
  exact this
theorem cuts_gap {zs ys : List Str} : ∀ d i b, b ≤ i → (∀ e, b < e → e ≤ i → ¬ pre zs ys e = true) → ∀ p ∈ (b :: cutsN zs ys i d).zip (cutsN zs ys i d), ∀ e, p.1 < e → e < p.2 → ¬ pre zs ys e = true
  | 0, i, b, _, _, p, hp => by rw [cutsN] at hp; simp at hp
  | d + 1, i, b, hb, g, p, hp => by
    rw [cutsN] at hp
    by_cases c : pre zs ys (i + 1) = true
    · rw [if_pos c, List.zip_cons_cons] at hp
      rcases List.mem_cons.mp hp with q | q
      · subst q
        intro e h1 h2
        exact g e h1 (by have : e < i + 1 := h2; omega)
      · exact cuts_gap d (i + 1) (i + 1) (Nat.le_refl _) (fun e h1 h2 => absurd h1 (by omega)) p q
    · rw [if_neg c] at hp
      refine cuts_gap d (i + 1) b (by omega) (fun e h1 h2 => ?_) p hp
      by_cases z : e = i + 1
      · rw [z]; exact c
      · exact g e h1 (by omega)
theorem cuts_one {zs ys : List Str} : ∀ d i, (∀ e, i < e → e < i + d + 1 → ¬ pre zs ys e = true) → pre zs ys (i + d + 1) = true → cutsN zs ys i (d + 1) = [i + d + 1]
  | 0, i, _, h => by
    rw [cutsN, if_pos h, cutsN]
  | d + 1, i, g, h => by
    rw [cutsN, if_neg (g (i + 1) (by omega) (by omega)), cuts_one d (i + 1) (fun e h1 h2 => g e (by omega) (by omega)) (by rw [show i + 1 + d + 1 = i + (d + 1) + 1 by omega]; exact h)]
    rw [show i + 1 + d + 1 = i + (d + 1) + 1 by omega]
theorem pre_cut {zs ys : List Str} {p : Nat × Nat} {e : Nat} (hp : pre zs ys p.1 = true) (h : pre (cutP zs ys p).1 (cutP zs ys p).2 e = true) (le : p.1 + e ≤ p.2) (l : p.2 ≤ zs.length) (ly : ys.length = zs.length) : pre zs ys (p.1 + e) = true := by
  refine pre_iff.mpr fun x hx => ?_
  rw [List.take_add] at hx ⊢
  rcases List.mem_append.mp hx with hx | hx
  · exact List.mem_append_left _ (pre_iff.mp hp x hx)
  · refine List.mem_append_right _ ?_
    have key : ∀ m : List Str, ((m.take p.2).drop p.1).take e = (m.drop p.1).take e := fun m => by
      rw [List.drop_take, List.take_take, Nat.min_eq_left (by omega)]
    have := pre_iff.mp h x (by show x ∈ ((zs.take p.2).drop p.1).take e; rw [key]; exact hx)
    have this : x ∈ ((ys.take p.2).drop p.1).take e := this
    rw [key] at this
    exact this
theorem blk_whole {zs ys : List Str} (ro : RowsOk zs ys) {r : List Str × List Str} (h : r ∈ blks zs ys) (l2 : 2 ≤ r.1.length) : RowsOk r.1 r.2 ∧ wholeB r.1 r.2 = true := by
  unfold blks at h
  obtain ⟨p, hp, rfl⟩ := List.mem_map.mp h
  have cp := cut_pair hp
  have rr := cut_rows ro cp
  refine ⟨rr, ?_⟩
  have gap := cuts_gap (zs := zs) (ys := ys) zs.length 0 0 (Nat.le_refl _) (fun e h1 h2 => absurd h1 (by omega)) p hp
  have hl : (cutP zs ys p).1.length = p.2 - p.1 := by
    show ((zs.take p.2).drop p.1).length = _
    rw [List.length_drop, List.length_take]
    omega
  unfold wholeB
  rw [decide_eq_true l2, bend_eq rr, List.length_map]
  unfold cuts
  obtain ⟨d, hd⟩ : ∃ d, (cutP zs ys p).1.length = d + 1 := ⟨(cutP zs ys p).1.length - 1, by omega⟩
  rw [hd, cuts_one d 0]
  · rfl
  · intro e h1 h2 q
    exact gap (p.1 + e) (by omega) (by omega) (pre_cut cp.2.2.1 q (by omega) cp.2.1 ro.len)
  · have := pre_all rr
    rw [hd] at this
    rw [Nat.zero_add]
    exact this
end My
namespace My
open PySem PySem.Spec PyProof.Rows L2
theorem cutV_whole {xs : List V} {lo hi : Option Int} (h : HT.sIx xs.length 0 lo = 0 ∧ HT.sIx xs.length xs.length hi = xs.length) : cutV xs lo hi = xs := by
  unfold cutV
  rw [h.1, h.2, Nat.sub_zero, List.drop_zero, List.take_of_length_le (Nat.le_refl _)]
/-- a slice of a tuple, whole or not -/
theorem slA_use {K : PySem.W.Frag} {H : Hp} {c : Addr} {xs : List V} {lo hi : Option Int} {Q : VK} (hc : SqT K H c xs) (k : ∀ p H', Ext H H' → SqT K H' p (cutV xs lo hi) → Q (.ref p) H') : rSlA K (.ref c) lo hi H Q := by
  refine ⟨c, _, rfl, hc, fun w => k c H (ext_refl H) (by rw [cutV_whole w]; exact hc), fun _ p hp => ?_⟩
  exact k p _ (ext_new (ext_refl H) hp) (SqT.of upd_same)
end My
namespace My
open PySem PySem.Spec PyProof.Rows L2 TL
local macro_rules | `(tactic| walk_at "side") => `(tactic| first | assumption | decide | exact Or.inl ⟨by decide, by decide⟩ | exact Or.inr ⟨by decide, by decide⟩ | exact ⟨by decide, by decide, by decide⟩ | omega | (unfold CMulW; decide +kernel) | (dsimp only; first | assumption | omega | decide +kernel) | exact len_ok (Nat.le_of_ble_eq_true rfl) | fail "side")
local macro_rules | `(tactic| walk_at "rd") => `(tactic| first
  | refine ⟨_, _, _, _, rfl, rfl, SqL.of upd_same, atI_nat (j := 0) rfl, ?_⟩ | refine ⟨_, _, _, _, rfl, rfl, SqL.of upd_same, atI_nat (j := 1) rfl, ?_⟩ | refine ⟨_, _, _, _, rfl, rfl, SqL.of upd_same, atI_nat (j := 2) rfl, ?_⟩
  | refine ⟨_, _, _, _, rfl, rfl, upd_same, rfl, ?_⟩
  | refine ⟨_, _, rfl, rfl, ?_⟩ | refine ⟨_, rfl, ?_⟩ | refine ⟨_, _, rfl, ?_⟩ | refine Or.inl ⟨_, rfl, ?_⟩ | refine Or.inr ⟨_, rfl, ?_⟩ | refine ⟨(by walk_at "side"), ?_⟩ | fail "rd")
abbrev s_oblocks : Stmt := inClass (top 40) 8
theorem sc_oblocks : FnScope ["self", "ends", "begins", "begin", "end"] ["self"] (defScope s_oblocks) := ⟨rfl, rfl, rfl, by decide +kernel, rfl, by decide +kernel, by decide +kernel⟩
/-- a row of orders, by their rows -/
def OrdL (K : PySem.W.Frag) (C : Addr) (H : Hp) (acc : List V) (l : List (List Str × List Str)) : Prop := acc.length ≤ l.length ∧ ∀ (i : Nat) (v : V), acc[i]? = some v → ∃ (q : Addr) (r : List Str × List Str), v = V.ref q ∧ l[i]? = some r ∧ OrdAt K C H q r.1 r.2
theorem OrdL.ext {K : PySem.W.Frag} {C : Addr} {H H' : Hp} {acc : List V} {l : List (List Str × List Str)} (h : OrdL K C H acc l) (e : Ext H H') : OrdL K C H' acc l := ⟨h.1, fun i v hi => let ⟨q, r, a, b, c⟩ := h.2 i v hi; ⟨q, r, a, b, c.ext e⟩⟩
theorem ordAt_keep {K : PySem.W.Frag} {C D : Addr} {H H' : Hp} {q : Addr} {zs ys l : List Str} {vs : List V} (h : OrdAt K C H q zs ys) (hD : H D = some (.lst vs)) (k : ∀ a u, H a = some u → a ≠ D → H' a = some u) : OrdAt K C H' q zs ys := by
  have e : ∀ a u, H a = some u → (∀ vs, u ≠ .lst vs) → H' a = some u := fun a u q n => k a u q fun z => by rw [z, hD] at q; exact n vs (Option.some.inj q).symm
  have et : ∀ {a : Addr} {xs : List V}, SqT K H a xs → SqT K H' a xs := fun h => by
    rcases h with (q | ⟨o, q⟩) | r
    · exact .inl (.inl (e _ _ q fun _ z => nomatch z))
    · exact .inl (.inr ⟨o, e _ _ q fun _ z => nomatch z⟩)
    · exact .inr r
  obtain ⟨dx, a, b, c, q1, q2, q3, q4, q5⟩ := h
  exact ⟨dx, a, b, c, e _ _ q1 (fun _ z => nomatch z), et q2, et q3, et q4, q5⟩
def spOBlk (K : PySem.W.Frag) (C : Addr) : Sp := fun vs H Q _ => ∃ (o : Addr) (zs ys : List Str), vs = [.ref o] ∧ OrdAt K C H o zs ys ∧ ∀ p acc H', Ext H H' → SqT K H' p acc → acc.length = (blks zs ys).length → OrdL K C H' acc (blks zs ys) → Q (.ref p) H'
section
variable {P : Program} {w : World} {K : PySem.W.Frag} {mg : Str → Option Value} {base : Heap} {C : Addr}
theorem ok_oblocks (T : Bn mg) (D : MethT K C "blocks" "Order.blocks" s_oblocks) (OT : OrdT K mg C) (F_init : OInitAt P w K mg base 5 C (spOInit K C)) (F_block_ends : FnAt P w K mg base 1 "block_ends" ["places"] (spBend K)) : MethAt P w K mg base 7 C "blocks" ["self"] (spOBlk K C) := by
  refine methAt D sc_oblocks (fun _ _ _ _ _ _ us hl => match us, hl with | [_], _ => rfl) (fun vs H Q E h => ?_) fun f cdv A outer s H vs Q E hr h => ?_
  · obtain ⟨o, zs, ys, rfl, _⟩ := h
    rfl
  obtain ⟨o, zs, ys, rfl, ⟨dx, a, b, c, e, ha, hb', hc, ro⟩, k⟩ := h
  have l1 := ro.le
  have l2 := ro.len
  refine ⟨_, (pss_cons (ps_set (i := 1) sc_oblocks.nd rfl (Or.inl rfl) (callA F_block_ends (hr.mono (by decide)) rfl (pa_cons (pe_fld (pv 0) rfl) pa_nil)))
    (pss_cons (ps_set (i := 2) sc_oblocks.nd rfl (Or.inl rfl) (pe_lst (pa_cons pe_int (StX.pa_star (pv 1) pa_nil))))
    (pss_one (ps_ret (pe_callTy call_tuple_of (by rfl) T.b_tuple (by decide +kernel) (pa_cons (pe_lc (own := [("begin", 3), ("end", 4)]) (g := gTup K 2 (gCons (gName 3) (gCons (gName 4) gNil))) (tt := tYes) rfl sc_oblocks.nd (pi_zip (by rfl) T.b_zip (pa_cons (pv 2) (pa_cons (pv 1) pa_nil))) (blkOk_by (N := ["self", "ends", "begins", "begin", "end"]) (sc := defScope s_oblocks) (by decide +kernel)) (fun _ _ _ _ _ => pg_tup rfl (pgs_cons (pg_name (i := 3) sc_oblocks.nd rfl (Or.inl rfl)) (pgs_cons (pg_name (i := 4) sc_oblocks.nd rfl (Or.inl rfl)) pgs_nil))) (fun _ _ _ _ _ => pts_nil) (fun _ _ _ _ _ => ((show PE _ _ (tMake C (spOInit K C) [] E0 _) from mkO F_init OT (hr.mono (by decide)) (pa_cons (pe_slice (show SlR _ (rSlA K) from sl_tupA) (show PE _ _ (tFld K _ "_above") from pe_fld (pv 0) rfl) (po_some (pv 3)) (po_some (pv 4))) (pa_cons (pe_slice (show SlR _ (rSlA K) from sl_tupA) (show PE _ _ (tFld K _ "_below") from pe_fld (pv 0) rfl) (po_some (pv 3)) (po_some (pv 4))) pa_nil)))))) pa_nil)))))), ?_⟩
  refine ⟨_, rfl, o, C, dx, _, _, rfl, e, OT.cl, OT.nP, ofs_p a b c, c, plc zs ys, rfl, hc, by rw [plc_len]; omega, fun D1 H1 e1 hD1 => ?_⟩
  rw [bend_eq ro, List.map_map] at hD1
  have lc := cutsN_len zs ys zs.length 0
  have lcc : (cuts zs ys).length ≤ 40 := by unfold cuts; omega
  refine ⟨_, rfl, D1, _, rfl, .inr (SqL.of hD1), ?_⟩
  dsimp only [tNil]
  refine ⟨len_ok (by simp only [List.append_nil, List.length_append, List.length_map, List.length_cons, List.length_nil]; omega), fun D2 hD2 => ?_⟩
  rw [List.append_nil]
  have x2 := ext_new (o := HO.lst (V.int 0 :: (cuts zs ys).map (V.int ∘ fun e => ((e : Nat) : Int)))) (ext_refl H1) hD2
  have e2 := e1.trans x2
  have eb : (V.int 0 :: (cuts zs ys).map (V.int ∘ fun e => ((e : Nat) : Int))) = (0 :: cuts zs ys).map (V.int ∘ fun e => ((e : Nat) : Int)) := rfl
  have hl2 : (upd H1 D2 (HO.lst (V.int 0 :: (cuts zs ys).map (V.int ∘ fun e => ((e : Nat) : Int))))) D2 = some (.lst ((0 :: cuts zs ys).map (V.int ∘ fun e => ((e : Nat) : Int)))) := upd_same
  refine ⟨_, rfl, _, rfl, D2, D1, _, _, rfl, SqL.of hl2, SqL.of (x2 _ _ hD1), fun D3 hD3 => made_zip (n := (cuts zs ys).length) (by rw [List.length_map, List.length_map, List.length_cons]; omega) (fun acc H' => OrdL K C H' acc (blks zs ys)) (fun acc Ha Hb p hl kk => ⟨p.1, fun i v hi => let ⟨q, r, a1, b1, c1⟩ := p.2 i v hi; let ⟨l, hl'⟩ := hl; ⟨q, r, a1, b1, ordAt_keep (l := []) c1 hl' kk⟩⟩) (SqL.of hl2) (SqL.of (x2 _ _ hD1)) hD3 (by omega) (fun _ _ => rfl) (fun H' => ⟨Nat.zero_le _, fun i v hi => by simp at hi⟩) (fun i x y H' acc hx hy e' hl pv Q' k' => ?_) fun H' acc e' hD' hl pv => ?_⟩
  · rw [List.getElem?_map] at hx hy
    obtain ⟨b0, hb0, rfl⟩ := Option.map_eq_some_iff.mp hx
    obtain ⟨e0, he0, rfl⟩ := Option.map_eq_some_iff.mp hy
    have hz : ((0 :: cuts zs ys).zip (cuts zs ys))[i]? = some (b0, e0) := List.getElem?_zip_eq_some.mpr ⟨hb0, he0⟩
    have cp := cut_pair (List.mem_of_getElem? hz)
    have rok := cut_rows ro cp
    have hb : (blks zs ys)[i]? = some (cutP zs ys (b0, e0)) := by
      unfold blks
      rw [List.getElem?_map, hz]
      rfl
    have e3 := e2.trans e'
    refine ⟨_, rfl, o, C, dx, _, _, rfl, e3 _ _ e, OT.cl, OT.nA, ofs_a a b c, _, rfl, _, rfl, _, rfl, _, rfl, slA_use (ha.ext e3) fun p1 H4 e4 hp1 => ?_⟩
    have e5 := e3.trans e4
    refine ⟨_, rfl, o, C, dx, _, _, rfl, e5 _ _ e, OT.cl, OT.nB, ofs_b a b c, _, rfl, _, rfl, _, rfl, _, rfl, slA_use (hb'.ext e5) fun p2 H5 e6 hp2 => ?_⟩
    dsimp only [Function.comp] at hp1 hp2
    rw [cut_strs cp.1 cp.2.1] at hp1
    rw [cut_strs cp.1 (by rw [l2]; exact cp.2.1)] at hp2
    refine mk_useA (hp1.ext e6) hp2 rok fun q H6 e7 oa => k' (.ref q) H6 ((e4.trans e6).trans e7) ⟨?_, fun j v hj => ?_⟩
    · have := (List.getElem?_eq_some_iff.mp hb).1
      rw [List.length_append, hl]
      exact this
    · by_cases c1 : j < acc.length
      · rw [List.getElem?_append_left c1] at hj
        obtain ⟨q', r, a1, b1, o1⟩ := pv.2 j v hj
        exact ⟨q', r, a1, b1, o1.ext ((e4.trans e6).trans e7)⟩
      · rw [List.getElem?_append_right (by omega)] at hj
        have e0' : j - acc.length = 0 := by
          have := (List.getElem?_eq_some_iff.mp hj).1
          simp at this
          omega
        rw [e0'] at hj
        cases hj
        have ej : j = i := by omega
        exact ⟨q, _, rfl, by rw [ej]; exact hb, oa⟩
  · refine ⟨D3, _, rfl, .inl ⟨SqL.of hD', fun l hl' => ?_⟩⟩
    have x9 := ext_new (o := HO.tup acc) (ext_refl H') hl'
    refine k l acc _ ((e2.trans e').trans x9) (SqT.of upd_same) ?_ (pv.ext x9)
    rw [hl]
    unfold blks
    rw [List.length_map, List.length_zip, List.length_cons]
    omega
end
end My
namespace My
open PySem PySem.Spec PyProof.Rows L2
local macro_rules | `(tactic| walk_at "side") => `(tactic| first | assumption | decide | exact Or.inl ⟨by decide, by decide⟩ | exact Or.inr ⟨by decide, by decide⟩ | exact ⟨by decide, by decide, by decide⟩ | omega | (unfold CMulW; decide +kernel) | (dsimp only; first | assumption | omega | decide +kernel) | exact len_ok (Nat.le_of_ble_eq_true rfl) | fail "side")
local macro_rules | `(tactic| walk_at "rd") => `(tactic| first
  | refine ⟨_, _, _, _, rfl, rfl, SqL.of upd_same, atI_nat (j := 0) rfl, ?_⟩ | refine ⟨_, _, _, _, rfl, rfl, SqL.of upd_same, atI_nat (j := 1) rfl, ?_⟩ | refine ⟨_, _, _, _, rfl, rfl, SqL.of upd_same, atI_nat (j := 2) rfl, ?_⟩
  | refine ⟨_, _, _, _, rfl, rfl, upd_same, rfl, ?_⟩
  | refine ⟨_, _, rfl, rfl, ?_⟩ | refine ⟨_, rfl, ?_⟩ | refine ⟨_, _, rfl, ?_⟩ | refine Or.inl ⟨_, rfl, ?_⟩ | refine Or.inr ⟨_, rfl, ?_⟩ | refine ⟨(by walk_at "side"), ?_⟩ | fail "rd")
abbrev s_olen : Stmt := inClass (top 40) 16
theorem sc_olen : FnScope ["self"] ["self"] (defScope s_olen) := ⟨rfl, rfl, rfl, by decide +kernel, rfl, by decide +kernel, by decide +kernel⟩
section
variable {P : Program} {w : World} {K : PySem.W.Frag} {mg : Str → Option Value} {base : Heap} {C : Addr}
theorem ok_olen (T : Bn mg) (D : SpT K C "__len__" "Order.__len__" s_olen) (OT : OrdT K mg C) : SpAt P w K mg base 1 C "__len__" ["self"] (spGetN K C) := by
  refine spAt D sc_olen (fun _ _ _ _ _ _ us hl => match us, hl with | [_], _ => rfl) (fun vs H Q E h => ?_) fun f cdv A outer s H vs Q E hr h => ?_
  · obtain ⟨o, zs, ys, rfl, _⟩ := h
    rfl
  obtain ⟨o, zs, ys, rfl, ⟨dx, a, b, c, e, ha, hb, hc, ro⟩, k⟩ := h
  refine ⟨_, (pss_one (ps_ret (pe_callB call_len_seq (by rfl) T.b_len (by decide +kernel) (pa_cons (pe_fld (pv 0) rfl) pa_nil)))), _, rfl, o, C, dx, _, _, rfl, e, OT.cl, OT.nA, ofs_a a b c, a, _, rfl, .inr ha, ?_⟩
  rw [List.length_map]
  exact k
end
end My
namespace My
open PySem PySem.Spec PyProof.Rows L2
local macro_rules | `(tactic| walk_at "side") => `(tactic| first | assumption | decide | exact Or.inl ⟨by decide, by decide⟩ | exact Or.inr ⟨by decide, by decide⟩ | exact ⟨by decide, by decide, by decide⟩ | omega | (unfold CMulW; decide +kernel) | (dsimp only; first | assumption | omega | decide +kernel) | exact len_ok (Nat.le_of_ble_eq_true rfl) | fail "side")
local macro_rules | `(tactic| walk_at "rd") => `(tactic| first
  | refine ⟨_, _, _, _, rfl, rfl, SqL.of upd_same, atI_nat (j := 0) rfl, ?_⟩ | refine ⟨_, _, _, _, rfl, rfl, SqL.of upd_same, atI_nat (j := 1) rfl, ?_⟩ | refine ⟨_, _, _, _, rfl, rfl, SqL.of upd_same, atI_nat (j := 2) rfl, ?_⟩
  | refine ⟨_, _, _, _, rfl, rfl, upd_same, rfl, ?_⟩
  | refine ⟨_, _, rfl, rfl, ?_⟩ | refine ⟨_, rfl, ?_⟩ | refine ⟨_, _, rfl, ?_⟩ | refine Or.inl ⟨_, rfl, ?_⟩ | refine Or.inr ⟨_, rfl, ?_⟩ | refine ⟨(by walk_at "side"), ?_⟩ | fail "rd")
abbrev s_lright8 : Stmt := top 74
theorem sc_lright8 : FnScope ["_law_dice_here", "_law_world", "_law_exchange_here", "_law_order", "_law_name", "_law_shift_here", "_law_other", "_law_form", "_law_above", "_law_below", "_law_block", "_law_less", "_law_point"] ["_law_dice_here"] (defScope s_lright8) := ⟨rfl, rfl, rfl, by decide +kernel, rfl, by decide +kernel, by decide +kernel⟩
def spLR8 : Sp := fun vs H Q _ => ∃ a : Addr, vs = [.ref a] ∧ H a = some (DiceO a) ∧ ∀ H', Ext H H' → Q (.bl true) H'
theorem frm_flip {us ls : List Str} (ro : RowsOk us ls) {y z : Str} (hy : y ∈ us) (hz : z ∈ us) : frm us ls y z = -frm us ls z y := by
  by_cases e : z = y
  · subst e
    rw [frm_self]
    rfl
  · exact frm_turn ro.pm hz hy e
theorem pos_rev {l : List Str} (nd : l.Nodup) {z : Str} (m : z ∈ l) : pos l.reverse z = l.length - 1 - pos l z := by
  have lt := pos_lt m
  have h := pos_get m
  refine pos_nth (List.nodup_iff_pairwise_ne.mpr (List.pairwise_reverse.mpr ((List.nodup_iff_pairwise_ne.mp nd).imp fun q => q.symm))) ?_
  rw [List.getElem?_reverse (by omega), show l.length - 1 - (l.length - 1 - pos l z) = pos l z by omega]
  exact h
theorem ahead_rev {l : List Str} (nd : l.Nodup) {y z : Str} (hy : y ∈ l) (hz : z ∈ l) : aheadI l.reverse z y = aheadI l y z := by
  have a := pos_lt hy
  have b := pos_lt hz
  unfold aheadI
  rw [pos_rev nd hy, pos_rev nd hz]
  by_cases c : pos l y < pos l z
  · rw [if_pos c, if_pos (by omega)]
  · rw [if_neg c, if_neg (by omega)]
theorem frm_back {us ls : List Str} (ro : RowsOk us ls) {y z : Str} (hz : z ∈ us) (hy : y ∈ us) : frm us.reverse ls.reverse z y = 0 - frm us ls z y := by
  have e : frm us.reverse ls.reverse z y = frm us ls y z := by
    unfold frm
    rw [ahead_rev ro.nd hy hz, ahead_rev ro.symm.nd (ro.pm.mem_iff.mpr hy) (ro.pm.mem_iff.mpr hz)]
  rw [e, frm_flip ro hy hz]
  omega
theorem flat_take (L : List (List Str)) {i : Nat} {r : List Str} (h : L[i]? = some r) : (L.take i).flatten.length + r.length ≤ L.flatten.length := by
  have e : L.flatten = (L.take i).flatten ++ (r ++ (L.drop (i + 1)).flatten) := by
    have hd : L.drop i = r :: L.drop (i + 1) := by
      obtain ⟨hi, er⟩ := List.getElem?_eq_some_iff.mp h
      rw [List.drop_eq_getElem_cons hi, er]
    rw [← List.flatten_cons, ← hd, ← List.flatten_append, List.take_append_drop]
  rw [e, List.length_append, List.length_append]
  omega
theorem blk_len {us ls : List Str} (ro : RowsOk us ls) {i : Nat} {r : List Str × List Str} (h : (blks us ls)[i]? = some r) : (((blks us ls).take i).map Prod.fst).flatten.length + r.1.length ≤ us.length ∧ (((blks us ls).take i).map Prod.snd).flatten.length + r.2.length ≤ us.length := by
  have a := flat_take ((blks us ls).map Prod.fst) (i := i) (r := r.1) (by rw [List.getElem?_map, h]; rfl)
  have b := flat_take ((blks us ls).map Prod.snd) (i := i) (r := r.2) (by rw [List.getElem?_map, h]; rfl)
  rw [blks_flat1 ro, ← List.map_take] at a
  rw [blks_flat2 ro, ← List.map_take, ro.len] at b
  exact ⟨a, b⟩
section
variable {P : Program} {w : World} {K : PySem.W.Frag} {mg : Str → Option Value} {base : Heap} {C CN CX : Addr}
theorem ok_lright8 (T : Bn mg) (OT : OrdT K mg C) (XT : XchT K mg CX) (NC : NumT K mg CN) (D : DefAt K mg "_law_right" s_lright8)
    (F__law_any_world : FnAt P w K mg base 6 "_law_any_world" ["_law_dice_here", "_law_most"] (spLAnyW K)) (F__law_exchange : FnAt P w K mg base 11 "_law_exchange" ["_law_world"] (spLExch K C CN CX)) (F__law_by_forms : FnAt P w K mg base 4 "_law_by_forms" ["_law_order", "_law_world", "_law_name"] (spLByF K C)) (F__law_shift : FnAt P w K mg base 3 "_law_shift" ["_law_world", "_law_name"] (spLShift K)) (F__law_number : FnAt P w K mg base 5 "_law_number" ["_law_pair", "_law_root"] (spLNum CN)) (F__law_points : FnAt P w K mg base 8 "_law_points" ["_law_dice_here", "_law_world"] (spLPts K CN))
    (F_joined : FnAt P w K mg base 11 "joined" ["exchange"] (spXJoin K C CN CX)) (X_call : CallAt P w K mg base 11 CX ["self", "point"] (spXCall K C CN CX)) (PX_order : PropAt P w K mg base 1 CX "order" (spXOrder CX)) (PX_shifts : PropAt P w K mg base 1 CX "shifts" (spXDict K C CN CX fun zs ys f => shfN zs ys f)) (PX_total : PropAt P w K mg base 1 CX "total" (spXTotal K C CN CX))
    (F_init : OInitAt P w K mg base 5 C (spOInit K C)) (I_order : ItrAt P w K mg base 1 C (spItr K C)) (M_form : MethAt P w K mg base 2 C "form" ["self", "one", "other"] (spOForm K C)) (M_inverseN : MethAt P w K mg base 7 C "inverse" ["self"] (spOrdN K C (fun _ ys => ys) (fun zs _ => zs))) (M_backwardsN : MethAt P w K mg base 7 C "backwards" ["self"] (spOrdN K C (fun zs _ => zs.reverse) (fun _ ys => ys.reverse)))
    (M_blocks : MethAt P w K mg base 7 C "blocks" ["self"] (spOBlk K C)) (M_joined : MethAt P w K mg base 7 C "joined" ["self"] (spOrd K C (fun zs ys => jnd zs ys zs) (fun zs ys => jnd zs ys ys))) (P_above : PropAt P w K mg base 1 C "above" (spGetT K C fun zs _ => zs.map V.str)) (P_below : PropAt P w K mg base 1 C "below" (spGetT K C fun _ ys => ys.map V.str)) (P_is_whole : PropAt P w K mg base 2 C "is_whole" (spWhole K C)) (P_needless : PropAt P w K mg base 1 C "needless" (spNeedless K C))
    (S_len : SpAt P w K mg base 1 C "__len__" ["self"] (spGetN K C)) (S_ne : NeAt P w K mg base 1 C (spOEq K C)) (SN_ne : NeAt P w K mg base 1 CN (spEqN CN)) (SN_eq : SpAt P w K mg base 1 CN "__eq__" ["self", "other"] (spEqN CN)) :
    FnAt P w K mg base 13 "_law_right" ["_law_dice_here"] spLR8 := by
  refine fnAt D sc_lright8 (fun _ _ _ _ _ _ us hl => match us, hl with | [_], _ => rfl) (fun vs H Q E h => ?_) fun f cdv A outer s H vs Q E hr h => ?_
  · obtain ⟨a, rfl, _⟩ := h
    rfl
  obtain ⟨a, rfl, ha, k⟩ := h
  refine ⟨_, (pss_cons (ps_set (i := 1) sc_lright8.nd rfl (Or.inl rfl) (callA F__law_any_world (hr.mono (by decide)) rfl (pa_cons (pv 0) (pa_cons pe_int pa_nil))))
    (pss_cons (ps_set (i := 2) sc_lright8.nd rfl (Or.inl rfl) (callA F__law_exchange (hr.mono (by decide)) rfl (pa_cons (pv 1) pa_nil)))
    (pss_cons (ps_set (i := 3) sc_lright8.nd rfl (Or.inl rfl) (propA PX_order XT.cl (hr.mono (by decide)) (pv 2)))
    (pss_cons (ps_for PassesOwn.never rfl (pi_ownT I_order (hr.mono (by decide)) (pv 3)) (pg_name (i := 4) sc_lright8.nd rfl (Or.inl rfl))
      (pss_cons (ps_set (i := 5) sc_lright8.nd rfl (Or.inl rfl) (callA F__law_by_forms (hr.mono (by decide)) rfl (pa_cons (pv 3) (pa_cons (pv 1) (pa_cons (pv 4) pa_nil)))))
    (pss_cons (ps_if (PW.pt (pw_or (pt_cmpR (op_neD (hu64 hr)) (pv 5) (callA F__law_shift (hr.mono (by decide)) rfl (pa_cons (pv 1) (pa_cons (pv 4) pa_nil))) (nomark _)) (pw_or1 (pt_cmpR (neA SN_ne (hr.mono (by decide))) (pe_dget (hu1 hr) (propA PX_shifts XT.cl (hr.mono (by decide)) (pv 2)) (pv 4) (fun _ _ => rfl)) (callA F__law_number (hr.mono (by decide)) rfl (pa_cons (pv 5) (pa_cons (pe_dget (hu1 hr) (pv 1) pe_str (fun _ _ => rfl)) pa_nil))) (nomark _))))) (pss_one (ps_ret pe_bl)) pss_nil)
    (pss_one (ps_for PassesOwn.never rfl (pi_ownT I_order (hr.mono (by decide)) (pv 3)) (pg_name (i := 6) sc_lright8.nd rfl (Or.inl rfl))
      (pss_cons (ps_set (i := 7) sc_lright8.nd rfl (Or.inl rfl) (methA M_form OT.cl (hr.mono (by decide)) (pv 3) (pa_cons (pv 4) (pa_cons (pv 6) pa_nil))))
    (pss_cons (ps_if (PW.pt (pw_or (pt_cmpR op_ne (methA M_form OT.cl (hr.mono (by decide)) (pv 3) (pa_cons (pv 6) (pa_cons (pv 4) pa_nil))) (pe_op op_sub pe_int (pv 7)) (nomark _)) (pw_or1 (pt_cmpR op_ne (methA M_form OT.cl (hr.mono (by decide)) (meth0A M_inverseN OT.cl (hr.mono (by decide)) (pv 3)) (pa_cons (pv 4) (pa_cons (pv 6) pa_nil))) (pe_op op_sub pe_int (pv 7)) (nomark _))))) (pss_one (ps_ret pe_bl)) pss_nil)
    (pss_one (ps_if (pt_cmpR op_ne (methA M_form OT.cl (hr.mono (by decide)) (meth0A M_backwardsN OT.cl (hr.mono (by decide)) (pv 3)) (pa_cons (pv 4) (pa_cons (pv 6) pa_nil))) (pe_op op_sub pe_int (pv 7)) (nomark _)) (pss_one (ps_ret pe_bl)) pss_nil)))))))))
    (pss_cons (ps_par (i := 8) (j := 9) rfl sc_lright8.nd rfl rfl (by decide) rfl rfl (pa_cons (pe_lst pa_nil) (pa_cons (pe_lst pa_nil) pa_nil)) (by rfl))
    (pss_cons (ps_for PassesOwn.never rfl (pi_tup (meth0A M_blocks OT.cl (hr.mono (by decide)) (pv 3))) (pg_name (i := 10) sc_lright8.nd rfl (Or.inl rfl))
      (pss_cons (ps_par (i := 8) (j := 9) rfl sc_lright8.nd rfl rfl (by decide) rfl rfl (pa_cons (pe_op op_cat (pv 8) (pe_callTy call_list_of (by rfl) T.b_list (by decide +kernel) (pa_cons (propA P_above OT.cl (hr.mono (by decide)) (pv 10)) pa_nil))) (pa_cons (pe_op op_cat (pv 9) (pe_callTy call_list_of (by rfl) T.b_list (by decide +kernel) (pa_cons (propA P_below OT.cl (hr.mono (by decide)) (pv 10)) pa_nil))) pa_nil)) (by rfl))
    (pss_one (ps_if (PW.pt (pw_and (pt_cmpR op_gt (pe_callB (lenA S_len (hr.mono (by decide))) (by rfl) T.b_len (by decide +kernel) (pa_cons (pv 10) pa_nil)) pe_int (nomark _)) (pw_and1 (pt_not (pt_val (propA P_is_whole OT.cl (hr.mono (by decide)) (pv 10))))))) (pss_one (ps_ret pe_bl)) pss_nil))))
    (pss_cons (ps_set (i := 11) sc_lright8.nd rfl (Or.inl rfl) (callA F_joined (hr.mono (by decide)) rfl (pa_cons (pv 2) pa_nil)))
    (pss_cons (ps_if (PW.pt (pw_or (pt_cmpR (neA S_ne (hr.mono (by decide))) (mkO F_init OT (hr.mono (by decide)) (pa_cons (pe_callTy call_tuple_of (by rfl) T.b_tuple (by decide +kernel) (pa_cons (pv 8) pa_nil)) (pa_cons (pe_callTy call_tuple_of (by rfl) T.b_tuple (by decide +kernel) (pa_cons (pv 9) pa_nil)) pa_nil))) (pv 3) (nomark _)) (pw_or (pt_cmpR (neA S_ne (hr.mono (by decide))) (propA PX_order XT.cl (hr.mono (by decide)) (pv 11)) (meth0A M_joined OT.cl (hr.mono (by decide)) (pv 3)) (nomark _)) (pw_or1 (pt_cmpR (op_neD (hu64 hr)) (propA P_needless OT.cl (hr.mono (by decide)) (propA PX_order XT.cl (hr.mono (by decide)) (pv 11))) (pe_tup pa_nil) (nomark _)))))) (pss_one (ps_ret pe_bl)) pss_nil)
    (pss_cons (ps_for PassesOwn.never rfl (pi_list (callA F__law_points (hr.mono (by decide)) rfl (pa_cons (pv 0) (pa_cons (pv 1) pa_nil)))) (pg_name (i := 12) sc_lright8.nd rfl (Or.inl rfl))
      (pss_one (ps_if (pt_cmpR (neA SN_ne (hr.mono (by decide))) (callOA X_call (hr.mono (by decide)) (pv 11) (pa_cons (pv 12) pa_nil)) (callOA X_call (hr.mono (by decide)) (pv 2) (pa_cons (pv 12) pa_nil)) (nomark _)) (pss_one (ps_ret pe_bl)) pss_nil)))
    (pss_one (ps_ret (pe_cmpR (eqA SN_eq (hr.mono (by decide))) (propA PX_total XT.cl (hr.mono (by decide)) (pv 11)) (propA PX_total XT.cl (hr.mono (by decide)) (pv 2)) (nomark _))))))))))))), ?_⟩
  refine ⟨_, rfl, a, 7, rfl, ha, by decide, by decide, fun W us ls ks L R H1 e1 wa l8 => ?_⟩
  have r0 : 0 ≤ R := by have := wa.ro; omega
  have rok := rtOk_of wa.ro
  have ro := wa.rows
  have xg := mkXG rok r0 wa.rows wa.le wa.len
  refine ⟨_, rfl, _, _, _, _, _, _, rfl, wa, xg, fun p2 p2' H2 e2 h2 h2' h2'' => ?_⟩
  obtain ⟨dx3, xo3, xa3, xb3, xl3, xs3, xt3, xn3, xr3, xd3, xe3, xf3, d3, ⟨xpo3, xpa3, xpb3, ⟨xln3, xls3, xpl3⟩, ⟨xsv3, xps3, xpsr3⟩, ⟨xtv3, xpt3, xptr3⟩, xpn3, xpr3, ⟨xdn3, xds3, xpd3⟩, ⟨xen3, xes3, xpe3⟩, ⟨xfn3, xfs3, xpf3⟩⟩, xg3⟩ := id h2
  obtain ⟨dx4, qa4, qb4, qc4, d4, _⟩ := id xpo3
  obtain ⟨dx5, d5⟩ := id xpn3
  refine ⟨_, rfl, _, _, _, rfl, d3, _, _, rfl, h2', _, rfl, ?_⟩
  obtain ⟨oA, oB, oab, na, nb⟩ := id h2''
  obtain ⟨odx, oC, od, _⟩ := id oab
  have oat := oab.at
  refine ⟨_, _, _, rfl, od, fun p6 => ?_⟩
  refine ⟨_, _, _, rfl, oat, fun p7 p7' n7 h7 h7' => ?_⟩
  refine ⟨_, _, rfl, h7, upd_same, ?_⟩
  rw [ItX.dropH_upd n7]
  have wa2 := wa.ext e2
  obtain ⟨U, M, DL, gU, gM, gD, gR, hU, hM, hd⟩ := wa2.ex
  refine forT us V.str (fun i σ' H' => ∃ (v4 v5 v6 v7 v8 v9 v10 v11 v12 : Option V), σ' = [some (.ref a), some (.ref W), some (.ref p2), some (.ref p2'), v4, v5, v6, v7, v8, v9, v10, v11, v12] ∧ Ext H2 H')
    ?_ (fun i σ H' p => ?_) (fun i z σ H5 hz p => ?_) fun σ H5 p => ?_
  · exact ⟨none, none, none, none, none, none, none, none, none, rfl, ext_refl _⟩
  · obtain ⟨v4, v5, v6, v7, v8, v9, v10, v11, v12, rfl, e5⟩ := p
    exact h7'.ext e5
  · obtain ⟨v4, v5, v6, v7, v8, v9, v10, v11, v12, rfl, e5⟩ := p
    have mz := List.mem_of_getElem? hz
    have fs := fm_shift (L := L) ro mz
    refine ⟨_, rfl, _, rfl, _, rfl, _, _, _, _, _, _, _, _, rfl, (h2''.ext e5), (wa2.ext e5), mz, fun p13 H13 e13 h13 => ?_⟩
    refine ⟨_, rfl, _, rfl, _, rfl, _, _, _, _, _, _, _, rfl, (wa2.ext (e5.trans e13)), mz, fun p14 H14 e14 h14 => ?_⟩
    rw [fs] at h13
    refine neD_use (d := .tuple ([(shP us ls L z).1, (shP us ls L z).2].map .int)) (e := .tuple ([(shP us ls L z).1, (shP us ls L z).2].map .int)) 2 (by decide) (.tup (SqT.of (e14 _ _ h13)) (dp_ints [(shP us ls L z).1, (shP us ls L z).2])) (.tup (SqT.of h14) (dp_ints [(shP us ls L z).1, (shP us ls L z).2])) (pl_ints 1 _) (pl_ints 1 _) fun bb hbb => ?_
    obtain rfl : bb = true := hbb.mpr rfl
    refine ⟨_, rfl, iteF ?_⟩
    have z1 : R = 0 → (shP us ls L z).2 = 0 := (sh_bd ro wa.le wa.len z).z
    refine ⟨_, rfl, _, _, _, rfl, (((e5.trans e13).trans e14) _ _ d3), _, _, _, _, _, rfl, (h2.ext ((e5.trans e13).trans e14)), fun p15 v15 H15 e15 h15 h15' => ?_⟩
    obtain ⟨su, gsu, nsu⟩ := h15.get (h15'.pm.mem_iff.mpr mz)
    obtain ⟨dxsu, dsu⟩ := id nsu
    refine ⟨_, rfl, _, _, rfl, gsu, _, rfl, _, rfl, _, _, rfl, (gR.ext (((e5.trans e13).trans e14).trans e15)), _, _, _, rfl, ((e14.trans e15) _ _ h13), rok, z1, fun p16 H16 e16 h16 => ?_⟩
    obtain ⟨dx17, d17⟩ := id h16
    refine ⟨_, _, _, _, _, _, rfl, (e16 _ _ dsu), rfl, d17, _, _, _, _, rfl, (nsu.ext e16), h16, _, rfl, _, rfl, ?_⟩
    have ez : (!decide (shfN us ls (inF R L) z = inN R (shP us ls L z))) = false := by
      rw [shf_in r0, decide_eq_true rfl]
      rfl
    dsimp only
    rw [ez]
    refine iteF ?_
    refine ⟨_, rfl, _, _, _, rfl, (((((e5.trans e13).trans e14).trans e15).trans e16) _ _ od), fun p18 => ?_⟩
    refine ⟨_, _, _, rfl, (oat.ext ((((e5.trans e13).trans e14).trans e15).trans e16)), fun p19 p19' n19 h19 h19' => ?_⟩
    refine ⟨_, _, rfl, h19, upd_same, ?_⟩
    rw [ItX.dropH_upd n19]
    have e16' := (((e5.trans e13).trans e14).trans e15).trans e16
    refine forT us V.str (fun i σ' H' => ∃ (v6 v7 v8 v9 v10 v11 v12 : Option V), σ' = [some (.ref a), some (.ref W), some (.ref p2), some (.ref p2'), some (.str z), some (.ref p13), v6, v7, v8, v9, v10, v11, v12] ∧ Ext H16 H')
      ?_ (fun i σ H' p => ?_) (fun i y σ H20 hy p => ?_) fun σ H20 p => ?_
    · exact ⟨v6, v7, v8, v9, v10, v11, v12, rfl, ext_refl _⟩
    · obtain ⟨v6, v7, v8, v9, v10, v11, v12, rfl, e20⟩ := p
      exact h19'.ext e20
    · obtain ⟨v6, v7, v8, v9, v10, v11, v12, rfl, e20⟩ := p
      have my := List.mem_of_getElem? hy
      have e0 := e16'.trans e20
      have t1 : frm us ls y z = 0 - frm us ls z y := by
        rw [frm_flip ro my mz]
        omega
      have t2 : frm ls us z y = 0 - frm us ls z y := by
        unfold frm
        omega
      have t3 : frm us.reverse ls.reverse z y = 0 - frm us ls z y := frm_back ro mz my
      refine ⟨_, rfl, _, _, _, rfl, (e0 _ _ od), rfl, _, rfl, _, rfl, _, _, _, _, _, _, _, rfl, (oab.ext e0), (na.ext e0), (nb.ext e0), mz, my, fun H21 e21 => ?_⟩
      refine ⟨_, rfl, _, _, _, rfl, ((e0.trans e21) _ _ od), rfl, _, rfl, _, rfl, _, _, _, _, _, _, _, rfl, (oab.ext (e0.trans e21)), (na.ext (e0.trans e21)), (nb.ext (e0.trans e21)), my, mz, fun H22 e22 => ?_⟩
      refine ⟨_, rfl, _, _, rfl, rfl, rfl, _, rfl, ?_⟩
      have q1 : (!decide (V.int (frm us ls y z) = V.int (0 - frm us ls z y))) = false := by
        rw [t1, decide_eq_true rfl]
        rfl
      dsimp only
      rw [q1]
      refine iteF ?_
      refine ⟨_, rfl, _, _, _, rfl, (((e0.trans e21).trans e22) _ _ od), rfl, _, _, _, rfl, (h2''.ext ((e0.trans e21).trans e22)), fun p23 H23 e23 h23 => ?_⟩
      obtain ⟨iA, iB, iab, ina, inb⟩ := id h23
      obtain ⟨idx, iC, iod, _⟩ := id iab
      have lfi : List.lookup ("form" : Str) (ofs iA iB iC) = none := rfl
      have mzl := ro.pm.mem_iff.mpr mz
      have myl := ro.pm.mem_iff.mpr my
      refine ⟨_, _, _, rfl, iod, rfl, _, rfl, _, rfl, _, _, _, _, _, _, _, rfl, iab, ina, inb, mzl, myl, fun H24 e24 => ?_⟩
      refine ⟨_, rfl, _, _, rfl, rfl, rfl, _, rfl, ?_⟩
      have q2 : (!decide (V.int (frm ls us z y) = V.int (0 - frm us ls z y))) = false := by
        rw [t2, decide_eq_true rfl]
        rfl
      dsimp only
      rw [q2]
      refine iteF ?_
      refine ⟨_, rfl, _, _, _, rfl, (((((e0.trans e21).trans e22).trans e23).trans e24) _ _ od), rfl, _, _, _, rfl, (h2''.ext ((((e0.trans e21).trans e22).trans e23).trans e24)), fun p25 H25 e25 h25 => ?_⟩
      obtain ⟨rA, rB, rab, rna, rnb⟩ := id h25
      obtain ⟨rdx, rC, rod, _⟩ := id rab
      have lfr : List.lookup ("form" : Str) (ofs rA rB rC) = none := rfl
      have mzr := List.mem_reverse.mpr mz
      have myr := List.mem_reverse.mpr my
      refine ⟨_, _, _, rfl, rod, rfl, _, rfl, _, rfl, _, _, _, _, _, _, _, rfl, rab, rna, rnb, mzr, myr, fun H26 e26 => ?_⟩
      refine ⟨_, rfl, _, _, rfl, rfl, rfl, _, rfl, ?_⟩
      have q3 : (!decide (V.int (frm us.reverse ls.reverse z y) = V.int (0 - frm us ls z y))) = false := by
        rw [t3, decide_eq_true rfl]
        rfl
      dsimp only
      rw [q3]
      refine iteF ?_
      refine ⟨_, _, _, _, _, _, _, rfl, ((((((e20.trans e21).trans e22).trans e23).trans e24).trans e25).trans e26)⟩
    · obtain ⟨v6, v7, v8, v9, v10, v11, v12, rfl, e20⟩ := p
      exact ⟨_, _, _, _, _, _, _, _, _, rfl, e16'.trans e20⟩
  · obtain ⟨v4, v5, v6, v7, v8, v9, v10, v11, v12, rfl, e5⟩ := p
    refine ⟨(Nat.le_of_ble_eq_true rfl), fun p13 n13 => ?_⟩
    generalize hg14 : upd _ p13 _ = H14
    obtain ⟨e14, h14⟩ := new_facts n13 hg14
    clear hg14
    refine ⟨(Nat.le_of_ble_eq_true rfl), fun p15 n15 => ?_⟩
    generalize hg16 : upd _ p15 _ = H16
    obtain ⟨e16, h16⟩ := new_facts n15 hg16
    clear hg16
    refine ⟨_, _, rfl, _, rfl, _, _, _, rfl, (((e5.trans e14).trans e16) _ _ od), rfl, _, _, _, rfl, (oat.ext ((e5.trans e14).trans e16)), fun p17 v17 H17 e17 h17 h17' h17'' => ?_⟩
    refine ⟨_, rfl, ⟨_, h17⟩, ?_⟩
    have e17' := ((e5.trans e14).trans e16).trans e17
    have h14' := (e16.trans e17) _ _ h14
    have h16' := e17 _ _ h16
    refine for_it (walk_tup (K := K) (a := p17) (xs := v17)) (fun i σ' H' => ∃ (v4 v5 v6 v7 v10 v11 v12 : Option V) (pa pb : Addr), σ' = [some (.ref a), some (.ref W), some (.ref p2), some (.ref p2'), v4, v5, v6, v7, some (.ref pa), some (.ref pb), v10, v11, v12] ∧ Ext H17 H' ∧ H' pa = some (.lst ((((blks us ls).take i).map Prod.fst).flatten.map V.str)) ∧ H' pb = some (.lst ((((blks us ls).take i).map Prod.snd).flatten.map V.str)))
      ?_ (fun i σ H' _ p => ?_) (fun i x σ H' H18 hi p y => ?_) fun σ H18 p => ?_
    · exact ⟨v4, v5, v6, v7, v10, v11, v12, p13, p15, rfl, ext_refl _, h14', h16'⟩
    · obtain ⟨v4, v5, v6, v7, v10, v11, v12, pa, pb, rfl, e18, hpa, hpb⟩ := p
      exact h17.ext e18
    · obtain ⟨rfl, hx⟩ := y
      obtain ⟨v4, v5, v6, v7, v10, v11, v12, pa, pb, rfl, e18, hpa, hpb⟩ := p
      obtain ⟨q, r, rfl, hr, oar⟩ := h17''.2 i x hx
      have mr := List.mem_of_getElem? hr
      have tk : (blks us ls).take (i + 1) = (blks us ls).take i ++ [r] := take_next hr
      obtain ⟨qdx, qA, qB, qC, qod, _⟩ := id oar
      have qoar := oar.ext e18
      have qx := blk_len ro hr
      have l40 := ro.le
      have big : (1000 : Nat) < sizeLine := by rw [sizeLine_eq]; decide
      have qod' := e18 _ _ qod
      refine ⟨_, rfl, _, rfl, _, _, _, rfl, qod', _, _, _, rfl, qoar, fun p19 h19 => ?_⟩
      refine ⟨_, _, rfl, (.inr h19), fun p20 n20 => ?_⟩
      generalize hg21 : upd _ p20 _ = H21
      obtain ⟨e21, h21⟩ := new_facts n20 hg21
      clear hg21
      refine ⟨_, _, _, _, rfl, rfl, (e21 _ _ hpa), h21, (by rw [List.length_map, List.length_map]; omega), fun p22 n22 => ?_⟩
      generalize hg23 : upd _ p22 _ = H23
      obtain ⟨e23, h23⟩ := new_facts n22 hg23
      clear hg23
      refine ⟨_, rfl, _, rfl, _, _, _, rfl, ((e21.trans e23) _ _ qod'), _, _, _, rfl, (qoar.ext (e21.trans e23)), fun p24 h24 => ?_⟩
      refine ⟨_, _, rfl, (.inr h24), fun p25 n25 => ?_⟩
      generalize hg26 : upd _ p25 _ = H26
      obtain ⟨e26, h26⟩ := new_facts n25 hg26
      clear hg26
      refine ⟨_, _, _, _, rfl, rfl, (((e21.trans e23).trans e26) _ _ hpb), h26, (by rw [List.length_map, List.length_map]; omega), fun p27 n27 => ?_⟩
      generalize hg28 : upd _ p27 _ = H28
      obtain ⟨e28, h28⟩ := new_facts n27 hg28
      clear hg28
      refine ⟨_, _, rfl, _, rfl, _, _, _, rfl, ((((e21.trans e23).trans e26).trans e28) _ _ qod'), _, _, _, rfl, (qoar.ext (((e21.trans e23).trans e26).trans e28)), _, rfl, (by have := qx.2; omega), _, _, rfl, rfl, _, rfl, ?_⟩
      have e28' := e18.trans (((e21.trans e23).trans e26).trans e28)
      have fin1 : H28 p22 = some (.lst ((((blks us ls).take (i + 1)).map Prod.fst).flatten.map V.str)) := by
        rw [tk, List.map_append, List.map_singleton, List.flatten_append, List.flatten_singleton, List.map_append]
        exact (e26.trans e28) _ _ h23
      have fin2 : H28 p27 = some (.lst ((((blks us ls).take (i + 1)).map Prod.snd).flatten.map V.str)) := by
        rw [tk, List.map_append, List.map_singleton, List.flatten_append, List.flatten_singleton, List.map_append]
        exact h28
      by_cases c : 2 ≤ r.1.length
      · have wb := (blk_whole ro mr c).2
        dsimp only
        rw [if_pos (show decide ((1 : Int) < ((r.1.length : Nat) : Int)) = true from decide_eq_true (by omega))]
        refine ⟨_, rfl, _, _, _, rfl, ((((e21.trans e23).trans e26).trans e28) _ _ qod'), _, _, _, rfl, (qoar.ext (((e21.trans e23).trans e26).trans e28)), fun H29 e29 => ?_⟩
        refine ⟨_, rfl, ?_⟩
        dsimp only
        rw [wb]
        refine iteF ?_
        refine ⟨_, _, _, _, _, _, _, _, _, rfl, (e28'.trans e29), (e29 _ _ fin1), (e29 _ _ fin2)⟩
      · dsimp only
        rw [if_neg (show ¬ decide ((1 : Int) < ((r.1.length : Nat) : Int)) = true from by rw [decide_eq_true_eq]; omega)]
        refine iteF ?_
        refine ⟨_, _, _, _, _, _, _, _, _, rfl, e28', fin1, fin2⟩
    · obtain ⟨v4, v5, v6, v7, v10, v11, v12, pa, pb, rfl, e18, hpa, hpb⟩ := p
      rw [h17', List.take_length, blks_flat1 ro] at hpa
      rw [h17', List.take_length, blks_flat2 ro] at hpb
      refine ⟨_, rfl, _, _, _, _, _, rfl, (h2.ext (e17'.trans e18)), (mkJOk rok r0 ro wa.le wa.len), fun p19 H19 e19 h19 => ?_⟩
      obtain ⟨dx20, xo20, xa20, xb20, xl20, xs20, xt20, xn20, xr20, xd20, xe20, xf20, d20, ⟨xpo20, xpa20, xpb20, ⟨xln20, xls20, xpl20⟩, ⟨xsv20, xps20, xpsr20⟩, ⟨xtv20, xpt20, xptr20⟩, xpn20, xpr20, ⟨xdn20, xds20, xpd20⟩, ⟨xen20, xes20, xpe20⟩, ⟨xfn20, xfs20, xpf20⟩⟩, xg20⟩ := id h19
      obtain ⟨dx21, qa21, qb21, qc21, d21, _⟩ := id xpo20
      obtain ⟨dx22, d22⟩ := id xpn20
      refine ⟨_, rfl, _, _, rfl, .inl ⟨(SqL.of (e19 _ _ hpa)), fun p23 n23 => ?_⟩⟩
      generalize hg24 : upd _ p23 _ = H24
      obtain ⟨e24, h24⟩ := new_facts n23 hg24
      clear hg24
      refine ⟨_, rfl, _, _, rfl, .inl ⟨(SqL.of ((e19.trans e24) _ _ hpb)), fun p25 n25 => ?_⟩⟩
      generalize hg26 : upd _ p25 _ = H26
      obtain ⟨e26, h26⟩ := new_facts n25 hg26
      clear hg26
      refine mkO_useR (fun _ => rfl) (SqT.of (e26 _ _ h24)) (SqT.of h26) ro fun p27 H27 e27 h27 => ?_
      obtain ⟨dx28, qa28, qb28, qc28, d28, _⟩ := id h27
      refine ⟨_, rfl, _, _, _, _, _, _, rfl, d28, rfl, ((((((e17'.trans e18).trans e19).trans e24).trans e26).trans e27) _ _ od), ?_⟩
      refine ⟨_, _, _, _, rfl, h27, .inl ⟨_, _, _, rfl, oat.ext (((((e17'.trans e18).trans e19).trans e24).trans e26).trans e27), ?_⟩⟩
      refine ⟨_, rfl, _, rfl, ?_⟩
      rw [decide_eq_true rfl, decide_eq_true rfl]
      refine iteF ?_
      have xord : XOrd CX H19 p19 xo20 := ⟨_, _, _, _, _, _, _, _, _, _, _, d20⟩
      have xord27 := ((xord.ext e24).ext e26).ext e27
      refine ⟨_, rfl, _, _, _, rfl, (((e24.trans e26).trans e27) _ _ d20), _, _, rfl, xord27, _, rfl, _, _, _, rfl, ((((((e17'.trans e18).trans e19).trans e24).trans e26).trans e27) _ _ od), rfl, _, _, _, rfl, (oat.ext (((((e17'.trans e18).trans e19).trans e24).trans e26).trans e27)), fun p29 H29 e29 h29 => ?_⟩
      obtain ⟨dx30, qa30, qb30, qc30, d30, _⟩ := id h29
      refine ⟨_, _, _, _, _, _, rfl, ((((e24.trans e26).trans e27).trans e29) _ _ d21), rfl, d30, _, _, _, _, rfl, (xpo20.ext (((e24.trans e26).trans e27).trans e29)), .inl ⟨_, _, _, rfl, h29, _, rfl, _, rfl, ?_⟩⟩
      rw [decide_eq_true rfl, decide_eq_true rfl]
      refine iteF ?_
      refine ⟨_, rfl, _, _, _, rfl, ((((e24.trans e26).trans e27).trans e29) _ _ d20), _, _, rfl, (xord27.ext e29), _, _, _, rfl, ((((e24.trans e26).trans e27).trans e29) _ _ d21), _, _, _, rfl, (xpo20.ext (((e24.trans e26).trans e27).trans e29)), fun p31 v31 H31 e31 h31 h31' => ?_⟩
      refine ⟨(Nat.le_of_ble_eq_true rfl), fun p32 n32 => ?_⟩
      generalize hg33 : upd _ p32 _ = H33
      obtain ⟨e33, h33⟩ := new_facts n32 hg33
      clear hg33
      obtain rfl : v31 = [] := List.length_eq_zero_iff.mp (h31'.1.trans (by rw [ndl_jnd ro]; rfl))
      refine neD_use (d := .tuple []) (e := .tuple []) 2 (by decide) (.tup (h31.ext e33) .nil) (.tup (SqT.of h33) .nil) rfl rfl fun bb hbb => ?_
      obtain rfl : bb = true := hbb.mpr rfl
      refine ⟨_, rfl, iteF ?_⟩
      have eA := ((((e24.trans e26).trans e27).trans e29).trans e31).trans e33
      have eB := ((e17'.trans e18).trans e19).trans eA
      have ha33 := eB _ _ (e2 _ _ (e1 _ _ ha))
      have wa33 := wa2.ext eB
      have hx33 := h2.ext eB
      have hl33 := h19.ext eA
      have d33 := eB _ _ d3
      have dl33 := eA _ _ d20
      refine ⟨_, rfl, _, rfl, _, _, _, _, _, _, _, rfl, ha33, wa33, fun p34 v34 v34' H34 e34 h34 h34' h34'' h34''' => ?_⟩
      refine ⟨_, rfl, ⟨_, h34⟩, ?_⟩
      rw [jN_jG r0] at hl33
      refine for_it (walk_list (K := K) (a := p34) (xs := v34)) (fun i σ' H' => ∃ v12 : Option V, σ' = [some (.ref a), some (.ref W), some (.ref p2), some (.ref p2'), v4, v5, v6, v7, some (.ref pa), some (.ref pb), v10, some (.ref p19), v12] ∧ Ext H34 H')
        ?_ (fun i σ H' _ p => ?_) (fun i x σ H' H35 hi p y => ?_) fun σ H35 p => ?_
      · exact ⟨v12, rfl, ext_refl _⟩
      · obtain ⟨v12, rfl, e35⟩ := p
        exact h34.ext e35
      · obtain ⟨rfl, hx⟩ := y
        obtain ⟨v12, rfl, e35⟩ := p
        have ln : i < v34'.length := by rw [← h34'.1]; exact (List.getElem?_eq_some_iff.mp hx).1
        obtain ⟨q, rfl, nq⟩ := h34'.2 i _ x (List.getElem?_eq_getElem ln) hx
        obtain ⟨PP, pt⟩ := h34''' _ (List.getElem_mem ln)
        generalize v34'[i] = n at nq pt
        have po1 : PtOk R us (inF R L) n := pt.ok r0 rfl
        have po2 : PtOk R (jnd us ls us) (inF R (jG us ls L)) n := pt.ok r0 (tot_join ro)
        have hx35 := hx33.ext (e34.trans e35)
        have hl35 := hl33.ext (e34.trans e35)
        have d35 := (e34.trans e35) _ _ d33
        have dl35 := (e34.trans e35) _ _ dl33
        have nq35 := nq.ext e35
        refine ⟨_, rfl, _, rfl, _, rfl, .inr ⟨_, _, dl35⟩, _, _, _, _, _, _, _, rfl, hl35, nq35, po2, fun z1 q1 H36 e36 pc1 n36 => ?_⟩
        refine ⟨_, rfl, _, rfl, _, rfl, .inr ⟨_, _, e36 _ _ d35⟩, _, _, _, _, _, _, _, rfl, hx35.ext e36, nq35.ext e36, po1, fun z2 q2 H37 e37 pc2 n37 => ?_⟩
        have js := join_same r0 ro wa.len pt.rep po1 po2 pc2 pc1
        rw [js] at n36
        have n36' := n36.ext e37
        obtain ⟨dx36, d36⟩ := id n36'
        obtain ⟨dx37, d37⟩ := id n37
        obtain ⟨dx38, d38⟩ := id nq
        obtain ⟨dx39, d39⟩ := id nq35
        obtain ⟨dx40, d40⟩ := id n36
        refine ⟨_, _, _, _, _, _, rfl, (e37 _ _ d40), rfl, d37, _, _, _, _, rfl, n36', n37, _, rfl, _, rfl, ?_⟩
        dsimp only
        rw [decide_eq_true rfl]
        refine iteF ?_
        refine ⟨_, rfl, ((e35.trans e36).trans e37)⟩
      · obtain ⟨v12, rfl, e35⟩ := p
        have hx35 := hx33.ext (e34.trans e35)
        have hl35 := hl33.ext (e34.trans e35)
        have d35 := (e34.trans e35) _ _ d33
        have dl35 := (e34.trans e35) _ _ dl33
        refine ⟨_, rfl, _, _, _, rfl, dl35, _, _, _, _, _, rfl, hl35, fun p36 h36 => ?_⟩
        obtain ⟨dx37, d37⟩ := id h36
        refine ⟨_, rfl, _, _, _, rfl, d35, _, _, _, _, _, rfl, hx35, fun p38 h38 => ?_⟩
        obtain ⟨dx39, d39⟩ := id h38
        refine ⟨_, _, _, _, _, _, rfl, d37, rfl, d39, _, _, _, _, rfl, h36, h38, ?_⟩
        have et : sumN ((jnd us ls us).map (inF R (jG us ls L))) = sumN (us.map (inF R L)) := by rw [sum_in r0, sum_in r0, tot_join ro]
        show Q (.bl (decide _)) H35
        rw [et, decide_eq_true rfl]
        exact k _ (((e1.trans e2).trans eB).trans (e34.trans e35))
end
end My
namespace My
open PySem PySem.Spec PyProof.Rows L2
def tMakeV (i : Nat) (C : Addr) (sp : Sp) (E : XK) (t : TA) : TE := fun σ H Q => σ[i]? = some (some (.ref C)) ∧ tMake C sp [] E t σ H Q
section
variable {X : Cx} {CX : CXT} {k i : Nat} {f C : Addr} {fd : FuncData} {ps : List Str} {sp : Sp} {E : XK} {x : Str} {e : Expr} {es : List Expr} {t : TA} {p pos : Pos}
theorem pe_makeV (M : Mk X.K C f) (F : FnOk X.prog X.w X.K X.mg X.base CX k f fd ps sp) (hr : Room (k + 1) X.A) (hb : Binds X.K fd ps []) (hx : Passes CX X E) (hN : X.N[i]? = some x) (hv : Vis X.env.scope x) (ha : PA X (e :: es) t)
    (hd : (x == ("__debug__" : Str)) = false := by decide) (hcd : (x == ("__classdict__" : Str)) = false := by decide)
    (he : starEach (e :: es) X.env = (false, eval e X.env) :: starEach es X.env := by rfl) (hpl : (backTo pos (starEach es X.env)).any (·.1) = false := by rfl) : PE X (.Call (.Name x p) (e :: es) [] pos) (tMakeV i C sp E t) := by
  refine ⟨fun pins s σ H Q I h => ?_⟩
  obtain ⟨hs, h⟩ := h
  refine wpAny_Call_Name_kw (thn ((pe_var (pos := p) (i := i) hN hv hd hcd).run pins s σ H (fun v H1 => v = .ref C ∧ H1 = H) I ⟨.ref C, hs, rfl, rfl⟩) fun u s1 ⟨v, H1, I1, r1, ev, eH⟩ => ?_)
  subst ev
  rw [eH] at I1
  cases r1
  refine PySem.W.callWith_K (h₀ := X.base) I.ok.mod.kin M.kp (thn (ha.run pos pins s1 σ H _ I1 h) fun us s2 ⟨vs, H2, I2, r, q⟩ => ⟨I2.kIn, ?_⟩) he hpl
  exact run_make M F hr hb .nil hx I2 r q
end
end My
namespace My
open PySem PySem.Spec PyProof.Rows L2
local macro_rules | `(tactic| walk_at "side") => `(tactic| first | assumption | decide | exact Or.inl ⟨by decide, by decide⟩ | exact Or.inr ⟨by decide, by decide⟩ | exact ⟨by decide, by decide, by decide⟩ | omega | (unfold CMulW; decide +kernel) | (dsimp only; first | assumption | omega | decide +kernel) | exact len_ok (Nat.le_of_ble_eq_true rfl) | fail "side")
local macro_rules | `(tactic| walk_at "rd") => `(tactic| first
  | refine ⟨_, _, _, _, rfl, rfl, SqL.of upd_same, atI_nat (j := 0) rfl, ?_⟩ | refine ⟨_, _, _, _, rfl, rfl, SqL.of upd_same, atI_nat (j := 1) rfl, ?_⟩ | refine ⟨_, _, _, _, rfl, rfl, SqL.of upd_same, atI_nat (j := 2) rfl, ?_⟩
  | refine ⟨_, _, _, _, rfl, rfl, upd_same, rfl, ?_⟩
  | refine ⟨_, _, rfl, rfl, ?_⟩ | refine ⟨_, rfl, ?_⟩ | refine ⟨_, _, rfl, ?_⟩ | refine Or.inl ⟨_, rfl, ?_⟩ | refine Or.inr ⟨_, rfl, ?_⟩ | refine ⟨(by walk_at "side"), ?_⟩ | fail "rd")
abbrev s_oread : Stmt := inClass (top 40) 1
theorem sc_oread : FnScope ["cls", "upper", "lower"] ["cls", "upper", "lower"] (defScope s_oread) := ⟨rfl, rfl, rfl, by decide +kernel, rfl, by decide +kernel, by decide +kernel⟩
section
variable {X : Cx} {k : Nat} {C : Addr} {p pos : Pos} {e : Expr} {es : List Expr} {t : TA}
theorem mkV (F : OInitAt X.prog X.w X.K X.mg X.base k C (spOInit X.K C)) (hr : Room (k + 1) X.A) (ha : PA X (e :: es) t) (hN : X.N[0]? = some ("cls" : Str) := by rfl) (hv : Vis X.env.scope "cls" := by first | exact Or.inl rfl | exact Or.inr (Or.inl rfl) | exact Or.inr (Or.inr rfl))
    (he : starEach (e :: es) X.env = (false, eval e X.env) :: starEach es X.env := by rfl) (hpl : (backTo pos (starEach es X.env)).any (·.1) = false := by rfl) : PE X (.Call (.Name "cls" p) (e :: es) [] pos) (tMakeV 0 C (spOInit X.K C) E0 t) := by
  obtain ⟨f, fd, M, G, hb⟩ := F.ex
  exact pe_makeV M G hr hb pass0 hN hv ha (by decide) (by decide) he hpl
end
/-- the class method as the top has made it, and its promise -/
structure ReadT (K : PySem.W.Frag) (C : Addr) : Prop where
  ex : ∃ (mc : Value) (p g : Addr) (fd : FuncData), ClX.CRead K C mc ∧ ClX.CMet K C mc "read" p g ∧ Fun K "read" "Order.read" s_oread g fd
structure ReadAt (P : Program) (w : World) (K : PySem.W.Frag) (mg : Str → Option Value) (base : Heap) (k : Nat) (C : Addr) (sp : Sp) : Prop where
  ex : ∃ (mc : Value) (p g : Addr), ClX.CRead K C mc ∧ ClX.CMet K C mc "read" p g ∧ FnR P w K mg base CX0 k g sp
section
variable {X : Cx} {k : Nat} {C : Addr} {sp : Sp} {p pos apos : Pos} {e o : Expr} {es : List Expr} {t : TA} {ta : TE}
theorem readO {pl : Sem Bool} (F : ReadAt X.prog X.w X.K X.mg X.base k C sp) (hr : Room k X.A) (ho : PE X o ta) (ha : PA X (e :: es) t)
    (hst : starEach (e :: es) X.env = (false, eval e X.env) :: starEach es X.env := by rfl) (hpl : (backTo pos (starEach es X.env)).any (·.1) = false := by rfl)
    (ht : eval (.Call (.Attribute o "read" apos) (e :: es) [] pos) X.env = (do
      let ov ← eval o X.env
      standAt apos.atName
      let (f, first) ← holding [ov] (getMethod ov "read" pl)
      callWith pos f first (backTo pos (starEach (e :: es) X.env)) (backToKw pos (keywordEach [] X.env))) := by rfl) : PE X (.Call (.Attribute o "read" apos) (e :: es) [] pos) (ClX.tCMeth C sp E0 ta t) := by
  obtain ⟨mc, q, g, r, c, G⟩ := F.ex
  exact ClX.pe_cmeth ho r c G hr pass0 ha hst hpl ht
end
end My
namespace My
open PySem PySem.Spec PyProof.Rows L2
local macro_rules | `(tactic| walk_at "side") => `(tactic| first | assumption | decide | exact Or.inl ⟨by decide, by decide⟩ | exact Or.inr ⟨by decide, by decide⟩ | exact ⟨by decide, by decide, by decide⟩ | omega | (unfold CMulW; decide +kernel) | (dsimp only; first | assumption | omega | decide +kernel) | exact len_ok (Nat.le_of_ble_eq_true rfl) | fail "side")
local macro_rules | `(tactic| walk_at "rd") => `(tactic| first
  | refine ⟨_, _, _, _, rfl, rfl, SqL.of upd_same, atI_nat (j := 0) rfl, ?_⟩ | refine ⟨_, _, _, _, rfl, rfl, SqL.of upd_same, atI_nat (j := 1) rfl, ?_⟩ | refine ⟨_, _, _, _, rfl, rfl, SqL.of upd_same, atI_nat (j := 2) rfl, ?_⟩
  | refine ⟨_, _, _, _, rfl, rfl, upd_same, rfl, ?_⟩
  | refine ⟨_, _, rfl, rfl, ?_⟩ | refine ⟨_, rfl, ?_⟩ | refine ⟨_, _, rfl, ?_⟩ | refine Or.inl ⟨_, rfl, ?_⟩ | refine Or.inr ⟨_, rfl, ?_⟩ | refine ⟨(by walk_at "side"), ?_⟩ | fail "rd")
def spOReadN (K : PySem.W.Frag) (C : Addr) : Sp := fun vs H Q _ => ∃ (sa sb : Str), vs = [.ref C, .str sa, .str sb] ∧ sa.length ≤ 1000 ∧ sb.length ≤ 1000 ∧ RowsOk (Txt.split sa " ") (Txt.split sb " ") ∧ ∀ o H', Ext H H' → OrdN K C H' o (Txt.split sa " ") (Txt.split sb " ") → Q (.ref o) H'
section
variable {P : Program} {w : World} {K : PySem.W.Frag} {mg : Str → Option Value} {base : Heap} {C : Addr}
theorem ok_oreadN (T : Bn mg) (D : ReadT K C) (F_init : OInitAt P w K mg base 5 C (spOInit K C)) : ReadAt P w K mg base 7 C (spOReadN K C) := by
  obtain ⟨mc, p, g, fd, r, c, F⟩ := D.ex
  have G : FnOk P w K mg base CX0 7 g fd ["cls", "upper", "lower"] (spOReadN K C) := by
    refine F.ok sc_oread (fun vs H Q E h => ?_) fun cdv A outer s H vs Q E hr h => ?_
    · obtain ⟨sa, sb, rfl, _⟩ := h
      rfl
    obtain ⟨sa, sb, rfl, la, lb, ro, k⟩ := h
    refine ⟨_, (pss_cons (ps_if (PW.pt (pw_or (pt_not (pt_val (pe_callB call_isi (by rfl) T.b_isinstance (by decide +kernel) (pa_cons (pv 1) (pa_cons (pe_bltn (v := .ty "str") (by rfl) T.b_str (by decide +kernel) rfl) pa_nil))))) (pw_or1 (pt_not (pt_val (pe_callB call_isi (by rfl) T.b_isinstance (by decide +kernel) (pa_cons (pv 2) (pa_cons (pe_bltn (v := .ty "str") (by rfl) T.b_str (by decide +kernel) rfl) pa_nil)))))))) (pss_one ps_never) pss_nil)
    (pss_one (ps_ret (mkV F_init (hr.mono (by decide)) (pa_cons (pe_callTy call_tupleF (by rfl) T.b_tuple (by decide +kernel) (pa_cons (pe_split (pv 1) pe_str) pa_nil)) (pa_cons (pe_callTy call_tupleF (by rfl) T.b_tuple (by decide +kernel) (pa_cons (pe_split (pv 2) pe_str) pa_nil)) pa_nil)))))), ?_⟩
    refine ⟨_, rfl, _, _, _, _, true, rfl, .ty _, .base (.str _), kit_strstr, _, rfl, ?_⟩
    refine iteF ?_
    refine ⟨_, rfl, _, _, _, _, true, rfl, .ty _, .base (.str _), kit_strstr, _, rfl, ?_⟩
    refine iteF ?_
    have sl : ∀ z : Str, z.length ≤ 1000 → z.length + 2 ≤ sizeLine := fun z h => Nat.le_trans (Nat.add_le_add_right h 2) (by decide)
    refine ⟨rfl, _, rfl, ⟨_, rfl⟩, sa, " ", rfl, rfl, by decide +kernel, sl sa la, fun p1 hp1 => ⟨p1, _, rfl, .inl ⟨SqL.of upd_same, newT_use (K := K) fun q1 H1 e1 t1 m1 => ?_⟩⟩⟩
    have x1 := ext_new (o := HO.lst ((Txt.split sa " ").map V.str)) (ext_refl H) hp1
    refine ⟨_, rfl, ⟨_, rfl⟩, sb, " ", rfl, rfl, by decide +kernel, sl sb lb, fun p2 hp2 => ⟨p2, _, rfl, .inl ⟨SqL.of upd_same, newT_use (K := K) fun q2 H2 e2 t2 m2 => ?_⟩⟩⟩
    have x3 := ext_new (o := HO.lst ((Txt.split sb " ").map V.str)) (ext_refl _) hp2
    exact mkO_useB (fun _ => rfl) (t1.ext (x3.trans e2)) t2 ro fun o H' e oa => k o H' ((((x1.trans e1).trans x3).trans e2).trans e) ⟨_, _, oa, (m1.ext (x3.trans e2)).ext e, m2.ext e⟩
  refine ⟨mc, p, g, r, c, ?_⟩
  have R := G.raw (F.binds (fun _ _ _ _ _ _ us hl => match us, hl with | [_, _, _], _ => rfl)) .nil
  exact R.imp fun vs H Q E h => by rw [List.append_nil]; exact h
end
end My
namespace My
open PySem PySem.Spec PyProof.Rows L2
local macro_rules | `(tactic| walk_at "side") => `(tactic| first | assumption | decide | exact Or.inl ⟨by decide, by decide⟩ | exact Or.inr ⟨by decide, by decide⟩ | exact ⟨by decide, by decide, by decide⟩ | omega | (unfold CMulW; decide +kernel) | (dsimp only; first | assumption | omega | decide +kernel) | exact len_ok (Nat.le_of_ble_eq_true rfl) | fail "side")
local macro_rules | `(tactic| walk_at "rd") => `(tactic| first
  | refine ⟨_, _, _, _, rfl, rfl, SqL.of upd_same, atI_nat (j := 0) rfl, ?_⟩ | refine ⟨_, _, _, _, rfl, rfl, SqL.of upd_same, atI_nat (j := 1) rfl, ?_⟩ | refine ⟨_, _, _, _, rfl, rfl, SqL.of upd_same, atI_nat (j := 2) rfl, ?_⟩
  | refine ⟨_, _, _, _, rfl, rfl, upd_same, rfl, ?_⟩
  | refine ⟨_, _, rfl, rfl, ?_⟩ | refine ⟨_, rfl, ?_⟩ | refine ⟨_, _, rfl, ?_⟩ | refine Or.inl ⟨_, rfl, ?_⟩ | refine Or.inr ⟨_, rfl, ?_⟩ | refine ⟨(by walk_at "side"), ?_⟩ | fail "rd")
abbrev s_onames : Stmt := inClass (top 40) 4
theorem sc_onames : FnScope ["self"] ["self"] (defScope s_onames) := ⟨rfl, rfl, rfl, by decide +kernel, rfl, by decide +kernel, by decide +kernel⟩
section
variable {P : Program} {w : World} {K : PySem.W.Frag} {mg : Str → Option Value} {base : Heap} {C : Addr}
theorem ok_onames (T : Bn mg) (D : PropT K C "names" "Order.names" s_onames) (OT : OrdT K mg C) : PropAt P w K mg base 1 C "names" (spNames K C) := by
  refine propAt D sc_onames (fun _ _ _ _ _ _ us hl => match us, hl with | [_], _ => rfl) (fun vs H Q E h => ?_) fun f cdv A outer s H vs Q E hr h => ?_
  · obtain ⟨o, zs, ys, rfl, _⟩ := h
    rfl
  obtain ⟨o, zs, ys, rfl, ⟨dx, a, b, c, e, ha, hb, hc, ro⟩, k⟩ := h
  have l1 := ro.le
  refine ⟨_, (pss_one (ps_ret (pe_callTy call_tuple_of (by rfl) T.b_tuple (by decide +kernel) (pa_cons (pe_callB cr_sortedB (by rfl) T.b_sorted (by decide +kernel) (pa_cons (pe_fld (pv 0) rfl) pa_nil)) pa_nil)))), _, rfl, o, C, dx, _, _, rfl, e, OT.cl, OT.nA, ofs_a a b c, a, zs, rfl, .inr ha, by omega, fun ns p pm so hp => ?_⟩
  refine ⟨p, _, rfl, .inl ⟨SqL.of upd_same, fun l hl => ?_⟩⟩
  exact k ns l _ ⟨pm, so⟩ (ext_new (ext_new (ext_refl H) hp) hl) (SqT.of upd_same)
end
end My
namespace My
open PySem PySem.Spec PyProof.Rows L2
theorem zk_mem {k : Key} {v : V} : ∀ {ks : List Str} {vs : List V}, (k, v) ∈ zkV ks vs → ∃ (i : Nat) (z : Str), k = .inr z ∧ ks[i]? = some z ∧ vs[i]? = some v
  | [], vs, h => by unfold zkV at h; simp at h
  | z :: ks, [], h => by unfold zkV at h; simp at h
  | z :: ks, x :: vs, h => by
    unfold zkV at h
    rw [List.zip_cons_cons, List.map_cons] at h
    rcases List.mem_cons.mp h with q | q
    · cases q
      exact ⟨0, z, rfl, rfl, rfl⟩
    · obtain ⟨i, y, a, b, c⟩ := zk_mem (show (k, v) ∈ zkV ks vs from q)
      exact ⟨i + 1, y, a, b, c⟩
theorem ddict_use {CN d e : Addr} {H : Hp} {ks ls : List Str} {f g : Str → Nm} (h1 : NumD CN H d ks f) (h2 : NumD CN H e ls g) (ne : d ≠ e) (pm : ks.Perm ls) (eq : ∀ z ∈ ks, f z = g z) : DDict (DIns CN (NumSame CN)) (.ref d) (.ref e) H := by
  obtain ⟨vs, hd, al⟩ := h1.ex
  obtain ⟨ws, he, bl⟩ := h2.ex
  have l1 : vs.length = ks.length := by rw [al.1, List.length_map]
  have l2 : ws.length = ls.length := by rw [bl.1, List.length_map]
  have far : ∀ {a : Addr} {n : Nm} {o : HO}, NumAt CN H a n → NumAt CN (upd H d o) a n := fun {a n o} ⟨dx, q⟩ => ⟨dx, by
    rw [upd_ne fun c => by rw [c, hd] at q; cases q]
    exact q⟩
  refine ⟨d, e, _, _, rfl, rfl, ne, hd, he, ?_, fun k v hm => ?_⟩
  · rw [zkV_length l1, zkV_length l2, pm.length_eq]
  · obtain ⟨i, z, rfl, hz, hv⟩ := zk_mem hm
    obtain ⟨a, n, rfl, hn, na⟩ := al.2 i v hv
    have mz := List.mem_of_getElem? hz
    have ml := pm.mem_iff.mp mz
    have lt := pos_lt ml
    rw [List.getElem?_map, hz] at hn
    cases hn
    have hw : ws[pos ls z]? = some ws[pos ls z] := List.getElem?_eq_getElem (by omega)
    obtain ⟨b, m, e1, e2, nb⟩ := bl.2 _ _ hw
    rw [List.getElem?_map, pos_get ml] at e2
    cases e2
    refine ⟨.ref b, by rw [valV_zk _ _ _ ml (by omega), hw, e1], fun oa => ?_⟩
    have na' := far (o := .frz oa (.dK (zkV ks vs))) na
    have nb' := far (o := .frz oa (.dK (zkV ks vs))) nb
    rw [← eq z mz] at nb'
    obtain ⟨dx, qa⟩ := id na'
    obtain ⟨dy, qb⟩ := id nb'
    exact ⟨a, b, _, _, _, _, rfl, rfl, qa, qb, _, na', nb'⟩
end My
namespace My
open PySem PySem.Spec PyProof.Rows L2
local macro_rules | `(tactic| walk_at "side") => `(tactic| first | assumption | decide | exact Or.inl ⟨by decide, by decide⟩ | exact Or.inr ⟨by decide, by decide⟩ | exact ⟨by decide, by decide, by decide⟩ | omega | (unfold CMulW; decide +kernel) | (dsimp only; first | assumption | omega | decide +kernel) | exact len_ok (Nat.le_of_ble_eq_true rfl) | fail "side")
local macro_rules | `(tactic| walk_at "rd") => `(tactic| first
  | refine ⟨_, _, _, _, rfl, rfl, SqL.of upd_same, atI_nat (j := 0) rfl, ?_⟩ | refine ⟨_, _, _, _, rfl, rfl, SqL.of upd_same, atI_nat (j := 1) rfl, ?_⟩ | refine ⟨_, _, _, _, rfl, rfl, SqL.of upd_same, atI_nat (j := 2) rfl, ?_⟩
  | refine ⟨_, _, _, _, rfl, rfl, upd_same, rfl, ?_⟩
  | refine ⟨_, _, rfl, rfl, ?_⟩ | refine ⟨_, rfl, ?_⟩ | refine ⟨_, _, rfl, ?_⟩ | refine Or.inl ⟨_, rfl, ?_⟩ | refine Or.inr ⟨_, rfl, ?_⟩ | refine ⟨(by walk_at "side"), ?_⟩ | fail "rd")
abbrev s_law : Stmt := top 75
theorem sc_law : FnScope ["_law_script", "_law_spot", "_law_dice_here", "_law_lengths", "_law_exchange_here", "_law_name"] ["_law_script"] (defScope s_law) := ⟨rfl, rfl, rfl, by decide +kernel, rfl, by decide +kernel, by decide +kernel⟩
def zA : List Str := ["a", "b", "c"]
def yA : List Str := ["c", "a", "b"]
def lA (z : Str) : Int × Int := if z = "a" then (2, 0) else if z = "b" then (1, 0) else (3, 0)
theorem roA : RowsOk zA yA := ⟨by decide +kernel, by decide +kernel, by decide +kernel, by decide, by decide⟩
theorem spA : Txt.split "a b c" " " = zA ∧ Txt.split "c a b" " " = yA := by decide +kernel
theorem lenA' : ∀ z ∈ zA, LenP 0 (lA z) := fun z hz => by
  have : z = "a" ∨ z = "b" ∨ z = "c" := by simpa [zA] using hz
  rcases this with rfl | rfl | rfl
  · exact ⟨by decide +kernel, by decide +kernel, by decide +kernel, by decide +kernel, by decide +kernel, fun _ => by decide +kernel⟩
  · exact ⟨by decide +kernel, by decide +kernel, by decide +kernel, by decide +kernel, by decide +kernel, fun _ => by decide +kernel⟩
  · exact ⟨by decide +kernel, by decide +kernel, by decide +kernel, by decide +kernel, by decide +kernel, fun _ => by decide +kernel⟩
theorem jA : jnd zA yA zA = (["a", "c"] : List Str) := by decide +kernel
theorem gA : jG zA yA lA "a" = (3, 0) ∧ jG zA yA lA "c" = (3, 0) := by decide +kernel
theorem fA : frm zA yA "a" "a" = 0 ∧ frm zA yA "a" "b" = 0 ∧ frm zA yA "a" "c" = 1 := by decide +kernel
def spLaw (K : PySem.W.Frag) : Sp := fun vs H Q _ => ∃ (a : Addr) (ns : List Int), vs = [.ref a] ∧ SqL K H a (ns.map V.int) ∧ ns.length ≤ 63 ∧ ∀ H', Q (.bl true) H'
theorem OrdN.at {K : PySem.W.Frag} {C o : Addr} {H : Hp} {zs ys : List Str} (h : OrdN K C H o zs ys) : OrdAt K C H o zs ys := let ⟨_, _, x, _, _⟩ := h; x.at
section
variable {P : Program} {w : World} {K : PySem.W.Frag} {mg : Str → Option Value} {base : Heap} {C CN CX : Addr}
theorem ok_law {fa : Addr} {fd : FuncData} (T : Bn mg) (D : Fun K "law" "law" s_law fa fd) (NC : NumT K mg CN) (XT : XchT K mg CX) (OT : OrdT K mg C) (F__law_dice : FnAt P w K mg base 1 "_law_dice" ["_law_script", "_law_spot"] (spDice K)) (F__law_right : FnAt P w K mg base 13 "_law_right" ["_law_dice_here"] spLR8)
    (R_readN : ReadAt P w K mg base 7 C (spOReadN K C)) (FN_init : InitAt P w K mg base 3 CN (spInit CN)) (FX_init : XInitAt P w K mg base 9 CX (spXInit K C CN CX)) (F_joined : FnAt P w K mg base 11 "joined" ["exchange"] (spXJoin K C CN CX)) (PX_lengths : PropAt P w K mg base 1 CX "lengths" (spXDict K C CN CX fun _ _ f => f)) (PX_order : PropAt P w K mg base 1 CX "order" (spXOrder CX)) (M_form : MethAt P w K mg base 2 C "form" ["self", "one", "other"] (spOForm K C)) (SN_eq : SpAt P w K mg base 1 CN "__eq__" ["self", "other"] (spEqN CN)) : FnOk P w K mg base CX0 15 fa fd ["_law_script"] (spLaw K) := by
  refine D.ok sc_law (fun vs H Q E h => ?_) fun cdv A outer s H vs Q E hr h => ?_
  · obtain ⟨a, ns, rfl, _⟩ := h
    rfl
  obtain ⟨a, ns, rfl, hS, hl, k⟩ := h
  refine ⟨_, (pss_cons (ps_for PassesOwn.never rfl (pi_range1 (by rfl) T.b_range (pa_cons (pe_callB (call_max2 rfl) (by rfl) T.b_max (by decide +kernel) (pa_cons pe_int (pa_cons (pe_callB (call_min2 rfl) (by rfl) T.b_min (by decide +kernel) (pa_cons pe_int (pa_cons (pe_callB call_len_seq (by rfl) T.b_len (by decide +kernel) (pa_cons (pv 0) pa_nil)) pa_nil))) pa_nil))) pa_nil)) (pg_name (i := 1) sc_law.nd rfl (Or.inl rfl))
      (pss_cons (ps_set (i := 2) sc_law.nd rfl (Or.inl rfl) (callA F__law_dice (hr.mono (by decide)) rfl (pa_cons (pv 0) (pa_cons (pv 1) pa_nil))))
    (pss_one (ps_if (PW.pt (pw_or (pt_not (pt_val (callA F__law_right (hr.mono (by decide)) rfl (pa_cons (pv 2) pa_nil)))) (pw_or1 (pt_not (pt_val (callA F__law_right (hr.mono (by decide)) rfl (pa_cons (pv 2) pa_nil))))))) (pss_one (ps_ret pe_bl)) pss_nil))))
    (pss_cons (ps_set (i := 3) sc_law.nd rfl (Or.inl rfl) (pe_disp (pps_cons pe_str (mk1A FN_init NC.g (hr.mono (by decide)) rfl (pa_cons pe_int pa_nil)) (pps_cons pe_str (mk1A FN_init NC.g (hr.mono (by decide)) rfl (pa_cons pe_int pa_nil)) (pps_cons pe_str (mk1A FN_init NC.g (hr.mono (by decide)) rfl (pa_cons pe_int pa_nil)) pps_nil))) rfl rfl (by intro z; cases z) (Nat.le_of_ble_eq_true rfl)))
    (pss_cons (ps_set (i := 4) sc_law.nd rfl (Or.inr rfl) (mkX FX_init XT (hr.mono (by decide)) (pa_cons (readO R_readN (hr.mono (by decide)) (pe_glob (v := .ref C) rfl OT.g rfl) (pa_cons pe_str (pa_cons pe_str pa_nil))) (pa_cons (pv 3) pa_nil))))
    (pss_cons (ps_if (pt_cmpR (neDN SN_eq (hr.mono (by decide))) (propA PX_lengths XT.cl (hr.mono (by decide)) (callA F_joined (hr.mono (by decide)) rfl (pa_cons (pv 4) pa_nil))) (pe_disp (pps_cons pe_str (mk1A FN_init NC.g (hr.mono (by decide)) rfl (pa_cons pe_int pa_nil)) (pps_cons pe_str (mk1A FN_init NC.g (hr.mono (by decide)) rfl (pa_cons pe_int pa_nil)) pps_nil)) rfl rfl (by intro z; cases z) (Nat.le_of_ble_eq_true rfl)) (nomark _)) (pss_one (ps_ret pe_bl)) pss_nil)
    (pss_one (ps_ret (pe_cmpR (op_eqD (hu64 hr)) (pe_lc (own := [("_law_name", 5)]) (g := gName 5) (tt := tYes) rfl sc_law.nd (pi_tup (pe_tup (pa_cons pe_str (pa_cons pe_str (pa_cons pe_str pa_nil))))) (blkOk_by (N := ["_law_script", "_law_spot", "_law_dice_here", "_law_lengths", "_law_exchange_here", "_law_name"]) (sc := defScope s_law) (by decide +kernel)) (fun _ _ _ _ _ => pg_name (i := 5) sc_law.nd rfl (Or.inl rfl)) (fun _ _ _ _ _ => pts_nil) (fun _ _ _ _ _ => (methA M_form OT.cl (hr.mono (by decide)) (propA PX_order XT.cl (hr.mono (by decide)) (pv 4)) (pa_cons pe_str (pa_cons (pv 5) pa_nil))))) (pe_lst (pa_cons pe_int (pa_cons pe_int (pa_cons pe_int pa_nil)))) (nomark _)))))))), ?_⟩
  have hb : ∀ L : Int, 0 ≤ L → 1 ≤ (if (if L < 3 then L else 3) > 1 then (if L < 3 then L else 3) else 1) ∧ (if (if L < 3 then L else 3) > 1 then (if L < 3 then L else 3) else 1) ≤ 3 := by
    intro L h
    split <;> split <;> omega
  have hb := hb (((ns.map V.int).length : Nat) : Int) (by omega)
  refine ⟨_, rfl, a, _, rfl, .inl hS, _, _, rfl, _, _, rfl, _, rfl, by omega, by omega, ?_⟩
  refine forR (fun i σ' H' => ∃ x1 x2 x3 x4 x5 : Option V, σ' = [some (.ref a), x1, x2, x3, x4, x5] ∧ Ext H H') ⟨_, _, _, _, _, rfl, ext_refl H⟩ (fun i σ H' hi p => ?_) fun σ H' p => ?_
  · obtain ⟨x1, x2, x3, x4, x5, rfl, e⟩ := p
    refine ⟨_, rfl, _, rfl, _, _, _, rfl, (hS.ext e), (by omega), (by omega), fun p1 H1 n1 e1 h1 => ?_⟩
    refine ⟨_, rfl, _, rfl, h1, fun H2 e2 => ?_⟩
    refine ⟨_, rfl, iteF ?_⟩
    refine ⟨_, rfl, _, rfl, (e2 _ _ h1), fun H3 e3 => ?_⟩
    refine ⟨_, rfl, iteF ?_⟩
    refine ⟨_, _, _, _, _, rfl, (((e.trans e1).trans e2).trans e3)⟩
  · obtain ⟨x1, x2, x3, x4, x5, rfl, e⟩ := p
    intro p1 n1
    generalize hg2 : upd _ p1 _ = H2
    obtain ⟨e2, h2⟩ := new_facts n1 hg2
    clear hg2
    refine mkN_useR (fun _ => rfl) nv1 fun p3 H3 e3 h3 => ?_
    obtain ⟨dx4, d4⟩ := id h3
    refine mkN_useR (fun _ => rfl) nv1 fun p5 H5 e5 h5 => ?_
    obtain ⟨dx6, d6⟩ := id h5
    refine mkN_useR (fun _ => rfl) nv1 fun p7 H7 e7 h7 => ?_
    obtain ⟨dx8, d8⟩ := id h7
    have e37 := (e3.trans e5).trans e7
    have h37 := e37 _ _ h2
    refine ⟨h37, [(.inr "a", .ref p3), (.inr "b", .ref p5), (.inr "c", .ref p7)], rfl, (Nat.le_of_ble_eq_true rfl), ?_⟩
    generalize hg9 : upd _ p1 _ = H9
    obtain ⟨b9, h9⟩ := but_upd h37 hg9
    clear hg9
    have em : mergeK [] [((.inr "a" : Key), V.ref p3), (.inr "b", .ref p5), (.inr "c", .ref p7)] = zkV zA [.ref p3, .ref p5, .ref p7] := rfl
    rw [em] at h9
    have e9 := ext_but b9 (e2.trans e37) n1
    have n3 := ((h3.ext (e5.trans e7)).but b9)
    have n5 := ((h5.ext e7).but b9)
    have n7 := h7.but b9
    rw [lst10] at n3 n5 n7
    have nD : NumD CN H9 p1 zA (inF 0 lA) := ⟨⟨[.ref p3, .ref p5, .ref p7], h9, rfl, fun i v hv => by
      match i, hv with
      | 0, hv => cases hv; exact ⟨p3, _, rfl, rfl, n3⟩
      | 1, hv => cases hv; exact ⟨p5, _, rfl, rfl, n5⟩
      | 2, hv => cases hv; exact ⟨p7, _, rfl, rfl, n7⟩⟩, roA.nd⟩
    have xg := mkXG (L := lA) (.inl rfl) (Int.le_refl 0) roA (by decide) lenA'
    refine ⟨rfl, "a b c", "c a b", rfl, by decide, by decide, by rw [spA.1, spA.2]; exact roA, fun o H10 e10 oN => ?_⟩
    rw [spA.1, spA.2] at oN
    have nD10 := nD.ext e10
    refine ⟨_, rfl, ?_⟩
    refine mkX_useO (fun _ => rfl) (OrdN.at oN) nD10 (List.Perm.refl _) xg fun x H11 e11 hx xo => ?_
    have oN11 := oN.ext e11
    obtain ⟨dx11, xo11, xa11, xb11, xl11, xs11, xt11, xn11, xr11, xd11, xe11, xf11, d11, xp11, _⟩ := id hx
    have jo := mkJOk (L := lA) (.inl rfl) (Int.le_refl 0) roA (by decide) lenA'
    obtain ⟨dx12, d12⟩ := id n3
    obtain ⟨dx13, d13⟩ := id n5
    obtain ⟨dx14, d14⟩ := id n7
    refine ⟨_, rfl, ?_⟩
    refine ⟨_, _, _, _, _, rfl, hx, jo, fun j Hj ej hj => ?_⟩
    rw [jN_jG (Int.le_refl 0)] at hj
    obtain ⟨dxj, xoj, xaj, xbj, xlj, xsj, xtj, xnj, xrj, xdj, xej, xfj, dj, _, _⟩ := id hj
    refine ⟨_, _, _, rfl, dj, _, _, _, _, _, rfl, hj, fun dd ns1 H15 e15 nD15 so15 => ?_⟩
    intro p16 n16
    generalize hg17 : upd _ p16 _ = H17
    obtain ⟨e17, h17⟩ := new_facts n16 hg17
    clear hg17
    refine mkN_useR (fun _ => rfl) nv1 fun p18 H18 e18 h18 => ?_
    obtain ⟨dx19, d19⟩ := id h18
    refine mkN_useR (fun _ => rfl) nv1 fun p20 H20 e20 h20 => ?_
    obtain ⟨dx21, d21⟩ := id h20
    have h2017 := (e18.trans e20) _ _ h17
    refine ⟨h2017, [(.inr "a", .ref p18), (.inr "c", .ref p20)], rfl, (Nat.le_of_ble_eq_true rfl), ?_⟩
    generalize hg22 : upd _ p16 _ = H22
    obtain ⟨b22, h22⟩ := but_upd h2017 hg22
    clear hg22
    have em2 : mergeK [] [((.inr "a" : Key), V.ref p18), (.inr "c", .ref p20)] = zkV (["a", "c"] : List Str) [.ref p18, .ref p20] := rfl
    rw [em2] at h22
    have e22 := ext_but b22 (e17.trans (e18.trans e20)) n16
    have m18 := (h18.ext e20).but b22
    have m20 := h20.but b22
    rw [lst10] at m18 m20
    have nE : NumD CN H22 p16 (["a", "c"] : List Str) (fun _ => ⟨3, 0, 0, 1⟩) := ⟨⟨[.ref p18, .ref p20], h22, rfl, fun i v hv => by
      match i, hv with
      | 0, hv => cases hv; exact ⟨p18, _, rfl, rfl, m18⟩
      | 1, hv => cases hv; exact ⟨p20, _, rfl, rfl, m20⟩⟩, by decide +kernel⟩
    have pm : ns1.Perm (["a", "c"] : List Str) := by
      have := so15.pm
      rw [jA] at this
      exact this
    obtain ⟨dvs, hdd, _⟩ := nD15.ex
    have ne : dd ≠ p16 := fun c => by rw [c, n16] at hdd; cases hdd
    refine ⟨ddict_use (nD15.ext e22) nE ne pm fun z hz => ?_, fun H23 e23 => ?_⟩
    · have : z = "a" ∨ z = "c" := by
        have := pm.mem_iff.mp hz
        simpa using this
      rcases this with rfl | rfl
      · show inN 0 (jG zA yA lA "a") = _
        rw [gA.1]
        rfl
      · show inN 0 (jG zA yA lA "c") = _
        rw [gA.2]
        rfl
    · refine ⟨_, rfl, iteF ?_⟩
      obtain ⟨dx24, d24⟩ := id m18
      obtain ⟨dx25, d25⟩ := id m20
      refine ⟨(Nat.le_of_ble_eq_true rfl), fun p26 n26 => ?_⟩
      generalize hg27 : upd _ p26 _ = H27
      obtain ⟨e27, h27⟩ := new_facts n26 hg27
      clear hg27
      refine ⟨_, rfl, ⟨_, (SqT.of h27)⟩, fun p28 n28 => ?_⟩
      refine mapT (zs := zA) V.str (fun z => .int (frm zA yA "a" z)) (SqT.of h27) n28 (by decide) (fun _ => rfl) (fun i z H29 hz e29 Q' k' => ?_) fun H29 e29 h29 => ?_
      · have eX := (((ej.trans e15).trans e22).trans e23).trans (e27.trans e29)
        have mz := List.mem_of_getElem? hz
        obtain ⟨oA, oB, oab, na, nb⟩ := oN11.ext eX
        obtain ⟨odx, oC, od, _⟩ := id oab
        have xoX := xo.ext eX
        have dX := eX _ _ d11
        have ma : ("a" : Str) ∈ zA := by decide +kernel
        have lf : List.lookup ("form" : Str) (ofs oA oB oC) = none := rfl
        refine ⟨_, rfl, _, _, _, rfl, dX, _, _, rfl, xoX, _, _, _, rfl, od, rfl, _, rfl, _, _, _, _, _, _, _, rfl, oab, na, nb, ma, mz, fun H30 e30 => ?_⟩
        refine (k' _ e30)
      · have eq3 : zA.map (fun z => V.int (frm zA yA "a" z)) = [.int 0, .int 0, .int 1] := by
          show [V.int (frm zA yA "a" "a"), .int (frm zA yA "a" "b"), .int (frm zA yA "a" "c")] = _
          rw [fA.1, fA.2.1, fA.2.2]
        rw [eq3] at h29
        refine ⟨(Nat.le_of_ble_eq_true rfl), fun p30 n30 => ?_⟩
        generalize hg31 : upd _ p30 _ = H31
        obtain ⟨e31, h31⟩ := new_facts n30 hg31
        clear hg31
        refine eqD_use (d := .list (([0, 0, 1] : List Int).map .int)) (e := .list (([0, 0, 1] : List Int).map .int)) 2 (by decide) (.lst (SqL.of (e31 _ _ h29)) (dp_ints [0, 0, 1])) (.lst (SqL.of h31) (dp_ints [0, 0, 1])) rfl rfl fun bb hbb => ?_
        obtain rfl : bb = true := hbb.mpr rfl
        exact k _
end
end My
namespace My
open PySem PySem.Spec PyProof.Rows L2
section
variable {K : PySem.W.Frag} {h : Heap} {mg : Str → Option Value}
theorem defAt_mk {x : Str} {st : Stmt} {f : Addr} {oc : Value} {od an : Option Addr} {osl : Array (Option Value)} {kV doc pm cdv ct : Value} (X : K.In h) (G : h.Ns mainGlobals mg) (a : PySem.W.nsIn K mainGlobals x = some (some (.ref f)))
    (l : K.lookup f = some ⟨oc, od, .func (PySem.W.fnOf x x (defArgs st) (defBody st) (defScope st) .none kV doc pm an cdv ct), osl⟩) (c : PySem.W.codeIn K cdv x = true) (k : PySem.W.keepIn K (.ref f) = true) : DefAt K mg x st :=
  ⟨f, _, PySem.W.mg_of X G a, fun_mk l c k⟩
theorem spT_mk {C : Addr} {x qual : Str} {st : Stmt} {f : Addr} {oc : Value} {od an : Option Addr} {osl : Array (Option Value)} {kV doc pm cdv ct : Value} (a : PySem.W.findIn K (.ref C) x = some (some (.ref f))) (i : PySem.W.isFn K (.ref f) = true)
    (l : K.lookup f = some ⟨oc, od, .func (PySem.W.fnOf x qual (defArgs st) (defBody st) (defScope st) .none kV doc pm an cdv ct), osl⟩) (c : PySem.W.codeIn K cdv qual = true) (k : PySem.W.keepIn K (.ref f) = true) : SpT K C x qual st :=
  ⟨f, _, a, i, fun_mk l c k⟩
theorem methT_mk {C : Addr} {x qual : Str} {st : Stmt} {f : Addr} {oc : Value} {od an : Option Addr} {osl : Array (Option Value)} {kV doc pm cdv ct : Value} (a : PySem.W.findIn K (.ref C) x = some (some (.ref f))) (i : PySem.W.isFn K (.ref f) = true)
    (l : K.lookup f = some ⟨oc, od, .func (PySem.W.fnOf x qual (defArgs st) (defBody st) (defScope st) .none kV doc pm an cdv ct), osl⟩) (c : PySem.W.codeIn K cdv qual = true) (k : PySem.W.keepIn K (.ref f) = true) : MethT K C x qual st :=
  ⟨f, _, ⟨a, i, k⟩, i, fun_mk l c k⟩
theorem opT_mk {C : Addr} {op : Operator} {x qual : Str} {st : Stmt} {f : Addr} {oc : Value} {od an : Option Addr} {osl : Array (Option Value)} {kV doc pm cdv ct : Value} (W : OwnOp K C op f)
    (l : K.lookup f = some ⟨oc, od, .func (PySem.W.fnOf x qual (defArgs st) (defBody st) (defScope st) .none kV doc pm an cdv ct), osl⟩) (c : PySem.W.codeIn K cdv qual = true) (k : PySem.W.keepIn K (.ref f) = true) : OpT K C op x qual st :=
  ⟨f, _, W, fun_mk l c k⟩
theorem propT_mk {C : Addr} {x qual : Str} {st : Stmt} {p g : Addr} {oc : Value} {od an : Option Addr} {osl : Array (Option Value)} {kV doc pm cdv ct : Value} (W : PropOf K C x p g)
    (l : K.lookup g = some ⟨oc, od, .func (PySem.W.fnOf x qual (defArgs st) (defBody st) (defScope st) .none kV doc pm an cdv ct), osl⟩) (c : PySem.W.codeIn K cdv qual = true) (k : PySem.W.keepIn K (.ref g) = true) : PropT K C x qual st :=
  ⟨p, g, _, W, fun_mk l c k⟩
theorem ordT_mk {C f : Addr} {oc : Value} {od an : Option Addr} {osl : Array (Option Value)} {kV doc pm cdv ct : Value} (X : K.In h) (G : h.Ns mainGlobals mg)
    (a : PySem.W.nsIn K mainGlobals "Order" = some (some (.ref C))) (pg : PySem.W.plainGet K C Str.empty = true) (hd : PySem.W.hasDictIn K C = true) (po : PySem.W.plainOver K C = true) (sa : PySem.W.findIn K (.ref C) "__setattr__" = some (some (.builtin "object.__setattr__")))
    (n1 : PySem.W.findIn K (.ref C) "_above" = some none) (n2 : PySem.W.findIn K (.ref C) "_below" = some none) (n3 : PySem.W.findIn K (.ref C) "_places" = some none)
    (mk : PySem.W.makesIn K C = true) (ai : PySem.W.findIn K (.ref C) "__init__" = some (some (.ref f))) (ii : PySem.W.isFn K (.ref f) = true) (kc : PySem.W.keepIn K (.ref C) = true)
    (l : K.lookup f = some ⟨oc, od, .func (PySem.W.fnOf "__init__" "Order.__init__" (defArgs s_oinit) (defBody s_oinit) (defScope s_oinit) .none kV doc pm an cdv ct), osl⟩) (c : PySem.W.codeIn K cdv "Order.__init__" = true) (kf : PySem.W.keepIn K (.ref f) = true) : OrdT K mg C :=
  ⟨PySem.W.mg_of X G a, ⟨pg, hd, po, sa⟩, n1, n2, n3, ⟨f, _, ⟨mk, ai, ii, kc⟩, fun_mk l c kf⟩⟩
theorem readT_mk {C p g : Addr} {oc : Value} {od an : Option Addr} {osl : Array (Option Value)} {kV doc pm cdv ct : Value}
    (rd : PySem.W.readsIn K C (.type "type") = true) (ga : PySem.W.specialIn K (.ref C) "__getattribute__" = some (some (.builtin "type.__getattribute__"))) (at_ : PySem.W.findCls K (.ref C) (.type "type") "read" = some (.get (.builtin "classmethod.__get__") (.ref p) .none (.ref C)))
    (rc : ∃ rest, PySem.W.recIn K p "classmethod" = some (.ref g :: rest)) (fi : PySem.W.fnIn K g = true)
    (l : K.lookup g = some ⟨oc, od, .func (PySem.W.fnOf "read" "Order.read" (defArgs s_oread) (defBody s_oread) (defScope s_oread) .none kV doc pm an cdv ct), osl⟩) (c : PySem.W.codeIn K cdv "Order.read" = true) (kf : PySem.W.keepIn K (.ref g) = true) : ReadT K C :=
  ⟨.type "type", p, g, _, ⟨rd, ga⟩, ⟨at_, rc, fi⟩, fun_mk l c kf⟩
theorem numT_mk {C f : Addr} {T D : Addr} {oT oc : Value} {odT od an : Option Addr} {slT osl : Array (Option Value)} {nT : Nat} {tk1 tk2 tk3 : Tok} {doc pm cdv ct : Value} (X : K.In h) (G : h.Ns mainGlobals mg)
    (a : PySem.W.nsIn K mainGlobals "Number" = some (some (.ref C))) (pg : PySem.W.plainGet K C Str.empty = true) (hd : PySem.W.hasDictIn K C = true) (po : PySem.W.plainOver K C = true) (sa : PySem.W.findIn K (.ref C) "__setattr__" = some (some (.builtin "object.__setattr__")))
    (n1 : PySem.W.findIn K (.ref C) "_top" = some none) (n2 : PySem.W.findIn K (.ref C) "_part" = some none) (n3 : PySem.W.findIn K (.ref C) "_root" = some none) (n4 : PySem.W.findIn K (.ref C) "_bottom" = some none)
    (mk : PySem.W.makesIn K C = true) (ai : PySem.W.findIn K (.ref C) "__init__" = some (some (.ref f))) (ii : PySem.W.isFn K (.ref f) = true) (kc : PySem.W.keepIn K (.ref C) = true)
    (l : K.lookup f = some ⟨oc, od, .func (PySem.W.fnOf "__init__" "Number.__init__" (defArgs s_ninit) (defBody s_ninit) (defScope s_ninit) (.ref T) (.ref D) doc pm an cdv ct), osl⟩) (c : PySem.W.codeIn K cdv "Number.__init__" = true) (kf : PySem.W.keepIn K (.ref f) = true)
    (lT : K.lookup T = some ⟨oT, odT, .seq #[.int 0 tk1] nT, slT⟩) (d1 : PySem.W.nsIn K D "root" = some (some (.int 0 tk2))) (d2 : PySem.W.nsIn K D "bottom" = some (some (.int 1 tk3)))
    (g1 : PySem.W.nsIn K mainGlobals "gcd" = some (some (.builtin "math.gcd"))) : NumT K mg C :=
  ⟨PySem.W.mg_of X G a, ⟨pg, hd, po, sa⟩, n1, n2, n3, n4, ⟨f, _, ⟨mk, ai, ii, kc⟩, ⟨⟨oc, od, .ref T, .ref D, doc, pm, an, cdv, ct, osl, rfl, l, c, .inr ⟨by simp, T, _, [.int 0 tk1], nT, rfl, lT, rfl, .cons ⟨_, rfl⟩ .nil⟩, .inr ⟨D, rfl, fun q hq => by
    rcases List.mem_cons.mp hq with rfl | hq
    · exact ⟨_, d1, ⟨_, rfl⟩⟩
    · rcases List.mem_cons.mp hq with rfl | hq
      · exact ⟨_, d2, ⟨_, rfl⟩⟩
      · cases hq⟩⟩, kf⟩⟩, PySem.W.mg_of X G g1⟩
theorem numK_mk {q : Addr} {tk : Tok} {od : Option Addr} {n : Nat} {sl : Array (Option Value)} {t1 t2 t3 t4 t5 t6 t7 t8 t9 t10 t11 : Tok} (X : K.In h) (G : h.Ns mainGlobals mg) (a : PySem.W.nsIn K mainGlobals "MAX_ROOT" = some (some (.int 999 tk))) (b : PySem.W.nsIn K mainGlobals "PRIME_SQUARES" = some (some (.ref q)))
    (l : K.lookup q = some ⟨.type "tuple", od, .seq #[.int 4 t1, .int 9 t2, .int 25 t3, .int 49 t4, .int 121 t5, .int 169 t6, .int 289 t7, .int 361 t8, .int 529 t9, .int 841 t10, .int 961 t11] n, sl⟩) : NumK K mg :=
  ⟨⟨_, PySem.W.mg_of X G a⟩, ⟨q, PySem.W.mg_of X G b, fun H => .inr ⟨_, _, _, l, rfl, rfl, by show 11 ≤ sizeLine; decide, .cons ⟨_, rfl⟩ (.cons ⟨_, rfl⟩ (.cons ⟨_, rfl⟩ (.cons ⟨_, rfl⟩ (.cons ⟨_, rfl⟩ (.cons ⟨_, rfl⟩ (.cons ⟨_, rfl⟩ (.cons ⟨_, rfl⟩ (.cons ⟨_, rfl⟩ (.cons ⟨_, rfl⟩ (.cons ⟨_, rfl⟩ .nil))))))))))⟩⟩⟩
theorem neK_mk {C N f : Addr} {o : Obj} {es : List DictEntry} {oc2 : Value} {od2 : Option Addr} {sl2 : Array (Option Value)} {n2 : Nat} {nm q : Str} {bs : List Value} {hdct : Bool} {sn : List Str} {sub : List Value} {ab : Bool} {col : Option Bool} {dd : Option Addr} {k0 k1 k2 k3 k5 : Option Value} {newId : String} {od : Option Addr} {fd : FuncData} {sl : Array (Option Value)}
    (a1 : K.lookup C = some o) (e : o = excClassObj nm q C N bs [.type "object"] hdct sn sub ab col dd k0 k1 k2 k3 k5 newId) (a2 : K.lookup N = some ⟨oc2, od2, .dict es.toArray n2, sl2⟩) (e2 : (es.all fun e => match e.key with | .str _ _ => true | _ => false) = true)
    (a3 : PySem.W.nsIn K N "__eq__" = some (some (.ref f))) (a4 : PySem.W.nsIn K N "__ne__" = some none) (a5 : K.lookup f = some ⟨.type "function", od, .func fd, sl⟩) (ef : PySem.W.findIn K (.ref C) "__eq__" = some (some (.ref f))) :
    ∃ f, NeK K C f ∧ PySem.W.findIn K (.ref C) "__eq__" = some (some (.ref f)) :=
  ⟨f, ⟨⟨nm, q, N, bs, hdct, sn, sub, ab, col, dd, k0, k1, k2, k3, k5, newId, by rw [a1, e], by unfold PySem.W.nsOkIn; rw [a2]; show (es.toArray.all _) = true; rw [List.all_toArray]; exact e2, a3, a4⟩, od, fd, sl, a5⟩, ef⟩
theorem xchT_mk {CX f : Addr} {oc : Value} {od an : Option Addr} {osl : Array (Option Value)} {kV doc pm cdv ct : Value} (X : K.In h) (G : h.Ns mainGlobals mg)
    (a : PySem.W.nsIn K mainGlobals "Exchange" = some (some (.ref CX))) (pg : PySem.W.plainGet K CX Str.empty = true) (hd : PySem.W.hasDictIn K CX = true) (po : PySem.W.plainOver K CX = true) (sa : PySem.W.findIn K (.ref CX) "__setattr__" = some (some (.builtin "object.__setattr__")))
    (n1 : PySem.W.findIn K (.ref CX) "_order" = some none) (n2 : PySem.W.findIn K (.ref CX) "_above" = some none) (n3 : PySem.W.findIn K (.ref CX) "_below" = some none) (n4 : PySem.W.findIn K (.ref CX) "_lengths" = some none) (n5 : PySem.W.findIn K (.ref CX) "_starts" = some none) (n6 : PySem.W.findIn K (.ref CX) "_starts_below" = some none)
    (n7 : PySem.W.findIn K (.ref CX) "_total" = some none) (n8 : PySem.W.findIn K (.ref CX) "_root" = some none) (n9 : PySem.W.findIn K (.ref CX) "_begins" = some none) (n10 : PySem.W.findIn K (.ref CX) "_begins_below" = some none) (n11 : PySem.W.findIn K (.ref CX) "_shifts" = some none)
    (mk : PySem.W.makesIn K CX = true) (ai : PySem.W.findIn K (.ref CX) "__init__" = some (some (.ref f))) (ii : PySem.W.isFn K (.ref f) = true) (kc : PySem.W.keepIn K (.ref CX) = true)
    (l : K.lookup f = some ⟨oc, od, .func (PySem.W.fnOf "__init__" "Exchange.__init__" (defArgs s_xinit) (defBody s_xinit) (defScope s_xinit) .none kV doc pm an cdv ct), osl⟩) (c : PySem.W.codeIn K cdv "Exchange.__init__" = true) (kf : PySem.W.keepIn K (.ref f) = true) : XchT K mg CX :=
  ⟨PySem.W.mg_of X G a, ⟨pg, hd, po, sa⟩, n1, n2, n3, n4, n5, n6, n7, n8, n9, n10, n11, ⟨f, _, ⟨mk, ai, ii, kc⟩, fun_mk l c kf⟩⟩
end
end My
namespace My
open PySem PySem.Spec PyProof.Rows L2
theorem mk_OrdC {K : PySem.W.Frag} {h : Heap} {mg : Str → Option Value} {tk0 : Tok} (X : K.In h) (G : h.Ns mainGlobals mg) (h0 : PySem.W.nsIn K mainGlobals "MAX_NAMES" = some (some (.int 40 tk0))) : OrdC mg := ⟨⟨_, PySem.W.mg_of X G h0⟩⟩
theorem mk_WordC {K : PySem.W.Frag} {h : Heap} {mg : Str → Option Value} {tk0 : Tok} {tk1 : Tok} {z0 : Str} (X : K.In h) (G : h.Ns mainGlobals mg) (h0 : PySem.W.nsIn K mainGlobals "LETTERS" = some (some (.str z0 tk0))) (e0 : z0 = letS) (h1 : PySem.W.nsIn K mainGlobals "MAX_LETTERS" = some (some (.int 8 tk1))) : WordC mg := ⟨⟨_, e0 ▸ PySem.W.mg_of X G h0⟩, ⟨_, PySem.W.mg_of X G h1⟩⟩
/-- all that the top has made, as the law needs it -/
structure Facts (K : PySem.W.Frag) (mg : Str → Option Value) (C CN CX : Addr) : Prop where
  T : Bn mg
  d_law : DefAt K mg "law" s_law
  f2 : NumT K mg CN
  f3 : XchT K mg CX
  f4 : OrdT K mg C
  d__law_dice : DefAt K mg "_law_dice" s_dice
  d__law_right : DefAt K mg "_law_right" s_lright8
  d__law_any_world : DefAt K mg "_law_any_world" s_lanyw
  d__law_pick : DefAt K mg "_law_pick" s_pick
  d__law_roll : DefAt K mg "_law_roll" s_roll
  d__law_any_rows : DefAt K mg "_law_any_rows" s_lany
  d__law_mixed : DefAt K mg "_law_mixed" s_lmixed
  d__law_names_drawn : DefAt K mg "_law_names_drawn" s_lnames
  d__law_length : DefAt K mg "_law_length" s_llen
  d__law_exchange : DefAt K mg "_law_exchange" s_lexch
  d__law_number : DefAt K mg "_law_number" s_lnum
  f16 : NumK K mg
  d__are_valid : DefAt K mg "_are_valid" s_valid
  d_is_any_integer : DefAt K mg "is_any_integer" s_isint
  f19 : OrdC mg
  d__are_rows : DefAt K mg "_are_rows" s_rows
  d_are_names : DefAt K mg "are_names" s_arenames
  f22 : WordC mg
  d_is_name : DefAt K mg "is_name" s_isname
  d__are_different : DefAt K mg "_are_different" s_difd
  f25 : OrdI K C
  d_require_order : DefAt K mg "require_order" s_reqord
  d_are_lengths : DefAt K mg "are_lengths" s_arelens
  d_are_numbers : DefAt K mg "are_numbers" s_arenums
  f29 : NumI K CN
  d_have_one_root : DefAt K mg "have_one_root" s_hor
  f31 : PropT K CN "root" "Number.root" s_nroot
  f32 : PropT K CN "sign" "Number.sign" s_nsign
  d_sign_of_sum : DefAt K mg "sign_of_sum" s_sgn
  d__sign_of_integer : DefAt K mg "_sign_of_integer" s_sgi
  f35 : PropT K C "above" "Order.above" s_oabove
  f36 : PropT K C "below" "Order.below" s_obelow
  f37 : PropT K C "names" "Order.names" s_onames
  d__sums : DefAt K mg "_sums" s_sums
  f39 : OpT K CN .Add "__add__" "Number.__add__" s_nadd
  d__operand : DefAt K mg "_operand" s_operand
  d__as_number : DefAt K mg "_as_number" s_asnum
  d__common_root : DefAt K mg "_common_root" s_croot
  f43 : PropT K CN "top" "Number.top" s_ntop
  f44 : PropT K CN "part" "Number.part" s_npart
  f45 : PropT K CN "bottom" "Number.bottom" s_nbottom
  f46 : OpT K CN .Sub "__sub__" "Number.__sub__" s_nsub
  d__difference_above : DefAt K mg "_difference_above" s_diff
  d__law_by_forms : DefAt K mg "_law_by_forms" s_lbyf
  f49 : MethT K C "form" "Order.form" s_oform
  f50 : mg "iter" = none
  f51 : SpT K C "__iter__" "Order.__iter__" s_oiter
  d__law_plus : DefAt K mg "_law_plus" s_lplus
  d__law_shift : DefAt K mg "_law_shift" s_lshift
  d__law_begins : DefAt K mg "_law_begins" s_lbegins
  d__law_minus : DefAt K mg "_law_minus" s_lminus
  d__law_points : DefAt K mg "_law_points" s_lpts
  f57 : MethT K CN "over" "Number.over" s_nover
  d__argument : DefAt K mg "_argument" s_argument
  d__norm_above : DefAt K mg "_norm_above" s_norma
  d_joined : DefAt K mg "joined" s_joined
  d_require_exchange : DefAt K mg "require_exchange" s_reqx
  f62 : XchI K CX
  f63 : PropT K CX "order" "Exchange.order" s_xorder
  f64 : PropT K CX "lengths" "Exchange.lengths" s_xlengths
  f65 : MethT K C "joined" "Order.joined" s_ojoined
  f66 : PropT K C "needless" "Order.needless" s_oneedless
  f67 : SpT K C "__contains__" "Order.__contains__" s_ocont
  f68 : SpT K CX "__iter__" "Exchange.__iter__" s_xiter
  f69 : SpT K CX "__call__" "Exchange.__call__" s_xcall
  f70 : MethT K CX "piece_at" "Exchange.piece_at" s_xpa
  d_require_point : DefAt K mg "require_point" s_reqpt
  d_is_point : DefAt K mg "is_point" s_ispt
  d_fits_root : DefAt K mg "fits_root" s_fits
  f74 : PropT K CX "root" "Exchange.root" s_xroot
  f75 : PropT K CX "total" "Exchange.total" s_xtotal
  f76 : MethT K CN "compared" "Number.compared" s_ncomp
  d__index_of_last : DefAt K mg "_index_of_last" s_iol
  f78 : PropT K CX "shifts" "Exchange.shifts" s_xshifts
  f79 : MethT K C "inverse" "Order.inverse" s_oinverse2
  f80 : MethT K C "backwards" "Order.backwards" s_oback2
  f81 : MethT K C "blocks" "Order.blocks" s_oblocks
  d_block_ends : DefAt K mg "block_ends" s_bends
  f83 : PropT K C "is_whole" "Order.is_whole" s_owhole
  f84 : SpT K C "__len__" "Order.__len__" s_olen
  f85 : NEqT K C
  f86 : SpT K C "__eq__" "Order.__eq__" s_oeq
  f87 : NEqT K CN
  f88 : SpT K CN "__eq__" "Number.__eq__" s_neq
  f89 : ReadT K C
theorem law_binds {K : PySem.W.Frag} {fa : Addr} {fd : FuncData} (F : Fun K "law" "law" s_law fa fd) (s : Shared) (u : Value) : BindsTo s fd ⟨[u], []⟩ [("_law_script", u)] := by
  obtain ⟨oc, od, kV, doc, pm, an, cdv, ct, osl, rfl, lk, hcd⟩ := F.ex
  exact .of_eq rfl
theorem final {K : PySem.W.Frag} {h : Heap} {mg : Str → Option Value} {C CN CX fa : Addr} {P : Program} {w : World} (KX : K.In h) (G : h.Ns mainGlobals mg) (hmg : mg "law" = some (.ref fa)) (F : Facts K mg C CN CX) :
    ∃ fd : FuncData, (∀ (s : Shared) (u : Value), BindsTo s fd ⟨[u], []⟩ [("_law_script", u)]) ∧ ∀ base : Heap, K.In base → base.Ns mainGlobals mg → FnOk P w K mg base CX0 15 fa fd ["_law_script"] (spLaw K) := by
  obtain ⟨f, fd, hm, D⟩ := F.d_law.ex
  have ef : f = fa := by
    have := hm.symm.trans hmg
    cases this
    rfl
  subst ef
  refine ⟨fd, law_binds D, fun base _ _ => ?_⟩
  have a_dice : FnAt P w K mg base 1 "_law_dice" ["_law_script", "_law_spot"] (spDice K) := ok_dice F.T F.d__law_dice
  have a_roll : FnAt P w K mg base 1 "_law_roll" ["_law_dice_here", "_law_total"] spRoll := ok_roll F.T F.d__law_roll
  have a_pick : FnAt P w K mg base 2 "_law_pick" ["_law_dice_here", "_law_items"] (spPick K) := ok_pick F.T F.d__law_pick a_roll
  have a_lmixed : FnAt P w K mg base 2 "_law_mixed" ["_law_dice_here", "_law_items"] (spLMix K) := ok_lmixed F.T F.d__law_mixed a_roll
  have a_lnames : FnAt P w K mg base 3 "_law_names_drawn" ["_law_dice_here", "_law_times"] spLNames := ok_lnames F.T F.d__law_names_drawn a_lmixed
  have a_lany : FnAt P w K mg base 4 "_law_any_rows" ["_law_dice_here", "_law_most"] spLAny := ok_lany F.T F.d__law_any_rows a_roll a_lmixed a_lnames
  have a_llen : FnAt P w K mg base 3 "_law_length" ["_law_dice_here", "_law_root"] spLLen := ok_llen F.T F.d__law_length a_roll a_pick
  have a_lanyw : FnAt P w K mg base 6 "_law_any_world" ["_law_dice_here", "_law_most"] (spLAnyW K) := ok_lanyw F.T F.d__law_any_world a_pick a_lany a_llen
  have a_isint : FnAt P w K mg base 1 "is_any_integer" ["value"] spIsInt := ok_isint F.T F.d_is_any_integer
  have a_valid : FnAt P w K mg base 2 "_are_valid" ["top", "part", "root", "bottom"] spValid := ok_valid F.T F.f16 F.d__are_valid a_isint
  have a_init : InitAt P w K mg base 3 CN (spInit CN) := ok_init F.T F.f2 a_valid
  have a_lnum : FnAt P w K mg base 5 "_law_number" ["_law_pair", "_law_root"] (spLNum CN) := ok_lnum F.d__law_number F.f2 a_init
  have a_isname : FnAt P w K mg base 1 "is_name" ["value"] (spNm K) := ok_isname F.T F.f22 F.d_is_name
  have a_arenames : FnAt P w K mg base 2 "are_names" ["value"] (spNms K) := ok_arenames F.T F.d_are_names a_isname
  have a_difd : FnAt P w K mg base 3 "_are_different" ["names"] (spDif K) := ok_difd F.T F.d__are_different a_arenames
  have a_rows : FnAt P w K mg base 4 "_are_rows" ["upper", "lower"] (spRows K) := ok_rows F.T F.f19 F.d__are_rows a_arenames a_difd
  have a_oinit : OInitAt P w K mg base 5 C (spOInit K C) := ok_oinit F.T F.f4 a_rows
  have a_reqord : FnAt P w K mg base 1 "require_order" ["value"] (spReqO K C) := ok_reqord F.T F.f4 F.f25 F.d_require_order
  have a_nroot : PropAt P w K mg base 1 CN "root" (spProp CN fun n => .int n.r) := ok_nroot F.f31 F.f2
  have a_hor : FnAt P w K mg base 3 "have_one_root" ["numbers"] (spHor CN) := ok_hor F.T F.d_have_one_root F.f2 F.f29 a_nroot
  have a_arenums : FnAt P w K mg base 4 "are_numbers" ["names", "value"] (spAreNums K CN) := ok_arenums F.T F.d_are_numbers F.f2 F.f29 a_hor
  have a_sgi : FnAt P w K mg base 1 "_sign_of_integer" ["value"] spSgI := ok_sgi F.T F.d__sign_of_integer
  have a_sgn : FnAt P w K mg base 2 "sign_of_sum" ["top", "part", "root"] spSgn := ok_sgn F.T F.d_sign_of_sum a_sgi
  have a_nsign : PropAt P w K mg base 3 CN "sign" (spPropE CN 5000 fun n => .int (sgn n.t n.p n.r)) := ok_nsign F.f32 F.f2 a_sgn
  have a_arelens : FnAt P w K mg base 5 "are_lengths" ["names", "value"] (spAreLens K CN) := ok_arelens F.T F.d_are_lengths F.f2 a_arenums a_nsign
  have a_oabove : PropAt P w K mg base 1 C "above" (spGetT K C fun zs _ => zs.map V.str) := ok_oabove F.f35 F.f4
  have a_obelow : PropAt P w K mg base 1 C "below" (spGetT K C fun _ ys => ys.map V.str) := ok_obelow F.f36 F.f4
  have a_onames : PropAt P w K mg base 1 C "names" (spNames K C) := ok_onames F.T F.f37 F.f4
  have a_isint2 : FnAt P w K mg base 1 "is_any_integer" ["value"] (spIsInt2 CN) := ok_isint2 F.T F.f2 F.f29 F.d_is_any_integer
  have a_asnum : FnAt P w K mg base 5 "_as_number" ["value"] (spOpd CN) := ok_asnum F.T F.d__as_number F.f2 F.f29 a_init a_isint2
  have a_operand : FnAt P w K mg base 6 "_operand" ["value"] (spOpd CN) := ok_operand F.T F.d__operand a_asnum
  have a_croot : FnAt P w K mg base 3 "_common_root" ["one", "other"] (spCRoot CN) := ok_croot F.T F.d__common_root F.f2 a_nroot
  have a_ntop : PropAt P w K mg base 1 CN "top" (spProp CN fun n => .int n.t) := ok_ntop F.f43 F.f2
  have a_npart : PropAt P w K mg base 1 CN "part" (spProp CN fun n => .int n.p) := ok_npart F.f44 F.f2
  have a_nbottom : PropAt P w K mg base 1 CN "bottom" (spProp CN fun n => .int n.b) := ok_nbottom F.f45 F.f2
  have a_nadd : OpAt P w K mg base 7 CN .Add (spBin CN addN) := ok_nadd F.f39 F.f2 a_init a_operand a_croot a_ntop a_npart a_nbottom
  have a_sums : FnAt P w K mg base 8 "_sums" ["names", "lengths"] (spSums K CN) := ok_sums F.T F.d__sums F.f2 a_init a_nadd
  have a_diff : FnAt P w K mg base 3 "_difference_above" ["one", "other"] (spDiff CN) := ok_diff F.d__difference_above F.f2 a_ntop a_npart a_nbottom
  have a_nsub : OpAt P w K mg base 7 CN .Sub (spBin CN subN) := ok_nsub F.f46 F.f2 a_init a_operand a_croot a_diff a_nbottom
  have a_xinit : XInitAt P w K mg base 9 CX (spXInit K C CN CX) := ok_xinit F.T F.f3 F.f4 F.f2 a_reqord a_arelens a_oabove a_obelow a_onames a_sums a_nroot a_nsub
  have a_lexch : FnAt P w K mg base 11 "_law_exchange" ["_law_world"] (spLExch K C CN CX) := ok_lexch F.T F.d__law_exchange F.f4 F.f3 a_lnum a_oinit a_xinit
  have a_oform : MethAt P w K mg base 2 C "form" ["self", "one", "other"] (spOForm K C) := ok_oform F.T F.f49 F.f4
  have a_oiter : ItrAt P w K mg base 1 C (spItr K C) := ok_oiter F.f50 F.f51 F.f4
  have a_lplus : FnAt P w K mg base 1 "_law_plus" ["_law_one", "_law_other"] (spPairs addP) := ok_lplus F.d__law_plus
  have a_lbyf : FnAt P w K mg base 4 "_law_by_forms" ["_law_order", "_law_world", "_law_name"] (spLByF K C) := ok_lbyf F.T F.d__law_by_forms F.f4 a_oform a_oiter a_lplus
  have a_lbegins : FnAt P w K mg base 2 "_law_begins" ["_law_row", "_law_lengths"] (spLBegins K) := ok_lbegins F.T F.d__law_begins a_lplus
  have a_lminus : FnAt P w K mg base 1 "_law_minus" ["_law_one", "_law_other"] (spPairs subP) := ok_lminus F.d__law_minus
  have a_lshift : FnAt P w K mg base 3 "_law_shift" ["_law_world", "_law_name"] (spLShift K) := ok_lshift F.d__law_shift a_lbegins a_lminus
  have a_argument : FnAt P w K mg base 6 "_argument" ["value"] (spOpd CN) := ok_argument F.T F.d__argument a_asnum
  have a_norma : FnAt P w K mg base 3 "_norm_above" ["number"] (spNormA CN) := ok_norma F.d__norm_above F.f2 a_ntop a_npart a_nroot
  have a_nover : MethAt P w K mg base 7 CN "over" ["self", "other"] (spOver CN) := ok_nover F.f57 F.f2 a_init a_argument a_croot a_nsign a_norma a_ntop a_npart a_nbottom
  have a_lpts : FnAt P w K mg base 8 "_law_points" ["_law_dice_here", "_law_world"] (spLPts K CN) := ok_lpts F.T F.d__law_points F.f2 a_roll a_lbegins a_lplus a_lnum a_nover
  have a_reqx : FnAt P w K mg base 1 "require_exchange" ["value"] (spReqX K C CN CX) := ok_reqx F.T F.d_require_exchange F.f3 F.f62
  have a_xorder : PropAt P w K mg base 1 CX "order" (spXOrder CX) := ok_xorder F.f63 F.f3
  have a_xlengths : PropAt P w K mg base 1 CX "lengths" (spXDict K C CN CX fun _ _ f => f) := ok_xlengths F.T F.f64 F.f3
  have a_oneedless : PropAt P w K mg base 1 C "needless" (spNeedless K C) := ok_oneedless F.T F.f66 F.f4
  have a_ojoined : MethAt P w K mg base 7 C "joined" ["self"] (spOrd K C (fun zs ys => jnd zs ys zs) (fun zs ys => jnd zs ys ys)) := ok_ojoined F.T F.f65 F.f4 a_oinit a_oneedless
  have a_ocont : SpAt P w K mg base 2 C "__contains__" ["self", "value"] (spOCont K C) := ok_ocont F.f67 F.f4
  have a_xiter : ItrAt P w K mg base 1 CX (spXItr K C CN CX) := ok_xiter F.f50 F.f68 F.f3
  have a_joined : FnAt P w K mg base 11 "joined" ["exchange"] (spXJoin K C CN CX) := ok_joined F.T F.d_joined F.f3 F.f4 F.f2 a_reqx a_xorder a_xlengths a_ojoined a_ocont a_xiter a_nadd a_xinit
  have a_xroot : PropAt P w K mg base 1 CX "root" (spXRoot K C CN CX) := ok_xroot F.f74 F.f3
  have a_fits : FnAt P w K mg base 3 "fits_root" ["one", "other"] (spFits K C CN CX) := ok_fits F.T F.d_fits_root F.f3 F.f2 a_xroot a_nroot
  have a_xtotal : PropAt P w K mg base 1 CX "total" (spXTotal K C CN CX) := ok_xtotal F.f75 F.f3
  have a_ncomp : MethAt P w K mg base 7 CN "compared" ["self", "other"] (spCmp CN) := ok_ncomp F.f76 F.f2 a_argument a_croot a_diff a_sgn
  have a_ispt : FnAt P w K mg base 8 "is_point" ["exchange", "value"] (spIsPt K C CN CX) := ok_ispt F.T F.d_is_point F.f3 F.f2 F.f29 a_fits a_xtotal a_nsign a_ncomp
  have a_reqpt : FnAt P w K mg base 9 "require_point" ["exchange", "value"] (spReqPt K C CN CX) := ok_reqpt F.T F.d_require_point a_ispt
  have a_iol : FnAt P w K mg base 8 "_index_of_last" ["starts", "point"] (spIol K CN) := ok_iol F.T F.d__index_of_last F.f2 a_ncomp
  have a_xpa : MethAt P w K mg base 10 CX "piece_at" ["self", "point"] (spXPiece K C CN CX) := ok_xpa F.f70 F.f3 a_reqpt a_iol
  have a_xcall : SpAt P w K mg base 11 CX "__call__" ["self", "point"] (spXCall K C CN CX) := ok_xcall F.f69 F.f3 a_xpa a_nadd
  have a_xcallO : CallAt P w K mg base 11 CX ["self", "point"] (spXCall K C CN CX) := ok_xcallO F.f69 a_xcall
  have a_xshifts : PropAt P w K mg base 1 CX "shifts" (spXDict K C CN CX fun zs ys f => shfN zs ys f) := ok_xshifts F.T F.f78 F.f3
  have a_oinverseN : MethAt P w K mg base 7 C "inverse" ["self"] (spOrdN K C (fun _ ys => ys) (fun zs _ => zs)) := ok_oinverseN F.f79 F.f4 a_oinit
  have a_obackN : MethAt P w K mg base 7 C "backwards" ["self"] (spOrdN K C (fun zs _ => zs.reverse) (fun _ ys => ys.reverse)) := ok_obackN F.f80 F.f4 a_oinit
  have a_bends : FnAt P w K mg base 1 "block_ends" ["places"] (spBend K) := ok_bends F.T F.d_block_ends
  have a_oblocks : MethAt P w K mg base 7 C "blocks" ["self"] (spOBlk K C) := ok_oblocks F.T F.f81 F.f4 a_oinit a_bends
  have a_owhole : PropAt P w K mg base 2 C "is_whole" (spWhole K C) := ok_owhole F.T F.f83 F.f4 a_bends
  have a_olen : SpAt P w K mg base 1 C "__len__" ["self"] (spGetN K C) := ok_olen F.T F.f84 F.f4
  have a_oeq : SpAt P w K mg base 1 C "__eq__" ["self", "other"] (spOEq K C) := ok_oeq F.T F.f86 F.f4 F.f25
  have a_one : NeAt P w K mg base 1 C (spOEq K C) := ok_one F.f85 a_oeq
  have a_neq : SpAt P w K mg base 1 CN "__eq__" ["self", "other"] (spEqN CN) := ok_neq F.T F.f88 F.f2 F.f29
  have a_nneq : NeAt P w K mg base 1 CN (spEqN CN) := ok_nneq F.f87 a_neq
  have a_lright8 : FnAt P w K mg base 13 "_law_right" ["_law_dice_here"] spLR8 := ok_lright8 F.T F.f4 F.f3 F.f2 F.d__law_right a_lanyw a_lexch a_lbyf a_lshift a_lnum a_lpts a_joined a_xcallO a_xorder a_xshifts a_xtotal a_oinit a_oiter a_oform a_oinverseN a_obackN a_oblocks a_ojoined a_oabove a_obelow a_owhole a_oneedless a_olen a_one a_nneq a_neq
  have a_oreadN : ReadAt P w K mg base 7 C (spOReadN K C) := ok_oreadN F.T F.f89 a_oinit
  exact ok_law F.T D F.f2 F.f3 F.f4 a_dice a_lright8 a_oreadN a_init a_xinit a_joined a_xlengths a_xorder a_oform a_neq
end My
open PySem PySem.W PyProof.Rows
set_option maxHeartbeats 0 in
theorem PySem.Challenge.cw_pieceround_k08_whole_forms_and_shifts_holds : PySem.Challenge.rw_pieceround_k08_whole_forms_and_shifts.Holds := by
  w_on; o_law
  refine HeadRun.head_imp (r := My.HR) (q := My.hV) (H := kHook My.hK My.hA My.hE) (ob := fun s => My.hA.map (HeadRun.getT s)) (M := 12000) (loose := My.hL) (kwd := []) (fun s => List.map_congr_left fun a _ => HeadRun.getT_eq s a) My.runs (by rfl) (by rfl) (by rfl) (by rfl) (by first | assumption | decide +kernel) (by decide +kernel) ⟨rfl, rfl, rfl, rfl, rfl, by decide +kernel⟩ ?hw ?hc
  case hw => w_witness2
  have fill : ∀ (_ : PySem.Challenge.rw_pieceround_k08_whole_forms_and_shifts = PySem.Challenge.rw_pieceround_k08_whole_forms_and_shifts) (_ : My.hK = My.hK), True := by
    k_fill
    intros; trivial
  clear fill
  refine L2.walk_ofK (CX := L2.CX0) (l := PySem.Challenge.rw_pieceround_k08_whole_forms_and_shifts) (n := 63) (k := 15) (x := "_law_script") (sp := fun K => My.spLaw K) rfl (by decide) rfl ⟨rfl, by decide, by decide⟩ (fun w h Y => PySem.W.kIn_of Y) ?F ?S ?CX
  case CX => exact fun _ _ _ _ h => h
  case S => exact fun K H a ns hl hO hS => ⟨a, ns, rfl, hS, hl, fun _ => rfl⟩
  case F =>
    intro w mg fa h KX G hmg
    refine My.final (C := ?nC) (CN := ?nCN) (CX := ?nCX) KX G hmg ?FF
    case FF =>
      have T : My.Bn mg := by constructor <;> exact PySem.W.mg_none_of KX G (by k_is)
      refine { T := T, d_law := ?d_law, f2 := ?f2, f3 := ?f3, f4 := ?f4, d__law_dice := ?d__law_dice, d__law_right := ?d__law_right, d__law_any_world := ?d__law_any_world, d__law_pick := ?d__law_pick, d__law_roll := ?d__law_roll, d__law_any_rows := ?d__law_any_rows, d__law_mixed := ?d__law_mixed, d__law_names_drawn := ?d__law_names_drawn, d__law_length := ?d__law_length, d__law_exchange := ?d__law_exchange, d__law_number := ?d__law_number, f16 := ?f16, d__are_valid := ?d__are_valid, d_is_any_integer := ?d_is_any_integer, f19 := ?f19, d__are_rows := ?d__are_rows, d_are_names := ?d_are_names, f22 := ?f22, d_is_name := ?d_is_name, d__are_different := ?d__are_different, f25 := ?f25, d_require_order := ?d_require_order, d_are_lengths := ?d_are_lengths, d_are_numbers := ?d_are_numbers, f29 := ?f29, d_have_one_root := ?d_have_one_root, f31 := ?f31, f32 := ?f32, d_sign_of_sum := ?d_sign_of_sum, d__sign_of_integer := ?d__sign_of_integer, f35 := ?f35, f36 := ?f36, f37 := ?f37, d__sums := ?d__sums, f39 := ?f39, d__operand := ?d__operand, d__as_number := ?d__as_number, d__common_root := ?d__common_root, f43 := ?f43, f44 := ?f44, f45 := ?f45, f46 := ?f46, d__difference_above := ?d__difference_above, d__law_by_forms := ?d__law_by_forms, f49 := ?f49, f50 := ?f50, f51 := ?f51, d__law_plus := ?d__law_plus, d__law_shift := ?d__law_shift, d__law_begins := ?d__law_begins, d__law_minus := ?d__law_minus, d__law_points := ?d__law_points, f57 := ?f57, d__argument := ?d__argument, d__norm_above := ?d__norm_above, d_joined := ?d_joined, d_require_exchange := ?d_require_exchange, f62 := ?f62, f63 := ?f63, f64 := ?f64, f65 := ?f65, f66 := ?f66, f67 := ?f67, f68 := ?f68, f69 := ?f69, f70 := ?f70, d_require_point := ?d_require_point, d_is_point := ?d_is_point, d_fits_root := ?d_fits_root, f74 := ?f74, f75 := ?f75, f76 := ?f76, d__index_of_last := ?d__index_of_last, f78 := ?f78, f79 := ?f79, f80 := ?f80, f81 := ?f81, d_block_ends := ?d_block_ends, f83 := ?f83, f84 := ?f84, f85 := ?f85, f86 := ?f86, f87 := ?f87, f88 := ?f88, f89 := ?f89 }
      case f2 =>
        refine' My.numT_mk KX G ?qt1 ?qt2 ?qt3 ?qt4 ?qt5 ?qt6 ?qt7 ?qt8 ?qt9 ?qt10 ?qt11 ?qt12 ?qt13 ?qt14 ?qt15 ?qt16 ?qt17 ?qt18 ?qt19 ?qt20
        case qt1 => k_is
        case qt2 => k_is
        case qt3 => k_is
        case qt4 => k_is
        case qt5 => k_is
        case qt6 => k_is
        case qt7 => k_is
        case qt8 => k_is
        case qt9 => k_is
        case qt10 => k_is
        case qt11 => k_is
        case qt12 => k_is
        case qt13 => k_is
        case qt14 => k_is
        case qt15 => k_is
        case qt16 => k_is
        case qt17 => k_is
        case qt18 => k_is
        case qt19 => k_is
        case qt20 => k_is
      case f3 =>
        refine' My.xchT_mk KX G ?qx1 ?qx2 ?qx3 ?qx4 ?qx5 ?qx6 ?qx7 ?qx8 ?qx9 ?qx10 ?qx11 ?qx12 ?qx13 ?qx14 ?qx15 ?qx16 ?qx17 ?qx18 ?qx19 ?qx20 ?qx21 ?qx22 ?qx23
        case qx1 => k_is
        case qx2 => k_is
        case qx3 => k_is
        case qx4 => k_is
        case qx5 => k_is
        case qx6 => k_is
        case qx7 => k_is
        case qx8 => k_is
        case qx9 => k_is
        case qx10 => k_is
        case qx11 => k_is
        case qx12 => k_is
        case qx13 => k_is
        case qx14 => k_is
        case qx15 => k_is
        case qx16 => k_is
        case qx17 => k_is
        case qx18 => k_is
        case qx19 => k_is
        case qx20 => k_is
        case qx21 => k_is
        case qx22 => k_is
        case qx23 => k_is
      case f4 =>
        refine' My.ordT_mk KX G ?qo1 ?qo2 ?qo3 ?qo4 ?qo5 ?qo6 ?qo7 ?qo8 ?qo9 ?qo10 ?qo11 ?qo12 ?qo13 ?qo14 ?qo15
        case qo1 => k_is
        case qo2 => k_is
        case qo3 => k_is
        case qo4 => k_is
        case qo5 => k_is
        case qo6 => k_is
        case qo7 => k_is
        case qo8 => k_is
        case qo9 => k_is
        case qo10 => k_is
        case qo11 => k_is
        case qo12 => k_is
        case qo13 => k_is
        case qo14 => k_is
        case qo15 => k_is
      case d_law => (refine' My.defAt_mk (by assumption) (by assumption) ?qda ?qdl ?qdc ?qdk; (case qda => k_is); (case qdl => k_is); (case qdc => k_is); (case qdk => k_is))
      case d__law_dice => (refine' My.defAt_mk (by assumption) (by assumption) ?qda ?qdl ?qdc ?qdk; (case qda => k_is); (case qdl => k_is); (case qdc => k_is); (case qdk => k_is))
      case d__law_right => (refine' My.defAt_mk (by assumption) (by assumption) ?qda ?qdl ?qdc ?qdk; (case qda => k_is); (case qdl => k_is); (case qdc => k_is); (case qdk => k_is))
      case d__law_any_world => (refine' My.defAt_mk (by assumption) (by assumption) ?qda ?qdl ?qdc ?qdk; (case qda => k_is); (case qdl => k_is); (case qdc => k_is); (case qdk => k_is))
      case d__law_pick => (refine' My.defAt_mk (by assumption) (by assumption) ?qda ?qdl ?qdc ?qdk; (case qda => k_is); (case qdl => k_is); (case qdc => k_is); (case qdk => k_is))
      case d__law_roll => (refine' My.defAt_mk (by assumption) (by assumption) ?qda ?qdl ?qdc ?qdk; (case qda => k_is); (case qdl => k_is); (case qdc => k_is); (case qdk => k_is))
      case d__law_any_rows => (refine' My.defAt_mk (by assumption) (by assumption) ?qda ?qdl ?qdc ?qdk; (case qda => k_is); (case qdl => k_is); (case qdc => k_is); (case qdk => k_is))
      case d__law_mixed => (refine' My.defAt_mk (by assumption) (by assumption) ?qda ?qdl ?qdc ?qdk; (case qda => k_is); (case qdl => k_is); (case qdc => k_is); (case qdk => k_is))
      case d__law_names_drawn => (refine' My.defAt_mk (by assumption) (by assumption) ?qda ?qdl ?qdc ?qdk; (case qda => k_is); (case qdl => k_is); (case qdc => k_is); (case qdk => k_is))
      case d__law_length => (refine' My.defAt_mk (by assumption) (by assumption) ?qda ?qdl ?qdc ?qdk; (case qda => k_is); (case qdl => k_is); (case qdc => k_is); (case qdk => k_is))
      case d__law_exchange => (refine' My.defAt_mk (by assumption) (by assumption) ?qda ?qdl ?qdc ?qdk; (case qda => k_is); (case qdl => k_is); (case qdc => k_is); (case qdk => k_is))
      case d__law_number => (refine' My.defAt_mk (by assumption) (by assumption) ?qda ?qdl ?qdc ?qdk; (case qda => k_is); (case qdl => k_is); (case qdc => k_is); (case qdk => k_is))
      case f16 =>
        refine' My.numK_mk KX G ?qk1 ?qk2 ?qk3
        case qk1 => k_is
        case qk2 => k_is
        case qk3 => k_is
      case d__are_valid => (refine' My.defAt_mk (by assumption) (by assumption) ?qda ?qdl ?qdc ?qdk; (case qda => k_is); (case qdl => k_is); (case qdc => k_is); (case qdk => k_is))
      case d_is_any_integer => (refine' My.defAt_mk (by assumption) (by assumption) ?qda ?qdl ?qdc ?qdk; (case qda => k_is); (case qdl => k_is); (case qdc => k_is); (case qdk => k_is))
      case f19 =>
        refine' My.mk_OrdC KX G ?qch0
        case qch0 => k_is
      case d__are_rows => (refine' My.defAt_mk (by assumption) (by assumption) ?qda ?qdl ?qdc ?qdk; (case qda => k_is); (case qdl => k_is); (case qdc => k_is); (case qdk => k_is))
      case d_are_names => (refine' My.defAt_mk (by assumption) (by assumption) ?qda ?qdl ?qdc ?qdk; (case qda => k_is); (case qdl => k_is); (case qdc => k_is); (case qdk => k_is))
      case f22 =>
        refine' My.mk_WordC KX G ?qch0 ?qce0 ?qch1
        case qch0 => k_is
        case qce0 => decide
        case qch1 => k_is
      case d_is_name => (refine' My.defAt_mk (by assumption) (by assumption) ?qda ?qdl ?qdc ?qdk; (case qda => k_is); (case qdl => k_is); (case qdc => k_is); (case qdk => k_is))
      case d__are_different => (refine' My.defAt_mk (by assumption) (by assumption) ?qda ?qdl ?qdc ?qdk; (case qda => k_is); (case qdl => k_is); (case qdc => k_is); (case qdk => k_is))
      case f25 => constructor <;> first | kit_is | k_is
      case d_require_order => (refine' My.defAt_mk (by assumption) (by assumption) ?qda ?qdl ?qdc ?qdk; (case qda => k_is); (case qdl => k_is); (case qdc => k_is); (case qdk => k_is))
      case d_are_lengths => (refine' My.defAt_mk (by assumption) (by assumption) ?qda ?qdl ?qdc ?qdk; (case qda => k_is); (case qdl => k_is); (case qdc => k_is); (case qdk => k_is))
      case d_are_numbers => (refine' My.defAt_mk (by assumption) (by assumption) ?qda ?qdl ?qdc ?qdk; (case qda => k_is); (case qdl => k_is); (case qdc => k_is); (case qdk => k_is))
      case f29 => constructor <;> first | kit_is | k_is
      case d_have_one_root => (refine' My.defAt_mk (by assumption) (by assumption) ?qda ?qdl ?qdc ?qdk; (case qda => k_is); (case qdl => k_is); (case qdc => k_is); (case qdk => k_is))
      case f31 => (refine' My.propT_mk ⟨?qpa, ?qpg, ?qpt, ?qpr⟩ ?qpl ?qpc ?qpk; (case qpa => k_is); (case qpg => k_is); (case qpt => k_is); (case qpr => exact ⟨_, by k_is⟩); (case qpl => k_is); (case qpc => k_is); (case qpk => k_is))
      case f32 => (refine' My.propT_mk ⟨?qpa, ?qpg, ?qpt, ?qpr⟩ ?qpl ?qpc ?qpk; (case qpa => k_is); (case qpg => k_is); (case qpt => k_is); (case qpr => exact ⟨_, by k_is⟩); (case qpl => k_is); (case qpc => k_is); (case qpk => k_is))
      case d_sign_of_sum => (refine' My.defAt_mk (by assumption) (by assumption) ?qda ?qdl ?qdc ?qdk; (case qda => k_is); (case qdl => k_is); (case qdc => k_is); (case qdk => k_is))
      case d__sign_of_integer => (refine' My.defAt_mk (by assumption) (by assumption) ?qda ?qdl ?qdc ?qdk; (case qda => k_is); (case qdl => k_is); (case qdc => k_is); (case qdk => k_is))
      case f35 => (refine' My.propT_mk ⟨?qpa, ?qpg, ?qpt, ?qpr⟩ ?qpl ?qpc ?qpk; (case qpa => k_is); (case qpg => k_is); (case qpt => k_is); (case qpr => exact ⟨_, by k_is⟩); (case qpl => k_is); (case qpc => k_is); (case qpk => k_is))
      case f36 => (refine' My.propT_mk ⟨?qpa, ?qpg, ?qpt, ?qpr⟩ ?qpl ?qpc ?qpk; (case qpa => k_is); (case qpg => k_is); (case qpt => k_is); (case qpr => exact ⟨_, by k_is⟩); (case qpl => k_is); (case qpc => k_is); (case qpk => k_is))
      case f37 => (refine' My.propT_mk ⟨?qpa, ?qpg, ?qpt, ?qpr⟩ ?qpl ?qpc ?qpk; (case qpa => k_is); (case qpg => k_is); (case qpt => k_is); (case qpr => exact ⟨_, by k_is⟩); (case qpl => k_is); (case qpc => k_is); (case qpk => k_is))
      case d__sums => (refine' My.defAt_mk (by assumption) (by assumption) ?qda ?qdl ?qdc ?qdk; (case qda => k_is); (case qdl => k_is); (case qdc => k_is); (case qdk => k_is))
      case f39 => (refine' My.opT_mk ⟨?qoa, ?qob, ?qoe, ?qod, ?qoi, ?qoj, ?qos⟩ ?qol ?qoc ?qok; (case qoa => k_is); (case qob => k_is); (case qoe => k_is); (case qod => k_is); (case qoi => exact ⟨_, by k_is⟩); (case qoj => exact ⟨_, by k_is⟩); (case qos => k_is); (case qol => k_is); (case qoc => k_is); (case qok => k_is))
      case d__operand => (refine' My.defAt_mk (by assumption) (by assumption) ?qda ?qdl ?qdc ?qdk; (case qda => k_is); (case qdl => k_is); (case qdc => k_is); (case qdk => k_is))
      case d__as_number => (refine' My.defAt_mk (by assumption) (by assumption) ?qda ?qdl ?qdc ?qdk; (case qda => k_is); (case qdl => k_is); (case qdc => k_is); (case qdk => k_is))
      case d__common_root => (refine' My.defAt_mk (by assumption) (by assumption) ?qda ?qdl ?qdc ?qdk; (case qda => k_is); (case qdl => k_is); (case qdc => k_is); (case qdk => k_is))
      case f43 => (refine' My.propT_mk ⟨?qpa, ?qpg, ?qpt, ?qpr⟩ ?qpl ?qpc ?qpk; (case qpa => k_is); (case qpg => k_is); (case qpt => k_is); (case qpr => exact ⟨_, by k_is⟩); (case qpl => k_is); (case qpc => k_is); (case qpk => k_is))
      case f44 => (refine' My.propT_mk ⟨?qpa, ?qpg, ?qpt, ?qpr⟩ ?qpl ?qpc ?qpk; (case qpa => k_is); (case qpg => k_is); (case qpt => k_is); (case qpr => exact ⟨_, by k_is⟩); (case qpl => k_is); (case qpc => k_is); (case qpk => k_is))
      case f45 => (refine' My.propT_mk ⟨?qpa, ?qpg, ?qpt, ?qpr⟩ ?qpl ?qpc ?qpk; (case qpa => k_is); (case qpg => k_is); (case qpt => k_is); (case qpr => exact ⟨_, by k_is⟩); (case qpl => k_is); (case qpc => k_is); (case qpk => k_is))
      case f46 => (refine' My.opT_mk ⟨?qoa, ?qob, ?qoe, ?qod, ?qoi, ?qoj, ?qos⟩ ?qol ?qoc ?qok; (case qoa => k_is); (case qob => k_is); (case qoe => k_is); (case qod => k_is); (case qoi => exact ⟨_, by k_is⟩); (case qoj => exact ⟨_, by k_is⟩); (case qos => k_is); (case qol => k_is); (case qoc => k_is); (case qok => k_is))
      case d__difference_above => (refine' My.defAt_mk (by assumption) (by assumption) ?qda ?qdl ?qdc ?qdk; (case qda => k_is); (case qdl => k_is); (case qdc => k_is); (case qdk => k_is))
      case d__law_by_forms => (refine' My.defAt_mk (by assumption) (by assumption) ?qda ?qdl ?qdc ?qdk; (case qda => k_is); (case qdl => k_is); (case qdc => k_is); (case qdk => k_is))
      case f49 => (refine' My.methT_mk ?qma ?qmi ?qml ?qmc ?qmk; (case qma => k_is); (case qmi => k_is); (case qml => k_is); (case qmc => k_is); (case qmk => k_is))
      case f50 => exact PySem.W.mg_none_of KX G (by k_is)
      case f51 => (refine' My.spT_mk ?qsa ?qsi ?qsl ?qsc ?qsk; (case qsa => k_is); (case qsi => k_is); (case qsl => k_is); (case qsc => k_is); (case qsk => k_is))
      case d__law_plus => (refine' My.defAt_mk (by assumption) (by assumption) ?qda ?qdl ?qdc ?qdk; (case qda => k_is); (case qdl => k_is); (case qdc => k_is); (case qdk => k_is))
      case d__law_shift => (refine' My.defAt_mk (by assumption) (by assumption) ?qda ?qdl ?qdc ?qdk; (case qda => k_is); (case qdl => k_is); (case qdc => k_is); (case qdk => k_is))
      case d__law_begins => (refine' My.defAt_mk (by assumption) (by assumption) ?qda ?qdl ?qdc ?qdk; (case qda => k_is); (case qdl => k_is); (case qdc => k_is); (case qdk => k_is))
      case d__law_minus => (refine' My.defAt_mk (by assumption) (by assumption) ?qda ?qdl ?qdc ?qdk; (case qda => k_is); (case qdl => k_is); (case qdc => k_is); (case qdk => k_is))
      case d__law_points => (refine' My.defAt_mk (by assumption) (by assumption) ?qda ?qdl ?qdc ?qdk; (case qda => k_is); (case qdl => k_is); (case qdc => k_is); (case qdk => k_is))
      case f57 => (refine' My.methT_mk ?qma ?qmi ?qml ?qmc ?qmk; (case qma => k_is); (case qmi => k_is); (case qml => k_is); (case qmc => k_is); (case qmk => k_is))
      case d__argument => (refine' My.defAt_mk (by assumption) (by assumption) ?qda ?qdl ?qdc ?qdk; (case qda => k_is); (case qdl => k_is); (case qdc => k_is); (case qdk => k_is))
      case d__norm_above => (refine' My.defAt_mk (by assumption) (by assumption) ?qda ?qdl ?qdc ?qdk; (case qda => k_is); (case qdl => k_is); (case qdc => k_is); (case qdk => k_is))
      case d_joined => (refine' My.defAt_mk (by assumption) (by assumption) ?qda ?qdl ?qdc ?qdk; (case qda => k_is); (case qdl => k_is); (case qdc => k_is); (case qdk => k_is))
      case d_require_exchange => (refine' My.defAt_mk (by assumption) (by assumption) ?qda ?qdl ?qdc ?qdk; (case qda => k_is); (case qdl => k_is); (case qdc => k_is); (case qdk => k_is))
      case f62 => constructor <;> first | kit_is | k_is
      case f63 => (refine' My.propT_mk ⟨?qpa, ?qpg, ?qpt, ?qpr⟩ ?qpl ?qpc ?qpk; (case qpa => k_is); (case qpg => k_is); (case qpt => k_is); (case qpr => exact ⟨_, by k_is⟩); (case qpl => k_is); (case qpc => k_is); (case qpk => k_is))
      case f64 => (refine' My.propT_mk ⟨?qpa, ?qpg, ?qpt, ?qpr⟩ ?qpl ?qpc ?qpk; (case qpa => k_is); (case qpg => k_is); (case qpt => k_is); (case qpr => exact ⟨_, by k_is⟩); (case qpl => k_is); (case qpc => k_is); (case qpk => k_is))
      case f65 => (refine' My.methT_mk ?qma ?qmi ?qml ?qmc ?qmk; (case qma => k_is); (case qmi => k_is); (case qml => k_is); (case qmc => k_is); (case qmk => k_is))
      case f66 => (refine' My.propT_mk ⟨?qpa, ?qpg, ?qpt, ?qpr⟩ ?qpl ?qpc ?qpk; (case qpa => k_is); (case qpg => k_is); (case qpt => k_is); (case qpr => exact ⟨_, by k_is⟩); (case qpl => k_is); (case qpc => k_is); (case qpk => k_is))
      case f67 => (refine' My.spT_mk ?qsa ?qsi ?qsl ?qsc ?qsk; (case qsa => k_is); (case qsi => k_is); (case qsl => k_is); (case qsc => k_is); (case qsk => k_is))
      case f68 => (refine' My.spT_mk ?qsa ?qsi ?qsl ?qsc ?qsk; (case qsa => k_is); (case qsi => k_is); (case qsl => k_is); (case qsc => k_is); (case qsk => k_is))
      case f69 => (refine' My.spT_mk ?qsa ?qsi ?qsl ?qsc ?qsk; (case qsa => k_is); (case qsi => k_is); (case qsl => k_is); (case qsc => k_is); (case qsk => k_is))
      case f70 => (refine' My.methT_mk ?qma ?qmi ?qml ?qmc ?qmk; (case qma => k_is); (case qmi => k_is); (case qml => k_is); (case qmc => k_is); (case qmk => k_is))
      case d_require_point => (refine' My.defAt_mk (by assumption) (by assumption) ?qda ?qdl ?qdc ?qdk; (case qda => k_is); (case qdl => k_is); (case qdc => k_is); (case qdk => k_is))
      case d_is_point => (refine' My.defAt_mk (by assumption) (by assumption) ?qda ?qdl ?qdc ?qdk; (case qda => k_is); (case qdl => k_is); (case qdc => k_is); (case qdk => k_is))
      case d_fits_root => (refine' My.defAt_mk (by assumption) (by assumption) ?qda ?qdl ?qdc ?qdk; (case qda => k_is); (case qdl => k_is); (case qdc => k_is); (case qdk => k_is))
      case f74 => (refine' My.propT_mk ⟨?qpa, ?qpg, ?qpt, ?qpr⟩ ?qpl ?qpc ?qpk; (case qpa => k_is); (case qpg => k_is); (case qpt => k_is); (case qpr => exact ⟨_, by k_is⟩); (case qpl => k_is); (case qpc => k_is); (case qpk => k_is))
      case f75 => (refine' My.propT_mk ⟨?qpa, ?qpg, ?qpt, ?qpr⟩ ?qpl ?qpc ?qpk; (case qpa => k_is); (case qpg => k_is); (case qpt => k_is); (case qpr => exact ⟨_, by k_is⟩); (case qpl => k_is); (case qpc => k_is); (case qpk => k_is))
      case f76 => (refine' My.methT_mk ?qma ?qmi ?qml ?qmc ?qmk; (case qma => k_is); (case qmi => k_is); (case qml => k_is); (case qmc => k_is); (case qmk => k_is))
      case d__index_of_last => (refine' My.defAt_mk (by assumption) (by assumption) ?qda ?qdl ?qdc ?qdk; (case qda => k_is); (case qdl => k_is); (case qdc => k_is); (case qdk => k_is))
      case f78 => (refine' My.propT_mk ⟨?qpa, ?qpg, ?qpt, ?qpr⟩ ?qpl ?qpc ?qpk; (case qpa => k_is); (case qpg => k_is); (case qpt => k_is); (case qpr => exact ⟨_, by k_is⟩); (case qpl => k_is); (case qpc => k_is); (case qpk => k_is))
      case f79 => (refine' My.methT_mk ?qma ?qmi ?qml ?qmc ?qmk; (case qma => k_is); (case qmi => k_is); (case qml => k_is); (case qmc => k_is); (case qmk => k_is))
      case f80 => (refine' My.methT_mk ?qma ?qmi ?qml ?qmc ?qmk; (case qma => k_is); (case qmi => k_is); (case qml => k_is); (case qmc => k_is); (case qmk => k_is))
      case f81 => (refine' My.methT_mk ?qma ?qmi ?qml ?qmc ?qmk; (case qma => k_is); (case qmi => k_is); (case qml => k_is); (case qmc => k_is); (case qmk => k_is))
      case d_block_ends => (refine' My.defAt_mk (by assumption) (by assumption) ?qda ?qdl ?qdc ?qdk; (case qda => k_is); (case qdl => k_is); (case qdc => k_is); (case qdk => k_is))
      case f83 => (refine' My.propT_mk ⟨?qpa, ?qpg, ?qpt, ?qpr⟩ ?qpl ?qpc ?qpk; (case qpa => k_is); (case qpg => k_is); (case qpt => k_is); (case qpr => exact ⟨_, by k_is⟩); (case qpl => k_is); (case qpc => k_is); (case qpk => k_is))
      case f84 => (refine' My.spT_mk ?qsa ?qsi ?qsl ?qsc ?qsk; (case qsa => k_is); (case qsi => k_is); (case qsl => k_is); (case qsc => k_is); (case qsk => k_is))
      case f85 =>
        refine' My.NEqT.mk (My.neK_mk ?qn1 ?qne ?qn2 ?qne2 ?qn3 ?qn4 ?qn5 ?qnf)
        case qn1 => k_is
        case qne => exact rfl
        case qn2 => k_is
        case qne2 => exact rfl
        case qn3 => k_is
        case qn4 => k_is
        case qn5 => k_is
        case qnf => k_is
      case f86 => (refine' My.spT_mk ?qsa ?qsi ?qsl ?qsc ?qsk; (case qsa => k_is); (case qsi => k_is); (case qsl => k_is); (case qsc => k_is); (case qsk => k_is))
      case f87 =>
        refine' My.NEqT.mk (My.neK_mk ?qn1 ?qne ?qn2 ?qne2 ?qn3 ?qn4 ?qn5 ?qnf)
        case qn1 => k_is
        case qne => exact rfl
        case qn2 => k_is
        case qne2 => exact rfl
        case qn3 => k_is
        case qn4 => k_is
        case qn5 => k_is
        case qnf => k_is
      case f88 => (refine' My.spT_mk ?qsa ?qsi ?qsl ?qsc ?qsk; (case qsa => k_is); (case qsi => k_is); (case qsl => k_is); (case qsc => k_is); (case qsk => k_is))
      case f89 =>
        refine' My.readT_mk ?qr1 ?qr2 ?qr3 ?qr4 ?qr5 ?qr6 ?qr7 ?qr8
        case qr3 => k_is
        case qr1 => k_is
        case qr2 => k_is
        case qr4 => exact ⟨_, by k_is⟩
        case qr5 => k_is
        case qr6 => k_is
        case qr7 => k_is
        case qr8 => k_is
