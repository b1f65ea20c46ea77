import PyProof.Rows.All
import Wide.All
import OpenK.AllK
import Wide.FinOn
import HandS.ForMost
import HandS.Exc
import HandS.TryOnly
import HandS.ExcOwn
import HandS.WordsExc
import HandS.Wide
import HandS.IsInst
import PyProof.FactsAll.dict
import KE.KExcIs
import HandS.ExcInit
import HandS.ExcField
import HandS.OwnEq
import PySem.Challenge.RW_calledanew_k12_rules
import HandS.Codes
set_option Elab.async false
set_option linter.all false
set_option maxRecDepth 100000
set_option maxHeartbeats 4000000
/-! Own layer: what all laws of this project share. -/
namespace CA
open PySem L2
/-! ### heaps -/
/-- what was tracked is as it was, but at the addresses of ms -/
def Keep (ms : List Addr) (H H' : Hp) : Prop := ∀ b o, H b = some o → b ∉ ms → H' b = some o
theorem Keep.refl {ms : List Addr} (H : Hp) : Keep ms H H := fun _ _ h _ => h
theorem Keep.trans {ms : List Addr} {H H1 H2 : Hp} (a : Keep ms H H1) (b : Keep ms H1 H2) : Keep ms H H2 := fun c o h n => b c o (a c o h n) n
theorem Keep.of {ms : List Addr} {H H' : Hp} (s : Same H H') : Keep ms H H' := fun b o h _ => s b o h
theorem same_new {H : Hp} {p : Addr} (h : H p = none) (o : HO) : Same H (upd H p o) := fun b u q => by rw [upd_ne (ne_of_none q h)]; exact q
theorem Keep.upd {a : Addr} {H : Hp} {o : HO} : Keep [a] H (upd H a o) := fun b u q n => by rw [upd_ne (fun z => n (by rw [z]; exact List.mem_singleton.mpr rfl))]; exact q
theorem Keep.one {a : Addr} {H H' : Hp} (k : Keep [a] H H') {b : Addr} {o : HO} (h : H b = some o) (n : b ≠ a) : H' b = some o := k b o h (fun z => n (List.mem_singleton.mp z))
/-! ### pow of a wide base -/
def CPowW (i j : Int) : Prop := 0 ≤ j ∧ (Builtin.Int.intBits i : Int) * j ≤ 2 ^ 27
section
variable {X : Cx}
theorem op_powW : OpR X (binaryOp .Pow) (rI CPowW fun i j => .int (i ^ j.toNat)) := opI fun _ _ _ _ _ _ _ hc q => PyProof.Rows.pow_int hc.1 hc.2 q
end
/-- a module's object, by its name -/
theorem pe_gref {X : Cx} {x : Str} {a : Addr} {pos : Pos} (hg : Gl X x) (hm : X.mg x = some (.ref a)) (hd : (x == ("__debug__" : Str)) = false := by decide) : PE X (.Name x pos) (tC (.ref a)) := pe_glob hg hm rfl hd
theorem pe_gr {X : Cx} {x : Str} {a : Addr} {pos : Pos} (hm : X.mg x = some (.ref a)) (hg : Gl X x := by rfl) (hd : (x == ("__debug__" : Str)) = false := by decide) : PE X (.Name x pos) (tC (.ref a)) := pe_glob hg hm rfl hd
/-! ### the draws' state -/
/-- the five places of the draws' state -/
def stL (scr : Addr) (i d seed c : Int) : HO := .lst [.ref scr, .int i, .int d, .int seed, .int c]
structure StAt (H : Hp) (st scr : Addr) : Prop where
  ex : ∃ (ns : List Int) (i d seed c : Int), H st = some (stL scr i d seed c) ∧ H scr = some (.lst (ns.map V.int)) ∧ scr ≠ st ∧ ns.length ≤ 63 ∧ 0 ≤ i ∧ 0 ≤ d ∧ 0 ≤ seed ∧ seed < 2147483629
theorem StAt.keep {H H' : Hp} {st scr : Addr} (S : StAt H st scr) (k : Same H H') : StAt H' st scr := by
  obtain ⟨ns, i, d, seed, c, h1, h2, r⟩ := S.ex
  exact ⟨ns, i, d, seed, c, k _ _ h1, k _ _ h2, r⟩
/-! ### promises of the draws -/
def spStart (K : PySem.W.Frag) : Sp := fun vs H Q _ => ∃ (a : Addr) (ns : List Int), vs = [.ref a] ∧ SqL K H a (ns.map V.int) ∧ ns.length ≤ 63 ∧
  ∀ (st scr : Addr) (H' : Hp), H st = none → Same H H' → StAt H' st scr → Q (.ref st) H'
def spMixed : Sp := fun vs H Q _ => ∃ (a b n : Int), vs = [.int a, .int b, .int n] ∧ 0 < n ∧ ∀ r : Int, 0 ≤ r → r < n → Q (.int r) H
/-- a draw: some number below the size; the state alone is changed -/
def spTake : Sp := fun vs H Q _ => ∃ (st scr : Addr) (n : Int), vs = [.ref st, .int n] ∧ StAt H st scr ∧ 0 < n ∧ n < 1000000 ∧
  ∀ (r : Int) (H' : Hp), 0 ≤ r → r < n → Keep [st] H H' → StAt H' st scr → Q (.int r) H'
theorem mod_mul_ok {x m : Int} (hm : 0 < m) (h : m ≤ 4294967296) : CMul (x % m) ((x % m) / 1009 + 40692) := by
  refine Or.inl ⟨?_, ?_⟩
  · have := Int.emod_nonneg x (by omega : m ≠ 0); omega
  · have := Int.emod_lt_of_pos x hm; omega
end CA
namespace CA
open PySem L2 PySem.SeqAt PySem.MeetsSeq
open AutoSeq1 (wpAny_loadPart')
/-! ### a text is no dict -/
theorem dict_eq_declines_str (l : Addr) (es : Array DictEntry) (ep : Nat) (dd : Option Addr) (sl : Array (Option Value)) (b : Str) (u : Tok) :
    Meets (Builtin.«dict.__eq__» ⟨[.ref l, .str b u], []⟩) (fun _ R s => s.heap.get? l = some { cls := .type "dict", dict := dd, data := .dict es ep, slots := sl } ∧ R (.ok (.ret .notImplemented)) s) :=
  .of_wp fun prog w A R s h => by obtain ⟨hp, g, d, tk, os⟩ := s; obtain ⟨hl, h⟩ := h; have f1 := F.sub_str_dict; wp_walk using wpAny_loadPart' hl; exact ⟨_, rfl, h⟩
theorem str_eq_declines_dict (b : Str) (u : Tok) (l : Addr) (c : Value) (es : Array DictEntry) (ep : Nat) (dd : Option Addr) (sl : Array (Option Value)) :
    Meets (Builtin.«str.__eq__» ⟨[.str b u, .ref l], []⟩) (fun _ R s => s.heap.get? l = some { cls := c, dict := dd, data := .dict es ep, slots := sl } ∧ R (.ok (.ret .notImplemented)) s) :=
  .of_wp fun prog w A R s h => by obtain ⟨hp, g, d, tk, os⟩ := s; obtain ⟨hl, h⟩ := h; wp_walk using wpAny_loadPart' hl, wpAny_load hl; exact ⟨_, rfl, h⟩
section
variable {A : Around} {s : Shared}
theorem rcAt_str_dict {l : Addr} {o : Obj} {es : Array DictEntry} {ep : Nat} (b : Str) (u : Tok) (ho : s.heap.get? l = some o) (hc : o.cls = .type "dict") (hd : o.data = .dict es ep) (hu : A.units < cLine) : RcAt A s (.str b u) (.ref l) false := fun prog w E Q h => by
  obtain ⟨cls, dd, data, sl⟩ := o
  simp only at hc hd
  subst hc hd
  exact rc_eq_decline_or (k := false) (typeIs_str s b u) ⟨_, ho, rfl⟩ (by decide) F.sub_dict_str F.slot_str_eq F.slot_dict_eq_refl
    (fun _ hq => call_meets F.slot_str_eq (typeIs_str s b u) F.entry_str_eq (F.args_str_eq_2 _ _) (str_eq_declines_dict b u l (.type "dict") es ep dd sl) ⟨ho, hq⟩)
    (fun _ hq => call_meets F.slot_dict_eq_refl ⟨_, ho, rfl⟩ F.entry_dict_eq (F.args_dict_eq_2 _ _) (dict_eq_declines_str l es ep dd sl b u) ⟨ho, hq⟩)
    (fun _ hq => wpAny_of_eq (rfl : isSame (.str b u) (.ref l) = pure false) hq) (.inr hu) h
theorem eqAt_str_dict {l : Addr} {o : Obj} {es : Array DictEntry} {ep : Nat} (b : Str) (u : Tok) (ho : s.heap.get? l = some o) (hc : o.cls = .type "dict") (hd : o.data = .dict es ep) (hu : A.units < cLine) : EqAt A s (.str b u) (.ref l) false := fun prog w E Q h => by
  unfold eqBool
  refine wpAny_holding ?_
  refine wpAny_ite_split (fun hab => absurd (eq_of_beq hab) nofun) (fun _ => ?_)
  exact wpAny_bind (rcAt_str_dict b u ho hc hd hu prog w E _ (wpAny_truthy_bool h))
end
/-! ### values of a known kind -/
inductive Kd (H : Hp) : V → Prop where
  | flat {v : V} (h : flatV v = true) : Kd H v
  | tup {a : Addr} {xs : List V} (h : H a = some (.tup xs)) : Kd H (.ref a)
  | lst {a : Addr} {xs : List V} (h : H a = some (.lst xs)) : Kd H (.ref a)
  | dct {a : Addr} {kvs : List (Key × V)} (h : H a = some (.dK kvs)) : Kd H (.ref a)
theorem Kd.same {H H' : Hp} {v : V} (k : Kd H v) (s : Same H H') : Kd H' v := by
  cases k with
  | flat h => exact .flat h
  | tup h => exact .tup (s _ _ h)
  | lst h => exact .lst (s _ _ h)
  | dct h => exact .dct (s _ _ h)
/-- x stands among these texts -/
def memT (x : V) (ss : List Str) : Bool := ss.any fun z => decide (V.str z = x)
/-- a text's answer to == x, read off the value -/
def eqT (x : V) (u : Value) : Bool := match u with
  | .str z _ => decide (V.str z = x)
  | _ => false
section
variable {X : Cx}
theorem eqAt_txt {pins : List (Addr × Obj)} {σ : L2.St} {H : Hp} {s : Shared} {A : Around} {x : V} {u : Value} (I : Inv X pins σ H s) (k : Kd H x) (r : RelV x u) (hu : A.units < cLine) (z : Str) (t : Tok) : EqAt A s (.str z t) u (decide (V.str z = x)) := by
  cases k with
  | flat h =>
    have e : decide (V.str z = x) = eqV (.str z) x := by
      cases x with
      | str y =>
        show decide (V.str z = V.str y) = (z == y)
        by_cases h : z = y
        · subst h; simp
        · have : ¬ V.str z = V.str y := fun q => h (V.str.inj q)
          rw [decide_eq_false this]; exact (beq_eq_false_iff_ne.mpr h).symm
      | non => rfl
      | bl b => rfl
      | int i => rfl
      | _ => exact absurd (show false = true from h) Bool.false_ne_true
    rw [e]
    exact eqAt_V (y := .str z) ⟨t, rfl⟩ r rfl h
  | tup h =>
    cases r
    obtain ⟨_, its, _, p⟩ := I.hok _ _ h
    exact EqAt.str_tuple z t p hu
  | lst h =>
    cases r
    obtain ⟨_, its, n, _, e⟩ := I.hok _ _ h
    exact EqAt.str_list z t ⟨_, e, rfl, n, rfl⟩ hu
  | dct h =>
    cases r
    obtain ⟨_, _, vs, _, o, es, ep, h1, h2, h3, _⟩ := I.hok _ _ h
    exact eqAt_str_dict z t h1 h2.1 h3 hu
theorem any_eqT {x : V} : ∀ {ss : List Str} {us : List Value}, Vals (ss.map V.str) us → us.any (eqT x) = memT x ss
  | [], _, .nil => rfl
  | z :: ss, u :: us, .cons r t => by
    obtain ⟨tk, rfl⟩ := r
    rw [List.any_cons, any_eqT t]
    rfl
theorem mem_txts : ∀ {ss : List Str} {us : List Value}, Vals (ss.map V.str) us → ∀ u ∈ us, ∃ z t, u = .str z t
  | [], _, .nil => fun u hu => by cases hu
  | z :: ss, u :: us, .cons r t => fun u' hu => by
    rcases List.mem_cons.mp hu with rfl | hu
    · obtain ⟨tk, rfl⟩ := r; exact ⟨_, _, rfl⟩
    · exact mem_txts t u' hu
/-- x in a tuple (or list) of texts, x a value of a known kind -/
def rInT (K : PySem.W.Frag) (neg : Bool) : R2 := fun x y H Q => ∃ p ss, y = .ref p ∧ (SqL K H p (ss.map V.str) ∨ SqT K H p (ss.map V.str)) ∧ Kd H x ∧ Q (.bl (if neg then !memT x ss else memT x ss)) H
theorem op_inT (hu : X.A.units + 1 < cLine) : OpR X (compareOp .In) (rInT X.K false) := by
  intro pins s σ H x y v u Q I rx ry h
  obtain ⟨p, ss, rfl, hq, kx, q⟩ := h
  cases ry
  have hA : X.A.in1.units < cLine := hu
  rcases hq with hq | hq
  · obtain ⟨its, r, pl, hz⟩ := I.list hq
    refine in_listAt (eqT x) pl.isList (fun w hw => ?_) ⟨.bl _, H, I, rfl, ?_⟩
    · obtain ⟨z, t, rfl⟩ := mem_txts r w (by simpa using hw)
      exact eqAt_txt I kx rx hA z t
    · rw [show its.toArray.any (eqT x) = its.any (eqT x) by simp, any_eqT r]
      exact q
  · obtain ⟨its, r, pl, hz⟩ := I.tuple hq
    refine in_tupleAt (eqT x) pl (fun w hw => ?_) ⟨.bl _, H, I, rfl, ?_⟩
    · obtain ⟨z, t, rfl⟩ := mem_txts r w (by simpa using hw)
      exact eqAt_txt I kx rx hA z t
    · rw [show its.toArray.any (eqT x) = its.any (eqT x) by simp, any_eqT r]
      exact q
theorem op_notInT (hu : X.A.units + 1 < cLine) : OpR X (compareOp .NotIn) (rInT X.K true) := by
  intro pins s σ H x y v u Q I rx ry h
  obtain ⟨p, ss, rfl, hq, kx, q⟩ := h
  cases ry
  have hA : X.A.in1.units < cLine := hu
  rcases hq with hq | hq
  · obtain ⟨its, r, pl, hz⟩ := I.list hq
    refine notIn_listAt (eqT x) pl.isList (fun w hw => ?_) ⟨.bl _, H, I, rfl, ?_⟩
    · obtain ⟨z, t, rfl⟩ := mem_txts r w (by simpa using hw)
      exact eqAt_txt I kx rx hA z t
    · rw [show its.toArray.any (eqT x) = its.any (eqT x) by simp, any_eqT r]
      exact q
  · obtain ⟨its, r, pl, hz⟩ := I.tuple hq
    refine notIn_tupleAt (eqT x) pl (fun w hw => ?_) ⟨.bl _, H, I, rfl, ?_⟩
    · obtain ⟨z, t, rfl⟩ := mem_txts r w (by simpa using hw)
      exact eqAt_txt I kx rx hA z t
    · rw [show its.toArray.any (eqT x) = its.any (eqT x) by simp, any_eqT r]
      exact q
end
end CA
namespace CA
open PySem L2 PySem.Spec PyProof.Rows
/-! ### C(e, ..) where what __init__ raises is wished for at the caller's slots -/
section
variable {X : Cx} {CX : CXT} {k : Nat} {f C : Addr} {fd : FuncData} {ps : List Str} {sp : Sp} {dvs : List V} {ds : List Value} {E : L2.St → XK} {x : Str} {p pos : Pos} {e : Expr} {es : List Expr} {t : TA}
def tMakeS (C : Addr) (sp : Sp) (E : L2.St → XK) (t : TA) : TE := fun σ H Q => t σ H fun vs H1 => ∀ x dx, H1 x = none → H1 dx = none → dx ≠ x → sp (.ref x :: vs) (upd (upd H1 dx (.own x)) x (.ins C dx [])) (fun v H2 => v = .non ∧ Q (.ref x) H2) (E σ)
theorem run_makeS {pins : List (Addr × Obj)} {σ : L2.St} {H : Hp} {s : Shared} {Q : VK} {us : List Value} {vs : List V} (M : Mk X.K C f) (F : FnOk X.prog X.w X.K X.mg X.base CX k f fd ps sp) (hr : Room (k + 1) X.A) (hb : Binds X.K fd ps [])
    (hx : PassesAt CX X σ (E σ)) (I : Inv X pins σ H s) (r : Vals vs us)
    (h : ∀ x dx, H x = none → H dx = none → dx ≠ x → sp (.ref x :: vs) (upd (upd H dx (.own x)) x (.ins C dx [])) (fun v H2 => v = .non ∧ Q (.ref x) H2) (E σ)) :
    wpAny (model X.prog X.w) X.A (call (.ref C) us) (EP X pins σ Q) X.xe s := by
  have hq := h (s.heap.objs.size + 1) s.heap.objs.size (I.hok.fresh (Nat.le_succ _)) (I.hok.fresh (Nat.le_refl _)) (Nat.ne_of_lt (Nat.lt_succ_self _))
  have I2 := Inv.made (C := C) I
  have r2 : Vals (V.ref (s.heap.objs.size + 1) :: vs) (Value.ref (s.heap.objs.size + 1) :: us) := .cons rfl r
  have hl : (Value.ref (s.heap.objs.size + 1) :: us).length = ps.length := by
    have e := r2.length
    rw [F.len _ _ _ _ hq] at e
    exact e.symm
  have bb := hb _ (Value.ref (s.heap.objs.size + 1) :: us) I2.kIn (by rw [List.append_nil]; exact hl)
  rw [List.append_nil] at bb
  refine wpAny_call (make_map (f := f) I.kIn M.makes M.init (beq_iff_eq.mp M.fn) (codeAny_mono (F.run _ X.stack _ _ ⟨Value.ref (s.heap.objs.size + 1) :: us, []⟩ (Value.ref (s.heap.objs.size + 1) :: us) _ _ (E σ) (hr.make C us [])
    (I2.env0.make C us []) bb r2 hq) fun r s' hq' => ?_))
  cases r with
  | error e => exact hx pins _ _ e s' I2 hq'
  | ok fl =>
    cases fl with
    | ret u =>
      obtain ⟨v, H', I3, rv, ev, q3⟩ := I2.after hq'
      subst ev
      exact ⟨rv, ⟨V.ref (s.heap.objs.size + 1), H', I3, rfl, q3⟩⟩
    | next => exact False.elim hq'
    | brk => exact False.elim hq'
    | cont => exact False.elim hq'
theorem pe_makeS (M : Mk X.K C f) (F : FnOk X.prog X.w X.K X.mg X.base CX k f fd ps sp) (hr : Room (k + 1) X.A) (hg : Gl X x) (hm : X.mg x = some (.ref C)) (hb : Binds X.K fd ps []) (hx : ∀ σ, PassesAt CX X σ (E σ))
    (ha : PA X (e :: es) t) (hdb : (x == ("__debug__" : Str)) = false := by decide) (he : starEach (e :: es) X.env = (false, eval e X.env) :: starEach es X.env := by rfl) (hpl : (backTo pos (starEach es X.env)).any (·.1) = false := by rfl) :
    PE X (.Call (.Name x p) (e :: es) [] pos) (tMakeS C sp E t) := by
  refine ⟨fun pins s σ H Q I h => ?_⟩
  refine wpAny_Call_Name_kw (ld_glob I hg hm ?_ hdb)
  refine PySem.W.callWith_K (h₀ := X.base) I.ok.mod.kin M.kp (thn (ha.run pos pins s σ H _ I h) fun us s1 ⟨vs, H1, I1, r, q⟩ => ⟨I1.kIn, ?_⟩) he hpl
  exact run_makeS M F hr hb (hx σ) I1 r q
end
/-! ### isinstance of the exception that a suite holds, one with a dict -/
structure ExcD (K : PySem.W.Frag) (D : Addr) : Prop where
  hcl : (PySem.W.clsIn K D).isSome = true
  hg : PySem.W.findIn K (.ref D) "__getattribute__" = some (some (.builtin "BaseException.__getattribute__"))
  hk : PySem.W.findIn K (.ref D) "__getattr__" = some none
  hs : PySem.W.subIn K (.ref D) (.type "BaseException") = some true
  ha : PySem.W.findIn K (.ref D) "__class__" = some (some (.builtin "object.__class__"))
  hn : PySem.W.specialIn K (.builtin "object.__class__") "__get__" = some (some (.builtin "getset_descriptor.__get__"))
  ht : PySem.W.takesIn K (.builtin "object.__class__") = some true
  hm : PySem.W.mroIn K D (.type "object") = some true
def rIsX (K : PySem.W.Frag) (D a : Addr) (cls : Value) (d : Option Addr) : List V → Hp → VK → Prop := fun xs H Q => ∃ (c : V) (cv : Value) (b : Bool) (dd : Addr) (fs : List (Str × V)), xs = [.ref a, c] ∧ cls = .ref D ∧ d = some dd ∧ H dd = some (.xd fs) ∧ (∀ u, RelV c u → u = cv) ∧ PySem.W.kitOne K (.ref D) cv = some b ∧ Q (.bl b) H
theorem call_isX {X : Cx} {a D : Addr} {oe : Obj} {cls : Value} {d : Option Addr} {pn : List (Addr × Obj)} (C : ExcD X.K D) (hz : Zc cls d oe) (hf : ∃ vs, oe.data = .fields vs) : CallR (X.suite a ((a, oe) :: pn)) (.builtin "isinstance") (rIsX X.K D a cls d) := by
  intro pins s σ H xs us Q I r h
  obtain ⟨c, cv, b, dd, fs, rfl, ec, ed, hd, hcv, e, q⟩ := h
  subst ec
  subst ed
  cases r with
  | cons rx rr =>
    cases rr with
    | cons rt rr =>
      cases rr
      cases rx
      have ec := hcv _ rt
      subst ec
      obtain ⟨hget, _⟩ := I.pin (a, oe) (List.mem_append.mpr (.inl List.mem_cons_self))
      obtain ⟨vs, hv⟩ := hf
      obtain ⟨mA, ⟨od, es, ep, ho, _⟩, _⟩ := I.hok dd _ hd
      have J : PySem.W.InstAt s.heap a oe D (some od) := ⟨hget, hz.1, by unfold PySem.W.notCls; rw [hv] <;> rfl, by rw [hz.2]; exact ho⟩
      exact PySem.W.kia_one (PySem.W.kitx_exc C.hcl C.hg C.hk C.hs C.ha C.hn C.ht C.hm) I.kIn J e (fun z => nomatch z) fun tk => ⟨.bl b, H, I.kept (t' := tk) fun _ _ z => z, rfl, q⟩
/-! ### own errors with one field -/
/-- the promise of def __init__(self, f): self.f = f -/
def spErr (K : PySem.W.Frag) (C : Addr) (f : Str) : Sp := fun vs H Q _ => ∃ (a : Addr) (v : V), vs = [.ref a, v] ∧ H a = some (exo a C none) ∧ ∀ dx, H dx = none → dx ≠ a → Q .non (upd (upd H dx (exd dx [(f, v)])) a (exo a C (some dx)))
/-- what the heap is behind the making of such an error -/
theorem err_heap {H : Hp} {a d : Addr} {o1 o2 o3 o4 : HO} (ha : H a = none) (hda : d ≠ a) : upd (L2.del (upd (upd (upd H a o1) d o2) a o3) a) d o4 = upd H d o4 := by
  funext b
  by_cases hb : b = d
  · subst hb; rw [upd_same, upd_same]
  · rw [upd_ne hb, upd_ne hb]
    by_cases hba : b = a
    · subst hba; rw [L2.del_same, ha]
    · rw [L2.del_ne hba, upd_ne hba, upd_ne hb, upd_ne hba]
/-- X(e), X an own error with one field, to be raised: its dict d is new -/
theorem mkO_of {K : PySem.W.Frag} {C : Addr} {f : Str} {te : TE} {σ : L2.St} {H : Hp} {W : XK} (h : te σ H fun v H1 => ∀ d, H1 d = none → W (.ref C) (some d) (upd H1 d (.xd [(f, v)]))) (mono : ∀ (Q Q' : VK), (∀ v H', Q v H' → Q' v H') → te σ H Q → te σ H Q') :
    tMkO C (spErr K C f) [] (tCons te tNil) σ H W := by
  refine mono _ _ (fun v H1 q => ?_) h
  refine ⟨by show 1 ≤ 1000; decide, fun a ha => ⟨a, v, rfl, upd_same, fun dx hdx hne => ⟨rfl, dx, [(f, v)], upd_same, by rw [upd_ne hne]; exact upd_same, ?_, ?_⟩⟩⟩
  · rw [upd_ne hne] at hdx; exact hdx
  · rw [err_heap ha hne]
    exact q dx (by rw [upd_ne hne] at hdx; exact hdx)
/-! ### == of two instances by their own __eq__ -/
section
variable {X : Cx} {CX : CXT} {k : Nat} {f C : Addr} {fd : FuncData} {ps : List Str} {sp : Sp}
def rEqOwn (C : Addr) (sp : Sp) : R2 := fun x y H Q => ∃ a b dx dy fs gs, x = .ref a ∧ y = .ref b ∧ H a = some (.ins C dx fs) ∧ H b = some (.ins C dy gs) ∧ sp [.ref a, .ref b] H (fun v H' => ∃ c, v = .bl c ∧ Q (.bl c) H') E0
theorem op_eqOwn (F : FnOk X.prog X.w X.K X.mg X.base CX k f fd ps sp) (hs : PySem.W.findIn X.K (.ref C) "__eq__" = some (some (.ref f))) (hf : PySem.W.isFn X.K (.ref f) = true) (hb : Binds X.K fd ps []) (hx : Passes CX X E0) (hr : Room k X.A) : OpR X (compareOp .Eq) (rEqOwn C sp) := by
  intro pins s σ H x y u v Q I rx ry h
  obtain ⟨a, b, dx, dy, fs, gs, rfl, rfl, ha, hb', hsp⟩ := h
  cases rx
  cases ry
  obtain ⟨mA, J, _⟩ := ins_get I.hok ha
  obtain ⟨mB, J', _⟩ := ins_get I.hok hb'
  obtain ⟨od, J, _⟩ := J.look
  obtain ⟨od', J', _⟩ := J'.look
  obtain ⟨m, hF⟩ := I.fr
  show wpAny (model X.prog X.w) X.A (richCompare .Eq (.ref a) (.ref b)) (EP X pins σ Q) X.xe s
  refine PySem.W.cmp_K (op := .Eq) (tb := .ref C) hr.units0 hF I.ok.mod.kin J J'.type (by simp [PySem.W.notFirst]) hs hf ?_
  have hl := F.len _ _ _ _ hsp
  have r2 : Vals [V.ref a, V.ref b] [Value.ref a, Value.ref b] := .cons rfl (.cons rfl .nil)
  refine wpAny_call (codeAny_mono (F.run X.A X.stack s H ⟨[.ref a, .ref b], []⟩ [.ref a, .ref b] [.ref a, .ref b] _ E0 hr I.env0 (by
    have := hb s [.ref a, .ref b] I.kIn (by simpa using hl)
    simpa using this) r2 hsp) fun r s' hq => ?_)
  cases r with
  | error e => exact hx pins σ H s e s' I hq
  | ok fl =>
    cases fl with
    | ret w =>
      obtain ⟨z, H', I', rz, c, ez, q⟩ := I.after hq
      subst ez
      cases rz
      exact ⟨.bl c, H', I', rfl, q⟩
    | next => exact False.elim hq
    | brk => exact False.elim hq
    | cont => exact False.elim hq
end
end CA
namespace CA
open PySem L2
/-! ### walks, for comprehensions of any depth -/
theorem walk_tup {K : PySem.W.Frag} {a : Addr} {xs : List V} {H0 : Hp} {Body : V → Hp → (Hp → Prop) → Prop} {Qd : Hp → Prop} (Pv : Nat → Hp → Prop) (h0 : Pv 0 H0) (hl : ∀ i H, i ≤ xs.length → Pv i H → SqT K H a xs)
    (hs : ∀ i x H, xs[i]? = some x → Pv i H → Body x H (Pv (i + 1))) (hd : ∀ H, Pv xs.length H → Qd H) :
    ∃ W : Nat → Nat → Hp → Prop, (∃ m, W 0 m H0) ∧ ∀ i m H, W i m H →
      ((Itt K a).stop i H ∧ Qd H) ∨ ((Itt K a).go i H ∧ ∃ Nx : Hp → Prop, (∀ H', Nx H' → ∃ m', m' < m ∧ W (i + 1) m' H') ∧ ∀ x H', (Itt K a).yld i H x H' → Body x H' Nx) := by
  refine ⟨fun i m H => m = xs.length - i ∧ i ≤ xs.length ∧ Pv i H, ⟨xs.length, by simp, Nat.zero_le _, h0⟩, ?_⟩
  rintro i m H ⟨rfl, hi, p⟩
  have q := hl i H hi p
  by_cases hlt : i < xs.length
  · refine .inr ⟨⟨xs, xs[i], q, by simp [hlt]⟩, Pv (i + 1), fun H' p' => ⟨xs.length - (i + 1), by omega, rfl, hlt, p'⟩, fun x H' y => ?_⟩
    obtain ⟨e, y⟩ := y
    subst e
    exact hs i x _ (y xs q) p
  · have e : i = xs.length := by omega
    subst e
    exact .inl ⟨⟨xs, q, Nat.le_refl _⟩, hd H p⟩
theorem walk_list {K : PySem.W.Frag} {a : Addr} {xs : List V} {H0 : Hp} {Body : V → Hp → (Hp → Prop) → Prop} {Qd : Hp → Prop} (Pv : Nat → Hp → Prop) (h0 : Pv 0 H0) (hl : ∀ i H, i ≤ xs.length → Pv i H → SqL K H a xs)
    (hs : ∀ i x H, xs[i]? = some x → Pv i H → Body x H (Pv (i + 1))) (hd : ∀ H, Pv xs.length H → Qd H) :
    ∃ W : Nat → Nat → Hp → Prop, (∃ m, W 0 m H0) ∧ ∀ i m H, W i m H →
      ((Itl K a).stop i H ∧ Qd H) ∨ ((Itl K a).go i H ∧ ∃ Nx : Hp → Prop, (∀ H', Nx H' → ∃ m', m' < m ∧ W (i + 1) m' H') ∧ ∀ x H', (Itl K a).yld i H x H' → Body x H' Nx) := by
  refine ⟨fun i m H => m = xs.length - i ∧ i ≤ xs.length ∧ Pv i H, ⟨xs.length, by simp, Nat.zero_le _, h0⟩, ?_⟩
  rintro i m H ⟨rfl, hi, p⟩
  have q := hl i H hi p
  by_cases hlt : i < xs.length
  · refine .inr ⟨⟨xs, xs[i], q, by simp [hlt]⟩, Pv (i + 1), fun H' p' => ⟨xs.length - (i + 1), by omega, rfl, hlt, p'⟩, fun x H' y => ?_⟩
    obtain ⟨e, y⟩ := y
    subst e
    exact hs i x _ (y xs q) p
  · have e : i = xs.length := by omega
    subst e
    exact .inl ⟨⟨xs, q, Nat.le_refl _⟩, hd H p⟩
theorem walk_range {lo : Int} {n : Nat} {H0 : Hp} {Body : V → Hp → (Hp → Prop) → Prop} {Qd : Hp → Prop} (Pv : Nat → Hp → Prop) (h0 : Pv 0 H0)
    (hs : ∀ i H, i < n → Pv i H → Body (.int (lo + i)) H (Pv (i + 1))) (hd : ∀ H, Pv n H → Qd H) :
    ∃ W : Nat → Nat → Hp → Prop, (∃ m, W 0 m H0) ∧ ∀ i m H, W i m H →
      ((Itr lo n).stop i H ∧ Qd H) ∨ ((Itr lo n).go i H ∧ ∃ Nx : Hp → Prop, (∀ H', Nx H' → ∃ m', m' < m ∧ W (i + 1) m' H') ∧ ∀ x H', (Itr lo n).yld i H x H' → Body x H' Nx) := by
  refine ⟨fun i m H => m = n - i ∧ i ≤ n ∧ Pv i H, ⟨n, by simp, Nat.zero_le _, h0⟩, ?_⟩
  rintro i m H ⟨rfl, hi, p⟩
  by_cases hlt : i < n
  · refine .inr ⟨hlt, Pv (i + 1), fun H' p' => ⟨n - (i + 1), by omega, rfl, hlt, p'⟩, fun x H' y => ?_⟩
    obtain ⟨e, y⟩ := y
    subst e y
    exact hs i _ hlt p
  · have e : i = n := by omega
    subst e
    exact .inl ⟨Nat.le_refl _, hd H p⟩
end CA
namespace CA
open PySem L2
def topS (i : Nat) : Stmt := PySem.Challenge.pw_calledanew_k12_rules.main.body.getD i (.Pass ⟨0, 0, 0, 0⟩)
/-- built-in names and defs that the draws use -/
structure TxtD (K : PySem.W.Frag) (mg : Str → Option Value) (fm : Addr) : Prop where
  int : mg "int" = none
  len : mg "len" = none
  abs : mg "abs" = none
  g__law_mixed : mg "_law_mixed" = some (.ref fm)
  k__law_mixed : PySem.W.keepIn K (.ref fm) = true
section
variable {P : Program} {w : World} {K : PySem.W.Frag} {mg : Str → Option Value} {base : Heap} {fm : Addr}
abbrev s__law_start : Stmt := topS 9
theorem sc__law_start : FnScope ["_law_script", "_law_seed", "_law_cell"] ["_law_script"] (defScope s__law_start) := ⟨rfl, rfl, rfl, by decide +kernel, rfl, by decide +kernel, by decide +kernel⟩
theorem cut63 {xs : List V} (h : xs.length ≤ 63) : cutV xs none (some 63) = xs := by
  unfold cutV
  have e : HT.sIx xs.length xs.length (some 63) = xs.length := by
    show (if (63 : Int) < 0 then ((63 : Int) + (xs.length : Int)).toNat else min (63 : Int).toNat xs.length) = xs.length
    rw [if_neg (by decide)]
    show min 63 xs.length = xs.length
    omega
  rw [e]
  show (xs.drop 0).take (xs.length - 0) = xs
  simp
theorem ok__law_start {f : Addr} {fd : FuncData} (F : Fun K "_law_start" "_law_start" s__law_start f fd) (T : TxtD K mg fm) : FnOk P w K mg base CX0 1 f fd ["_law_script"] (spStart K) := by
  refine F.ok sc__law_start (fun vs H Q E h => ?_) (fun cdv A outer s H vs Q E hr h => ?_)
  · obtain ⟨a, ns, rfl, _⟩ := h
    rfl
  obtain ⟨a, ns, rfl, hS, h63, q⟩ := h
  refine ⟨_, (pss_cons (ps_set (i := 1) sc__law_start.nd rfl (Or.inl rfl) pe_int)
  (pss_cons (ps_for PassesOwn.never rfl (pi_list (pe_slice sl_list (pv 0) po_none (po_some pe_int))) (pg_name (i := 2) sc__law_start.nd rfl (Or.inl rfl))
    (pss_one (ps_set (i := 1) sc__law_start.nd rfl (Or.inl rfl) (pe_op op_mod (pe_callTy call_int1 (by rfl) T.int (by decide +kernel) (pa_cons (pe_op op_add (pe_op op_mul (pv 1) pe_int) (pv 2)) pa_nil)) pe_int))))
  (pss_one (ps_ret (pe_lst (pa_cons (pe_slice sl_list (pv 0) po_none (po_some pe_int)) (pa_cons pe_int (pa_cons pe_int (pa_cons (pv 1) (pa_cons pe_int pa_nil)))))))))), ?_⟩
  have hl : (ns.map V.int).length ≤ 63 := by rw [List.length_map]; exact h63
  refine ⟨_, rfl, 63, rfl, a, _, rfl, hS, fun p hp => ?_⟩
  rw [cut63 hl]
  have s1 : Same H (upd H p (.lst (ns.map V.int))) := same_new hp _
  refine ⟨p, rfl, ⟨_, SqL.of upd_same⟩, for_list (K := K) (a := p) (xs := ns.map V.int) (fun i σ H2 => ∃ (z : Int) (v : Option V), σ = [some (.ref a), some (.int z), v] ∧ H2 = upd H p (.lst (ns.map V.int)) ∧ 0 ≤ z ∧ z < 2147483629)
    ⟨17, none, rfl, rfl, by decide, by decide⟩ (fun i σ H2 _ ⟨_, _, _, e, _⟩ => by rw [e]; exact SqL.of upd_same) ?_ ?_⟩
  · rintro i y σ H2 hi ⟨z, v, rfl, rfl, h0, h1⟩
    obtain ⟨x, rfl⟩ : ∃ x, y = V.int x := by
      rw [List.getElem?_map] at hi
      cases e : ns[i]? with
      | none => rw [e] at hi; cases hi
      | some x => rw [e] at hi; exact ⟨x, (Option.some.inj hi).symm⟩
    refine ⟨_, rfl, _, _, rfl, rfl, Or.inl ⟨by omega, by omega⟩, _, rfl, _, _, rfl, rfl, .inl ⟨_, rfl, _, _, rfl, rfl, (by show (0 : Int) < 2147483629; decide), ?_⟩⟩
    exact ⟨_, _, rfl, rfl, Int.emod_nonneg _ (by decide), Int.emod_lt_of_pos _ (by decide)⟩
  · rintro σ H2 ⟨z, v, rfl, rfl, h0, h1⟩
    refine ⟨_, rfl, 63, rfl, a, _, rfl, s1.seq hS, fun c hc => ?_⟩
    rw [cut63 hl]
    refine ⟨_, rfl, (by show 5 ≤ sizeLine; decide), fun st hst => ?_⟩
    have s2 : Same (upd H p (.lst (ns.map V.int))) (upd (upd H p (.lst (ns.map V.int))) c (.lst (ns.map V.int))) := same_new hc _
    have s3 := same_new hst (stL c 0 0 z 0)
    have cst : c ≠ st := ne_of_none upd_same hst
    exact q st c _ ((s1.trans s2).free hst) (s1.trans (s2.trans s3)) ⟨⟨ns, 0, 0, z, 0, upd_same, (by rw [upd_ne cst]; exact upd_same), cst, h63, Int.le_refl 0, Int.le_refl 0, h0, h1⟩⟩
abbrev s__law_mixed : Stmt := topS 10
theorem sc__law_mixed : FnScope ["_law_cell", "_law_count", "_law_size", "_law_number"] ["_law_cell", "_law_count", "_law_size"] (defScope s__law_mixed) := ⟨rfl, rfl, rfl, by decide +kernel, rfl, by decide +kernel, by decide +kernel⟩
theorem ok__law_mixed {f : Addr} {fd : FuncData} (F : Fun K "_law_mixed" "_law_mixed" s__law_mixed f fd) (T : TxtD K mg fm) : FnOk P w K mg base CX0 1 f fd ["_law_cell", "_law_count", "_law_size"] spMixed := by
  refine F.ok sc__law_mixed (fun vs H Q E h => ?_) (fun cdv A outer s H vs Q E hr h => ?_)
  · obtain ⟨a, b, n, rfl, _⟩ := h
    rfl
  obtain ⟨a, b, n, rfl, hn, q⟩ := h
  refine ⟨_, (pss_cons (ps_set (i := 3) sc__law_mixed.nd rfl (Or.inl rfl) (pe_op op_mod (pe_callTy call_int1 (by rfl) T.int (by decide +kernel) (pa_cons (pe_op op_add (pe_op op_add (pe_op op_mul (pv 0) pe_int) (pe_op op_mul (pv 1) pe_int)) pe_int) pa_nil)) pe_int))
  (pss_cons (ps_set (i := 3) sc__law_mixed.nd rfl (Or.inl rfl) (pe_op op_mod (pe_callTy call_int1 (by rfl) T.int (by decide +kernel) (pa_cons (pe_op op_add (pe_op op_mul (pv 3) (pe_op op_add (pe_op op_fdiv (pv 3) pe_int) pe_int)) (pv 1)) pa_nil)) pe_int))
  (pss_cons (ps_set (i := 3) sc__law_mixed.nd rfl (Or.inl rfl) (pe_op op_mod (pe_callTy call_int1 (by rfl) T.int (by decide +kernel) (pa_cons (pe_op op_add (pe_op op_mul (pv 3) (pe_op op_add (pe_op op_fdiv (pv 3) pe_int) pe_int)) pe_int) pa_nil)) pe_int))
  (pss_one (ps_ret (pe_op op_mod (pe_callTy call_int1 (by rfl) T.int (by decide +kernel) (pa_cons (pe_op op_fdiv (pv 3) pe_int) pa_nil)) (pv 2))))))), ?_⟩
  have c1 : ∀ i : Int, CMul i 69621 := fun i => Or.inr ⟨by decide, by decide⟩
  have c2 : ∀ i : Int, CMul i 48271 := fun i => Or.inr ⟨by decide, by decide⟩
  have md : ∀ (x m y : Int), 0 < m → m ≤ 4294967296 → CMul (x % m) y := fun x m y hm h => Or.inl ⟨by have := Int.emod_nonneg x (by omega : m ≠ 0); omega, by have := Int.emod_lt_of_pos x hm; omega⟩
  refine ⟨_, rfl, _, _, rfl, rfl, c1 _, _, rfl, _, _, rfl, rfl, c2 _, _, _, rfl, rfl, _, _, rfl, rfl, .inl ⟨_, rfl, _, _, rfl, rfl, (by show (0 : Int) < 2147483647; decide), ?_⟩⟩
  refine ⟨_, rfl, _, rfl, _, _, rfl, rfl, ⟨by decide, by decide⟩, _, _, rfl, rfl, _, _, rfl, rfl, md _ _ _ (by decide) (by decide), _, rfl, _, _, rfl, rfl, .inl ⟨_, rfl, _, _, rfl, rfl, (by show (0 : Int) < 2147483629; decide), ?_⟩⟩
  refine ⟨_, rfl, _, rfl, _, _, rfl, rfl, ⟨by decide, by decide⟩, _, _, rfl, rfl, _, _, rfl, rfl, md _ _ _ (by decide) (by decide), _, _, rfl, rfl, .inl ⟨_, rfl, _, _, rfl, rfl, (by show (0 : Int) < 2147483579; decide), ?_⟩⟩
  refine ⟨_, rfl, _, _, rfl, rfl, ⟨by decide, by decide⟩, .inl ⟨_, rfl, _, rfl, _, _, rfl, rfl, hn, ?_⟩⟩
  exact q _ (Int.emod_nonneg _ (by omega)) (Int.emod_lt_of_pos _ hn)
abbrev s__law_take : Stmt := topS 11
theorem sc__law_take : FnScope ["_law_state", "_law_size", "_law_cell", "_law_digit"] ["_law_state", "_law_size"] (defScope s__law_take) := ⟨rfl, rfl, rfl, by decide +kernel, rfl, by decide +kernel, by decide +kernel⟩
theorem at_map {ns : List Int} {i : Int} (h0 : 0 ≤ i) (h : i < (((ns.map V.int).length : Nat) : Int)) : ∃ x : Int, atI (ns.map V.int) i = some (.int x) := by
  rw [List.length_map] at h
  have hk : i.toNat < ns.length := by omega
  exact ⟨ns[i.toNat], at_of (j := i.toNat) (by omega) (by rw [List.getElem?_map, List.getElem?_eq_getElem hk] <;> rfl)⟩
theorem big_pos : (0 : Int) < ((10 ^ Int.toNat 60) ^ Int.toNat 10) := Int.pow_pos (Int.pow_pos (by decide))
theorem at5 {a b c d e : V} (k : Nat) (v : V) (h : [a, b, c, d, e][k]? = some v) : atI [a, b, c, d, e] (k : Int) = some v := atI_nat h
theorem ok__law_take {f : Addr} {fd fdm : FuncData} (F : Fun K "_law_take" "_law_take" s__law_take f fd) (T : TxtD K mg fm) (G_law_mixed : FnOk P w K mg base CX0 1 fm fdm ["_law_cell", "_law_count", "_law_size"] spMixed) (b_law_mixed : Binds K fdm ["_law_cell", "_law_count", "_law_size"] []) :
    FnOk P w K mg base CX0 2 f fd ["_law_state", "_law_size"] spTake := by
  refine F.ok sc__law_take (fun vs H Q E h => ?_) (fun cdv A outer s H vs Q E hr h => ?_)
  · obtain ⟨st, scr, n, rfl, _⟩ := h
    rfl
  obtain ⟨st, scr, n, rfl, S, hn, hn2, q⟩ := h
  refine ⟨_, (pss_cons (ps_asg (pe_op op_add (pe_ix ix_list (pv 0) pe_int (fun _ _ => rfl)) pe_int) (pg_sub (pv 0) pe_int set_list))
  (pss_cons (ps_if (PW.pt (pw_and (pt_cmpR op_eq (pe_ix ix_list (pv 0) pe_int (fun _ _ => rfl)) pe_int (nomark _)) (pw_and1 (pt_cmpR op_lt (pe_ix ix_list (pv 0) pe_int (fun _ _ => rfl)) (pe_callB call_len_seq (by rfl) T.len PySem.boot_len (pa_cons (pe_ix ix_list (pv 0) pe_int (fun _ _ => rfl)) pa_nil)) (nomark _)))))
    (pss_cons (ps_set (i := 2) sc__law_take.nd rfl (Or.inl rfl) (pe_callB call_abs (by rfl) T.abs (by decide +kernel) (pa_cons (pe_callTy call_int1 (by rfl) T.int (by decide +kernel) (pa_cons (pe_ix ix_list (pe_ix ix_list (pv 0) pe_int (fun _ _ => rfl)) (pe_ix ix_list (pv 0) pe_int (fun _ _ => rfl)) (fun _ _ => rfl)) pa_nil)) pa_nil)))
      (pss_cons (ps_asg (pe_op op_add (pe_ix ix_list (pv 0) pe_int (fun _ _ => rfl)) pe_int) (pg_sub (pv 0) pe_int set_list))
      (pss_cons (ps_if (pt_cmpR op_lt (pv 2) (pe_op op_pow pe_int pe_int) (nomark _))
        (pss_one (ps_ret (pe_call G_law_mixed hr rfl T.g__law_mixed T.k__law_mixed b_law_mixed .nil pass0 (pa_cons (pv 2) (pa_cons (pe_ix ix_list (pv 0) pe_int (fun _ _ => rfl)) (pa_cons (pv 1) pa_nil))))))
        pss_nil)
      (pss_one (ps_asg (pe_op op_mod (pe_callTy call_int1 (by rfl) T.int (by decide +kernel) (pa_cons (pv 2) pa_nil)) (pe_op op_powW (pe_op op_pow pe_int pe_int) pe_int)) (pg_sub (pv 0) pe_int set_list))))))
    pss_nil)
  (pss_cons (ps_if (pt_cmpR op_eq (pe_ix ix_list (pv 0) pe_int (fun _ _ => rfl)) pe_int (nomark _))
    (pss_one (ps_ret (pe_call G_law_mixed hr rfl T.g__law_mixed T.k__law_mixed b_law_mixed .nil pass0 (pa_cons (pe_ix ix_list (pv 0) pe_int (fun _ _ => rfl)) (pa_cons (pe_ix ix_list (pv 0) pe_int (fun _ _ => rfl)) (pa_cons (pv 1) pa_nil))))))
    pss_nil)
  (pss_cons (ps_set (i := 3) sc__law_take.nd rfl (Or.inl rfl) (pe_op op_mod (pe_callTy call_int1 (by rfl) T.int (by decide +kernel) (pa_cons (pe_ix ix_list (pv 0) pe_int (fun _ _ => rfl)) pa_nil)) (pv 1)))
  (pss_cons (ps_asg (pe_op op_fdiv (pe_ix ix_list (pv 0) pe_int (fun _ _ => rfl)) (pv 1)) (pg_sub (pv 0) pe_int set_list))
  (pss_one (ps_ret (pv 3)))))))), ?_⟩
  obtain ⟨ns, i, d, seed, c, h1, h2, ne, h63, hi, hd, hs0, hs1⟩ := S.ex
  refine ⟨_, rfl, st, _, _, _, rfl, rfl, SqL.of h1, at5 4 _ rfl, _, _, rfl, rfl, _, rfl, st, _, 4, 4, rfl, rfl, h1, rfl, ?_⟩
  have k1 : Keep [st] H (upd H st (stL scr i d seed (c + 1))) := Keep.upd
  have e1 : (upd H st (stL scr i d seed (c + 1))) st = some (stL scr i d seed (c + 1)) := upd_same
  generalize hJ : upd H st (stL scr i d seed (c + 1)) = J at k1 e1
  rw [show upd H st (.lst ([V.ref scr, .int i, .int d, .int seed, .int c].set 4 (.int (c + 1)))) = J from hJ]
  clear hJ
  have fin : ∀ (J : Hp) (i' d' c' r : Int), Keep [st] H J → J st = some (stL scr i' d' seed c') → 0 ≤ i' → 0 ≤ d' → 0 ≤ r → r < n → Q (.int r) J := fun J i' d' c' r k e hi' hd' hr0 hr1 =>
    q r J hr0 hr1 k ⟨⟨ns, i', d', seed, c', e, k.one h2 ne, ne, h63, hi', hd', hs0, hs1⟩⟩
  have fin2 : ∀ (J : Hp) (d' d2 r : Int) (i' c' : Int), Keep [st] H J → J st = some (stL scr i' d' seed c') → 0 ≤ i' → 0 ≤ d2 → 0 ≤ r → r < n → Q (.int r) (upd J st (.lst ([V.ref scr, .int i', .int d', .int seed, .int c'].set 2 (.int d2)))) := fun J d' d2 r i' c' k e hi' hd2 hr0 hr1 =>
    fin _ i' d2 c' r (k.trans Keep.upd) (by rw [upd_same]; rfl) hi' hd2 hr0 hr1
  have dn : CDiv d n := ⟨hn, by omega⟩
  refine ⟨_, rfl, st, _, _, _, rfl, rfl, SqL.of e1, at5 2 _ rfl, rfl, _, rfl, ite2 (fun c0 => ?_) (fun c0 => ?_)⟩
  · refine ⟨_, rfl, st, _, _, _, rfl, rfl, SqL.of e1, at5 1 _ rfl, _, rfl, st, _, _, _, rfl, rfl, SqL.of e1, at5 0 _ rfl, scr, _, rfl, .inl (SqL.of (k1.one h2 ne)), _, _, rfl, rfl, _, rfl, ite2 (fun c1 => ?_) (fun c1 => ?_)⟩
    · obtain ⟨x, hx⟩ := at_map hi (of_decide_eq_true c1)
      refine ⟨_, rfl, st, _, _, _, rfl, rfl, SqL.of e1, at5 0 _ rfl, _, rfl, st, _, _, _, rfl, rfl, SqL.of e1, at5 1 _ rfl, scr, _, _, _, rfl, rfl, SqL.of (k1.one h2 ne), hx, .inl ⟨_, rfl, _, rfl, ?_⟩⟩
      refine ⟨_, rfl, st, _, _, _, rfl, rfl, SqL.of e1, at5 1 _ rfl, _, _, rfl, rfl, _, rfl, st, _, 1, 1, rfl, rfl, e1, rfl, ?_⟩
      have k2 : Keep [st] H (upd J st (stL scr (i + 1) d seed (c + 1))) := k1.trans Keep.upd
      have e2 : (upd J st (stL scr (i + 1) d seed (c + 1))) st = some (stL scr (i + 1) d seed (c + 1)) := upd_same
      generalize hJ2 : upd J st (stL scr (i + 1) d seed (c + 1)) = J2 at k2 e2
      rw [show upd J st (.lst ([V.ref scr, .int i, .int d, .int seed, .int (c + 1)].set 1 (.int (i + 1)))) = J2 from hJ2]
      clear hJ2
      refine ⟨_, rfl, _, _, rfl, rfl, ⟨by decide, by decide, by decide⟩, _, _, rfl, rfl, _, rfl, ite2 (fun c2 => ?_) (fun c2 => ?_)⟩
      · refine ⟨_, rfl, _, rfl, st, _, _, _, rfl, rfl, SqL.of e2, at5 4 _ rfl, _, rfl, _, _, n, rfl, hn, fun r hr0 hr1 => ?_⟩
        exact fin J2 (i + 1) d (c + 1) r k2 e2 (by omega) hd hr0 hr1
      · refine ⟨_, rfl, .inl ⟨_, rfl, _, _, rfl, rfl, ⟨by decide, by decide, by decide⟩, _, _, rfl, rfl, ⟨by decide, by decide +kernel⟩, _, _, rfl, rfl, ?_, ?_⟩⟩
        · exact big_pos
        · have hdT := Int.emod_nonneg (if x < 0 then -x else x) (Int.ne_of_gt big_pos)
          refine ⟨_, rfl, st, _, 2, 2, rfl, rfl, e2, rfl, ?_⟩
          have kT : Keep [st] H (upd J2 st (stL scr (i + 1) ((if x < 0 then -x else x) % ((10 ^ Int.toNat 60) ^ Int.toNat 10)) seed (c + 1))) := k2.trans Keep.upd
          have eT : (upd J2 st (stL scr (i + 1) ((if x < 0 then -x else x) % ((10 ^ Int.toNat 60) ^ Int.toNat 10)) seed (c + 1))) st = some (stL scr (i + 1) ((if x < 0 then -x else x) % ((10 ^ Int.toNat 60) ^ Int.toNat 10)) seed (c + 1)) := upd_same
          have hiT : 0 ≤ i + 1 := by omega
          refine ⟨_, rfl, st, _, _, _, rfl, rfl, SqL.of eT, at5 2 _ rfl, rfl, _, rfl, ite2 (fun c3 => ?_) (fun c3 => ?_)⟩
          · refine ⟨_, rfl, st, _, _, _, rfl, rfl, SqL.of eT, at5 3 _ rfl, _, rfl, st, _, _, _, rfl, rfl, SqL.of eT, at5 4 _ rfl, _, rfl, _, _, n, rfl, hn, fun r hr0 hr1 => ?_⟩
            exact fin _ (i + 1) ((if x < 0 then -x else x) % ((10 ^ Int.toNat 60) ^ Int.toNat 10)) (c + 1) r kT eT hiT hdT hr0 hr1
          · refine ⟨_, rfl, st, _, _, _, rfl, rfl, SqL.of eT, at5 2 _ rfl, .inl ⟨_, rfl, _, rfl, _, _, rfl, rfl, hn, ?_⟩⟩
            refine ⟨_, rfl, st, _, _, _, rfl, rfl, SqL.of eT, at5 2 _ rfl, _, rfl, _, _, rfl, rfl, dn, _, rfl, st, _, 2, 2, rfl, rfl, eT, rfl, _, rfl, ?_⟩
            exact fin2 _ ((if x < 0 then -x else x) % ((10 ^ Int.toNat 60) ^ Int.toNat 10)) (((if x < 0 then -x else x) % ((10 ^ Int.toNat 60) ^ Int.toNat 10)) / n) (((if x < 0 then -x else x) % ((10 ^ Int.toNat 60) ^ Int.toNat 10)) % n) (i + 1) (c + 1) kT eT hiT (Int.ediv_nonneg hdT (Int.le_of_lt hn)) (Int.emod_nonneg _ (Int.ne_of_gt hn)) (Int.emod_lt_of_pos _ hn)
    · refine ⟨_, rfl, st, _, _, _, rfl, rfl, SqL.of e1, at5 2 _ rfl, rfl, _, rfl, ite2 (fun c3 => ?_) (fun c3 => ?_)⟩
      · refine ⟨_, rfl, st, _, _, _, rfl, rfl, SqL.of e1, at5 3 _ rfl, _, rfl, st, _, _, _, rfl, rfl, SqL.of e1, at5 4 _ rfl, _, rfl, _, _, n, rfl, hn, fun r hr0 hr1 => ?_⟩
        exact fin _ i d (c + 1) r k1 e1 hi hd hr0 hr1
      · refine ⟨_, rfl, st, _, _, _, rfl, rfl, SqL.of e1, at5 2 _ rfl, .inl ⟨_, rfl, _, rfl, _, _, rfl, rfl, hn, ?_⟩⟩
        refine ⟨_, rfl, st, _, _, _, rfl, rfl, SqL.of e1, at5 2 _ rfl, _, rfl, _, _, rfl, rfl, dn, _, rfl, st, _, 2, 2, rfl, rfl, e1, rfl, _, rfl, ?_⟩
        exact fin2 _ d (d / n) (d % n) i (c + 1) k1 e1 hi (Int.ediv_nonneg hd (Int.le_of_lt hn)) (Int.emod_nonneg _ (Int.ne_of_gt hn)) (Int.emod_lt_of_pos _ hn)
  · refine ⟨_, rfl, st, _, _, _, rfl, rfl, SqL.of e1, at5 2 _ rfl, rfl, _, rfl, ite2 (fun c3 => ?_) (fun c3 => ?_)⟩
    · refine ⟨_, rfl, st, _, _, _, rfl, rfl, SqL.of e1, at5 3 _ rfl, _, rfl, st, _, _, _, rfl, rfl, SqL.of e1, at5 4 _ rfl, _, rfl, _, _, n, rfl, hn, fun r hr0 hr1 => ?_⟩
      exact fin _ i d (c + 1) r k1 e1 hi hd hr0 hr1
    · refine ⟨_, rfl, st, _, _, _, rfl, rfl, SqL.of e1, at5 2 _ rfl, .inl ⟨_, rfl, _, rfl, _, _, rfl, rfl, hn, ?_⟩⟩
      refine ⟨_, rfl, st, _, _, _, rfl, rfl, SqL.of e1, at5 2 _ rfl, _, rfl, _, _, rfl, rfl, dn, _, rfl, st, _, 2, 2, rfl, rfl, e1, rfl, _, rfl, ?_⟩
      exact fin2 _ d (d / n) (d % n) i (c + 1) k1 e1 hi (Int.ediv_nonneg hd (Int.le_of_lt hn)) (Int.emod_nonneg _ (Int.ne_of_gt hn)) (Int.emod_lt_of_pos _ hn)
end
end CA
namespace CA
open PySem L2
def txB : List Str := ["together", "each"]
def txS : List Str := ["pass", "call"]
structure TxtR (K : PySem.W.Frag) (mg : Str → Option Value) (C CE CC fI fR fQ aB aS : Addr) : Prop where
  oex : OexC K CE
  xd : ExcD K CE
  xf : XfC K CE
  noP : PySem.W.findIn K (.ref CE) "part" = some none
  iC : PySem.W.findIn K (.ref CE) "__init__" = some (some (.ref fI))
  tI : PySem.W.typeIn K (.ref fI) = some (.type "function")
  te : PySem.W.exmOne K (.ref CE) (.ref CE) = some true
  isC : PySem.W.kitOne K (.ref CE) (.ref CC) = some true
  gE : mg "InvalidRule" = some (.ref CE)
  gC : mg "CalledError" = some (.ref CC)
  cl : Cls K C
  mkR : Mk K C fR
  nB : NoAttr K C "batch"
  nS : NoAttr K C "same"
  gR : mg "Rule" = some (.ref C)
  g_BATCHES : mg "BATCHES" = some (.ref aB)
  g_SAMES : mg "SAMES" = some (.ref aS)
  sB : ∀ H, SqT K H aB (txB.map V.str)
  sS : ∀ H, SqT K H aS (txS.map V.str)
/-- the attributes of a rule -/
def rfs (b s : V) : List (Str × V) := putF "same" s (putF "batch" b [])
/-- a rule stands at x -/
def RuleAt (C : Addr) (H : Hp) (x : Addr) (b s : V) : Prop := ∃ dx, H x = some (.ins C dx (rfs b s))
def spRuleI (C CE : Addr) : Sp := fun vs H Q E => ∃ (x dx : Addr) (b s : V), vs = [.ref x, b, s] ∧ H x = some (.ins C dx []) ∧ Kd H b ∧ Kd H s ∧
  (if memT b txB = false then ∀ d H', H d = none → H' = upd H d (.xd [("part", .str "batch")]) → E (.ref CE) (some d) H'
   else if memT s txS = false then ∀ d H', H d = none → H' = upd H d (.xd [("part", .str "same")]) → E (.ref CE) (some d) H'
   else Q .non (upd H x (.ins C dx (rfs b s))))
section
variable {P : Program} {w : World} {K : PySem.W.Frag} {mg : Str → Option Value} {base : Heap} {C CE CC fI fR fQ aB aS : Addr}
abbrev s_InvalidRule___init__ : Stmt := inClass (topS 2) 0
theorem sc_InvalidRule___init__ : FnScope ["self", "part"] ["self", "part"] (defScope s_InvalidRule___init__) := ⟨rfl, rfl, rfl, by decide +kernel, rfl, by decide +kernel, by decide +kernel⟩
theorem ok_InvalidRule___init__ {fd : FuncData} (F : Fun K "__init__" "InvalidRule.__init__" s_InvalidRule___init__ fI fd) (T : TxtR K mg C CE CC fI fR fQ aB aS) : FnOk P w K mg base CX0 1 fI fd ["self", "part"] (spErr K CE "part") := by
  refine F.ok sc_InvalidRule___init__ (fun vs H Q E h => ?_) (fun cdv A outer s H vs Q E hr h => ?_)
  · obtain ⟨a, v, rfl, _⟩ := h
    rfl
  obtain ⟨a, v, rfl, ha, q⟩ := h
  refine ⟨_, pss_one (ps_ost (pv 0) (pv 1)), ?_⟩
  exact ⟨_, rfl, _, rfl, a, CE, rfl, T.oex, T.noP, .inl ⟨ha, fun dx hdx hne => q dx hdx hne⟩⟩
abbrev s_Rule___init__ : Stmt := inClass (topS 6) 0
theorem sc_Rule___init__ : FnScope ["self", "batch", "same"] ["self", "batch", "same"] (defScope s_Rule___init__) := ⟨rfl, rfl, rfl, by decide +kernel, rfl, by decide +kernel, by decide +kernel⟩
theorem ok_Rule___init__ {fdI fd : FuncData} (F : Fun K "__init__" "Rule.__init__" s_Rule___init__ fR fd) (T : TxtR K mg C CE CC fI fR fQ aB aS) (GI : FnOk P w K mg base CX0 1 fI fdI ["self", "part"] (spErr K CE "part")) (bI : Binds K fdI ["self", "part"] []) :
    FnOk P w K mg base (L2.CX P w) 3 fR fd ["self", "batch", "same"] (spRuleI C CE) := by
  refine F.okX sc_Rule___init__ (fun vs H Q E h => ?_) (fun cdv A outer s H vs Q E hr h => ?_)
  · obtain ⟨x, dx, b, z, rfl, _⟩ := h
    rfl
  obtain ⟨x, dx, b, z, rfl, hx, kb, kz, q⟩ := h
  have hu := hu_of hr
  refine ⟨_, (pss_cons (ps_if (pt_cmpR (op_notInT hu) (pv 1) (pe_gr T.g_BATCHES) (by rfl))
    (pss_one (ps_raise rfl (takes_of rfl rfl rfl rfl) (pmk_oex T.oex T.iC T.tI GI hr bI .nil pass0 rfl T.gE (pa_cons pe_str pa_nil))))
    pss_nil)
  (pss_cons (ps_if (pt_cmpR (op_notInT hu) (pv 2) (pe_gr T.g_SAMES) (by rfl))
    (pss_one (ps_raise rfl (takes_of rfl rfl rfl rfl) (pmk_oex T.oex T.iC T.tI GI hr bI .nil pass0 rfl T.gE (pa_cons pe_str pa_nil))))
    pss_nil)
  (pss_cons (ps_fld (pv 0) (pv 1) rfl)
  (pss_one (ps_fld (pv 0) (pv 2) rfl))))), ?_⟩
  refine ⟨_, rfl, aB, txB, rfl, .inr (T.sB _), kb, _, rfl, ?_⟩
  cases eb : memT b txB with
  | false =>
    rw [if_pos eb] at q
    refine iteT ?_
    exact mkO_of (te := tC (.str "batch")) (fun d hd => q d _ hd rfl) (fun _ _ g h => g _ _ h)
  | true =>
    rw [if_neg (by rw [eb]; decide)] at q
    refine iteF ?_
    refine ⟨_, rfl, aS, txS, rfl, .inr (T.sS _), kz, _, rfl, ?_⟩
    cases ez : memT z txS with
    | false =>
      rw [if_pos ez] at q
      refine iteT ?_
      exact mkO_of (te := tC (.str "same")) (fun d hd => q d _ hd rfl) (fun _ _ g h => g _ _ h)
    | true =>
      rw [if_neg (by rw [ez]; decide)] at q
      refine iteF ?_
      refine ⟨_, rfl, _, rfl, x, C, dx, [], rfl, hx, T.cl, T.nB, (by show 0 < 1000; decide), _, rfl, _, rfl, x, C, dx, _, rfl, upd_same, T.cl, T.nS, (by show 1 < 1000; decide), ?_⟩
      rw [upd_upd]
      exact q
abbrev s_Rule___eq__ : Stmt := inClass (topS 6) 1
theorem sc_Rule___eq__ : FnScope ["self", "other"] ["self", "other"] (defScope s_Rule___eq__) := ⟨rfl, rfl, rfl, by decide +kernel, rfl, by decide +kernel, by decide +kernel⟩
end
end CA
namespace CA
open PySem L2
theorem rfs_b (b s : V) : (rfs b s).lookup ("batch" : Str) = some b := by
  unfold rfs
  rw [lookup_putF, if_neg (by decide +kernel), lookup_putF, if_pos rfl]
theorem rfs_s (b s : V) : (rfs b s).lookup ("same" : Str) = some s := by
  unfold rfs
  rw [lookup_putF, if_pos rfl]
def spRuleEq (C : Addr) : Sp := fun vs H Q _ => ∃ (x y : Addr) (b1 s1 b2 s2 : Str), vs = [.ref x, .ref y] ∧ RuleAt C H x (.str b1) (.str s1) ∧ RuleAt C H y (.str b2) (.str s2) ∧ Q (.bl (decide (b1 = b2) && decide (s1 = s2))) H
theorem str_dec (a b : Str) : decide (V.str a = V.str b) = decide (a = b) := by
  by_cases h : a = b
  · subst h; simp
  · have : ¬ V.str a = V.str b := fun q => h (V.str.inj q)
    rw [decide_eq_false this, decide_eq_false h]
/-- what the top says besides -/
structure TxtQ (K : PySem.W.Frag) (mg : Str → Option Value) (C fQ : Addr) : Prop where
  isinstance : mg "isinstance" = none
  ins : C8.InsC K C
  eqC : PySem.W.findIn K (.ref C) "__eq__" = some (some (.ref fQ))
  eqF : PySem.W.isFn K (.ref fQ) = true
section
variable {P : Program} {w : World} {K : PySem.W.Frag} {mg : Str → Option Value} {base : Heap} {C CE CC fI fR fQ aB aS : Addr}
theorem ok_Rule___eq__ {fd : FuncData} (F : Fun K "__eq__" "Rule.__eq__" s_Rule___eq__ fQ fd) (T : TxtR K mg C CE CC fI fR fQ aB aS) (TQ : TxtQ K mg C fQ) : FnOk P w K mg base CX0 1 fQ fd ["self", "other"] (spRuleEq C) := by
  refine F.ok sc_Rule___eq__ (fun vs H Q E h => ?_) (fun cdv A outer s H vs Q E hr h => ?_)
  · obtain ⟨x, y, _, _, _, _, rfl, _⟩ := h
    rfl
  obtain ⟨x, y, b1, s1, b2, s2, rfl, ⟨dx, hx⟩, ⟨dy, hy⟩, q⟩ := h
  refine ⟨_, (pss_one (ps_ret (pe_and (pe_callB (C8.call_isC TQ.ins) (by rfl) TQ.isinstance (by decide +kernel) (pa_cons (pv 1) (pa_cons (pe_gr T.gR) pa_nil))) (pe_and (pe_cmpR op_eq (pe_fld (pv 0) rfl) (pe_fld (pv 1) rfl) (nomark _)) (pe_one (pe_cmpR op_eq (pe_fld (pv 0) rfl) (pe_fld (pv 1) rfl) (nomark _))))))), ?_⟩
  refine ⟨_, rfl, y, dy, _, rfl, hy, true, rfl, ?_⟩
  refine iteT ?_
  refine ⟨_, rfl, x, C, dx, _, _, rfl, hx, T.cl, T.nB, rfs_b _ _, _, rfl, y, C, dy, _, _, rfl, hy, T.cl, T.nB, rfs_b _ _, rfl, _, rfl, ?_⟩
  cases eb : decide (V.str b1 = V.str b2) with
  | false =>
    refine iteF ?_
    rw [str_dec] at eb
    rw [eb] at q
    exact q
  | true =>
    refine iteT ?_
    rw [str_dec] at eb
    rw [eb] at q
    refine ⟨_, rfl, x, C, dx, _, _, rfl, hx, T.cl, T.nS, rfs_s _ _, _, rfl, y, C, dy, _, _, rfl, hy, T.cl, T.nS, rfs_s _ _, rfl, ?_⟩
    show Q (.bl (decide (V.str s1 = V.str s2))) H
    rw [str_dec]
    exact q
abbrev s_all_rules : Stmt := topS 7
theorem sc_all_rules : FnScope ["batch", "same"] [] (defScope s_all_rules) := ⟨rfl, rfl, rfl, by decide +kernel, rfl, by decide +kernel, by decide +kernel⟩
/-- the rules of ps stand at rs, one for one -/
def RulesAt (C : Addr) (H : Hp) (rs : List V) (ps : List (Str × Str)) : Prop := Paired (fun (v : V) (p : Str × Str) => ∃ x, v = .ref x ∧ RuleAt C H x (.str p.1) (.str p.2)) rs ps
def fourR : List (Str × Str) := [("together", "pass"), ("together", "call"), ("each", "pass"), ("each", "call")]
theorem RuleAt.same {C : Addr} {H H' : Hp} {x : Addr} {b s : V} (r : RuleAt C H x b s) (k : Same H H') : RuleAt C H' x b s := by
  obtain ⟨dx, h⟩ := r
  exact ⟨dx, k _ _ h⟩
theorem RuleAt.updL {C : Addr} {H : Hp} {x D : Addr} {b s : V} {rs : List V} {o : HO} (r : RuleAt C H x b s) (hD : H D = some (.lst rs)) : RuleAt C (upd H D o) x b s := by
  obtain ⟨dx, h⟩ := r
  exact ⟨dx, by rw [upd_ne (ne_of h hD (by intro z; cases z))]; exact h⟩
theorem RulesAt.same {C : Addr} {H H' : Hp} (k : Same H H') : ∀ {rs : List V} {ps : List (Str × Str)}, RulesAt C H rs ps → RulesAt C H' rs ps
  | _, _, .nil => .nil
  | _, _, .cons ⟨x, e, r⟩ t => .cons ⟨x, e, r.same k⟩ (RulesAt.same k t)
theorem RulesAt.updL {C : Addr} {H : Hp} {D : Addr} {ls : List V} {o : HO} (hD : H D = some (.lst ls)) : ∀ {rs : List V} {ps : List (Str × Str)}, RulesAt C H rs ps → RulesAt C (upd H D o) rs ps
  | _, _, .nil => .nil
  | _, _, .cons ⟨x, e, r⟩ t => .cons ⟨x, e, r.updL hD⟩ (RulesAt.updL hD t)
theorem RulesAt.snoc {C : Addr} {H : Hp} {x : Addr} {p : Str × Str} (h : RuleAt C H x (.str p.1) (.str p.2)) : ∀ {rs : List V} {ps : List (Str × Str)}, RulesAt C H rs ps → RulesAt C H (rs ++ [.ref x]) (ps ++ [p])
  | _, _, .nil => .cons ⟨x, rfl, h⟩ .nil
  | _, _, .cons r t => .cons r (RulesAt.snoc h t)
theorem RulesAt.app {C : Addr} {H : Hp} : ∀ {rs rs' : List V} {ps ps' : List (Str × Str)}, RulesAt C H rs ps → RulesAt C H rs' ps' → RulesAt C H (rs ++ rs') (ps ++ ps')
  | _, _, _, _, .nil, h => h
  | _, _, _, _, .cons r t, h => .cons r (RulesAt.app t h)
theorem RulesAt.len {C : Addr} {H : Hp} : ∀ {rs : List V} {ps : List (Str × Str)}, RulesAt C H rs ps → rs.length = ps.length
  | _, _, .nil => rfl
  | _, _, .cons _ t => by rw [List.length_cons, List.length_cons, RulesAt.len t]
def spAll (C : Addr) : Sp := fun vs H Q _ => vs = [] ∧ ∀ (D : Addr) (rs : List V) (H' : Hp), H D = none → Same H H' → H' D = some (.lst rs) → RulesAt C H' rs fourR → Q (.ref D) H'
theorem ok_all_rules {f : Addr} {fd fdR : FuncData} (F : Fun K "all_rules" "all_rules" s_all_rules f fd) (T : TxtR K mg C CE CC fI fR fQ aB aS) (GR : FnOk P w K mg base (L2.CX P w) 3 fR fdR ["self", "batch", "same"] (spRuleI C CE)) (bR : Binds K fdR ["self", "batch", "same"] []) :
    FnOk P w K mg base CX0 5 f fd [] (spAll C) := by
  refine F.ok sc_all_rules (fun vs H Q E h => ?_) (fun cdv A outer s H vs Q E hr h => ?_)
  · obtain ⟨rfl, _⟩ := h
    rfl
  obtain ⟨rfl, q⟩ := h
  refine ⟨_, (pss_one (ps_ret (pe_lc2 (own := [("batch", 0), ("same", 1)]) (vs1 := [1]) (wi1 := iTup K (tC (.ref aS))) (g := gName 0) (g1 := gName 1) (tt := tYes) (tt1 := tYes) rfl sc_all_rules.nd (pi_tup (pe_gr T.g_BATCHES)) (blkOk_by (own := [("batch", 0), ("same", 1)]) (N := ["batch", "same"]) (sc := defScope s_all_rules) (by decide +kernel)) (by decide)
    (fun _ _ _ _ _ => pg_name (i := 0) sc_all_rules.nd rfl (Or.inl rfl)) (fun _ _ _ _ _ => pts_nil) (fun _ _ _ _ _ => by exact pi_tup (pe_gr T.g_SAMES)) (fun _ _ _ _ _ => pg_name (i := 1) sc_all_rules.nd rfl (Or.inl rfl)) (fun _ _ _ _ _ => pts_nil)
    (fun _ _ _ _ _ => by exact pe_make T.mkR GR hr rfl T.gR bR .nil passL (pa_cons (pv 0) (pa_cons (pv 1) pa_nil)))))), ?_⟩
  refine ⟨aB, rfl, ⟨_, T.sB _⟩, fun D hD => ?_⟩
  refine walk_tup (xs := txB.map V.str) (fun i H' => ∃ rs, Same H H' ∧ H' D = some (.lst rs) ∧ RulesAt C H' rs (fourR.take (2 * i))) ⟨[], same_new hD _, upd_same, .nil⟩ (fun _ _ _ _ => T.sB _) ?_ ?_
  · rintro i x H1 hx ⟨rs, sm, hl, hR⟩
    refine ⟨rfl, ?_⟩
    unfold tYes
    refine iteT ?_
    refine ⟨aS, rfl, ⟨_, T.sS _⟩, walk_tup (xs := txS.map V.str) (fun j H' => ∃ rs, Same H H' ∧ H' D = some (.lst rs) ∧ RulesAt C H' rs (fourR.take (2 * i + j))) ⟨rs, sm, hl, hR⟩ (fun _ _ _ _ => T.sS _) ?_ ?_⟩
    · rintro j y H2 hy ⟨rs2, sm2, hl2, hR2⟩
      obtain ⟨b, z, rfl, rfl, hb, hz, hp, hlen⟩ : ∃ b z : Str, x = .str b ∧ y = .str z ∧ memT (.str b) txB = true ∧ memT (.str z) txS = true ∧ fourR.take (2 * i + (j + 1)) = fourR.take (2 * i + j) ++ [(b, z)] ∧ (fourR.take (2 * i + j)).length ≤ 3 := by
        rcases i with _ | _ | i
        · rcases j with _ | _ | j
          · cases hx; cases hy; exact ⟨_, _, rfl, rfl, by decide +kernel, by decide +kernel, rfl, by decide⟩
          · cases hx; cases hy; exact ⟨_, _, rfl, rfl, by decide +kernel, by decide +kernel, rfl, by decide⟩
          · cases hy
        · rcases j with _ | _ | j
          · cases hx; cases hy; exact ⟨_, _, rfl, rfl, by decide +kernel, by decide +kernel, rfl, by decide⟩
          · cases hx; cases hy; exact ⟨_, _, rfl, rfl, by decide +kernel, by decide +kernel, rfl, by decide⟩
          · cases hy
        · cases hx
      refine ⟨rfl, ?_⟩
      refine iteT ?_
      refine ⟨_, rfl, _, rfl, fun x dx nx ndx ne => ⟨x, dx, .str b, .str z, rfl, upd_same, .flat rfl, .flat rfl, ?_⟩⟩
      rw [if_neg (by rw [hb]; decide), if_neg (by rw [hz]; decide), upd_upd]
      have s3 : Same H2 (upd (upd H2 dx (.own x)) x (.ins C dx (rfs (.str b) (.str z)))) := fun c o e => by rw [upd_ne (ne_of_none e nx), upd_ne (ne_of_none e ndx)]; exact e
      have hl3 := s3 _ _ hl2
      refine ⟨rfl, rs2, hl3, small1000 (by rw [hR2.len]; omega), rs2 ++ [.ref x], fun c o e => ?_, upd_same, ?_⟩
      · rw [upd_ne (ne_of_none e hD)]; exact s3 _ _ (sm2 _ _ e)
      · rw [hp]
        exact RulesAt.updL hl3 (RulesAt.snoc (p := (b, z)) ⟨dx, upd_same⟩ (hR2.same s3))
    · rintro H2 ⟨rs2, sm2, hl2, hR2⟩
      exact ⟨rs2, sm2, hl2, hR2⟩
  · rintro H1 ⟨rs, sm, hl, hR⟩
    exact q D rs H1 hD sm hl hR
end
end CA
namespace CA
open PySem L2
structure TxtT (K : PySem.W.Frag) (mg : Str → Option Value) (ft : Addr) : Prop where
  g__law_take : mg "_law_take" = some (.ref ft)
  k__law_take : PySem.W.keepIn K (.ref ft) = true
  len : mg "len" = none
def spOdd : Sp := fun vs H Q _ => ∃ st scr, vs = [.ref st] ∧ StAt H st scr ∧ ∀ (v : V) (H' : Hp), Keep [st] H H' → StAt H' st scr → Kd H' v → Q v H'
theorem at_in {xs : List V} {r : Int} (h0 : 0 ≤ r) (h : r < ((xs.length : Nat) : Int)) : ∃ v, atI xs r = some v ∧ v ∈ xs := by
  have hk : r.toNat < xs.length := by omega
  exact ⟨xs[r.toNat], at_of (j := r.toNat) (by omega) (List.getElem?_eq_getElem hk), List.getElem_mem hk⟩
theorem same_two {H : Hp} {p : Addr} (h : H p = none) (o u : HO) : Same H (upd (upd H p o) p u) := fun b z q => by rw [upd_ne (ne_of_none q h), upd_ne (ne_of_none q h)]; exact q
/-- all items are of known kinds -/
def Kds (H : Hp) (xs : List V) : Prop := ∀ v ∈ xs, Kd H v
theorem kds_nil {H : Hp} : Kds H [] := fun v h => by cases h
theorem kds_cons {H : Hp} {v : V} {xs : List V} (k : Kd H v) (ks : Kds H xs) : Kds H (v :: xs) := fun u h => by
  rcases List.mem_cons.mp h with rfl | h
  · exact k
  · exact ks u h
theorem Kd.keep {H H' : Hp} {v : V} {st : Addr} {L : List V} (k : Kd H v) (hs : H st = some (.lst L)) (kp : Keep [st] H H') (hs' : ∃ L', H' st = some (.lst L')) : Kd H' v := by
  have f : ∀ a o, H a = some o → a ≠ st → H' a = some o := fun a o h n => kp.one h n
  cases k with
  | flat h => exact .flat h
  | tup h => exact .tup (f _ _ h (ne_of h hs (by intro z; cases z)))
  | @lst a xs h =>
    by_cases e : a = st
    · subst e
      obtain ⟨L', h'⟩ := hs'
      exact .lst h'
    · exact .lst (f _ _ h e)
  | dct h => exact .dct (f _ _ h (ne_of h hs (by intro z; cases z)))
theorem StAt.isL {H : Hp} {st scr : Addr} (S : StAt H st scr) : ∃ L, H st = some (.lst L) := by
  obtain ⟨ns, i, d, seed, c, h1, _⟩ := S.ex
  exact ⟨_, h1⟩
section
variable {P : Program} {w : World} {K : PySem.W.Frag} {mg : Str → Option Value} {base : Heap} {ft : Addr}
abbrev s__law_odd : Stmt := topS 13
theorem sc__law_odd : FnScope ["_law_state", "_law_odd_here"] ["_law_state"] (defScope s__law_odd) := ⟨rfl, rfl, rfl, by decide +kernel, rfl, by decide +kernel, by decide +kernel⟩
theorem ok__law_odd {f : Addr} {fd fdt : FuncData} (F : Fun K "_law_odd" "_law_odd" s__law_odd f fd) (T : TxtT K mg ft) (G_law_take : FnOk P w K mg base CX0 2 ft fdt ["_law_state", "_law_size"] spTake) (b_law_take : Binds K fdt ["_law_state", "_law_size"] []) :
    FnOk P w K mg base CX0 3 f fd ["_law_state"] spOdd := by
  refine F.ok sc__law_odd (fun vs H Q E h => ?_) (fun cdv A outer s H vs Q E hr h => ?_)
  · obtain ⟨st, scr, rfl, _⟩ := h
    rfl
  obtain ⟨st, scr, rfl, S, q⟩ := h
  refine ⟨_, (pss_cons (ps_set (i := 1) sc__law_odd.nd rfl (Or.inl rfl) (pe_lst (pa_cons pe_non (pa_cons pe_bl (pa_cons pe_int (pa_cons (pe_un un_neg pe_int) (pa_cons pe_int (pa_cons pe_str (pa_cons pe_str (pa_cons pe_str (pa_cons pe_str (pa_cons (pe_tup pa_nil) (pa_cons (pe_tup (pa_cons pe_str pa_nil)) (pa_cons (pe_lst pa_nil) (pa_cons (pe_lst (pa_cons pe_str pa_nil)) (pa_cons pe_dnewK (pa_cons (pe_disp (pps_cons pe_str pe_int pps_nil) (by rfl) (by rfl) (fun z => by cases z) (by decide)) pa_nil)))))))))))))))))
  (pss_cons (ps_set (i := 1) sc__law_odd.nd rfl (Or.inl rfl) (pe_op op_cat (pv 1) (pe_lst (pa_cons (pe_tup (pa_cons pe_str pa_nil)) (pa_cons pe_str (pa_cons (pe_tup (pa_cons pe_int pa_nil)) pa_nil))))))
  (pss_one (ps_ret (pe_ix ix_list (pv 1) (pe_call G_law_take hr rfl T.g__law_take T.k__law_take b_law_take .nil pass0 (pa_cons (pv 0) (pa_cons (pe_callB call_len_seq (by rfl) T.len PySem.boot_len (pa_cons (pv 1) pa_nil)) pa_nil))) (fun _ _ => rfl)))))), ?_⟩
  have z0 : (0 : Nat) ≤ sizeLine := by decide
  have z1 : (1 : Nat) ≤ sizeLine := by decide
  have z15 : (15 : Nat) ≤ sizeLine := by decide
  have z3 : (3 : Nat) ≤ sizeLine := by decide
  refine ⟨_, rfl, z0, fun p1 h1 => ⟨z1, fun p2 h2 => ⟨z0, fun p3 h3 => ⟨z1, fun p4 h4 => fun p5 h5 => fun p6 h6 => ⟨upd_same, [(.inr "a", .int 1)], rfl, by decide, z15, fun L hL => ?_⟩⟩⟩⟩⟩
  have s1 := same_new h1 (.tup [])
  have s2 := same_new h2 (.tup [.str "a"])
  have s3 := same_new h3 (.lst [])
  have s4 := same_new h4 (.lst [.str "a"])
  have s5 := same_new h5 (.dK [])
  have s6 := same_two h6 (.dK []) (.dK (mergeK [] [((.inr "a" : Key), V.int 1)]))
  have sL := same_new hL (.lst [.non, .bl true, .int 0, .int (-1), .int 7, .str "", .str "A", .str "abcdefghi", .str "a b", .ref p1, .ref p2, .ref p3, .ref p4, .ref p5, .ref p6])
  have k1 := (Kd.tup (a := p1) upd_same).same (s2.trans (s3.trans (s4.trans (s5.trans (s6.trans sL)))))
  have k2 := (Kd.tup (a := p2) upd_same).same (s3.trans (s4.trans (s5.trans (s6.trans sL))))
  have k3 := (Kd.lst (a := p3) upd_same).same (s4.trans (s5.trans (s6.trans sL)))
  have k4 := (Kd.lst (a := p4) upd_same).same (s5.trans (s6.trans sL))
  have k5 := (Kd.dct (a := p5) upd_same).same (s6.trans sL)
  have k6 := (Kd.dct (a := p6) upd_same).same sL
  have eL := upd_same (H := (upd (upd (upd (upd (upd (upd (upd H p1 (.tup [])) p2 (.tup [.str "a"])) p3 (.lst [])) p4 (.lst [.str "a"])) p5 (.dK [])) p6 (.dK [])) p6 (.dK (mergeK [] [((.inr "a" : Key), V.int 1)])))) (a := L) (o := .lst [.non, .bl true, .int 0, .int (-1), .int 7, .str "", .str "A", .str "abcdefghi", .str "a b", .ref p1, .ref p2, .ref p3, .ref p4, .ref p5, .ref p6])
  have sHL := s1.trans (s2.trans (s3.trans (s4.trans (s5.trans (s6.trans sL)))))
  refine ⟨_, rfl, z1, fun p7 h7 => ⟨z1, fun p8 h8 => ⟨z3, fun M hM => ?_⟩⟩⟩
  have s7 := same_new h7 (.tup [.str "cell"])
  have s8 := same_new h8 (.tup [.int 0])
  have sM := same_new hM (.lst [.ref p7, .str "cell", .ref p8])
  refine ⟨L, M, _, _, rfl, rfl, sM _ _ (s8 _ _ (s7 _ _ eL)), upd_same, (by decide : (18 : Nat) ≤ sizeLine), fun N hN => ?_⟩
  have sN := same_new hN (.lst ([.non, .bl true, .int 0, .int (-1), .int 7, .str "", .str "A", .str "abcdefghi", .str "a b", .ref p1, .ref p2, .ref p3, .ref p4, .ref p5, .ref p6] ++ [.ref p7, .str "cell", .ref p8]))
  have sHN := sHL.trans (s7.trans (s8.trans (sM.trans sN)))
  have S2 := S.keep sHN
  have t7 := s7.trans (s8.trans (sM.trans sN))
  have t8 := s8.trans (sM.trans sN)
  have k7 := (Kd.tup (a := p7) upd_same).same t8
  have k8 := (Kd.tup (a := p8) upd_same).same (sM.trans sN)
  have hK := kds_cons (.flat (v := .non) rfl) (kds_cons (.flat (v := .bl true) rfl) (kds_cons (.flat (v := .int 0) rfl) (kds_cons (.flat (v := .int (-1)) rfl) (kds_cons (.flat (v := .int 7) rfl) (kds_cons (.flat (v := .str "") rfl) (kds_cons (.flat (v := .str "A") rfl) (kds_cons (.flat (v := .str "abcdefghi") rfl) (kds_cons (.flat (v := .str "a b") rfl)
    (kds_cons (k1.same t7) (kds_cons (k2.same t7) (kds_cons (k3.same t7) (kds_cons (k4.same t7) (kds_cons (k5.same t7) (kds_cons (k6.same t7) (kds_cons k7 (kds_cons (.flat (v := .str "cell") rfl) (kds_cons k8 kds_nil)))))))))))))))))
  refine ⟨_, rfl, _, rfl, _, rfl, N, _, rfl, .inl (SqL.of upd_same), st, scr, 18, rfl, S2, by decide, by decide, fun r H2 r0 r1 kp S3 => ?_⟩
  obtain ⟨v, hv, hm⟩ := at_in (xs := [V.non, .bl true, .int 0, .int (-1), .int 7, .str "", .str "A", .str "abcdefghi", .str "a b", .ref p1, .ref p2, .ref p3, .ref p4, .ref p5, .ref p6] ++ [.ref p7, .str "cell", .ref p8]) r0 (by show r < 18; exact r1)
  obtain ⟨L0, hst⟩ := S.isL
  have nst : N ≠ st := fun z => by
    subst z
    have q1 := (sHL.trans (s7.trans (s8.trans sM))) _ _ hst
    rw [hN] at q1
    cases q1
  refine ⟨N, _, r, v, rfl, rfl, SqL.of (kp.one upd_same nst), hv, ?_⟩
  exact q v H2 (fun b o e n => kp b o (sHN b o e) n) S3 ((hK v hm).keep (sHN _ _ hst) kp S3.isL)
end
end CA
namespace CA
open PySem L2
def spWord : Sp := fun vs H Q _ => ∃ (st scr g : Addr) (a b : Str), vs = [.ref st, .ref g] ∧ StAt H st scr ∧ H g = some (.lst [.str a, .str b]) ∧ g ≠ st ∧ ∀ (v : V) (H' : Hp), Keep [st] H H' → StAt H' st scr → Kd H' v → Q v H'
/-- None or a text -/
def nonStr : V → Prop
  | .non => True
  | .str _ => True
  | _ => False
def spSame0 : Sp := fun vs H Q _ => ∃ (t d : V), vs = [t, d] ∧ nonStr t ∧ nonStr d ∧ Q (.bl (decide (t = d))) H
structure TxtU (K : PySem.W.Frag) (mg : Str → Option Value) (fo : Addr) : Prop where
  g__law_odd : mg "_law_odd" = some (.ref fo)
  k__law_odd : PySem.W.keepIn K (.ref fo) = true
  isinstance : mg "isinstance" = none
  tuple : mg "tuple" = none
  str : mg "str" = none
section
variable {P : Program} {w : World} {K : PySem.W.Frag} {mg : Str → Option Value} {base : Heap} {ft fo : Addr}
abbrev s__law_rule_word : Stmt := topS 14
theorem sc__law_rule_word : FnScope ["_law_state", "_law_good", "_law_kind"] ["_law_state", "_law_good"] (defScope s__law_rule_word) := ⟨rfl, rfl, rfl, by decide +kernel, rfl, by decide +kernel, by decide +kernel⟩
theorem ok__law_rule_word {f : Addr} {fd fdt fdo : FuncData} (F : Fun K "_law_rule_word" "_law_rule_word" s__law_rule_word f fd) (T : TxtT K mg ft) (TU : TxtU K mg fo) (G_law_take : FnOk P w K mg base CX0 2 ft fdt ["_law_state", "_law_size"] spTake) (b_law_take : Binds K fdt ["_law_state", "_law_size"] [])
    (G_law_odd : FnOk P w K mg base CX0 3 fo fdo ["_law_state"] spOdd) (b_law_odd : Binds K fdo ["_law_state"] []) : FnOk P w K mg base CX0 4 f fd ["_law_state", "_law_good"] spWord := by
  refine F.ok sc__law_rule_word (fun vs H Q E h => ?_) (fun cdv A outer s H vs Q E hr h => ?_)
  · obtain ⟨st, scr, g, a, b, rfl, _⟩ := h
    rfl
  obtain ⟨st, scr, g, a, b, rfl, S, hg, ne, q⟩ := h
  have hr2 : Room 2 _ := hr.mono (by decide)
  refine ⟨_, (pss_cons (ps_set (i := 2) sc__law_rule_word.nd rfl (Or.inl rfl) (pe_call G_law_take hr2 rfl T.g__law_take T.k__law_take b_law_take .nil pass0 (pa_cons (pv 0) (pa_cons pe_int pa_nil))))
  (pss_cons (ps_if (pt_cmpR op_lt (pv 2) pe_int (nomark _))
    (pss_one (ps_ret (pe_ix ix_list (pv 1) (pv 2) (fun _ _ => rfl))))
    pss_nil)
  (pss_cons (ps_if (pt_cmpR op_eq (pv 2) pe_int (nomark _))
    (pss_one (ps_ret (pe_ix ix_list (pe_lst (pa_cons pe_str (pa_cons pe_str (pa_cons pe_str (pa_cons pe_str (pa_cons pe_str (pa_cons pe_str (pa_cons pe_str (pa_cons pe_str pa_nil))))))))) (pe_call G_law_take hr2 rfl T.g__law_take T.k__law_take b_law_take .nil pass0 (pa_cons (pv 0) (pa_cons pe_int pa_nil))) (fun _ _ => rfl))))
    pss_nil)
  (pss_one (ps_ret (pe_call G_law_odd hr rfl TU.g__law_odd TU.k__law_odd b_law_odd .nil pass0 (pa_cons (pv 0) pa_nil))))))), ?_⟩
  refine ⟨_, rfl, st, scr, 4, rfl, S, by decide, by decide, fun r H1 r0 r1 k1 S1 => ?_⟩
  refine ⟨_, rfl, _, _, rfl, rfl, _, rfl, ite2 (fun c => ?_) (fun c => ?_)⟩
  · have c' : r < 2 := of_decide_eq_true c
    obtain ⟨v, hv, hm⟩ := at_in (xs := [V.str a, V.str b]) r0 (by show r < 2; exact c')
    refine ⟨_, rfl, _, rfl, g, _, r, v, rfl, rfl, SqL.of (k1.one hg ne), hv, ?_⟩
    refine q v H1 k1 S1 (.flat ?_)
    rcases List.mem_cons.mp hm with rfl | hm
    · rfl
    · rcases List.mem_cons.mp hm with rfl | hm
      · rfl
      · cases hm
  · refine ⟨_, rfl, rfl, _, rfl, ite2 (fun c2 => ?_) (fun c2 => ?_)⟩
    · refine ⟨(by decide : (8 : Nat) ≤ sizeLine), fun p hp => ?_⟩
      have sp := same_new hp (.lst [V.str "together", .str "each", .str "pass", .str "call", .str "Pass", .str "together ", .str "eac", .str "callx"])
      refine ⟨_, rfl, st, scr, 8, rfl, S1.keep sp, by decide, by decide, fun r2 H2 r20 r21 k2 S2 => ?_⟩
      obtain ⟨v, hv, hm⟩ := at_in (xs := [V.str "together", .str "each", .str "pass", .str "call", .str "Pass", .str "together ", .str "eac", .str "callx"]) r20 (by show r2 < 8; exact r21)
      obtain ⟨L, hL⟩ := S1.isL
      have npst : p ≠ st := fun z => by rw [z, hL] at hp; cases hp
      refine ⟨p, _, r2, v, rfl, rfl, SqL.of (k2.one upd_same npst), hv, ?_⟩
      refine q v H2 (k1.trans ((Keep.of sp).trans k2)) S2 (.flat ?_)
      have hf : ∀ u ∈ [V.str "together", .str "each", .str "pass", .str "call", .str "Pass", .str "together ", .str "eac", .str "callx"], flatV u = true := by
        intro u hu
        simp only [List.mem_cons, List.not_mem_nil, or_false] at hu
        rcases hu with rfl | rfl | rfl | rfl | rfl | rfl | rfl | rfl <;> rfl
      exact hf v hm
    · exact ⟨_, rfl, st, scr, rfl, S1, fun v H2 k2 S2 kv => q v H2 (k1.trans k2) S2 kv⟩
abbrev s__law_same : Stmt := topS 12
theorem sc__law_same : FnScope ["_law_told", "_law_due"] ["_law_told", "_law_due"] (defScope s__law_same) := ⟨rfl, rfl, rfl, by decide +kernel, rfl, by decide +kernel, by decide +kernel⟩
theorem ok__law_same0 {f : Addr} {fd : FuncData} (F : Fun K "_law_same" "_law_same" s__law_same f fd) (TU : TxtU K mg fo) : FnOk P w K mg base CX0 1 f fd ["_law_told", "_law_due"] spSame0 := by
  refine F.ok sc__law_same (fun vs H Q E h => ?_) (fun cdv A outer s H vs Q E hr h => ?_)
  · obtain ⟨t, d, rfl, _⟩ := h
    rfl
  obtain ⟨t, d, rfl, nt, nd, q⟩ := h
  refine ⟨_, (pss_cons (ps_if (pt_val (pe_callB call_isi (by rfl) TU.isinstance (by decide +kernel) (pa_cons (pv 1) (pa_cons (pe_bltn (v := .ty "tuple") (by rfl) TU.tuple (by decide +kernel) rfl) pa_nil)))) pss_never pss_nil)
  (pss_cons (ps_if (pt_cmpR op_isN (pv 1) pe_non (nomark _))
    (pss_one (ps_ret (pe_cmpR op_isN (pv 0) pe_non (nomark _))))
    pss_nil)
  (pss_cons (ps_if (pt_val (pe_callB call_isi (by rfl) TU.isinstance (by decide +kernel) (pa_cons (pv 1) (pa_cons (pe_bltn (v := .ty "str") (by rfl) TU.str (by decide +kernel) rfl) pa_nil))))
    (pss_one (ps_ret (pe_and (pe_callB call_isi (by rfl) TU.isinstance (by decide +kernel) (pa_cons (pv 0) (pa_cons (pe_bltn (v := .ty "str") (by rfl) TU.str (by decide +kernel) rfl) pa_nil))) (pe_one (pe_cmpR op_eq (pv 0) (pv 1) (nomark _))))))
    pss_nil)
  (pss_one ps_never)))), ?_⟩
  cases d with
  | non =>
    refine ⟨_, rfl, _, _, _, _, _, rfl, .ty _, .base .non, kit_ty (r := false) (by decide +kernel), _, rfl, iteF ?_⟩
    refine ⟨_, rfl, rfl, _, rfl, ite2 (fun _ => ?_) (fun c => absurd (decide_eq_true rfl) c)⟩
    exact ⟨_, rfl, rfl, q⟩
  | str z =>
    refine ⟨_, rfl, _, _, _, _, _, rfl, .ty _, .base (.str _), kit_ty (r := false) (by decide +kernel), _, rfl, iteF ?_⟩
    refine ⟨_, rfl, rfl, _, rfl, ite2 (fun c => absurd (of_decide_eq_true c) (fun z => by cases z)) (fun _ => ?_)⟩
    refine ⟨_, rfl, _, _, _, _, _, rfl, .ty _, .base (.str _), kit_ty (r := true) (by decide +kernel), _, rfl, iteT ?_⟩
    cases t with
    | non =>
      refine ⟨_, rfl, _, _, _, _, _, rfl, .ty _, .base .non, kit_ty (r := false) (by decide +kernel), _, rfl, iteF ?_⟩
      exact q
    | str y =>
      refine ⟨_, rfl, _, _, _, _, _, rfl, .ty _, .base (.str _), kit_ty (r := true) (by decide +kernel), _, rfl, iteT ?_⟩
      exact ⟨_, rfl, _, rfl, rfl, q⟩
    | _ => exact nt.elim
  | _ => exact nd.elim
end
end CA
namespace CA
open PySem L2
def spLaw (K : PySem.W.Frag) : Sp := fun vs H Q _ => ∃ (a : Addr) (ns : List Int), vs = [.ref a] ∧ SqL K H a (ns.map V.int) ∧ ns.length ≤ 63 ∧ ∀ H', Q (.bl true) H'
theorem RuleAt.keep {C : Addr} {H H' : Hp} {x st : Addr} {b s : V} {L : List V} (r : RuleAt C H x b s) (hst : H st = some (.lst L)) (k : Keep [st] H H') : RuleAt C H' x b s := by
  obtain ⟨dx, h⟩ := r
  exact ⟨dx, k.one h (ne_of h hst (by intro z; cases z))⟩
theorem RulesAt.keep {C : Addr} {H H' : Hp} {st : Addr} {L : List V} (hst : H st = some (.lst L)) (k : Keep [st] H H') : ∀ {rs : List V} {ps : List (Str × Str)}, RulesAt C H rs ps → RulesAt C H' rs ps
  | _, _, .nil => .nil
  | _, _, .cons ⟨x, e, r⟩ t => .cons ⟨x, e, r.keep hst k⟩ (RulesAt.keep hst k t)
theorem RulesAt.get {C : Addr} {H : Hp} : ∀ {rs : List V} {ps : List (Str × Str)} {i : Nat} {v : V}, RulesAt C H rs ps → rs[i]? = some v → ∃ (x : Addr) (b s : Str), v = .ref x ∧ RuleAt C H x (.str b) (.str s)
  | _, _, _, _, .nil, h => by simp at h
  | _, _, 0, _, .cons ⟨x, e, r⟩ t, h => by simp at h; subst h; exact ⟨x, _, _, e, r⟩
  | _, _, i + 1, v, .cons _ t, h => RulesAt.get (i := i) t (by simpa using h)
theorem StAt.updN {H : Hp} {st scr R : Addr} {L : List V} (S : StAt H st scr) (ne : R ≠ st) (nc : R ≠ scr) : StAt (upd H R (.lst L)) st scr := by
  obtain ⟨ns, i, d, seed, c, h1, h2, r⟩ := S.ex
  exact ⟨ns, i, d, seed, c, by rw [upd_ne (Ne.symm ne)]; exact h1, by rw [upd_ne (Ne.symm nc)]; exact h2, r⟩
theorem StAt.scr {H : Hp} {st scr : Addr} (S : StAt H st scr) : ∃ L, H scr = some (.lst L) := by
  obtain ⟨ns, i, d, seed, c, h1, h2, _⟩ := S.ex
  exact ⟨_, h2⟩
theorem same_ins {H : Hp} {x dx C : Addr} {fs : List (Str × V)} (nx : H x = none) (nd : H dx = none) : Same H (upd (upd H dx (.own x)) x (.ins C dx fs)) := fun b o e => by rw [upd_ne (ne_of_none e nx), upd_ne (ne_of_none e nd)]; exact e
/-- what stands between two turns -/
structure Bd (C : Addr) (H : Hp) (st scr R : Addr) (rs : List V) (ps : List (Str × Str)) : Prop where
  S : StAt H st scr
  r : H R = some (.lst rs)
  rr : RulesAt C H rs ps
  ne : R ≠ st
  nc : R ≠ scr
theorem Bd.same {C : Addr} {H H' : Hp} {st scr R : Addr} {rs : List V} {ps : List (Str × Str)} (b : Bd C H st scr R rs ps) (k : Same H H') : Bd C H' st scr R rs ps := ⟨b.S.keep k, k _ _ b.r, b.rr.same k, b.ne, b.nc⟩
theorem Bd.keep {C : Addr} {H H' : Hp} {st scr R : Addr} {rs : List V} {ps : List (Str × Str)} (b : Bd C H st scr R rs ps) (k : Keep [st] H H') (S' : StAt H' st scr) : Bd C H' st scr R rs ps := by
  obtain ⟨L, hL⟩ := b.S.isL
  exact ⟨S', k.one b.r b.ne, b.rr.keep hL k, b.ne, b.nc⟩
theorem memT_str {v : V} {ss : List Str} (h : memT v ss = true) : ∃ z, v = .str z := by
  obtain ⟨z, _, e⟩ := List.any_eq_true.mp h
  exact ⟨z, (of_decide_eq_true e).symm⟩
theorem spRuleI_bad {C CE : Addr} {H : Hp} {Q : VK} {E : XK} {x dx : Addr} {b s : V} {z : Str} (hx : H x = some (.ins C dx [])) (kb : Kd H b) (kz : Kd H s) (hz : (memT b txB = false ∧ z = "batch") ∨ (memT b txB = true ∧ memT s txS = false ∧ z = "same"))
    (k : ∀ d H', H d = none → H' = upd H d (.xd [("part", .str z)]) → E (.ref CE) (some d) H') : spRuleI C CE [.ref x, b, s] H Q E := by
  refine ⟨x, dx, b, s, rfl, hx, kb, kz, ?_⟩
  rcases hz with ⟨h1, rfl⟩ | ⟨h1, h2, rfl⟩
  · rw [if_pos h1]; exact k
  · rw [if_neg (by rw [h1]; decide), if_pos h2]; exact k
theorem spRuleI_ok {C CE : Addr} {H : Hp} {Q : VK} {E : XK} {x dx : Addr} {b s : V} (hx : H x = some (.ins C dx [])) (kb : Kd H b) (kz : Kd H s) (h1 : memT b txB = true) (h2 : memT s txS = true) (k : Q .non (upd H x (.ins C dx (rfs b s)))) : spRuleI C CE [.ref x, b, s] H Q E := by
  refine ⟨x, dx, b, s, rfl, hx, kb, kz, ?_⟩
  rw [if_neg (by rw [h1]; decide), if_neg (by rw [h2]; decide)]
  exact k
structure TxtL (K : PySem.W.Frag) (mg : Str → Option Value) (fs fw fm fl : Addr) : Prop where
  g__law_start : mg "_law_start" = some (.ref fs)
  k__law_start : PySem.W.keepIn K (.ref fs) = true
  g__law_rule_word : mg "_law_rule_word" = some (.ref fw)
  k__law_rule_word : PySem.W.keepIn K (.ref fw) = true
  g__law_same : mg "_law_same" = some (.ref fm)
  k__law_same : PySem.W.keepIn K (.ref fm) = true
  g_all_rules : mg "all_rules" = some (.ref fl)
  k_all_rules : PySem.W.keepIn K (.ref fl) = true
  range : mg "range" = none
  isinstance : mg "isinstance" = none
  list : mg "list" = none
  len : mg "len" = none
  bool : mg "bool" = none
/-- pairs of texts stand at ts -/
def PairsAt (H : Hp) (ts : List V) (ps : List (Str × Str)) : Prop := Paired (fun (v : V) (p : Str × Str) => ∃ t, v = .ref t ∧ H t = some (.tup [.str p.1, .str p.2])) ts ps
theorem PairsAt.same {H H' : Hp} (k : Same H H') : ∀ {rs : List V} {ps : List (Str × Str)}, PairsAt H rs ps → PairsAt H' rs ps
  | _, _, .nil => .nil
  | _, _, .cons ⟨x, e, r⟩ t => .cons ⟨x, e, k _ _ r⟩ (PairsAt.same k t)
theorem PairsAt.updL {H : Hp} {D : Addr} {ls : List V} {o : HO} (hD : H D = some (.lst ls)) : ∀ {rs : List V} {ps : List (Str × Str)}, PairsAt H rs ps → PairsAt (upd H D o) rs ps
  | _, _, .nil => .nil
  | _, _, .cons ⟨x, e, r⟩ t => .cons ⟨x, e, by rw [upd_ne (ne_of r hD (by intro z; cases z))]; exact r⟩ (PairsAt.updL hD t)
theorem PairsAt.snoc {H : Hp} {x : Addr} {p : Str × Str} (h : H x = some (.tup [.str p.1, .str p.2])) : ∀ {rs : List V} {ps : List (Str × Str)}, PairsAt H rs ps → PairsAt H (rs ++ [.ref x]) (ps ++ [p])
  | _, _, .nil => .cons ⟨x, rfl, h⟩ .nil
  | _, _, .cons r t => .cons r (PairsAt.snoc h t)
theorem PairsAt.len {H : Hp} : ∀ {rs : List V} {ps : List (Str × Str)}, PairsAt H rs ps → rs.length = ps.length
  | _, _, .nil => rfl
  | _, _, .cons _ t => by rw [List.length_cons, List.length_cons, PairsAt.len t]
def pdOf (ps : List (Str × Str)) : List PyData := ps.map fun p => .tuple [.str p.1, .str p.2]
theorem PairsAt.dp {K : PySem.W.Frag} {H : Hp} : ∀ {rs : List V} {ps : List (Str × Str)}, PairsAt H rs ps → DpAll K H rs (pdOf ps)
  | _, _, .nil => .nil
  | _, _, .cons ⟨x, e, r⟩ t => by subst e; exact .cons (.tup (SqT.of r) (.cons (.str _) (.cons (.str _) .nil))) (PairsAt.dp t)
theorem RulesAt.at {C : Addr} {H : Hp} : ∀ {rs : List V} {ps : List (Str × Str)} {i : Nat} {v : V}, RulesAt C H rs ps → rs[i]? = some v → ∃ (x : Addr) (p : Str × Str), ps[i]? = some p ∧ v = .ref x ∧ RuleAt C H x (.str p.1) (.str p.2)
  | _, _, _, _, .nil, h => by simp at h
  | _, p :: _, 0, _, .cons ⟨x, e, r⟩ t, h => by simp at h; subst h; exact ⟨x, p, rfl, e, r⟩
  | _, _, i + 1, v, .cons _ t, h => by simpa using RulesAt.at (i := i) t (by simpa using h)
theorem take_snoc {α : Type} {l : List α} {i : Nat} {x : α} (h : l[i]? = some x) : l.take (i + 1) = l.take i ++ [x] := by
  rw [List.take_add_one, h]; rfl
/-- the suite's reading -/
def t_suite (K : PySem.W.Frag) (CE CC : Addr) (a : Addr) (cls : Value) (d : Option Addr) : TS :=
  tSeq (tIfS (tNot (tB (tCB (rIsX K CE a cls d) (tCons (tVar 9) (tCons (tC (.ref CC)) tNil))))) (tRet (tC (.bl false))) tNext) (tAsg (tXf a cls d CE "part" (tVar 9)) (gName 7))
section
variable {P : Program} {w : World} {K : PySem.W.Frag} {mg : Str → Option Value} {base : Heap} {C CE CC fI fR fQ aB aS fs fw fm fl : Addr}
abbrev s_law : Stmt := topS 15
theorem sc_law : FnScope ["_law_script", "_law_state", "_law_rules", "_law_turn", "_law_batch", "_law_same_here", "_law_due", "_law_found", "_law_rule", "e", "_law_told", "_law_pairs", "_law_one", "_law_two"] ["_law_script"] (defScope s_law) := ⟨rfl, rfl, rfl, by decide +kernel, rfl, by decide +kernel, by decide +kernel⟩
theorem ok_law {f : Addr} {fd fdR fdQ fds fdw fdm fdl : FuncData} (F : Fun K "law" "law" s_law f fd) (T : TxtR K mg C CE CC fI fR fQ aB aS) (TQ : TxtQ K mg C fQ) (TL : TxtL K mg fs fw fm fl)
    (GR : FnOk P w K mg base (L2.CX P w) 3 fR fdR ["self", "batch", "same"] (spRuleI C CE)) (bR : Binds K fdR ["self", "batch", "same"] [])
    (GQ : FnOk P w K mg base CX0 1 fQ fdQ ["self", "other"] (spRuleEq C)) (bQ : Binds K fdQ ["self", "other"] [])
    (Gs : FnOk P w K mg base CX0 1 fs fds ["_law_script"] (spStart K)) (bs : Binds K fds ["_law_script"] [])
    (Gw : FnOk P w K mg base CX0 4 fw fdw ["_law_state", "_law_good"] spWord) (bw : Binds K fdw ["_law_state", "_law_good"] [])
    (Gm : FnOk P w K mg base CX0 1 fm fdm ["_law_told", "_law_due"] spSame0) (bm : Binds K fdm ["_law_told", "_law_due"] [])
    (Gl : FnOk P w K mg base CX0 5 fl fdl [] (spAll C)) (bl : Binds K fdl [] []) : FnOk P w K mg base CX0 6 f fd ["_law_script"] (spLaw K) := by
  refine F.ok sc_law (fun vs H Q E h => ?_) (fun cdv A outer s H vs Q E hr h => ?_)
  · obtain ⟨a, ns, rfl, _⟩ := h
    rfl
  obtain ⟨a, ns, rfl, hS, h63, q⟩ := h
  have hu := hu_of hr
  have hr1 : Room 1 _ := hr.mono (by decide)
  have hr4 : Room 4 _ := hr.mono (by decide)
  have hrM : Room (3 + 1) _ := hr.mono (by decide)
  refine ⟨_, (pss_cons (ps_set (i := 1) sc_law.nd rfl (Or.inl rfl) (pe_call Gs hr1 rfl TL.g__law_start TL.k__law_start bs .nil pass0 (pa_cons (pv 0) pa_nil)))
  (pss_cons (ps_set (i := 2) sc_law.nd rfl (Or.inl rfl) (pe_lst pa_nil))
  (pss_cons (ps_for PassesOwn.never rfl (pi_range1 rfl TL.range (pa_cons pe_int pa_nil)) (pg_name (i := 3) sc_law.nd rfl (Or.inl rfl))
    (pss_cons (ps_set (i := 4) sc_law.nd rfl (Or.inl rfl) (pe_call Gw hr4 rfl TL.g__law_rule_word TL.k__law_rule_word bw .nil pass0 (pa_cons (pv 1) (pa_cons (pe_lst (pa_cons pe_str (pa_cons pe_str pa_nil))) pa_nil))))
      (pss_cons (ps_set (i := 5) sc_law.nd rfl (Or.inl rfl) (pe_call Gw hr4 rfl TL.g__law_rule_word TL.k__law_rule_word bw .nil pass0 (pa_cons (pv 1) (pa_cons (pe_lst (pa_cons pe_str (pa_cons pe_str pa_nil))) pa_nil))))
      (pss_cons (ps_set (i := 6) sc_law.nd rfl (Or.inl rfl) pe_non)
      (pss_cons (ps_if (pt_cmpR (op_notInT hu) (pv 5) (pe_tup (pa_cons pe_str (pa_cons pe_str pa_nil))) (by rfl))
        (pss_one (ps_set (i := 6) sc_law.nd rfl (Or.inl rfl) pe_str))
        pss_nil)
      (pss_cons (ps_if (pt_cmpR (op_notInT hu) (pv 4) (pe_tup (pa_cons pe_str (pa_cons pe_str pa_nil))) (by rfl))
        (pss_one (ps_set (i := 6) sc_law.nd rfl (Or.inl rfl) pe_str))
        pss_nil)
      (pss_cons (ps_set (i := 7) sc_law.nd rfl (Or.inl rfl) pe_non)
      (pss_cons (ps_try_as (i := 9) (tb := fun W => tAsg (tMakeS C (spRuleI C CE) (WE W) (tCons (tVar 4) (tCons (tVar 5) tNil))) (gName 8)) (ts := t_suite K CE CC) (Wout := fun _ _ _ _ => False) rfl rfl sc_law.nd rfl rfl ⟨rfl, by decide, Or.inl T.gE⟩ takes0
          (fun W pn xe tk _ => pss_one (ps_set (i := 8) sc_law.nd rfl (Or.inl rfl) (by exact (pe_makeS T.mkR GR hrM rfl T.gR bR (fun σ => passAt tk σ) (by exact (pa_cons (pv 4) (pa_cons (pv 5) pa_nil)))))))
          (fun a oe cls d pn hz hf => pss_cons (ps_if (pt_not (pt_val (by exact pe_callB (call_isX T.xd hz hf) (by rfl) TL.isinstance (by decide +kernel) (pa_cons (pv 9) (pa_cons (pe_gr T.gC) pa_nil))))) (pss_one (ps_ret pe_bl)) pss_nil)
            (pss_one (ps_set (i := 7) sc_law.nd rfl (Or.inl rfl) (by exact pe_xf T.xf T.noP hz hf (pv 9))))))
      (pss_cons (ps_if (pt_not (pt_val (pe_call Gm hr1 rfl TL.g__law_same TL.k__law_same bm .nil pass0 (pa_cons (pv 7) (pa_cons (pv 6) pa_nil)))))
        (pss_one (ps_ret pe_bl))
        pss_nil)
      (pss_one (ps_if (pt_cmpR op_isN (pv 6) pe_non (nomark _))
        (pss_cons (ps_if (PW.pt (pw_or (pt_not (pt_val (pe_call Gm hr1 rfl TL.g__law_same TL.k__law_same bm .nil pass0 (pa_cons (pe_fld (pv 8) rfl) (pa_cons (pv 4) pa_nil))))) (pw_or1 (pt_not (pt_val (pe_call Gm hr1 rfl TL.g__law_same TL.k__law_same bm .nil pass0 (pa_cons (pe_fld (pv 8) rfl) (pa_cons (pv 5) pa_nil))))))))
            (pss_one (ps_ret pe_bl))
            pss_nil)
          (pss_one (ps_expr (pe_bm PySem.F.plainAttrs_list PySem.F.slot_list_append PySem.F.type_list_append mt_append (pv 2) (pa_cons (pv 8) pa_nil)))))
        pss_nil)))))))))))
  (pss_cons (ps_set (i := 10) sc_law.nd rfl (Or.inl rfl) (pe_call0 Gl hr rfl TL.g_all_rules TL.k_all_rules bl .nil pass0))
  (pss_cons (ps_if (PW.pt (pw_or (pt_not (pt_val (pe_callB call_isi (by rfl) TL.isinstance (by decide +kernel) (pa_cons (pv 10) (pa_cons (pe_bltn (v := .ty "list") (by rfl) TL.list (by decide +kernel) rfl) pa_nil))))) (pw_or1 (pt_cmpR op_ne (pe_callB call_len_seq (by rfl) TL.len PySem.boot_len (pa_cons (pv 10) pa_nil)) pe_int (nomark _)))))
    (pss_one (ps_ret pe_bl))
    pss_nil)
  (pss_cons (ps_set (i := 11) sc_law.nd rfl (Or.inl rfl) (pe_lst (pa_cons (pe_tup (pa_cons pe_str (pa_cons pe_str pa_nil))) (pa_cons (pe_tup (pa_cons pe_str (pa_cons pe_str pa_nil))) (pa_cons (pe_tup (pa_cons pe_str (pa_cons pe_str pa_nil))) (pa_cons (pe_tup (pa_cons pe_str (pa_cons pe_str pa_nil))) pa_nil))))))
  (pss_cons (ps_if (pt_cmpR (op_neD hr.units) (pe_lc (own := [("_law_rule", 8)]) (g := gName 8) (tt := tYes) (te := tTup (tCons (tFld K (tVar 8) "batch") (tCons (tFld K (tVar 8) "same") tNil))) rfl sc_law.nd (pi_list (pv 10)) (blkOk_by (own := [("_law_rule", 8)]) (N := ["_law_script", "_law_state", "_law_rules", "_law_turn", "_law_batch", "_law_same_here", "_law_due", "_law_found", "_law_rule", "e", "_law_told", "_law_pairs", "_law_one", "_law_two"]) (sc := defScope s_law) (by decide +kernel))
      (fun _ _ _ _ _ => pg_name (i := 8) sc_law.nd rfl (Or.inl rfl)) (fun _ _ _ _ _ => pts_nil) (fun _ _ _ _ _ => by exact pe_tup (pa_cons (pe_fld (pv 8) rfl) (pa_cons (pe_fld (pv 8) rfl) pa_nil)))) (pv 11) (nomark _))
    (pss_one (ps_ret pe_bl))
    pss_nil)
  (pss_cons (ps_expr (pe_bm PySem.F.plainAttrs_list PySem.F.slot_list_append PySem.F.type_list_append mt_append (pv 10) (pa_cons (pe_ix ix_list (pv 10) pe_int (fun _ _ => rfl)) pa_nil)))
  (pss_cons (ps_set (i := 2) sc_law.nd rfl (Or.inl rfl) (pe_op op_cat (pv 2) (pe_call0 Gl hr rfl TL.g_all_rules TL.k_all_rules bl .nil pass0)))
  (pss_cons (ps_for PassesOwn.never rfl (pi_list (pv 2)) (pg_name (i := 12) sc_law.nd rfl (Or.inl rfl))
    (pss_one (ps_for PassesOwn.never rfl (pi_list (pv 2)) (pg_name (i := 13) sc_law.nd rfl (Or.inl rfl))
        (pss_one (ps_if (pt_cmpR op_ne (pe_callTy call_bool1 (by rfl) TL.bool (by decide +kernel) (pa_cons (pe_cmpR (op_eqOwn (C := C) GQ TQ.eqC TQ.eqF bQ pass0 hr1) (pv 12) (pv 13) (nomark _)) pa_nil)) (pe_and (pe_cmpR op_eq (pe_fld (pv 12) rfl) (pe_fld (pv 13) rfl) (nomark _)) (pe_one (pe_cmpR op_eq (pe_fld (pv 12) rfl) (pe_fld (pv 13) rfl) (nomark _)))) (nomark _))
            (pss_one (ps_ret pe_bl))
            pss_nil)))))
  (pss_one (ps_ret (pe_cmpR op_eq (pe_callB call_len_seq (by rfl) TL.len PySem.boot_len (pa_cons (pe_call0 Gl hr rfl TL.g_all_rules TL.k_all_rules bl .nil pass0) pa_nil)) pe_int (nomark _)))))))))))))), ?_⟩
  refine ⟨_, rfl, a, ns, rfl, hS, h63, fun st scr H1 hst s1 S1 => ?_⟩
  refine ⟨(by decide : (0 : Nat) ≤ sizeLine), fun R hR => ?_⟩
  have sR := same_new hR (.lst [])
  have neR : R ≠ st := fun z => by
    obtain ⟨L, hL⟩ := S1.isL
    rw [z, hL] at hR
    cases hR
  have ncR : R ≠ scr := fun z => by
    obtain ⟨L, hL⟩ := S1.scr
    rw [z, hL] at hR
    cases hR
  have B0 : Bd C (upd H1 R (.lst [])) st scr R [] [] := ⟨S1.keep sR, upd_same, .nil, neR, ncR⟩
  refine ⟨6, rfl, by decide, by decide, for_range (n := 6) (fun i σ H2 => ∃ (v3 v4 v5 v6 v7 v8 : Option V) (rs : List V) (ps : List (Str × Str)), σ = [some (.ref a), some (.ref st), some (.ref R), v3, v4, v5, v6, v7, v8, none, none, none, none, none] ∧ Bd C H2 st scr R rs ps ∧ ps.length ≤ i)
    ⟨none, none, none, none, none, none, [], [], rfl, B0, Nat.le_refl _⟩ ?_ ?_⟩
  · rintro i σ H2 hi ⟨v3, v4, v5, v6, v7, v8, rs, ps, rfl, B, hps⟩
    refine ⟨_, rfl, (by decide : (2 : Nat) ≤ sizeLine), fun g1 hg1 => ?_⟩
    have B1 := B.same (same_new hg1 (.lst [.str "together", .str "each"]))
    have ng1 : g1 ≠ st := fun z => by
      obtain ⟨L, hL⟩ := B.S.isL
      rw [z, hL] at hg1
      cases hg1
    refine ⟨st, scr, g1, "together", "each", rfl, B1.S, upd_same, ng1, fun vb H3 k3 S3 kb => ?_⟩
    have B3 := B1.keep k3 S3
    refine ⟨_, rfl, (by decide : (2 : Nat) ≤ sizeLine), fun g2 hg2 => ?_⟩
    have sg2 := same_new hg2 (.lst [.str "pass", .str "call"])
    have B4 := B3.same sg2
    have ng2 : g2 ≠ st := fun z => by
      obtain ⟨L, hL⟩ := B3.S.isL
      rw [z, hL] at hg2
      cases hg2
    refine ⟨st, scr, g2, "pass", "call", rfl, B4.S, upd_same, ng2, fun vs H5 k5 S5 kz => ?_⟩
    obtain ⟨L3, hL3⟩ := B3.S.isL
    have kb5 := (kb.same sg2).keep (sg2 _ _ hL3) k5 S5.isL
    have B5 := B4.keep k5 S5
    refine ⟨_, rfl, (by decide : (2 : Nat) ≤ sizeLine), fun t1 ht1 => ⟨t1, txS, rfl, .inr (SqT.of upd_same), kz.same (same_new ht1 _), _, rfl, ?_⟩⟩
    have B6 := B5.same (same_new ht1 (.tup (txS.map V.str)))
    have kb6 := kb5.same (same_new ht1 (.tup (txS.map V.str)))
    have kz6 := kz.same (same_new ht1 (.tup (txS.map V.str)))
    cases ez : memT vs txS with
    | false =>
      refine iteT ?_
      refine ⟨_, rfl, (by decide : (2 : Nat) ≤ sizeLine), fun t2 ht2 => ⟨t2, txB, rfl, .inr (SqT.of upd_same), kb6.same (same_new ht2 _), _, rfl, ?_⟩⟩
      have B7 := B6.same (same_new ht2 (.tup (txB.map V.str)))
      have kb7 := kb6.same (same_new ht2 (.tup (txB.map V.str)))
      have kz7 := kz6.same (same_new ht2 (.tup (txB.map V.str)))
      cases eb : memT vb txB with
      | false =>
        refine iteT ?_
        refine ⟨_, rfl, _, rfl, fun x dx nx ndx ne => ?_⟩
        have s3 : Same _ (upd (upd _ dx (.own x)) x (.ins C dx [])) := same_ins nx ndx
        refine spRuleI_bad upd_same (kb7.same s3) (kz7.same s3) (.inl ⟨eb, rfl⟩) (fun d H' hd eH => ?_)
        subst eH
        have B8 := (B7.same s3).same (same_new hd (.xd [("part", .str "batch")]))
        refine ⟨true, T.te, fun _ ea hea => ?_, fun q => nomatch q⟩
        refine ⟨_, rfl, .ref CC, .ref CC, true, d, _, rfl, rfl, rfl, upd_same, (fun _ h => h), T.isC, true, rfl, ?_⟩
        refine iteF ?_
        refine ⟨_, rfl, rfl, rfl, d, _, .str "batch", rfl, upd_same, (by simp [List.lookup]), ?_⟩
        refine ⟨_, rfl, _, rfl, .str "batch", .str "batch", rfl, trivial, trivial, _, rfl, iteNS rfl ?_⟩
        refine ⟨_, rfl, rfl, _, rfl, ite2 (fun c => absurd (of_decide_eq_true c) (fun z => by cases z)) (fun _ => ?_)⟩
        exact ⟨_, _, _, _, _, _, rs, ps, rfl, B8, by omega⟩
      | true =>
        refine iteF ?_
        refine ⟨_, rfl, _, rfl, fun x dx nx ndx ne => ?_⟩
        have s3 : Same _ (upd (upd _ dx (.own x)) x (.ins C dx [])) := same_ins nx ndx
        refine spRuleI_bad upd_same (kb7.same s3) (kz7.same s3) (.inr ⟨eb, ez, rfl⟩) (fun d H' hd eH => ?_)
        subst eH
        have B8 := (B7.same s3).same (same_new hd (.xd [("part", .str "same")]))
        refine ⟨true, T.te, fun _ ea hea => ?_, fun q => nomatch q⟩
        refine ⟨_, rfl, .ref CC, .ref CC, true, d, _, rfl, rfl, rfl, upd_same, (fun _ h => h), T.isC, true, rfl, ?_⟩
        refine iteF ?_
        refine ⟨_, rfl, rfl, rfl, d, _, .str "same", rfl, upd_same, (by simp [List.lookup]), ?_⟩
        refine ⟨_, rfl, _, rfl, .str "same", .str "same", rfl, trivial, trivial, _, rfl, iteNS rfl ?_⟩
        refine ⟨_, rfl, rfl, _, rfl, ite2 (fun c => absurd (of_decide_eq_true c) (fun z => by cases z)) (fun _ => ?_)⟩
        exact ⟨_, _, _, _, _, _, rs, ps, rfl, B8, by omega⟩
    | true =>
      refine iteF ?_
      refine ⟨_, rfl, (by decide : (2 : Nat) ≤ sizeLine), fun t2 ht2 => ⟨t2, txB, rfl, .inr (SqT.of upd_same), kb6.same (same_new ht2 _), _, rfl, ?_⟩⟩
      have B7 := B6.same (same_new ht2 (.tup (txB.map V.str)))
      have kb7 := kb6.same (same_new ht2 (.tup (txB.map V.str)))
      have kz7 := kz6.same (same_new ht2 (.tup (txB.map V.str)))
      cases eb : memT vb txB with
      | false =>
        refine iteT ?_
        refine ⟨_, rfl, _, rfl, fun x dx nx ndx ne => ?_⟩
        have s3 : Same _ (upd (upd _ dx (.own x)) x (.ins C dx [])) := same_ins nx ndx
        refine spRuleI_bad upd_same (kb7.same s3) (kz7.same s3) (.inl ⟨eb, rfl⟩) (fun d H' hd eH => ?_)
        subst eH
        have B8 := (B7.same s3).same (same_new hd (.xd [("part", .str "batch")]))
        refine ⟨true, T.te, fun _ ea hea => ?_, fun q => nomatch q⟩
        refine ⟨_, rfl, .ref CC, .ref CC, true, d, _, rfl, rfl, rfl, upd_same, (fun _ h => h), T.isC, true, rfl, ?_⟩
        refine iteF ?_
        refine ⟨_, rfl, rfl, rfl, d, _, .str "batch", rfl, upd_same, (by simp [List.lookup]), ?_⟩
        refine ⟨_, rfl, _, rfl, .str "batch", .str "batch", rfl, trivial, trivial, _, rfl, iteNS rfl ?_⟩
        refine ⟨_, rfl, rfl, _, rfl, ite2 (fun c => absurd (of_decide_eq_true c) (fun z => by cases z)) (fun _ => ?_)⟩
        exact ⟨_, _, _, _, _, _, rs, ps, rfl, B8, by omega⟩
      | true =>
        refine iteF ?_
        refine ⟨_, rfl, _, rfl, fun x dx nx ndx ne => ?_⟩
        have s3 : Same _ (upd (upd _ dx (.own x)) x (.ins C dx [])) := same_ins nx ndx
        refine spRuleI_ok upd_same (kb7.same s3) (kz7.same s3) eb ez ⟨rfl, ?_⟩
        obtain ⟨zb, rfl⟩ := memT_str eb
        obtain ⟨zs, rfl⟩ := memT_str ez
        rw [upd_upd]
        have s4 : Same _ (upd (upd _ dx (.own x)) x (.ins C dx (rfs (.str zb) (.str zs)))) := same_ins nx ndx
        have B8 := B7.same s4
        refine ⟨_, rfl, _, rfl, .non, .non, rfl, trivial, trivial, _, rfl, iteNS rfl ?_⟩
        refine ⟨_, rfl, rfl, _, rfl, ite2 (fun _ => ?_) (fun c => absurd (decide_eq_true rfl) c)⟩
        refine ⟨_, rfl, x, C, dx, _, _, rfl, upd_same, T.cl, T.nB, rfs_b _ _, _, rfl, .str zb, .str zb, rfl, trivial, trivial, _, rfl, ?_⟩
        refine iteNS rfl ?_
        refine ⟨_, rfl, x, C, dx, _, _, rfl, upd_same, T.cl, T.nS, rfs_s _ _, _, rfl, .str zs, .str zs, rfl, trivial, trivial, _, rfl, iteNS rfl ?_⟩
        refine ⟨_, rfl, .inl ⟨rfl, _, SqL.of B8.r⟩, _, rfl, R, rs, _, rfl, rfl, B8.r, small1000 (by rw [B8.rr.len]; omega), ?_⟩
        refine ⟨_, _, _, _, _, _, rs ++ [.ref x], ps ++ [(zb, zs)], rfl, ⟨?_, upd_same, RulesAt.updL B8.r (RulesAt.snoc (p := (zb, zs)) ⟨dx, upd_same⟩ B8.rr), B8.ne, B8.nc⟩, by rw [List.length_append]; exact Nat.succ_le_succ hps⟩
        exact B8.S.updN B8.ne B8.nc
  · rintro σ H2 ⟨v3, v4, v5, v6, v7, v8, rs, ps, rfl, B, hps⟩
    refine ⟨rfl, fun D rs4 H3 hD s3 hl3 hR3 => ?_⟩
    have B3 := B.same s3
    refine ⟨_, rfl, _, _, _, _, _, rfl, .ty _, .base (.lst hl3), kit_ty (r := true) (by decide +kernel), _, rfl, iteF ?_⟩
    have e4 : rs4.length = 4 := hR3.len
    refine ⟨_, rfl, D, rs4, rfl, .inl (SqL.of hl3), rfl, _, rfl, ?_⟩
    refine iteNS (by rw [e4]; rfl) ?_
    have z2 : (2 : Nat) ≤ sizeLine := by decide
    refine ⟨z2, fun q1 hq1 => ⟨z2, fun q2 hq2 => ⟨z2, fun q3 hq3 => ⟨z2, fun q4 hq4 => ⟨(by decide : (4 : Nat) ≤ sizeLine), fun M hM => ?_⟩⟩⟩⟩⟩
    have u1 := same_new hq1 (.tup [.str "together", .str "pass"])
    have u2 := same_new hq2 (.tup [.str "together", .str "call"])
    have u3 := same_new hq3 (.tup [.str "each", .str "pass"])
    have u4 := same_new hq4 (.tup [.str "each", .str "call"])
    have uM := same_new hM (.lst [.ref q1, .ref q2, .ref q3, .ref q4])
    have sM := u1.trans (u2.trans (u3.trans (u4.trans uM)))
    have PM : PairsAt _ [.ref q1, .ref q2, .ref q3, .ref q4] fourR := .cons ⟨q1, rfl, (u2.trans (u3.trans (u4.trans uM))) _ _ upd_same⟩ (.cons ⟨q2, rfl, (u3.trans (u4.trans uM)) _ _ upd_same⟩ (.cons ⟨q3, rfl, (u4.trans uM) _ _ upd_same⟩ (.cons ⟨q4, rfl, uM _ _ upd_same⟩ .nil)))
    have BM := B3.same sM
    have lM := sM _ _ hl3
    have rM := hR3.same sM
    have eM := upd_same (H := (upd (upd (upd (upd H3 q1 (.tup [.str "together", .str "pass"])) q2 (.tup [.str "together", .str "call"])) q3 (.tup [.str "each", .str "pass"])) q4 (.tup [.str "each", .str "call"]))) (a := M) (o := .lst [.ref q1, .ref q2, .ref q3, .ref q4])
    generalize hHM : (upd (upd (upd (upd (upd H3 q1 (.tup [.str "together", .str "pass"])) q2 (.tup [.str "together", .str "call"])) q3 (.tup [.str "each", .str "pass"])) q4 (.tup [.str "each", .str "call"])) M (.lst [.ref q1, .ref q2, .ref q3, .ref q4])) = HM at sM PM BM lM rM eM
    refine ⟨_, rfl, D, rfl, ⟨_, SqL.of lM⟩, fun W hW => ?_⟩

    refine lc_list (K := K) (a := D) (xs := rs4) (fun i H' => ∃ ts, Same HM H' ∧ H' W = some (.lst ts) ∧ PairsAt H' ts (fourR.take i)) ⟨[], same_new hW _, upd_same, .nil⟩ (fun _ _ _ ⟨_, sm, _⟩ => SqL.of (sm _ _ lM)) ?_ ?_
    · rintro i v H4 hv ⟨ts, sm, hts, hP⟩
      obtain ⟨x, p, hp, rfl, ⟨dx, hx⟩⟩ := (rM.same sm).at hv
      refine ⟨rfl, ?_⟩
      unfold tYes
      refine iteT ?_
      refine ⟨_, rfl, x, C, dx, _, _, rfl, hx, T.cl, T.nB, rfs_b _ _, _, rfl, x, C, dx, _, _, rfl, hx, T.cl, T.nS, rfs_s _ _, z2, fun t ht => ?_⟩
      have st := same_new ht (.tup [.str p.1, .str p.2])
      refine ⟨ts, st _ _ hts, small1000 (by rw [hP.len, List.length_take]; show min i 4 ≤ 1000; omega), ts ++ [.ref t], fun b o e => ?_, upd_same, ?_⟩
      · rw [upd_ne (ne_of_none e hW)]; exact st _ _ (sm _ _ e)
      · rw [take_snoc hp]
        exact PairsAt.updL (st _ _ hts) (PairsAt.snoc upd_same (hP.same st))
    rintro H4 ⟨ts, sm, hts, hP⟩
    have hP' : PairsAt H4 ts fourR := by rw [e4] at hP; exact hP
    refine ⟨_, rfl, .list (pdOf fourR), .list (pdOf fourR), .lst (SqL.of hts) hP'.dp, .lst (SqL.of (sm _ _ eM)) (PM.same sm).dp, by decide +kernel, by decide +kernel, _, rfl, ?_⟩
    rw [show PyData.eqv (.list (pdOf fourR)) (.list (pdOf fourR)) = true from by decide +kernel]
    refine iteF ?_
    have B4 := BM.same sm
    have l4 := sm _ _ lM
    have nRD : R ≠ D := ne_of_none B.r hD
    obtain ⟨v0, hv0, _⟩ := at_in (xs := rs4) (r := 0) (Int.le_refl 0) (by rw [e4]; decide)
    refine ⟨_, rfl, .inl ⟨rfl, _, SqL.of l4⟩, _, rfl, D, rs4, 0, v0, rfl, rfl, SqL.of l4, hv0, D, rs4, v0, rfl, rfl, l4, small1000 (by rw [e4]; decide), ?_⟩
    have r5 : (upd H4 D (.lst (rs4 ++ [v0]))) R = some (.lst rs) := by rw [upd_ne nRD]; exact B4.r
    have rr5 : RulesAt C (upd H4 D (.lst (rs4 ++ [v0]))) rs ps := B4.rr.updL l4
    refine ⟨_, rfl, rfl, fun D5 rs5 H5 hD5 s5 hl5 hR5 => ?_⟩
    have e5 : rs5.length = 4 := hR5.len
    have el : rs.length ≤ 6 := by rw [B.rr.len]; exact hps
    refine ⟨R, D5, _, _, rfl, rfl, s5 _ _ r5, hl5, Nat.le_of_lt (small1000 (by omega)), fun N hN => ?_⟩
    have sN := same_new hN (.lst (rs ++ rs5))
    have rrN : RulesAt C (upd H5 N (.lst (rs ++ rs5))) (rs ++ rs5) (ps ++ fourR) := ((rr5.same s5).app hR5).same sN
    have eN : (upd H5 N (.lst (rs ++ rs5))) N = some (.lst (rs ++ rs5)) := upd_same
    generalize (upd H5 N (.lst (rs ++ rs5))) = HN at rrN eN
    refine ⟨_, rfl, N, rfl, ⟨_, SqL.of eN⟩, for_list (K := K) (a := N) (xs := rs ++ rs5) (fun i σ H' => ∃ (v12 v13 : Option V), σ = [some (.ref a), some (.ref st), some (.ref N), v3, v4, v5, v6, v7, v8, none, some (.ref D), some (.ref M), v12, v13] ∧ H' = HN)
      ⟨none, none, rfl, rfl⟩ (fun _ _ _ _ ⟨_, _, _, e⟩ => by rw [e]; exact SqL.of eN) ?_ ?_⟩
    · rintro i y1 σ H' hy1 ⟨v12, v13, rfl, rfl⟩
      obtain ⟨x1, p1, _, rfl, ⟨dx1, hx1⟩⟩ := rrN.at hy1
      refine ⟨_, rfl, N, rfl, ⟨_, SqL.of eN⟩, for_list (K := K) (a := N) (xs := rs ++ rs5) (fun j σ H' => ∃ (w13 : Option V), σ = [some (.ref a), some (.ref st), some (.ref N), v3, v4, v5, v6, v7, v8, none, some (.ref D), some (.ref M), some (.ref x1), w13] ∧ H' = _)
        ⟨v13, rfl, rfl⟩ (fun _ _ _ _ ⟨_, _, e⟩ => by rw [e]; exact SqL.of eN) ?_ ?_⟩
      · rintro j y2 σ H'' hy2 ⟨w13, rfl, rfl⟩
        obtain ⟨x2, p2, _, rfl, ⟨dx2, hx2⟩⟩ := rrN.at hy2
        refine ⟨_, rfl, _, rfl, x1, x2, dx1, dx2, _, _, rfl, rfl, hx1, hx2, x1, x2, p1.1, p1.2, p2.1, p2.2, rfl, ⟨dx1, hx1⟩, ⟨dx2, hx2⟩, _, rfl, .inr ⟨_, rfl, ?_⟩⟩
        refine ⟨_, rfl, x1, C, dx1, _, _, rfl, hx1, T.cl, T.nB, rfs_b _ _, _, rfl, x2, C, dx2, _, _, rfl, hx2, T.cl, T.nB, rfs_b _ _, rfl, _, rfl, ?_⟩
        cases eb : decide (V.str p1.1 = V.str p2.1) with
        | false =>
          refine iteF ⟨rfl, _, rfl, iteNS ?_ ⟨_, rfl, rfl⟩⟩
          rw [← str_dec, eb]; rfl
        | true =>
          refine iteT ⟨_, rfl, x1, C, dx1, _, _, rfl, hx1, T.cl, T.nS, rfs_s _ _, _, rfl, x2, C, dx2, _, _, rfl, hx2, T.cl, T.nS, rfs_s _ _, rfl, rfl, _, rfl, iteNS ?_ ⟨_, rfl, rfl⟩⟩
          rw [← str_dec, eb, str_dec]; rfl
      · rintro σ H'' ⟨w13, rfl, rfl⟩
        exact ⟨_, _, rfl, rfl⟩
    · rintro σ H' ⟨v12, v13, rfl, rfl⟩
      refine ⟨rfl, fun D6 rs6 H6 hD6 s6 hl6 hR6 => ?_⟩
      have e6 : rs6.length = 4 := hR6.len
      refine ⟨D6, rs6, rfl, .inl (SqL.of hl6), rfl, ?_⟩
      have d : decide (V.int ((rs6.length : Nat) : Int) = V.int 4) = true := by rw [e6]; rfl
      rw [d]
      exact q _
end
end CA
namespace CA
open PySem L2
theorem exm_selfE {K : PySem.W.Frag} {S : Addr} (h1 : PySem.W.subIn K (.ref S) (.type "BaseException") = some true) (h2 : PySem.W.isClsIn K S = true) (h3 : PySem.W.typeIn K (.ref S) = some (.type "type")) (h4 : PySem.W.subIn K (.ref S) (.ref S) = some true) :
    PySem.W.exmOne K (.ref S) (.ref S) = some true := by
  have e1 : (PySem.W.subIn K (.ref S) (.type "BaseException") == some true) = true := by rw [h1] <;> rfl
  have e2 : ((PySem.W.clsIn K S).isSome && PySem.W.typeIn K (.ref S) == some (.type "type")) = true := by
    have h2' : (PySem.W.clsIn K S).isSome = true := h2
    rw [h2', h3] <;> rfl
  show (if (PySem.W.subIn K (.ref S) (.type "BaseException") == some true) = true then (if ((PySem.W.clsIn K S).isSome && PySem.W.typeIn K (.ref S) == some (.type "type")) = true then PySem.W.subIn K (.ref S) (.ref S) else none) else none) = some true
  rw [if_pos e1, if_pos e2]
  exact h4
theorem all_mk {l : PySem.W.OpenLaw} {w : World} {K : PySem.W.Frag} {h : Heap} {mg : Str → Option Value} {fa : Addr} (X : K.In h) (G : h.Ns mainGlobals mg) (hfa : mg "law" = some (.ref fa))
    {f_mixed f_start f_take f_same f_odd f_word f_all f_law f_I f_R f_Q C CE CC aB aS N : Addr} {od_mixed an_mixed od_start an_start od_take an_take od_same an_same od_odd an_odd od_word an_word od_all an_all od_law an_law od_I an_I od_R an_R od_Q an_Q dB dS dd : Option Addr} {sl_mixed sl_start sl_take sl_same sl_odd sl_word sl_all sl_law sl_I sl_R sl_Q slB slS : Array (Option Value)} {oc_mixed kV_mixed dc_mixed pm_mixed cd_mixed ct_mixed oc_start kV_start dc_start pm_start cd_start ct_start oc_take kV_take dc_take pm_take cd_take ct_take oc_same kV_same dc_same pm_same cd_same ct_same oc_odd kV_odd dc_odd pm_odd cd_odd ct_odd oc_word kV_word dc_word pm_word cd_word ct_word oc_all kV_all dc_all pm_all cd_all ct_all oc_law kV_law dc_law pm_law cd_law ct_law oc_I kV_I dc_I pm_I cd_I ct_I oc_R kV_R dc_R pm_R cd_R ct_R oc_Q kV_Q dc_Q pm_Q cd_Q ct_Q : Value} {tB1 tB2 tS1 tS2 : Tok} {nB nS : Nat} {nm q : Str} {bs : List Value} {sn : List Str} {sub : List Value} {ab : Bool} {col : Option Bool} {m0 m1 m2 m3 m5 : Option Value}
    (g_CE : PySem.W.nsIn K mainGlobals "InvalidRule" = some (some (.ref CE)))
    (g_CC : PySem.W.nsIn K mainGlobals "CalledError" = some (some (.ref CC)))
    (g_C : PySem.W.nsIn K mainGlobals "Rule" = some (some (.ref C)))
    (g_B : PySem.W.nsIn K mainGlobals "BATCHES" = some (some (.ref aB)))
    (g_S : PySem.W.nsIn K mainGlobals "SAMES" = some (some (.ref aS)))
    (a_mixed : PySem.W.nsIn K mainGlobals "_law_mixed" = some (some (.ref f_mixed)))
    (l_mixed : K.lookup f_mixed = some ⟨oc_mixed, od_mixed, .func (PySem.W.fnOf "_law_mixed" "_law_mixed" (defArgs s__law_mixed) (defBody s__law_mixed) (defScope s__law_mixed) .none kV_mixed dc_mixed pm_mixed an_mixed cd_mixed ct_mixed), sl_mixed⟩)
    (c_mixed : PySem.W.codeIn K cd_mixed "_law_mixed" = true)
    (k_mixed : PySem.W.keepIn K (.ref f_mixed) = true)
    (a_start : PySem.W.nsIn K mainGlobals "_law_start" = some (some (.ref f_start)))
    (l_start : K.lookup f_start = some ⟨oc_start, od_start, .func (PySem.W.fnOf "_law_start" "_law_start" (defArgs s__law_start) (defBody s__law_start) (defScope s__law_start) .none kV_start dc_start pm_start an_start cd_start ct_start), sl_start⟩)
    (c_start : PySem.W.codeIn K cd_start "_law_start" = true)
    (k_start : PySem.W.keepIn K (.ref f_start) = true)
    (a_take : PySem.W.nsIn K mainGlobals "_law_take" = some (some (.ref f_take)))
    (l_take : K.lookup f_take = some ⟨oc_take, od_take, .func (PySem.W.fnOf "_law_take" "_law_take" (defArgs s__law_take) (defBody s__law_take) (defScope s__law_take) .none kV_take dc_take pm_take an_take cd_take ct_take), sl_take⟩)
    (c_take : PySem.W.codeIn K cd_take "_law_take" = true)
    (k_take : PySem.W.keepIn K (.ref f_take) = true)
    (a_same : PySem.W.nsIn K mainGlobals "_law_same" = some (some (.ref f_same)))
    (l_same : K.lookup f_same = some ⟨oc_same, od_same, .func (PySem.W.fnOf "_law_same" "_law_same" (defArgs s__law_same) (defBody s__law_same) (defScope s__law_same) .none kV_same dc_same pm_same an_same cd_same ct_same), sl_same⟩)
    (c_same : PySem.W.codeIn K cd_same "_law_same" = true)
    (k_same : PySem.W.keepIn K (.ref f_same) = true)
    (a_odd : PySem.W.nsIn K mainGlobals "_law_odd" = some (some (.ref f_odd)))
    (l_odd : K.lookup f_odd = some ⟨oc_odd, od_odd, .func (PySem.W.fnOf "_law_odd" "_law_odd" (defArgs s__law_odd) (defBody s__law_odd) (defScope s__law_odd) .none kV_odd dc_odd pm_odd an_odd cd_odd ct_odd), sl_odd⟩)
    (c_odd : PySem.W.codeIn K cd_odd "_law_odd" = true)
    (k_odd : PySem.W.keepIn K (.ref f_odd) = true)
    (a_word : PySem.W.nsIn K mainGlobals "_law_rule_word" = some (some (.ref f_word)))
    (l_word : K.lookup f_word = some ⟨oc_word, od_word, .func (PySem.W.fnOf "_law_rule_word" "_law_rule_word" (defArgs s__law_rule_word) (defBody s__law_rule_word) (defScope s__law_rule_word) .none kV_word dc_word pm_word an_word cd_word ct_word), sl_word⟩)
    (c_word : PySem.W.codeIn K cd_word "_law_rule_word" = true)
    (k_word : PySem.W.keepIn K (.ref f_word) = true)
    (a_all : PySem.W.nsIn K mainGlobals "all_rules" = some (some (.ref f_all)))
    (l_all : K.lookup f_all = some ⟨oc_all, od_all, .func (PySem.W.fnOf "all_rules" "all_rules" (defArgs s_all_rules) (defBody s_all_rules) (defScope s_all_rules) .none kV_all dc_all pm_all an_all cd_all ct_all), sl_all⟩)
    (c_all : PySem.W.codeIn K cd_all "all_rules" = true)
    (k_all : PySem.W.keepIn K (.ref f_all) = true)
    (a_law : PySem.W.nsIn K mainGlobals "law" = some (some (.ref f_law)))
    (l_law : K.lookup f_law = some ⟨oc_law, od_law, .func (PySem.W.fnOf "law" "law" (defArgs s_law) (defBody s_law) (defScope s_law) .none kV_law dc_law pm_law an_law cd_law ct_law), sl_law⟩)
    (c_law : PySem.W.codeIn K cd_law "law" = true)
    (k_law : PySem.W.keepIn K (.ref f_law) = true)
    (a_I : PySem.W.findIn K (.ref CE) "__init__" = some (some (.ref f_I)))
    (l_I : K.lookup f_I = some ⟨oc_I, od_I, .func (PySem.W.fnOf "__init__" "InvalidRule.__init__" (defArgs s_InvalidRule___init__) (defBody s_InvalidRule___init__) (defScope s_InvalidRule___init__) .none kV_I dc_I pm_I an_I cd_I ct_I), sl_I⟩)
    (c_I : PySem.W.codeIn K cd_I "InvalidRule.__init__" = true)
    (k_I : PySem.W.keepIn K (.ref f_I) = true)
    (a_R : PySem.W.findIn K (.ref C) "__init__" = some (some (.ref f_R)))
    (l_R : K.lookup f_R = some ⟨oc_R, od_R, .func (PySem.W.fnOf "__init__" "Rule.__init__" (defArgs s_Rule___init__) (defBody s_Rule___init__) (defScope s_Rule___init__) .none kV_R dc_R pm_R an_R cd_R ct_R), sl_R⟩)
    (c_R : PySem.W.codeIn K cd_R "Rule.__init__" = true)
    (k_R : PySem.W.keepIn K (.ref f_R) = true)
    (a_Q : PySem.W.findIn K (.ref C) "__eq__" = some (some (.ref f_Q)))
    (l_Q : K.lookup f_Q = some ⟨oc_Q, od_Q, .func (PySem.W.fnOf "__eq__" "Rule.__eq__" (defArgs s_Rule___eq__) (defBody s_Rule___eq__) (defScope s_Rule___eq__) .none kV_Q dc_Q pm_Q an_Q cd_Q ct_Q), sl_Q⟩)
    (c_Q : PySem.W.codeIn K cd_Q "Rule.__eq__" = true)
    (k_Q : PySem.W.keepIn K (.ref f_Q) = true)
    (l_B : K.lookup aB = some ⟨.type "tuple", dB, .seq #[.str "together" tB1, .str "each" tB2] nB, slB⟩)
    (l_S : K.lookup aS = some ⟨.type "tuple", dS, .seq #[.str "pass" tS1, .str "call" tS2] nS, slS⟩)
    (xL : K.lookup CE = some (excClassObj nm q CE N bs [.ref CC, .type "ValueError", .type "Exception", .type "BaseException", .type "object"] true sn sub ab col dd m0 m1 m2 m3 m5 "ValueError.__new__"))
    (e_sa : PySem.W.findIn K (.ref CE) "__setattr__" = some (some (.builtin "object.__setattr__")))
    (e_ga : PySem.W.findIn K (.ref CE) "__getattribute__" = some (some (.builtin "BaseException.__getattribute__")))
    (e_gg : PySem.W.findIn K (.ref CE) "__getattr__" = some none)
    (e_no : PySem.W.findIn K (.ref CE) "part" = some none)
    (e_tI : PySem.W.typeIn K (.ref f_I) = some (.type "function"))
    (e_kp : PySem.W.keepIn K (.ref CE) = true)
    (e_be : PySem.W.subIn K (.ref CE) (.type "BaseException") = some true)
    (e_ty : PySem.W.typeIn K (.ref CE) = some (.type "type"))
    (e_hd : PySem.W.hasDictIn K CE = true)
    (e_ic : PySem.W.isClsIn K CE = true)
    (e_ss : PySem.W.subIn K (.ref CE) (.ref CE) = some true)
    (e_cl : PySem.W.findIn K (.ref CE) "__class__" = some (some (.builtin "object.__class__")))
    (e_gt : PySem.W.specialIn K (.builtin "object.__class__") "__get__" = some (some (.builtin "getset_descriptor.__get__")))
    (e_tk : PySem.W.takesIn K (.builtin "object.__class__") = some true)
    (e_mo : PySem.W.mroIn K CE (.type "object") = some true)
    (e_is : PySem.W.kitOne K (.ref CE) (.ref CC) = some true)
    (r_pg : PySem.W.plainGet K C Str.empty = true)
    (r_hd : PySem.W.hasDictIn K C = true)
    (r_po : PySem.W.plainOver K C = true)
    (r_sa : PySem.W.findIn K (.ref C) "__setattr__" = some (some (.builtin "object.__setattr__")))
    (r_mk : PySem.W.makesIn K C = true)
    (r_kp : PySem.W.keepIn K (.ref C) = true)
    (r_fn : PySem.W.isFn K (.ref f_R) = true)
    (r_fq : PySem.W.isFn K (.ref f_Q) = true)
    (r_nb : PySem.W.findIn K (.ref C) "batch" = some none)
    (r_ns : PySem.W.findIn K (.ref C) "same" = some none)
    (r_cl : PySem.W.findIn K (.ref C) "__class__" = some (some (.builtin "object.__class__")))
    (r_mo : PySem.W.mroIn K C (.type "object") = some true)
    (r_me : PySem.W.kitOne K (.ref C) (.ref C) = some true)
    (z_int : PySem.W.nsIn K mainGlobals "int" = some none)
    (z_len : PySem.W.nsIn K mainGlobals "len" = some none)
    (z_abs : PySem.W.nsIn K mainGlobals "abs" = some none)
    (z_isinstance : PySem.W.nsIn K mainGlobals "isinstance" = some none)
    (z_tuple : PySem.W.nsIn K mainGlobals "tuple" = some none)
    (z_str : PySem.W.nsIn K mainGlobals "str" = some none)
    (z_list : PySem.W.nsIn K mainGlobals "list" = some none)
    (z_bool : PySem.W.nsIn K mainGlobals "bool" = some none)
    (z_range : PySem.W.nsIn K mainGlobals "range" = some none) :
    ∃ fd : FuncData, (∀ (s : Shared) (v : Value), BindsTo s fd ⟨[v], []⟩ [("_law_script", v)]) ∧ ∀ base : Heap, K.In base → base.Ns mainGlobals mg → FnOk l.prog w K mg base CX0 6 fa fd ["_law_script"] (spLaw K) := by
  have e := hfa.symm.trans (PySem.W.mg_of X G a_law)
  cases e
  have g := fun {x : Str} {a : Addr} (h : PySem.W.nsIn K mainGlobals x = some (some (.ref a))) => PySem.W.mg_of X G h
  have z := fun {x : Str} (h : PySem.W.nsIn K mainGlobals x = some none) => PySem.W.mg_none_of X G h
  have T : TxtR K mg C CE CC f_I f_R f_Q aB aS :=
    { oex := ⟨⟨nm, q, N, bs, _, sn, sub, ab, col, dd, m0, m1, m2, m3, m5, xL, by show PySem.HandSPX.refsVE PySem.HandSPX.veTail = true; decide +kernel⟩, e_sa, e_be, e_ty, e_kp⟩, xd := ⟨e_ic, e_ga, e_gg, e_be, e_cl, e_gt, e_tk, e_mo⟩, xf := ⟨e_ga, e_gg, e_be, e_hd⟩, noP := e_no, iC := a_I, tI := e_tI, te := exm_selfE e_be e_ic e_ty e_ss, isC := e_is,
      gE := g g_CE, gC := g g_CC, cl := ⟨r_pg, r_hd, r_po, r_sa⟩, mkR := ⟨r_mk, a_R, r_fn, r_kp⟩, nB := r_nb, nS := r_ns, gR := g g_C, g_BATCHES := g g_B, g_SAMES := g g_S,
      sB := fun _ => .inr ⟨_, _, _, l_B, rfl, rfl, by show 2 ≤ sizeLine; decide, .cons ⟨_, rfl⟩ (.cons ⟨_, rfl⟩ .nil)⟩, sS := fun _ => .inr ⟨_, _, _, l_S, rfl, rfl, by show 2 ≤ sizeLine; decide, .cons ⟨_, rfl⟩ (.cons ⟨_, rfl⟩ .nil)⟩ }
  have TQ : TxtQ K mg C f_Q := ⟨z z_isinstance, ⟨T.cl, r_cl, e_gt, e_tk, r_mo, r_me⟩, a_Q, r_fq⟩
  have TD : TxtD K mg f_mixed := ⟨z z_int, z z_len, z z_abs, g a_mixed, k_mixed⟩
  have TT : TxtT K mg f_take := ⟨g a_take, k_take, z z_len⟩
  have TU : TxtU K mg f_odd := ⟨g a_odd, k_odd, z z_isinstance, z z_tuple, z z_str⟩
  have TL : TxtL K mg f_start f_word f_same f_all := ⟨g a_start, k_start, g a_word, k_word, g a_same, k_same, g a_all, k_all, z z_range, z z_isinstance, z z_list, z z_len, z z_bool⟩
  have F_mixed := fun_mk (st := s__law_mixed) l_mixed c_mixed k_mixed
  have F_start := fun_mk (st := s__law_start) l_start c_start k_start
  have F_take := fun_mk (st := s__law_take) l_take c_take k_take
  have F_same := fun_mk (st := s__law_same) l_same c_same k_same
  have F_odd := fun_mk (st := s__law_odd) l_odd c_odd k_odd
  have F_word := fun_mk (st := s__law_rule_word) l_word c_word k_word
  have F_all := fun_mk (st := s_all_rules) l_all c_all k_all
  have F_law := fun_mk (st := s_law) l_law c_law k_law
  have F_I := fun_mk (st := s_InvalidRule___init__) l_I c_I k_I
  have F_R := fun_mk (st := s_Rule___init__) l_R c_R k_R
  have F_Q := fun_mk (st := s_Rule___eq__) l_Q c_Q k_Q
  have b_mixed := F_mixed.binds (ps := ["_law_cell", "_law_count", "_law_size"]) fun _ _ _ _ _ _ us hl => match us, hl with | [_, _, _], _ => rfl
  have b_start := F_start.binds (ps := ["_law_script"]) fun _ _ _ _ _ _ us hl => match us, hl with | [_], _ => rfl
  have b_take := F_take.binds (ps := ["_law_state", "_law_size"]) fun _ _ _ _ _ _ us hl => match us, hl with | [_, _], _ => rfl
  have b_same := F_same.binds (ps := ["_law_told", "_law_due"]) fun _ _ _ _ _ _ us hl => match us, hl with | [_, _], _ => rfl
  have b_odd := F_odd.binds (ps := ["_law_state"]) fun _ _ _ _ _ _ us hl => match us, hl with | [_], _ => rfl
  have b_word := F_word.binds (ps := ["_law_state", "_law_good"]) fun _ _ _ _ _ _ us hl => match us, hl with | [_, _], _ => rfl
  have b_all := F_all.binds (ps := []) fun _ _ _ _ _ _ us hl => match us, hl with | [], _ => rfl
  have b_law := F_law.binds (ps := ["_law_script"]) fun _ _ _ _ _ _ us hl => match us, hl with | [_], _ => rfl
  have b_I := F_I.binds (ps := ["self", "part"]) fun _ _ _ _ _ _ us hl => match us, hl with | [_, _], _ => rfl
  have b_R := F_R.binds (ps := ["self", "batch", "same"]) fun _ _ _ _ _ _ us hl => match us, hl with | [_, _, _], _ => rfl
  have b_Q := F_Q.binds (ps := ["self", "other"]) fun _ _ _ _ _ _ us hl => match us, hl with | [_, _], _ => rfl
  refine ⟨PySem.W.fnOf "law" "law" (defArgs s_law) (defBody s_law) (defScope s_law) .none kV_law dc_law pm_law an_law cd_law ct_law, fun s v => .of_eq rfl, fun base _ _ => ?_⟩
  · have GI := ok_InvalidRule___init__ (P := l.prog) (w := w) (base := base) F_I T
    have GR := ok_Rule___init__ (P := l.prog) (w := w) (base := base) F_R T GI b_I
    have GQ := ok_Rule___eq__ (P := l.prog) (w := w) (base := base) F_Q T TQ
    have Gs := ok__law_start (P := l.prog) (w := w) (base := base) F_start TD
    have Gx := ok__law_mixed (P := l.prog) (w := w) (base := base) F_mixed TD
    have Gt := ok__law_take (P := l.prog) (w := w) (base := base) F_take TD Gx b_mixed
    have Go := ok__law_odd (P := l.prog) (w := w) (base := base) F_odd TT Gt b_take
    have Gw := ok__law_rule_word (P := l.prog) (w := w) (base := base) F_word TT TU Gt b_take Go b_odd
    have Gm := ok__law_same0 (P := l.prog) (w := w) (base := base) F_same TU
    have Gl := ok_all_rules (P := l.prog) (w := w) (base := base) F_all T GR b_R
    exact ok_law F_law T TQ TL GR b_R GQ b_Q Gs b_start Gw b_word Gm b_same Gl b_all
theorem walk {l : PySem.W.OpenLaw} {q : Program} {loose : List Str} {XP : (Str → Option Value) → Heap → Prop} {YP : World → Heap → Prop} {d : DefRec} {K : Params → PySem.W.Frag} (hn : l.most = some 63) (hdf : d.params.defaults = [])
    (hY : ∀ (w : World) (h : Heap), YP w h → (K w.params).In h)
    (F : ∀ (w : World) (mg : Str → Option Value) (fa : Addr) (h : Heap), (K w.params).In h → h.Ns mainGlobals mg → mg d.name = some (.ref fa) →
      ∃ fd : FuncData, (∀ (s : Shared) (u : Value), BindsTo s fd ⟨[u], []⟩ [("_law_script", u)]) ∧ ∀ base : Heap, (K w.params).In base → base.Ns mainGlobals mg → FnOk l.prog w (K w.params) mg base CX0 6 fa fd ["_law_script"] (spLaw (K w.params))) :
    PySem.W.WalkO q loose XP YP l.row.toRowW d [] (fun f vs => PySem.call f vs) :=
  L2.walk_of (n := 63) (k := 6) (x := "_law_script") (CX := fun _ => CX0) (sp := fun w => spLaw (K w.params)) hn (by decide) hdf ⟨rfl, by decide, by decide⟩ hY F (fun _ _ a ns hl _ hS => ⟨a, ns, rfl, hS, hl, fun _ => rfl⟩) fun _ _ _ _ _ z => z
end CA
open PySem PySem.W PyProof.Rows
set_option maxRecDepth 100000 in
set_option maxHeartbeats 0 in
theorem PySem.Challenge.cw_calledanew_k12_rules_holds : PySem.Challenge.rw_calledanew_k12_rules.Holds := by
  w_on; o_law; k_head; (case hw => w_witness2)
  k_fill
  refine CA.walk (l := PySem.Challenge.rw_calledanew_k12_rules) rfl rfl (fun w h Y => PySem.W.kIn_of Y) ?F
  case F =>
    intro w mg fa h KX G hmg
    refine' CA.all_mk KX G hmg ?g_CE ?g_CC ?g_C ?g_B ?g_S ?a_mixed ?l_mixed ?c_mixed ?k_mixed ?a_start ?l_start ?c_start ?k_start ?a_take ?l_take ?c_take ?k_take ?a_same ?l_same ?c_same ?k_same ?a_odd ?l_odd ?c_odd ?k_odd ?a_word ?l_word ?c_word ?k_word ?a_all ?l_all ?c_all ?k_all ?a_law ?l_law ?c_law ?k_law ?a_I ?l_I ?c_I ?k_I ?a_R ?l_R ?c_R ?k_R ?a_Q ?l_Q ?c_Q ?k_Q ?l_B ?l_S ?xL ?e_sa ?e_ga ?e_gg ?e_no ?e_tI ?e_kp ?e_be ?e_ty ?e_hd ?e_ic ?e_ss ?e_cl ?e_gt ?e_tk ?e_mo ?e_is ?r_pg ?r_hd ?r_po ?r_sa ?r_mk ?r_kp ?r_fn ?r_fq ?r_nb ?r_ns ?r_cl ?r_mo ?r_me ?z_int ?z_len ?z_abs ?z_isinstance ?z_tuple ?z_str ?z_list ?z_bool ?z_range
    (case g_CE => k_is)
    (case g_CC => k_is)
    (case g_C => k_is)
    (case g_B => k_is)
    (case g_S => k_is)
    (case a_mixed => k_is)
    (case l_mixed => k_is)
    (case c_mixed => k_is)
    (case k_mixed => k_is)
    (case a_start => k_is)
    (case l_start => k_is)
    (case c_start => k_is)
    (case k_start => k_is)
    (case a_take => k_is)
    (case l_take => k_is)
    (case c_take => k_is)
    (case k_take => k_is)
    (case a_same => k_is)
    (case l_same => k_is)
    (case c_same => k_is)
    (case k_same => k_is)
    (case a_odd => k_is)
    (case l_odd => k_is)
    (case c_odd => k_is)
    (case k_odd => k_is)
    (case a_word => k_is)
    (case l_word => k_is)
    (case c_word => k_is)
    (case k_word => k_is)
    (case a_all => k_is)
    (case l_all => k_is)
    (case c_all => k_is)
    (case k_all => k_is)
    (case a_law => k_is)
    (case l_law => k_is)
    (case c_law => k_is)
    (case k_law => k_is)
    (case a_I => k_is)
    (case l_I => k_is)
    (case c_I => k_is)
    (case k_I => k_is)
    (case a_R => k_is)
    (case l_R => k_is)
    (case c_R => k_is)
    (case k_R => k_is)
    (case a_Q => k_is)
    (case l_Q => k_is)
    (case c_Q => k_is)
    (case k_Q => k_is)
    (case l_B => k_is)
    (case l_S => k_is)
    (case xL => k_is)
    (case e_sa => k_is)
    (case e_ga => k_is)
    (case e_gg => k_is)
    (case e_no => k_is)
    (case e_tI => k_is)
    (case e_kp => k_is)
    (case e_be => k_is)
    (case e_ty => k_is)
    (case e_hd => k_is)
    (case e_ic => k_is)
    (case e_ss => k_is)
    (case e_cl => k_is)
    (case e_gt => k_is)
    (case e_tk => k_is)
    (case e_mo => k_is)
    (case e_is => kit_is)
    (case r_pg => k_is)
    (case r_hd => k_is)
    (case r_po => k_is)
    (case r_sa => k_is)
    (case r_mk => k_is)
    (case r_kp => k_is)
    (case r_fn => k_is)
    (case r_fq => k_is)
    (case r_nb => k_is)
    (case r_ns => k_is)
    (case r_cl => k_is)
    (case r_mo => k_is)
    (case r_me => kit_is)
    (case z_int => k_is)
    (case z_len => k_is)
    (case z_abs => k_is)
    (case z_isinstance => k_is)
    (case z_tuple => k_is)
    (case z_str => k_is)
    (case z_list => k_is)
    (case z_bool => k_is)
    (case z_range => k_is)
