import PyProof.Rows.All
import Wide.All
import OpenK.AllK
import Wide.FinOn
import HandS.ForMost
import HandS.Exc
import HandS.TryOnly
import HandS.ExcOwn
import HandS.WordsExc
import HandS.Wide
import HandS.IsInst
import PyProof.FactsAll.dict
import KE.KExcIs
import HandS.ExcInit
import HandS.ExcField
import HandS.OwnEq
import HandS.Set
import HandS.SetBool
import HandS.SetTxt0
import HandS.Strs
import HandS.Sort
import HandS.Comp
import HandS.DictComp
import HandS.List
import HandS.Iter
import HandS.DictTup
import KE.KDictWalk
import HandS.SetFor
import KE.GoesEnum
import HandS.Zip
import HandS.Text
import HandS.AnyAll
import PySem.Challenge.RW_calledanew_k41_event_texts
import KE.GoesEnumKw
import KE.KUnpackStar
import HandS.Star
set_option Elab.async false
set_option linter.all false
set_option maxRecDepth 100000
set_option maxHeartbeats 4000000
/-! Own layer: what all laws of this project share. -/
namespace CA
open PySem L2
/-! ### heaps -/
/-- what was tracked is as it was, but at the addresses of ms -/
def Keep (ms : List Addr) (H H' : Hp) : Prop := ∀ b o, H b = some o → b ∉ ms → H' b = some o
theorem Keep.refl {ms : List Addr} (H : Hp) : Keep ms H H := fun _ _ h _ => h
theorem Keep.trans {ms : List Addr} {H H1 H2 : Hp} (a : Keep ms H H1) (b : Keep ms H1 H2) : Keep ms H H2 := fun c o h n => b c o (a c o h n) n
theorem Keep.of {ms : List Addr} {H H' : Hp} (s : Same H H') : Keep ms H H' := fun b o h _ => s b o h
theorem same_new {H : Hp} {p : Addr} (h : H p = none) (o : HO) : Same H (upd H p o) := fun b u q => by rw [upd_ne (ne_of_none q h)]; exact q
theorem Keep.upd {a : Addr} {H : Hp} {o : HO} : Keep [a] H (upd H a o) := fun b u q n => by rw [upd_ne (fun z => n (by rw [z]; exact List.mem_singleton.mpr rfl))]; exact q
theorem Keep.one {a : Addr} {H H' : Hp} (k : Keep [a] H H') {b : Addr} {o : HO} (h : H b = some o) (n : b ≠ a) : H' b = some o := k b o h (fun z => n (List.mem_singleton.mp z))
/-! ### pow of a wide base -/
def CPowW (i j : Int) : Prop := 0 ≤ j ∧ (Builtin.Int.intBits i : Int) * j ≤ 2 ^ 27
section
variable {X : Cx}
theorem op_powW : OpR X (binaryOp .Pow) (rI CPowW fun i j => .int (i ^ j.toNat)) := opI fun _ _ _ _ _ _ _ hc q => PyProof.Rows.pow_int hc.1 hc.2 q
end
/-- a module's object, by its name -/
theorem pe_gref {X : Cx} {x : Str} {a : Addr} {pos : Pos} (hg : Gl X x) (hm : X.mg x = some (.ref a)) (hd : (x == ("__debug__" : Str)) = false := by decide) : PE X (.Name x pos) (tC (.ref a)) := pe_glob hg hm rfl hd
theorem pe_gr {X : Cx} {x : Str} {a : Addr} {pos : Pos} (hm : X.mg x = some (.ref a)) (hg : Gl X x := by rfl) (hd : (x == ("__debug__" : Str)) = false := by decide) : PE X (.Name x pos) (tC (.ref a)) := pe_glob hg hm rfl hd
/-! ### the draws' state -/
/-- the five places of the draws' state -/
def stL (scr : Addr) (i d seed c : Int) : HO := .lst [.ref scr, .int i, .int d, .int seed, .int c]
structure StAt (H : Hp) (st scr : Addr) : Prop where
  ex : ∃ (ns : List Int) (i d seed c : Int), H st = some (stL scr i d seed c) ∧ H scr = some (.lst (ns.map V.int)) ∧ scr ≠ st ∧ ns.length ≤ 63 ∧ 0 ≤ i ∧ 0 ≤ d ∧ 0 ≤ seed ∧ seed < 2147483629
theorem StAt.keep {H H' : Hp} {st scr : Addr} (S : StAt H st scr) (k : Same H H') : StAt H' st scr := by
  obtain ⟨ns, i, d, seed, c, h1, h2, r⟩ := S.ex
  exact ⟨ns, i, d, seed, c, k _ _ h1, k _ _ h2, r⟩
/-! ### promises of the draws -/
def spStart (K : PySem.W.Frag) : Sp := fun vs H Q _ => ∃ (a : Addr) (ns : List Int), vs = [.ref a] ∧ SqL K H a (ns.map V.int) ∧ ns.length ≤ 63 ∧
  ∀ (st scr : Addr) (H' : Hp), H st = none → Same H H' → StAt H' st scr → Q (.ref st) H'
def spMixed : Sp := fun vs H Q _ => ∃ (a b n : Int), vs = [.int a, .int b, .int n] ∧ 0 < n ∧ ∀ r : Int, 0 ≤ r → r < n → Q (.int r) H
/-- a draw: some number below the size; the state alone is changed -/
def spTake : Sp := fun vs H Q _ => ∃ (st scr : Addr) (n : Int), vs = [.ref st, .int n] ∧ StAt H st scr ∧ 0 < n ∧ n < 1000000 ∧
  ∀ (r : Int) (H' : Hp), 0 ≤ r → r < n → Keep [st] H H' → StAt H' st scr → Q (.int r) H'
theorem mod_mul_ok {x m : Int} (hm : 0 < m) (h : m ≤ 4294967296) : CMul (x % m) ((x % m) / 1009 + 40692) := by
  refine Or.inl ⟨?_, ?_⟩
  · have := Int.emod_nonneg x (by omega : m ≠ 0); omega
  · have := Int.emod_lt_of_pos x hm; omega
end CA
namespace CA
open PySem L2 PySem.SeqAt PySem.MeetsSeq
open AutoSeq1 (wpAny_loadPart')
/-! ### a text is no dict -/
theorem dict_eq_declines_str (l : Addr) (es : Array DictEntry) (ep : Nat) (dd : Option Addr) (sl : Array (Option Value)) (b : Str) (u : Tok) :
    Meets (Builtin.«dict.__eq__» ⟨[.ref l, .str b u], []⟩) (fun _ R s => s.heap.get? l = some { cls := .type "dict", dict := dd, data := .dict es ep, slots := sl } ∧ R (.ok (.ret .notImplemented)) s) :=
  .of_wp fun prog w A R s h => by obtain ⟨hp, g, d, tk, os⟩ := s; obtain ⟨hl, h⟩ := h; have f1 := F.sub_str_dict; wp_walk using wpAny_loadPart' hl; exact ⟨_, rfl, h⟩
theorem str_eq_declines_dict (b : Str) (u : Tok) (l : Addr) (c : Value) (es : Array DictEntry) (ep : Nat) (dd : Option Addr) (sl : Array (Option Value)) :
    Meets (Builtin.«str.__eq__» ⟨[.str b u, .ref l], []⟩) (fun _ R s => s.heap.get? l = some { cls := c, dict := dd, data := .dict es ep, slots := sl } ∧ R (.ok (.ret .notImplemented)) s) :=
  .of_wp fun prog w A R s h => by obtain ⟨hp, g, d, tk, os⟩ := s; obtain ⟨hl, h⟩ := h; wp_walk using wpAny_loadPart' hl, wpAny_load hl; exact ⟨_, rfl, h⟩
section
variable {A : Around} {s : Shared}
theorem rcAt_str_dict {l : Addr} {o : Obj} {es : Array DictEntry} {ep : Nat} (b : Str) (u : Tok) (ho : s.heap.get? l = some o) (hc : o.cls = .type "dict") (hd : o.data = .dict es ep) (hu : A.units < cLine) : RcAt A s (.str b u) (.ref l) false := fun prog w E Q h => by
  obtain ⟨cls, dd, data, sl⟩ := o
  simp only at hc hd
  subst hc hd
  exact rc_eq_decline_or (k := false) (typeIs_str s b u) ⟨_, ho, rfl⟩ (by decide) F.sub_dict_str F.slot_str_eq F.slot_dict_eq_refl
    (fun _ hq => call_meets F.slot_str_eq (typeIs_str s b u) F.entry_str_eq (F.args_str_eq_2 _ _) (str_eq_declines_dict b u l (.type "dict") es ep dd sl) ⟨ho, hq⟩)
    (fun _ hq => call_meets F.slot_dict_eq_refl ⟨_, ho, rfl⟩ F.entry_dict_eq (F.args_dict_eq_2 _ _) (dict_eq_declines_str l es ep dd sl b u) ⟨ho, hq⟩)
    (fun _ hq => wpAny_of_eq (rfl : isSame (.str b u) (.ref l) = pure false) hq) (.inr hu) h
theorem eqAt_str_dict {l : Addr} {o : Obj} {es : Array DictEntry} {ep : Nat} (b : Str) (u : Tok) (ho : s.heap.get? l = some o) (hc : o.cls = .type "dict") (hd : o.data = .dict es ep) (hu : A.units < cLine) : EqAt A s (.str b u) (.ref l) false := fun prog w E Q h => by
  unfold eqBool
  refine wpAny_holding ?_
  refine wpAny_ite_split (fun hab => absurd (eq_of_beq hab) nofun) (fun _ => ?_)
  exact wpAny_bind (rcAt_str_dict b u ho hc hd hu prog w E _ (wpAny_truthy_bool h))
end
/-! ### values of a known kind -/
inductive Kd (H : Hp) : V → Prop where
  | flat {v : V} (h : flatV v = true) : Kd H v
  | tup {a : Addr} {xs : List V} (h : H a = some (.tup xs)) : Kd H (.ref a)
  | lst {a : Addr} {xs : List V} (h : H a = some (.lst xs)) : Kd H (.ref a)
  | dct {a : Addr} {kvs : List (Key × V)} (h : H a = some (.dK kvs)) : Kd H (.ref a)
theorem Kd.same {H H' : Hp} {v : V} (k : Kd H v) (s : Same H H') : Kd H' v := by
  cases k with
  | flat h => exact .flat h
  | tup h => exact .tup (s _ _ h)
  | lst h => exact .lst (s _ _ h)
  | dct h => exact .dct (s _ _ h)
/-- x stands among these texts -/
def memT (x : V) (ss : List Str) : Bool := ss.any fun z => decide (V.str z = x)
/-- a text's answer to == x, read off the value -/
def eqT (x : V) (u : Value) : Bool := match u with
  | .str z _ => decide (V.str z = x)
  | _ => false
section
variable {X : Cx}
theorem eqAt_txt {pins : List (Addr × Obj)} {σ : L2.St} {H : Hp} {s : Shared} {A : Around} {x : V} {u : Value} (I : Inv X pins σ H s) (k : Kd H x) (r : RelV x u) (hu : A.units < cLine) (z : Str) (t : Tok) : EqAt A s (.str z t) u (decide (V.str z = x)) := by
  cases k with
  | flat h =>
    have e : decide (V.str z = x) = eqV (.str z) x := by
      cases x with
      | str y =>
        show decide (V.str z = V.str y) = (z == y)
        by_cases h : z = y
        · subst h; simp
        · have : ¬ V.str z = V.str y := fun q => h (V.str.inj q)
          rw [decide_eq_false this]; exact (beq_eq_false_iff_ne.mpr h).symm
      | non => rfl
      | bl b => rfl
      | int i => rfl
      | _ => exact absurd (show false = true from h) Bool.false_ne_true
    rw [e]
    exact eqAt_V (y := .str z) ⟨t, rfl⟩ r rfl h
  | tup h =>
    cases r
    obtain ⟨_, its, _, p⟩ := I.hok _ _ h
    exact EqAt.str_tuple z t p hu
  | lst h =>
    cases r
    obtain ⟨_, its, n, _, e⟩ := I.hok _ _ h
    exact EqAt.str_list z t ⟨_, e, rfl, n, rfl⟩ hu
  | dct h =>
    cases r
    obtain ⟨_, _, vs, _, o, es, ep, h1, h2, h3, _⟩ := I.hok _ _ h
    exact eqAt_str_dict z t h1 h2.1 h3 hu
theorem any_eqT {x : V} : ∀ {ss : List Str} {us : List Value}, Vals (ss.map V.str) us → us.any (eqT x) = memT x ss
  | [], _, .nil => rfl
  | z :: ss, u :: us, .cons r t => by
    obtain ⟨tk, rfl⟩ := r
    rw [List.any_cons, any_eqT t]
    rfl
theorem mem_txts : ∀ {ss : List Str} {us : List Value}, Vals (ss.map V.str) us → ∀ u ∈ us, ∃ z t, u = .str z t
  | [], _, .nil => fun u hu => by cases hu
  | z :: ss, u :: us, .cons r t => fun u' hu => by
    rcases List.mem_cons.mp hu with rfl | hu
    · obtain ⟨tk, rfl⟩ := r; exact ⟨_, _, rfl⟩
    · exact mem_txts t u' hu
/-- x in a tuple (or list) of texts, x a value of a known kind -/
def rInT (K : PySem.W.Frag) (neg : Bool) : R2 := fun x y H Q => ∃ p ss, y = .ref p ∧ (SqL K H p (ss.map V.str) ∨ SqT K H p (ss.map V.str)) ∧ Kd H x ∧ Q (.bl (if neg then !memT x ss else memT x ss)) H
theorem op_inT (hu : X.A.units + 1 < cLine) : OpR X (compareOp .In) (rInT X.K false) := by
  intro pins s σ H x y v u Q I rx ry h
  obtain ⟨p, ss, rfl, hq, kx, q⟩ := h
  cases ry
  have hA : X.A.in1.units < cLine := hu
  rcases hq with hq | hq
  · obtain ⟨its, r, pl, hz⟩ := I.list hq
    refine in_listAt (eqT x) pl.isList (fun w hw => ?_) ⟨.bl _, H, I, rfl, ?_⟩
    · obtain ⟨z, t, rfl⟩ := mem_txts r w (by simpa using hw)
      exact eqAt_txt I kx rx hA z t
    · rw [show its.toArray.any (eqT x) = its.any (eqT x) by simp, any_eqT r]
      exact q
  · obtain ⟨its, r, pl, hz⟩ := I.tuple hq
    refine in_tupleAt (eqT x) pl (fun w hw => ?_) ⟨.bl _, H, I, rfl, ?_⟩
    · obtain ⟨z, t, rfl⟩ := mem_txts r w (by simpa using hw)
      exact eqAt_txt I kx rx hA z t
    · rw [show its.toArray.any (eqT x) = its.any (eqT x) by simp, any_eqT r]
      exact q
theorem op_notInT (hu : X.A.units + 1 < cLine) : OpR X (compareOp .NotIn) (rInT X.K true) := by
  intro pins s σ H x y v u Q I rx ry h
  obtain ⟨p, ss, rfl, hq, kx, q⟩ := h
  cases ry
  have hA : X.A.in1.units < cLine := hu
  rcases hq with hq | hq
  · obtain ⟨its, r, pl, hz⟩ := I.list hq
    refine notIn_listAt (eqT x) pl.isList (fun w hw => ?_) ⟨.bl _, H, I, rfl, ?_⟩
    · obtain ⟨z, t, rfl⟩ := mem_txts r w (by simpa using hw)
      exact eqAt_txt I kx rx hA z t
    · rw [show its.toArray.any (eqT x) = its.any (eqT x) by simp, any_eqT r]
      exact q
  · obtain ⟨its, r, pl, hz⟩ := I.tuple hq
    refine notIn_tupleAt (eqT x) pl (fun w hw => ?_) ⟨.bl _, H, I, rfl, ?_⟩
    · obtain ⟨z, t, rfl⟩ := mem_txts r w (by simpa using hw)
      exact eqAt_txt I kx rx hA z t
    · rw [show its.toArray.any (eqT x) = its.any (eqT x) by simp, any_eqT r]
      exact q
end
end CA
namespace CA
open PySem L2 PySem.Spec PyProof.Rows
/-! ### C(e, ..) where what __init__ raises is wished for at the caller's slots -/
section
variable {X : Cx} {CX : CXT} {k : Nat} {f C : Addr} {fd : FuncData} {ps : List Str} {sp : Sp} {dvs : List V} {ds : List Value} {E : L2.St → XK} {x : Str} {p pos : Pos} {e : Expr} {es : List Expr} {t : TA}
def tMakeS (C : Addr) (sp : Sp) (E : L2.St → XK) (t : TA) : TE := fun σ H Q => t σ H fun vs H1 => ∀ x dx, H1 x = none → H1 dx = none → dx ≠ x → sp (.ref x :: vs) (upd (upd H1 dx (.own x)) x (.ins C dx [])) (fun v H2 => v = .non ∧ Q (.ref x) H2) (E σ)
theorem run_makeS {pins : List (Addr × Obj)} {σ : L2.St} {H : Hp} {s : Shared} {Q : VK} {us : List Value} {vs : List V} (M : Mk X.K C f) (F : FnOk X.prog X.w X.K X.mg X.base CX k f fd ps sp) (hr : Room (k + 1) X.A) (hb : Binds X.K fd ps [])
    (hx : PassesAt CX X σ (E σ)) (I : Inv X pins σ H s) (r : Vals vs us)
    (h : ∀ x dx, H x = none → H dx = none → dx ≠ x → sp (.ref x :: vs) (upd (upd H dx (.own x)) x (.ins C dx [])) (fun v H2 => v = .non ∧ Q (.ref x) H2) (E σ)) :
    wpAny (model X.prog X.w) X.A (call (.ref C) us) (EP X pins σ Q) X.xe s := by
  have hq := h (s.heap.objs.size + 1) s.heap.objs.size (I.hok.fresh (Nat.le_succ _)) (I.hok.fresh (Nat.le_refl _)) (Nat.ne_of_lt (Nat.lt_succ_self _))
  have I2 := Inv.made (C := C) I
  have r2 : Vals (V.ref (s.heap.objs.size + 1) :: vs) (Value.ref (s.heap.objs.size + 1) :: us) := .cons rfl r
  have hl : (Value.ref (s.heap.objs.size + 1) :: us).length = ps.length := by
    have e := r2.length
    rw [F.len _ _ _ _ hq] at e
    exact e.symm
  have bb := hb _ (Value.ref (s.heap.objs.size + 1) :: us) I2.kIn (by rw [List.append_nil]; exact hl)
  rw [List.append_nil] at bb
  refine wpAny_call (make_map (f := f) I.kIn M.makes M.init (beq_iff_eq.mp M.fn) (codeAny_mono (F.run _ X.stack _ _ ⟨Value.ref (s.heap.objs.size + 1) :: us, []⟩ (Value.ref (s.heap.objs.size + 1) :: us) _ _ (E σ) (hr.make C us [])
    (I2.env0.make C us []) bb r2 hq) fun r s' hq' => ?_))
  cases r with
  | error e => exact hx pins _ _ e s' I2 hq'
  | ok fl =>
    cases fl with
    | ret u =>
      obtain ⟨v, H', I3, rv, ev, q3⟩ := I2.after hq'
      subst ev
      exact ⟨rv, ⟨V.ref (s.heap.objs.size + 1), H', I3, rfl, q3⟩⟩
    | next => exact False.elim hq'
    | brk => exact False.elim hq'
    | cont => exact False.elim hq'
theorem pe_makeS (M : Mk X.K C f) (F : FnOk X.prog X.w X.K X.mg X.base CX k f fd ps sp) (hr : Room (k + 1) X.A) (hg : Gl X x) (hm : X.mg x = some (.ref C)) (hb : Binds X.K fd ps []) (hx : ∀ σ, PassesAt CX X σ (E σ))
    (ha : PA X (e :: es) t) (hdb : (x == ("__debug__" : Str)) = false := by decide) (he : starEach (e :: es) X.env = (false, eval e X.env) :: starEach es X.env := by rfl) (hpl : (backTo pos (starEach es X.env)).any (·.1) = false := by rfl) :
    PE X (.Call (.Name x p) (e :: es) [] pos) (tMakeS C sp E t) := by
  refine ⟨fun pins s σ H Q I h => ?_⟩
  refine wpAny_Call_Name_kw (ld_glob I hg hm ?_ hdb)
  refine PySem.W.callWith_K (h₀ := X.base) I.ok.mod.kin M.kp (thn (ha.run pos pins s σ H _ I h) fun us s1 ⟨vs, H1, I1, r, q⟩ => ⟨I1.kIn, ?_⟩) he hpl
  exact run_makeS M F hr hb (hx σ) I1 r q
end
/-! ### isinstance of the exception that a suite holds, one with a dict -/
structure ExcD (K : PySem.W.Frag) (D : Addr) : Prop where
  hcl : (PySem.W.clsIn K D).isSome = true
  hg : PySem.W.findIn K (.ref D) "__getattribute__" = some (some (.builtin "BaseException.__getattribute__"))
  hk : PySem.W.findIn K (.ref D) "__getattr__" = some none
  hs : PySem.W.subIn K (.ref D) (.type "BaseException") = some true
  ha : PySem.W.findIn K (.ref D) "__class__" = some (some (.builtin "object.__class__"))
  hn : PySem.W.specialIn K (.builtin "object.__class__") "__get__" = some (some (.builtin "getset_descriptor.__get__"))
  ht : PySem.W.takesIn K (.builtin "object.__class__") = some true
  hm : PySem.W.mroIn K D (.type "object") = some true
def rIsX (K : PySem.W.Frag) (D a : Addr) (cls : Value) (d : Option Addr) : List V → Hp → VK → Prop := fun xs H Q => ∃ (c : V) (cv : Value) (b : Bool) (dd : Addr) (fs : List (Str × V)), xs = [.ref a, c] ∧ cls = .ref D ∧ d = some dd ∧ H dd = some (.xd fs) ∧ (∀ u, RelV c u → u = cv) ∧ PySem.W.kitOne K (.ref D) cv = some b ∧ Q (.bl b) H
theorem call_isX {X : Cx} {a D : Addr} {oe : Obj} {cls : Value} {d : Option Addr} {pn : List (Addr × Obj)} (C : ExcD X.K D) (hz : Zc cls d oe) (hf : ∃ vs, oe.data = .fields vs) : CallR (X.suite a ((a, oe) :: pn)) (.builtin "isinstance") (rIsX X.K D a cls d) := by
  intro pins s σ H xs us Q I r h
  obtain ⟨c, cv, b, dd, fs, rfl, ec, ed, hd, hcv, e, q⟩ := h
  subst ec
  subst ed
  cases r with
  | cons rx rr =>
    cases rr with
    | cons rt rr =>
      cases rr
      cases rx
      have ec := hcv _ rt
      subst ec
      obtain ⟨hget, _⟩ := I.pin (a, oe) (List.mem_append.mpr (.inl List.mem_cons_self))
      obtain ⟨vs, hv⟩ := hf
      obtain ⟨mA, ⟨od, es, ep, ho, _⟩, _⟩ := I.hok dd _ hd
      have J : PySem.W.InstAt s.heap a oe D (some od) := ⟨hget, hz.1, by unfold PySem.W.notCls; rw [hv] <;> rfl, by rw [hz.2]; exact ho⟩
      exact PySem.W.kia_one (PySem.W.kitx_exc C.hcl C.hg C.hk C.hs C.ha C.hn C.ht C.hm) I.kIn J e (fun z => nomatch z) fun tk => ⟨.bl b, H, I.kept (t' := tk) fun _ _ z => z, rfl, q⟩
/-! ### own errors with one field -/
/-- the promise of def __init__(self, f): self.f = f -/
def spErr (K : PySem.W.Frag) (C : Addr) (f : Str) : Sp := fun vs H Q _ => ∃ (a : Addr) (v : V), vs = [.ref a, v] ∧ H a = some (exo a C none) ∧ ∀ dx, H dx = none → dx ≠ a → Q .non (upd (upd H dx (exd dx [(f, v)])) a (exo a C (some dx)))
/-- what the heap is behind the making of such an error -/
theorem err_heap {H : Hp} {a d : Addr} {o1 o2 o3 o4 : HO} (ha : H a = none) (hda : d ≠ a) : upd (L2.del (upd (upd (upd H a o1) d o2) a o3) a) d o4 = upd H d o4 := by
  funext b
  by_cases hb : b = d
  · subst hb; rw [upd_same, upd_same]
  · rw [upd_ne hb, upd_ne hb]
    by_cases hba : b = a
    · subst hba; rw [L2.del_same, ha]
    · rw [L2.del_ne hba, upd_ne hba, upd_ne hb, upd_ne hba]
/-- X(e), X an own error with one field, to be raised: its dict d is new -/
theorem mkO_of {K : PySem.W.Frag} {C : Addr} {f : Str} {te : TE} {σ : L2.St} {H : Hp} {W : XK} (h : te σ H fun v H1 => ∀ d, H1 d = none → W (.ref C) (some d) (upd H1 d (.xd [(f, v)]))) (mono : ∀ (Q Q' : VK), (∀ v H', Q v H' → Q' v H') → te σ H Q → te σ H Q') :
    tMkO C (spErr K C f) [] (tCons te tNil) σ H W := by
  refine mono _ _ (fun v H1 q => ?_) h
  refine ⟨by show 1 ≤ 1000; decide, fun a ha => ⟨a, v, rfl, upd_same, fun dx hdx hne => ⟨rfl, dx, [(f, v)], upd_same, by rw [upd_ne hne]; exact upd_same, ?_, ?_⟩⟩⟩
  · rw [upd_ne hne] at hdx; exact hdx
  · rw [err_heap ha hne]
    exact q dx (by rw [upd_ne hne] at hdx; exact hdx)
/-! ### == of two instances by their own __eq__ -/
section
variable {X : Cx} {CX : CXT} {k : Nat} {f C : Addr} {fd : FuncData} {ps : List Str} {sp : Sp}
def rEqOwn (C : Addr) (sp : Sp) : R2 := fun x y H Q => ∃ a b dx dy fs gs, x = .ref a ∧ y = .ref b ∧ H a = some (.ins C dx fs) ∧ H b = some (.ins C dy gs) ∧ sp [.ref a, .ref b] H (fun v H' => ∃ c, v = .bl c ∧ Q (.bl c) H') E0
theorem op_eqOwn (F : FnOk X.prog X.w X.K X.mg X.base CX k f fd ps sp) (hs : PySem.W.findIn X.K (.ref C) "__eq__" = some (some (.ref f))) (hf : PySem.W.isFn X.K (.ref f) = true) (hb : Binds X.K fd ps []) (hx : Passes CX X E0) (hr : Room k X.A) : OpR X (compareOp .Eq) (rEqOwn C sp) := by
  intro pins s σ H x y u v Q I rx ry h
  obtain ⟨a, b, dx, dy, fs, gs, rfl, rfl, ha, hb', hsp⟩ := h
  cases rx
  cases ry
  obtain ⟨mA, J, _⟩ := ins_get I.hok ha
  obtain ⟨mB, J', _⟩ := ins_get I.hok hb'
  obtain ⟨od, J, _⟩ := J.look
  obtain ⟨od', J', _⟩ := J'.look
  obtain ⟨m, hF⟩ := I.fr
  show wpAny (model X.prog X.w) X.A (richCompare .Eq (.ref a) (.ref b)) (EP X pins σ Q) X.xe s
  refine PySem.W.cmp_K (op := .Eq) (tb := .ref C) hr.units0 hF I.ok.mod.kin J J'.type (by simp [PySem.W.notFirst]) hs hf ?_
  have hl := F.len _ _ _ _ hsp
  have r2 : Vals [V.ref a, V.ref b] [Value.ref a, Value.ref b] := .cons rfl (.cons rfl .nil)
  refine wpAny_call (codeAny_mono (F.run X.A X.stack s H ⟨[.ref a, .ref b], []⟩ [.ref a, .ref b] [.ref a, .ref b] _ E0 hr I.env0 (by
    have := hb s [.ref a, .ref b] I.kIn (by simpa using hl)
    simpa using this) r2 hsp) fun r s' hq => ?_)
  cases r with
  | error e => exact hx pins σ H s e s' I hq
  | ok fl =>
    cases fl with
    | ret w =>
      obtain ⟨z, H', I', rz, c, ez, q⟩ := I.after hq
      subst ez
      cases rz
      exact ⟨.bl c, H', I', rfl, q⟩
    | next => exact False.elim hq
    | brk => exact False.elim hq
    | cont => exact False.elim hq
end
end CA
namespace CA
open PySem L2
/-! ### walks, for comprehensions of any depth -/
theorem walk_tup {K : PySem.W.Frag} {a : Addr} {xs : List V} {H0 : Hp} {Body : V → Hp → (Hp → Prop) → Prop} {Qd : Hp → Prop} (Pv : Nat → Hp → Prop) (h0 : Pv 0 H0) (hl : ∀ i H, i ≤ xs.length → Pv i H → SqT K H a xs)
    (hs : ∀ i x H, xs[i]? = some x → Pv i H → Body x H (Pv (i + 1))) (hd : ∀ H, Pv xs.length H → Qd H) :
    ∃ W : Nat → Nat → Hp → Prop, (∃ m, W 0 m H0) ∧ ∀ i m H, W i m H →
      ((Itt K a).stop i H ∧ Qd H) ∨ ((Itt K a).go i H ∧ ∃ Nx : Hp → Prop, (∀ H', Nx H' → ∃ m', m' < m ∧ W (i + 1) m' H') ∧ ∀ x H', (Itt K a).yld i H x H' → Body x H' Nx) := by
  refine ⟨fun i m H => m = xs.length - i ∧ i ≤ xs.length ∧ Pv i H, ⟨xs.length, by simp, Nat.zero_le _, h0⟩, ?_⟩
  rintro i m H ⟨rfl, hi, p⟩
  have q := hl i H hi p
  by_cases hlt : i < xs.length
  · refine .inr ⟨⟨xs, xs[i], q, by simp [hlt]⟩, Pv (i + 1), fun H' p' => ⟨xs.length - (i + 1), by omega, rfl, hlt, p'⟩, fun x H' y => ?_⟩
    obtain ⟨e, y⟩ := y
    subst e
    exact hs i x _ (y xs q) p
  · have e : i = xs.length := by omega
    subst e
    exact .inl ⟨⟨xs, q, Nat.le_refl _⟩, hd H p⟩
theorem walk_list {K : PySem.W.Frag} {a : Addr} {xs : List V} {H0 : Hp} {Body : V → Hp → (Hp → Prop) → Prop} {Qd : Hp → Prop} (Pv : Nat → Hp → Prop) (h0 : Pv 0 H0) (hl : ∀ i H, i ≤ xs.length → Pv i H → SqL K H a xs)
    (hs : ∀ i x H, xs[i]? = some x → Pv i H → Body x H (Pv (i + 1))) (hd : ∀ H, Pv xs.length H → Qd H) :
    ∃ W : Nat → Nat → Hp → Prop, (∃ m, W 0 m H0) ∧ ∀ i m H, W i m H →
      ((Itl K a).stop i H ∧ Qd H) ∨ ((Itl K a).go i H ∧ ∃ Nx : Hp → Prop, (∀ H', Nx H' → ∃ m', m' < m ∧ W (i + 1) m' H') ∧ ∀ x H', (Itl K a).yld i H x H' → Body x H' Nx) := by
  refine ⟨fun i m H => m = xs.length - i ∧ i ≤ xs.length ∧ Pv i H, ⟨xs.length, by simp, Nat.zero_le _, h0⟩, ?_⟩
  rintro i m H ⟨rfl, hi, p⟩
  have q := hl i H hi p
  by_cases hlt : i < xs.length
  · refine .inr ⟨⟨xs, xs[i], q, by simp [hlt]⟩, Pv (i + 1), fun H' p' => ⟨xs.length - (i + 1), by omega, rfl, hlt, p'⟩, fun x H' y => ?_⟩
    obtain ⟨e, y⟩ := y
    subst e
    exact hs i x _ (y xs q) p
  · have e : i = xs.length := by omega
    subst e
    exact .inl ⟨⟨xs, q, Nat.le_refl _⟩, hd H p⟩
theorem walk_range {lo : Int} {n : Nat} {H0 : Hp} {Body : V → Hp → (Hp → Prop) → Prop} {Qd : Hp → Prop} (Pv : Nat → Hp → Prop) (h0 : Pv 0 H0)
    (hs : ∀ i H, i < n → Pv i H → Body (.int (lo + i)) H (Pv (i + 1))) (hd : ∀ H, Pv n H → Qd H) :
    ∃ W : Nat → Nat → Hp → Prop, (∃ m, W 0 m H0) ∧ ∀ i m H, W i m H →
      ((Itr lo n).stop i H ∧ Qd H) ∨ ((Itr lo n).go i H ∧ ∃ Nx : Hp → Prop, (∀ H', Nx H' → ∃ m', m' < m ∧ W (i + 1) m' H') ∧ ∀ x H', (Itr lo n).yld i H x H' → Body x H' Nx) := by
  refine ⟨fun i m H => m = n - i ∧ i ≤ n ∧ Pv i H, ⟨n, by simp, Nat.zero_le _, h0⟩, ?_⟩
  rintro i m H ⟨rfl, hi, p⟩
  by_cases hlt : i < n
  · refine .inr ⟨hlt, Pv (i + 1), fun H' p' => ⟨n - (i + 1), by omega, rfl, hlt, p'⟩, fun x H' y => ?_⟩
    obtain ⟨e, y⟩ := y
    subst e y
    exact hs i _ hlt p
  · have e : i = n := by omega
    subst e
    exact .inl ⟨Nat.le_refl _, hd H p⟩
end CA
/-! Sets of texts: what one is, add, in, sorted, the comprehension, set() of a tuple or a list of texts. -/
namespace CA
open PySem PySem.Spec PyProof.Rows L2 PySem.Froz

/-- an entry of the table -/
def ent (w : World) (p : PySem.Str × Tok) : Int × Value := (hashStr w p.1, .str p.1 p.2)
structure SetD (P : Program) (w : World) (D : SD) (l : List PySem.Str) : Prop where
  ok : TxOk P w D l
  pm : ∃ ps : List (PySem.Str × Tok), D.1.toList.Perm (ps.map (ent w)) ∧ ps.map (·.1) = l
  nd : l.Nodup
  ris : Ris D.2.2.place.toList
  led : w.params.followText "set-order" = true ∨ D.2.2.led = true
/-- the set of the texts l at a -/
def SetS (P : Program) (w : World) (h : Heap) (a : Addr) (l : List PySem.Str) : Prop := ∃ D, h.get? a = some (sObj "set" D) ∧ SetD P w D l
def addL (k : PySem.Str) (l : List PySem.Str) : List PySem.Str := if k ∈ l then l else k :: l

section
variable {P : Program} {w : World} {h h' : Heap} {a : Addr} {l : List PySem.Str}
theorem SetS.at (R : SetS P w h a l) (k : ∀ o, h.get? a = some o → h'.get? a = some o) : SetS P w h' a l := by
  obtain ⟨D, ho, r⟩ := R
  exact ⟨D, k _ ho, r⟩
theorem SetS.lt (R : SetS P w h a l) : a < h.objs.size := by
  obtain ⟨D, ho, r⟩ := R
  exact Heap.lt_size ho

theorem tail_perm (ep : Nat) (es1 : Array (Int × Value)) (t2 : SetTable) (d : Bool) : (tailTx ep es1 t2 d).1.toList.Perm es1.toList := by
  unfold tailTx
  split
  · exact relayAll_perm _ _ _
  · exact List.Perm.refl _
theorem tail_ris (ep : Nat) (es1 : Array (Int × Value)) (t2 : SetTable) (d : Bool) (r : Ris t2.place.toList) : Ris (tailTx ep es1 t2 d).2.2.place.toList := by
  unfold tailTx
  split
  · exact relayAll_ris _ _ _
  · exact r
theorem tail_led (ep : Nat) (es1 : Array (Int × Value)) (t2 : SetTable) (d : Bool) : (tailTx ep es1 t2 d).2.2.led = t2.led := by
  unfold tailTx
  split
  · exact relayAll_led _ _ _
  · rfl
theorem SetD.more {D : SD} (F : SetD P w D l) {k : PySem.Str} (u : Tok) (hk : k ∉ l) : SetD P w (addTx (hashStr w k) (.str k u) D) (k :: l) := by
  obtain ⟨ok, ⟨ps, pm, pl⟩, nd, ris, led⟩ := F
  have p1 := layNew_perm D.2.2 D.1 (hashStr w k) (.str k u)
  have r1 := layNew_ris D.2.2 D.1 (hashStr w k) (.str k u) ris
  have l1 := layNew_led D.2.2 D.1 (hashStr w k) (.str k u)
  rw [Array.toList_push] at p1
  have p2 : (layNew D.2.2 D.1 (hashStr w k) (.str k u)).1.toList.Perm (((k, u) :: ps).map (ent w)) :=
    (p1.trans (List.perm_append_singleton _ _)).trans (List.Perm.cons _ pm)
  refine ⟨add_ok u ok, ⟨(k, u) :: ps, (tail_perm _ _ _ _).trans p2, by rw [List.map_cons, pl]⟩, List.nodup_cons.mpr ⟨hk, nd⟩, tail_ris _ _ _ _ ?_, led.imp id fun z => (tail_led _ _ _ _).trans ?_⟩
  · split
    · exact r1
    · exact r1
  · split
    · exact l1.trans z
    · exact l1.trans z
theorem SetS.setOf (R : SetS P w h a l) (hb : l.length < scanBound) : h.SetOf (PySem.strKind P w) a (fun k => decide (k ∈ l)) l.length := by
  obtain ⟨D, ho, r⟩ := R
  have e : D.1.size = l.length := r.ok.sz
  exact ⟨_, D.1, D.2.1, D.2.2, ho, ⟨rfl, rfl, rfl⟩, rfl, r.ok.el, fun k => by rw [decide_eq_true_eq]; exact r.ok.mem k, by rw [e]; exact hb, r.ok.fit, e⟩
theorem setS_fresh {h : Heap} (P : Program) (w : World) : SetS P w (h.push { cls := .type "set", dict := none, data := .set #[] 0 (.fresh 0 0 (!w.params.followText "set-order")) }) h.objs.size [] :=
  ⟨(#[], 0, .fresh 0 0 (!w.params.followText "set-order")), Heap.get?_push_size _ rfl, TxOk.nil rfl, ⟨[], List.Perm.refl _, rfl⟩, List.nodup_nil, List.Pairwise.nil, by
    show _ ∨ (!w.params.followText "set-order") = true
    cases w.params.followText "set-order"
    · exact .inr rfl
    · exact .inl rfl⟩
end

section
variable {P : Program} {w : World} {A : Around} {E : Value → Shared → Prop} {s : Shared} {a : Addr} {l : List PySem.Str}
theorem has_hashed {k : PySem.Str} {u : Tok} {Q : Bool → Shared → Prop} (R : SetS P w s.heap a l) (hb : l.length < scanBound) (hk : k ∈ l) (hQ : Q false s) :
    wpAny (model P w) A (setAddHashed a (.str k u) (hashStr w k)) Q E s := by
  obtain ⟨⟨es, ep, t⟩, ho, F, -, -, -, -⟩ := R
  have hd : (sObj "set" (es, ep, t)).data = .set es ep t := rfl
  have hel : ElemsOf (PySem.strKind P w) es.toList := F.el
  have hsz : es.size = l.length := F.sz
  have hf : t.fits es.size = true := F.fit
  have hkey : (PySem.strKind P w).is k (.str k u) = true := is_str k u
  obtain ⟨e, he, hq⟩ := (F.mem k).mp hk
  unfold setAddHashed setAddHashedIn
  refine wpAny_holding (wpAny_bind (wpAny_setState_of ho hd hf ?_))
  dsimp only
  rw [byScan_of rfl (by omega) hel]
  simp only [↓reduceIte]
  unfold setAddByScan
  refine wpAny_bind (wpAny_bind (wpAny_rule (wpAny_bind (wpAny_setScan_of hkey ho hd hf hel ?_))))
  cases hfi : List.findIdx? (fun e => (PySem.strKind P w).is k e.2) es.toList with
  | some j => exact wpAny_pure (wpAny_pure hQ)
  | none =>
    have c := List.findIdx?_eq_none_iff.mp hfi e he
    rw [hq] at c
    cases c
theorem setS_hashed {k : PySem.Str} {u : Tok} {Q : Bool → Shared → Prop} (R : SetS P w s.heap a l) (hb : l.length + 1 < scanBound)
    (hQ : ∀ b h', Heap.SameBut a s.heap h' → SetS P w h' a (addL k l) → Q b { s with heap := h' }) :
    wpAny (model P w) A (setAddHashed a (.str k u) (hashStr w k)) Q E s := by
  unfold addL at hQ
  by_cases hk : k ∈ l
  · rw [if_pos hk] at hQ
    exact has_hashed R (by omega) hk (hQ false s.heap (Heap.SameBut.refl a s.heap) R)
  · rw [if_neg hk] at hQ
    obtain ⟨D, ho, F⟩ := R
    refine add_x ho F.ok hk hb (hQ true _ (Heap.SameBut.update s.heap a _) ⟨_, get_upd _ ho rfl, F.more u hk⟩)
/-- found.add(k) -/
theorem setS_add {k : PySem.Str} {u : Tok} {Q : Value → Shared → Prop} (R : SetS P w s.heap a l) (hb : l.length + 1 < scanBound)
    (hQ : ∀ h', Heap.SameBut a s.heap h' → SetS P w h' a (addL k l) → Q .none { s with heap := h', toks := s.toks + 1 }) :
    wpAny (model P w) A (call (.builtin "set.add") [.ref a, .str k u]) Q E s := by
  have hS := R.setOf (by omega)
  refine wpAny_call_entry PySem.F.slot_set_add hS.typeIs PySem.F.entry_set_add ?_ (PySem.F.args_set_add_2 _ _)
  unfold Builtin.«set.add» Builtin.Frozenset.oneOther
  simp only [List.isEmpty_nil, bind_assoc]
  unfold Builtin.Frozenset.addrOf setAdd
  refine wpAny_bind (wpAny_pure ?_)
  try dsimp only
  refine wpAny_bind (wpAny_pure ?_)
  try dsimp only
  refine wpAny_bind (wpAny_holding (wpAny_bind ((PySem.strKind P w).pyHash (is_str k u) ?_)))
  refine setS_hashed (s := { s with toks := s.toks + 1 }) R hb fun b h' sb r => ?_
  show wpAny _ _ (ret Value.none) _ _ _
  exact wpAny_pure ⟨_, rfl, hQ h' sb r⟩
end
end CA
/-! Comprehensions of any kind and depth: the turn's last step (the leaf) is a parameter. -/
namespace CA
open PySem PySem.Spec L2
open PyProof.Rows hiding St

abbrev Leaf := Value → Env → Sem Unit
/-- a turn of the k-th clause of cx, whose last step is the leaf -/
def turnOf (cx : Expr) (k : Nat) (t0 iter : Expr) (ifs : List Expr) (leaf : Leaf) (it acc : Value) (env : Env) : Sem PySem.Fin := do
  standAt iter.pos
  match ← pyNext it with
  | none => pure (.done .next)
  | some v =>
    letOwnedTupleGo t0 it v
    assign t0 env v
    let mut ok := true
    for c in ifs do
      if ok then ok ← isTrue c env (eval c env)
    if ok then
      leaf acc env
    again (.compLoop cx k it acc env)

/-- the k-th clause's loop runs such turns -/
structure IsTurn (prog : Program) (w : World) (cx : Expr) (k : Nat) (t0 iter : Expr) (ifs : List Expr) (leaf : Leaf) : Prop where
  q : ∀ (it : Value) (D : Addr) (env : Env), (Code.compLoop cx k it (.ref D) env).quiet = true
  u : ∀ (A : Around) (it : Value) (D : Addr) (env : Env), A.under (Code.compLoop cx k it (.ref D) env) = A
  d : ∀ (it : Value) (D : Addr) (env : Env), (model prog w).den (.compLoop cx k it (.ref D) env) = (turnOf cx k t0 iter ifs leaf it (.ref D) env).onRaise (fun x => do noteFrame x env; theTreesLotGoes x)
theorem loopG {prog : Program} {w : World} {A : Around} {R : Result → Shared → Prop} {s : Shared} {cx : Expr} {k : Nat} {t0 iter : Expr} {ifs : List Expr} {leaf : Leaf} {it : Value} {D : Addr} {env : Env}
    (hT : IsTurn prog w cx k t0 iter ifs leaf) (I : Nat → Shared → Prop)
    (turn : ∀ n s, I n s → wpAny (model prog w) A (pyNext it) (fun r s₁ => match r with
      | none => R (.ok .next) s₁
      | some v => wpAny (model prog w) A (letOwnedTupleGo t0 it v) (fun _ s₁' => wpAny (model prog w) A (assign t0 env v) (fun _ s₂ =>
          wpAny (model prog w) A (forIn ifs true fun c r => if r = true then do let ok ← isTrue c env (eval c env); pure (ForInStep.yield ok) else pure (ForInStep.yield r)) (fun ok s₃ =>
            if ok = true then wpAny (model prog w) A (leaf (.ref D) env) (fun _ s₄ => ∃ m, m < n ∧ I m s₄) (fun _ _ => False) s₃
            else ∃ m, m < n ∧ I m s₃) (fun _ _ => False) s₂) (fun _ _ => False) s₁') (fun _ _ => False) s₁) (fun _ _ => False) s)
    (n : Nat) (h : I n s) : codeAny (model prog w) A (.compLoop cx k it (.ref D) env) R s := by
  refine codeAny_loop (hT.q _ _ _) I (fun n s hI => ?_) n h
  rw [hT.u, hT.d]
  refine wpAny_noted ?_
  unfold turnOf
  refine wpAny_bind (wpAny_standAt (wpAny_bind (thnF (turn n s hI) fun r s₁ h₁ => ?_)))
  cases r with
  | none => exact wpAny_pure h₁
  | some v =>
    refine wpAny_bind (thnF h₁ fun _ s₁' h₁' => ?_)
    refine wpAny_bind (thnF h₁' fun _ s₂ h₂ => wpAny_bind (thnF h₂ fun ok s₃ h₃ => ?_))
    cases ok with
    | false => exact wpAny_pure ⟨rfl, h₃⟩
    | true => exact wpAny_bind (thnF h₃ fun _ s₄ h₄ => wpAny_pure ⟨rfl, h₄⟩)

/-- σ' knows what σ knows, but for the slots vs -/
def KeepS (vs : List Nat) (σ σ' : St) : Prop := σ'.length = σ.length ∧ ∀ (i : Nat) v, i ∉ vs → σ[i]? = some (some v) → σ'[i]? = some (some v)
theorem KeepS.refl (vs : List Nat) (σ : St) : KeepS vs σ σ := ⟨rfl, fun _ _ _ e => e⟩
/-- the turn's last step, in the block Y: D what is gathered -/
structure PLf (Y : Cx) (leaf : Leaf) (vs : List Nat) (tl : Addr → St → Hp → (Hp → Prop) → Prop) : Prop where
  run : ∀ (pins : List (Addr × Obj)) (s : Shared) (σ : St) (H : Hp) (D : Addr) (Nx : Hp → Prop), Inv Y pins σ H s → tl D σ H Nx →
    wpAny (model Y.prog Y.w) Y.A (leaf (.ref D) Y.env) (fun _ s' => ∃ σ' H', Inv Y pins σ' H' s' ∧ KeepS vs σ σ' ∧ Nx H') (fun _ _ => False) s
abbrev TL := Addr → St → Hp → (Hp → Prop) → Prop
/-- what the loop of one clause is asked: from H3 to Qd -/
def tLoop (J : It) (g : TG) (tt : TT) (tl : TL) (vs : List Nat) (D : Addr) (σ : St) (H3 : Hp) (Qd : Hp → Prop) : Prop :=
  ∃ W : Nat → Nat → Hp → Prop, (∃ m, W 0 m H3) ∧ ∀ i m H, W i m H →
    (J.stop i H ∧ Qd H) ∨ (J.go i H ∧ ∃ Nx : Hp → Prop, (∀ H', Nx H' → ∃ m', m' < m ∧ W (i + 1) m' H') ∧ ∀ x H', J.yld i H x H' → g x (wipe σ vs) H' fun σ2 H2 => wipe σ2 vs = wipe σ vs ∧ tt σ2 H2 fun b H3 =>
      if b = true then tl D σ2 H3 Nx else Nx H3)
section
variable {Y : Cx}
theorem blk_loop {cx : Expr} {k : Nat} {t0 iter : Expr} {ifs : List Expr} {leaf : Leaf} {it D : Addr} {g : TG} {tt : TT} {tl : TL} {vs vl : List Nat} {p : List (Addr × Obj)} {σ : St} {H3 : Hp} {s : Shared} {fp : List Addr} {J : It} {tn : Nat → Heap → Prop} {Qd : Hp → Prop} {R : Result → Shared → Prop}
    (hc : Y.calm = true) (hx : Y.xe = fun _ _ => False) (hT : IsTurn Y.prog Y.w cx k t0 iter ifs leaf) (hv : ∀ i ∈ vl, i ∈ vs)
    (pg : PG Y t0 g) (pt : PTs Y ifs tt) (pl : PLf Y leaf vl tl) (I : Inv Y p (wipe σ vs) H3 s) (T : Turn Y.prog Y.w Y.K t0 J fp it tn) (st0 : tn 0 s.heap) (hf : ∀ b ∈ fp, FpOk Y p H3 b)
    (h : tLoop J g tt tl vs D σ H3 Qd) (hR : ∀ s' H', Inv Y p (wipe σ vs) H' s' → Qd H' → R (.ok .next) s') :
    codeAny (model Y.prog Y.w) Y.A (.compLoop cx k (.ref it) (.ref D) Y.env) R s := by
  obtain ⟨W, ⟨m0, w0⟩, turn⟩ := h
  have stat : ∀ {H' : Hp}, (∀ b ∈ fp, H' b = none) → ∀ b ∈ fp, FpOk Y p H' b := fun hn b hb => ⟨hn b hb, (hf b hb).2⟩
  refine loopG hT (fun n s' => ∃ i H', Inv Y p (wipe σ vs) H' s' ∧ tn i s'.heap ∧ (∀ b ∈ fp, H' b = none) ∧ W i n H') ?_ m0 ⟨0, H3, I, st0, fun b hb => (hf b hb).1, w0⟩
  rintro n s5 ⟨i, H5, I5, st5, n5, w5⟩
  rcases turn i n H5 w5 with ⟨stop, qq⟩ | ⟨go, Nx, hNx, step⟩
  · refine wpAny_mono (T.done Y rfl rfl rfl hc i p s5 _ H5 (fun _ _ => False) I5 (stat n5) st5 stop) (fun r s6 ⟨hr, I6⟩ => ?_) fun _ _ z => z
    subst hr
    exact hR s6 H5 I6 qq
  · refine wpAny_mono (T.item Y rfl rfl rfl hc i p s5 _ H5 (fun _ _ => False) I5 (stat n5) st5 go) (fun r s6 ⟨u, hr, h6⟩ => ?_) fun _ _ z => z
    subst hr
    refine wpAny_mono h6 (fun _ s7 ⟨x, H7, I7, r7, y7, st7, n7⟩ => ?_) fun _ _ z => z
    have I7' := I7.pinned (stat n7) (T.obj _ _ st7)
    have z1 := pg.run _ s7 _ H7 x u _ I7' r7 (step x H7 y7)
    rw [hx] at z1
    refine wpAny_mono z1 (fun _ s8 ⟨σ8, H8, I8, hw8, q8⟩ => ?_) fun _ _ z => z
    have z2 := pt.run _ s8 σ8 H8 _ I8 q8
    rw [hx] at z2
    refine wpAny_mono z2 (fun b s9 ⟨H9, I9, q9⟩ => ?_) fun _ _ z => z
    have fin : ∀ {σ' : St} {s' : Shared} {H' : Hp}, Inv Y (p ++ pinsAt fp s7.heap) σ' H' s' → KeepS vl σ8 σ' → Nx H' → ∃ m, m < n ∧ ∃ i H', Inv Y p (wipe σ vs) H' s' ∧ tn i s'.heap ∧ (∀ b ∈ fp, H' b = none) ∧ W i m H' := fun {σ' s' H'} I' ks nx => by
      obtain ⟨m', hm, w'⟩ := hNx H' nx
      have pin' : ∀ b ∈ fp, ∀ o, s7.heap.get? b = some o → s'.heap.get? b = some o ∧ H' b = none := fun b hb o e =>
        let z := I'.pin (b, o) (List.mem_append_right _ (List.mem_append_right _ (mem_pinsAt hb e)))
        ⟨z.1, z.2.1⟩
      have hl : (wipe σ vs).length = σ'.length := by rw [ks.1, ← hw8, wipe_length]
      refine ⟨m', hm, i + 1, H', I'.unpinned.weak hl (fun j v e => ?_), T.keep _ _ _ st7 fun b hb o e => (pin' b hb o e).1, fun b hb => ?_, w'⟩
      · rw [← hw8] at e
        obtain ⟨e1, e2⟩ := wipe_some e
        exact ks.2 j v (fun z => e2 (hv j z)) e1
      · obtain ⟨o, e, _⟩ := T.obj _ _ st7 b hb
        exact (pin' b hb o e).2
    cases b with
    | false =>
      simp only [Bool.false_eq_true, if_false] at q9 ⊢
      exact fin I9 (KeepS.refl _ _) q9
    | true =>
      simp only [if_true] at q9 ⊢
      exact wpAny_mono (pl.run _ s9 σ8 H9 D Nx I9 q9) (fun _ s10 ⟨σ', H', I', ks, nx⟩ => fin I' ks nx) fun _ _ z => z
/-- the leaf that is a clause of its own -/
def leafIn (cx : Expr) (k : Nat) (iter : Expr) : Leaf := fun acc env => do
  let x ← eval iter env
  standAt iter.pos
  let x ← foldedSetIterable iter env x
  let _ ← runOwn (.compStart cx k (← holding [x] (pyIter x)) acc env) env
def tIn (wi : TI) (g : TG) (tt : TT) (tl : TL) (vs : List Nat) : TL := fun D σ H Nx => wi σ H fun J H1 => tLoop J g tt tl vs D σ H1 Nx
theorem pl_in {cx : Expr} {k : Nat} {t0 iter : Expr} {ifs : List Expr} {leaf : Leaf} {wi : TI} {g : TG} {tt : TT} {tl : TL} {vs vl : List Nat} (hc : Y.calm = true) (hx : Y.xe = fun _ _ => False) (hT : IsTurn Y.prog Y.w cx k t0 iter ifs leaf) (hv : ∀ i ∈ vl, i ∈ vs)
    (hS : ∀ (R : Result → Shared → Prop) (s : Shared) (it : Value) (D : Addr) (env : Env), codeAny (model Y.prog Y.w) Y.A (.compLoop cx k it (.ref D) env) R s → wpAny (model Y.prog Y.w) Y.A (pyIter it) (fun it' s' => codeAny (model Y.prog Y.w) Y.A (.compLoop cx k it' (.ref D) env) R s')
      (notedBy (model Y.prog Y.w) Y.A env fun x s' => R (.error x) s') s → codeAny (model Y.prog Y.w) Y.A (.compStart cx k it (.ref D) env) R s)
    (hi : PI Y t0 iter wi) (hs : ∀ env x, foldedSetIterable iter env x = pure x) (pg : PG Y t0 g) (pt : PTs Y ifs tt) (pl : PLf Y leaf vl tl) : PLf Y (leafIn cx k iter) vs (tIn wi g tt tl vs) := by
  refine ⟨fun p s σ H D Nx I h => ?_⟩
  unfold leafIn
  have z1 := hi.run p s σ H _ I h
  rw [hx] at z1
  refine wpAny_bind (wpAny_mono z1 (fun xv s1 h1 => ?_) fun _ _ z => z)
  refine wpAny_bind (wpAny_standAt (wpAny_bind (wpAny_of_eq (hs _ xv) ?_)))
  refine wpAny_bind (wpAny_holding (wpAny_mono h1 (fun itv s2 h2 => ?_) fun _ _ z => z))
  obtain ⟨it, fp, tn, J, H2, e, I2, T, st2, f2, q⟩ := h2
  subst e
  refine wpAny_bind (wpAny_runOwn ?_)
  rw [Around.mark_none]
  have loop : codeAny (model Y.prog Y.w) Y.A (.compLoop cx k (.ref it) (.ref D) Y.env) (fun r s' => match r with
      | .ok _ => ∃ H', Inv Y p (wipe σ vs) H' s' ∧ Nx H'
      | .error _ => False) s2 := blk_loop hc hx hT hv pg pt pl (I2.weak (wipe_length _ _) (fun j v e => (wipe_some e).1)) T st2 f2 q fun s' H' I' q' => ⟨H', I', q'⟩
  refine codeAny_mono (hS _ _ _ _ _ loop (T.self Y.A 0 _ _ _ st2 loop)) fun r s' hr => ?_
  cases r with
  | ok f =>
    obtain ⟨H', I', nx⟩ := hr
    first
      | exact wpAny_pure ⟨_, H', I', ⟨wipe_length _ _, fun i v hi e => by rw [wipe_out hi]; exact e⟩, nx⟩
      | exact wpAny_bind (wpAny_pure (wpAny_pure ⟨_, H', I', ⟨wipe_length _ _, fun i v hi e => by rw [wipe_out hi]; exact e⟩, nx⟩))
  | error e => exact hr.elim
end
section
variable {X : Cx}
/-- a comprehension's value: ho what is new at D -/
def tGc (wi : TI) (g : TG) (tt : TT) (tl : TL) (vs : List Nat) (ho : Addr → HO) : TE := fun σ H Q => wi σ H fun J H1 => ∀ D, H1 D = none → tLoop J g tt tl vs D σ (upd H1 D (ho D)) fun H' => Q (.ref D) H'
theorem gc_core {cx : Expr} {gs : List Comprehension} {tg iter : Expr} {ifs : List Expr} {leaf : Leaf} {scope : Scope} {own : List (PySem.Str × Nat)} {vl : List Nat} {pos' : Pos} {newAcc : Sem Value} {o : Obj} {ho : Addr → HO} {wi : TI} {g : TG} {tt : TT} {tl : TL} {use : Option (Value → Sem Unit)} {Qf : Value → Shared → Prop}
    {pins : List (Addr × Obj)} {s : Shared} {σ : L2.St} {H : Hp} {Q : VK}
    (hcl : clausesOf cx = ⟨tg, iter, ifs, 0⟩ :: gs) (hT : IsTurn X.prog X.w cx 0 tg iter ifs leaf)
    (hS : ∀ (R : Result → Shared → Prop) (s : Shared) (it : Value) (D : Addr) (env : Env), codeAny (model X.prog X.w) X.A (.compLoop cx 0 it (.ref D) env) R s → wpAny (model X.prog X.w) X.A (pyIter it) (fun it' s' => codeAny (model X.prog X.w) X.A (.compLoop cx 0 it' (.ref D) env) R s')
      (notedBy (model X.prog X.w) X.A env fun x s' => R (.error x) s') s → codeAny (model X.prog X.w) X.A (.compStart cx 0 it (.ref D) env) R s)
    (hnew : ∀ (E : Value → Shared → Prop) (s : Shared) (Q' : Value → Shared → Prop), Q' (.ref s.heap.objs.size) { s with heap := s.heap.push o } → wpAny (model X.prog X.w) X.A newAcc Q' E s)
    (hok : ∀ (H : Hp) (h : Heap), sysModules < h.objs.size → ObjOk X.prog X.w H (h.push o) h.objs.size (ho h.objs.size))
    (hc : X.calm = true) (hN : X.N.Nodup) (I : Inv X pins σ H s) (hi : PI X tg iter wi) (ok : BlkOk X.N X.env.scope scope own) (hv : ∀ i ∈ vl, i ∈ own.map (·.2))
    (hg : ∀ (s : Shared) (H : Hp) (C : Addr) (cl : List (PySem.Str × Addr)) (fp : List Addr), PG (X.blk s H scope (compEnvC scope cl C X.env) fp) tg g)
    (ht : ∀ (s : Shared) (H : Hp) (C : Addr) (cl : List (PySem.Str × Addr)) (fp : List Addr), PTs (X.blk s H scope (compEnvC scope cl C X.env) fp) ifs tt)
    (hl : ∀ (s : Shared) (H : Hp) (C : Addr) (cl : List (PySem.Str × Addr)) (fp : List Addr), PLf (X.blk s H scope (compEnvC scope cl C X.env) fp) leaf vl tl)
    (hs : ∀ x, foldedSetIterable iter X.env x = pure x) (h : tGc wi g tt tl (own.map (·.2)) ho σ H Q)
    (hRR : ∀ D C s' m H', Inv X pins σ H' s' → Q (.ref D) H' → s'.heap.Ns C m → FpOk X pins H' C → compPost (model X.prog X.w) X.A X.xe use Qf (.ref D) C (.ok .next) s') :
    wpAny (model X.prog X.w) X.A (comprehension cx scope X.env pos' newAcc false (eval iter X.env) use) Qf X.xe s := by
  have hfree : ∀ y ∈ scope.names, y.2 = .free → ∃ c, X.env.cells.lookup y.1 = some c := fun y hy e => (ok.free y hy e).elim (fun k => I.ok.has _ (.inl k)) fun k => I.ok.has _ (.inr k)
  refine wpAny_comprehension_free (use := use) hcl hs (closure_ok hfree) ok.kind (fun y hy e => by rw [ok.uniq y hy, e])
    (thn (hi.run pins s σ H _ I h) fun xv s1 hx => thn hx fun itv s2 h2 => ?_)
  obtain ⟨it, fp, tn, J, H2, e, I2, T, st2, f2, q⟩ := h2
  subst e
  refine hnew _ _ _ (newEnv_comp ?_)
  generalize hD : s2.heap.objs.size = D
  have hDn : H2 D = none := I2.hok.fresh (Nat.le_of_eq hD)
  have q := q D hDn
  generalize hs3 : ({ s2 with heap := s2.heap.push o } : Shared) = s3
  have h3 : s3.heap = s2.heap.push o := by rw [← hs3]
  have I3 : Inv X pins σ (upd H2 D (ho D)) s3 := by
    rw [← hs3]
    refine I2.laid (t' := s2.toks) (fun b o e => Heap.get?_push_of_some _ e) (Nat.le_of_eq hD) ?_
    rw [← hD]
    exact hok _ _ I2.big
  have f3 : ∀ b ∈ fp, FpOk X pins (upd H2 D (ho D)) b ∧ b < s3.heap.objs.size := fun b hb => by
    obtain ⟨ob, e, _⟩ := T.obj _ _ st2 b hb
    have hlt := Heap.lt_size e
    refine ⟨⟨?_, (f2 b hb).2⟩, by rw [h3, Heap.size_push]; exact Nat.lt_succ_of_lt hlt⟩
    rw [upd_ne (by rw [← hD]; exact Nat.ne_of_lt hlt)]
    exact (f2 b hb).1
  have st3 : tn 0 s3.heap := T.keep _ _ _ st2 fun b _ o e => by rw [h3]; exact Heap.get?_push_of_some _ e
  have I4 := block_start I3 ok hN f3
  have pg := hg s3 (upd H2 D (ho D)) s3.heap.objs.size (cellsFrom (s3.heap.objs.size + 1) scope.names (cloFrom X.env.cells scope.names [])) fp
  have pt := ht s3 (upd H2 D (ho D)) s3.heap.objs.size (cellsFrom (s3.heap.objs.size + 1) scope.names (cloFrom X.env.cells scope.names [])) fp
  have pl := hl s3 (upd H2 D (ho D)) s3.heap.objs.size (cellsFrom (s3.heap.objs.size + 1) scope.names (cloFrom X.env.cells scope.names [])) fp
  show codeAny _ _ (.compStart cx 0 (.ref it) (.ref D) (compEnvC scope (cellsFrom (s3.heap.objs.size + 1) scope.names (cloFrom X.env.cells scope.names [])) s3.heap.objs.size X.env)) (compPost (model X.prog X.w) X.A X.xe use Qf (.ref D) s3.heap.objs.size) { s3 with heap := pushCells (s3.heap.push { cls := .type "dict", data := .dict #[] }) scope.names }
  generalize hce : compEnvC scope (cellsFrom (s3.heap.objs.size + 1) scope.names (cloFrom X.env.cells scope.names [])) s3.heap.objs.size X.env = ce at I4 pg pt pl ⊢
  have cL : ce.locals = s3.heap.objs.size := by subst hce; rfl
  generalize hs4 : ({ s3 with heap := pushCells (s3.heap.push { cls := .type "dict", data := .dict #[] }) scope.names } : Shared) = s4 at I4 ⊢
  have st4 : tn 0 s4.heap := T.keep _ _ _ st3 fun b _ o e => by rw [← hs4]; exact pushCells_keeps _ _ _ _ (Heap.get?_push_of_some _ e)
  have f4 : ∀ b ∈ fp, FpOk (X.blk s3 (upd H2 D (ho D)) scope ce fp) [] (upd H2 D (ho D)) b := fun b hb =>
    ⟨(f3 b hb).1.1, (I4.ok.exf b hb).1, I4.ok.exfs b hb, .inl hb, fun x c e => (I4.ok.exf b hb).2 x c e, fun p hp => absurd (show p ∈ ([] : List (Addr × Obj)) ++ [] from hp) (by simp)⟩
  have loop : codeAny (model X.prog X.w) X.A (.compLoop cx 0 (.ref it) (.ref D) ce) (compPost (model X.prog X.w) X.A X.xe use Qf (.ref D) s3.heap.objs.size) s4 := by
    refine blk_loop (Y := X.blk s3 (upd H2 D (ho D)) scope ce fp) hc rfl hT hv pg pt pl I4 T st4 f4 q fun s6 H5 I6 qq => ?_
    have I7 : Inv X pins σ H5 s6 := I3.call' (ch := fp) I6.os I6.base I6.hok I6.bare fun b hb => ⟨(f3 b hb).1.2.2.2.1, (f3 b hb).1.2.1, (f3 b hb).1.2.2.2.2.1, (f3 b hb).1.2.2.2.2.2⟩
    have nC : H5 s3.heap.objs.size = none := by
      have z : H5 ce.locals = none := I6.free
      rw [cL] at z
      exact z
    obtain ⟨m, hn, _⟩ := I6.loc
    have hn : s6.heap.Ns ce.locals m := hn
    rw [cL] at hn
    exact hRR D s3.heap.objs.size s6 m H5 I7 qq hn (I3.fpOk (Nat.le_refl _) nC)
  exact hS _ _ _ _ _ loop (T.self X.A 0 _ _ _ st4 loop)
end
end CA
/-! Comprehensions of sets of texts, one clause and two, and of dicts whose keys are tuples. -/
namespace CA
open PySem PySem.Spec L2 PySem.Froz
open PyProof.Rows hiding St

/-! ### the tracked set -/
def SetSO (P : Program) (w : World) (a : Addr) (l : List PySem.Str) : HO := .ext fun h => SetS P w h a l
theorem setSO_new {w : World} {P : Program} {H : Hp} {h : Heap} {a : Addr} {l : List PySem.Str} (R : SetS P w h a l) : ObjOk P w H h a (SetSO P w a l) := by
  have ⟨D, ho, _⟩ := R
  exact ⟨R, ⟨_, ho⟩, fun h1 h2 p k => SetS.at p k⟩
section
variable {X : Cx}
theorem setSO_get {pins : List (Addr × Obj)} {σ : L2.St} {H : Hp} {s : Shared} {a : Addr} {l : List PySem.Str} (I : Inv X pins σ H s) (ha : H a = some (SetSO X.prog X.w a l)) : SetS X.prog X.w s.heap a l := (I.hok a _ ha).1
theorem addS_ok {pins : List (Addr × Obj)} {σ : L2.St} {H : Hp} {s : Shared} {E : Value → Shared → Prop} {D : Addr} {l : List PySem.Str} {k : PySem.Str} {u : Tok} {Q : Value → Shared → Prop} (I : Inv X pins σ H s) (hD : H D = some (SetSO X.prog X.w D l)) (room : l.length + 1 < scanBound)
    (h : ∀ s', Inv X pins σ (upd H D (SetSO X.prog X.w D (addL k l))) s' → Q .none s') : wpAny (model X.prog X.w) X.A (call (.builtin "set.add") [.ref D, .str k u]) Q E s := by
  have R := setSO_get I hD
  refine setS_add R room fun h' sb new => ?_
  have he : ∃ u, h'.get? D = some u := by
    have ⟨D', ho, _⟩ := new
    exact ⟨_, ho⟩
  exact h _ (I.write (e := D) (t' := s.toks + 1) (by rw [hD]; trivial) (.inl rfl) (fun b u hb hu => (sb.2 b hb).trans hu) he (setSO_new new))
/-! ### the leaf -/
def leafSet (elt : Expr) : Leaf := fun acc env => do
  let v ← eval elt env
  standAt elt.pos
  let _ ← call (.builtin "set.add") [acc, v]
def tlSet (P : Program) (w : World) (te : TE) : TL := fun D σ H Nx => te σ H fun y H4 => ∃ (k : PySem.Str) (l : List PySem.Str), y = .str k ∧ H4 D = some (SetSO P w D l) ∧ l.length + 1 < scanBound ∧ Nx (upd H4 D (SetSO P w D (addL k l)))
theorem pl_set {elt : Expr} {te : TE} {vs : List Nat} (hx : X.xe = fun _ _ => False) (he : PE X elt te) : PLf X (leafSet elt) vs (tlSet X.prog X.w te) := by
  refine ⟨fun p s σ H D Nx I h => ?_⟩
  unfold leafSet
  have z := he.run p s σ H _ I h
  rw [hx] at z
  refine wpAny_bind (wpAny_mono z (fun v s1 ⟨y, H1, I1, r1, k, l, ey, hD, room, nx⟩ => ?_) fun _ _ q => q)
  subst ey
  obtain ⟨t, ev⟩ := (show ∃ t, v = Value.str k t from r1)
  subst ev
  refine wpAny_bind (wpAny_standAt (wpAny_bind (addS_ok I1 hD room fun s' I' => ?_)))
  exact wpAny_pure ⟨σ, _, I', KeepS.refl _ _, nx⟩
/-! ### one clause -/
theorem turn_set1 {prog : Program} {w : World} {elt tg iter : Expr} {ifs : List Expr} {scope : Scope} {pos : Pos} : IsTurn prog w (.SetComp elt [⟨tg, iter, ifs, 0⟩] scope pos) 0 tg iter ifs (leafSet elt) :=
  ⟨fun _ _ _ => rfl, fun _ _ _ _ => rfl, fun _ _ _ => rfl⟩
theorem turn2_out (elt t0 i0 t1 i1 : Expr) (ifs0 ifs1 : List Expr) (scope : Scope) (pos : Pos) (it acc : Value) (env : Env) :
    compTurn (.SetComp elt [⟨t0, i0, ifs0, 0⟩, ⟨t1, i1, ifs1, 0⟩] scope pos) 0 it acc env = (do
      standAt i0.pos
      match ← pyNext it with
      | none => pure (.done .next)
      | some v =>
        letOwnedTupleGo t0 it v
        assign t0 env v
        let mut ok := true
        for c in ifs0 do
          if ok then ok ← isTrue c env (eval c env)
        if ok then
          let x ← eval i1 env
          standAt i1.pos
          let x ← foldedSetIterable i1 env x
          let _ ← runOwn (.compStart (.SetComp elt [⟨t0, i0, ifs0, 0⟩, ⟨t1, i1, ifs1, 0⟩] scope pos) 1 (← holding [x] (pyIter x)) acc env) env
        again (.compLoop (.SetComp elt [⟨t0, i0, ifs0, 0⟩, ⟨t1, i1, ifs1, 0⟩] scope pos) 0 it acc env)) := by rfl
theorem turn_set2o {prog : Program} {w : World} {elt tg iter tg1 iter1 : Expr} {ifs ifs1 : List Expr} {scope : Scope} {pos : Pos} :
    IsTurn prog w (.SetComp elt [⟨tg, iter, ifs, 0⟩, ⟨tg1, iter1, ifs1, 0⟩] scope pos) 0 tg iter ifs (leafIn (.SetComp elt [⟨tg, iter, ifs, 0⟩, ⟨tg1, iter1, ifs1, 0⟩] scope pos) 1 iter1) := by
  refine ⟨fun _ _ _ => rfl, fun _ _ _ _ => rfl, fun it D env => ?_⟩
  show (compTurn (.SetComp elt [⟨tg, iter, ifs, 0⟩, ⟨tg1, iter1, ifs1, 0⟩] scope pos) 0 it (.ref D) env).onRaise _ = _
  refine congrArg (fun z => Sem.onRaise z _) ?_
  rw [turn2_out]
  unfold turnOf
  refine bind_congr fun _ => bind_congr fun r => ?_
  cases r with
  | none => rfl
  | some v =>
    refine bind_congr fun _ => bind_congr fun _ => bind_congr fun ok => ?_
    cases ok with
    | false => rfl
    | true =>
      simp only [leafIn, bind_assoc, pure_bind, if_true]
theorem turn_set2i {prog : Program} {w : World} {elt tg iter tg1 iter1 : Expr} {ifs ifs1 : List Expr} {scope : Scope} {pos : Pos} :
    IsTurn prog w (.SetComp elt [⟨tg, iter, ifs, 0⟩, ⟨tg1, iter1, ifs1, 0⟩] scope pos) 1 tg1 iter1 ifs1 (leafSet elt) :=
  ⟨fun _ _ _ => rfl, fun _ _ _ _ => rfl, fun _ _ _ => rfl⟩
theorem start_set1 {prog : Program} {w : World} {A : Around} {R : Result → Shared → Prop} {s : Shared} {elt t0 i0 t1 i1 : Expr} {ifs0 ifs1 : List Expr} {scope : Scope} {pos : Pos} {it acc : Value} {env : Env}
    (h0 : codeAny (model prog w) A (.compLoop (.SetComp elt [⟨t0, i0, ifs0, 0⟩, ⟨t1, i1, ifs1, 0⟩] scope pos) 1 it acc env) R s)
    (h : wpAny (model prog w) A (pyIter it) (fun it' s' => codeAny (model prog w) A (.compLoop (.SetComp elt [⟨t0, i0, ifs0, 0⟩, ⟨t1, i1, ifs1, 0⟩] scope pos) 1 it' acc env) R s')
      (notedBy (model prog w) A env fun x s' => R (.error x) s') s) :
    codeAny (model prog w) A (.compStart (.SetComp elt [⟨t0, i0, ifs0, 0⟩, ⟨t1, i1, ifs1, 0⟩] scope pos) 1 it acc env) R s := by
  refine codeAny_of_tree ?_
  show wpAny _ _ ((compStart (.SetComp elt [⟨t0, i0, ifs0, 0⟩, ⟨t1, i1, ifs1, 0⟩] scope pos) 1 it acc env).onRaise (fun x => do noteFrame x env; standAt theWindowsPlace)) _ _ s
  refine wpAny_notedAt ?_
  unfold compStart
  show wpAny _ _ (ask >>= _) _ _ s
  refine wpAny_bind (wpAny_askSetting (wpAny_ite ?_))
  split
  · first
      | exact wpAny_bind (wpAny_pure (wpAny_pure (And.intro rfl h0)))
      | exact wpAny_pure (And.intro rfl h0)
  · refine wpAny_bind (wpAny_rule ?_)
    first
      | exact wpAny_bind (wpAny_standAt (wpAny_bind (wpAny_mono h (fun it' s' h' => wpAny_pure (And.intro rfl h')) fun _ _ x => x)))
      | (show wpAny _ _ (standAt i1.pos >>= _) _ _ s; exact wpAny_bind (wpAny_standAt (wpAny_bind (wpAny_mono h (fun it' s' h' => wpAny_pure (And.intro rfl h')) fun _ _ x => x))))
abbrev newSetObj (w : World) : Obj := { cls := .type "set", dict := none, data := .set #[] 0 (.fresh 0 0 (!w.params.followText "set-order")) }
/-- {elt for tg in iter if ..} of texts -/
theorem pe_set1 {elt tg iter : Expr} {ifs : List Expr} {scope : Scope} {own : List (PySem.Str × Nat)} {pos : Pos} {wi : TI} {g : TG} {tt : TT} {te : TE} (hc : X.calm = true) (hN : X.N.Nodup) (hi : PI X tg iter wi) (ok : BlkOk X.N X.env.scope scope own)
    (hg : ∀ (s : Shared) (H : Hp) (C : Addr) (cl : List (PySem.Str × Addr)) (fp : List Addr), PG (X.blk s H scope (compEnvC scope cl C X.env) fp) tg g) (ht : ∀ (s : Shared) (H : Hp) (C : Addr) (cl : List (PySem.Str × Addr)) (fp : List Addr), PTs (X.blk s H scope (compEnvC scope cl C X.env) fp) ifs tt)
    (he : ∀ (s : Shared) (H : Hp) (C : Addr) (cl : List (PySem.Str × Addr)) (fp : List Addr), PE (X.blk s H scope (compEnvC scope cl C X.env) fp) elt te) (hs : ∀ x, foldedSetIterable iter X.env x = pure x := by intro _; rfl) :
    PE X (.SetComp elt [⟨tg, iter, ifs, 0⟩] scope pos) (tGc wi g tt (tlSet X.prog X.w te) (own.map (·.2)) fun D => SetSO X.prog X.w D []) := by
  refine ⟨fun pins s σ H Q I h => ?_⟩
  rw [PpSet.eval_SetComp]
  refine gc_core (cx := .SetComp elt [⟨tg, iter, ifs, 0⟩] scope pos) (gs := []) (leaf := leafSet elt) (o := newSetObj X.w) (ho := fun D => SetSO X.prog X.w D []) (vl := []) (use := none) rfl turn_set1 (fun R s it D env h0 h1 => PpSet.codeAny_compStart_set h0 h1)
    (fun E s Q' q => PpSet.newSet_ok q) (fun H h _ => setSO_new (setS_fresh X.prog X.w)) hc hN I hi ok (fun _ z => nomatch z) hg ht (fun s H C cl fp => pl_set rfl (he s H C cl fp)) hs h fun D C s' m H' I' q hn f => ⟨m, hn, fun h'' sb => ?_⟩
  obtain ⟨f0, f1, f2, f3, f4, f5⟩ := f
  exact ⟨.ref D, H', I'.turned (t' := s'.toks) (fun b o hb e => (sb.2 b hb).trans e) f0 f1 f3 f4 f5, rfl, q⟩
/-- {elt for tg in iter if .. for tg1 in iter1 if ..} of texts -/
theorem pe_set2 {elt tg iter tg1 iter1 : Expr} {ifs ifs1 : List Expr} {scope : Scope} {own : List (PySem.Str × Nat)} {vs1 : List Nat} {pos : Pos} {wi wi1 : TI} {g g1 : TG} {tt tt1 : TT} {te : TE} (hc : X.calm = true) (hN : X.N.Nodup) (hi : PI X tg iter wi) (ok : BlkOk X.N X.env.scope scope own) (hv : ∀ i ∈ vs1, i ∈ own.map (·.2))
    (hg : ∀ (s : Shared) (H : Hp) (C : Addr) (cl : List (PySem.Str × Addr)) (fp : List Addr), PG (X.blk s H scope (compEnvC scope cl C X.env) fp) tg g) (ht : ∀ (s : Shared) (H : Hp) (C : Addr) (cl : List (PySem.Str × Addr)) (fp : List Addr), PTs (X.blk s H scope (compEnvC scope cl C X.env) fp) ifs tt)
    (hi1 : ∀ (s : Shared) (H : Hp) (C : Addr) (cl : List (PySem.Str × Addr)) (fp : List Addr), PI (X.blk s H scope (compEnvC scope cl C X.env) fp) tg1 iter1 wi1)
    (hg1 : ∀ (s : Shared) (H : Hp) (C : Addr) (cl : List (PySem.Str × Addr)) (fp : List Addr), PG (X.blk s H scope (compEnvC scope cl C X.env) fp) tg1 g1) (ht1 : ∀ (s : Shared) (H : Hp) (C : Addr) (cl : List (PySem.Str × Addr)) (fp : List Addr), PTs (X.blk s H scope (compEnvC scope cl C X.env) fp) ifs1 tt1)
    (he : ∀ (s : Shared) (H : Hp) (C : Addr) (cl : List (PySem.Str × Addr)) (fp : List Addr), PE (X.blk s H scope (compEnvC scope cl C X.env) fp) elt te) (hs : ∀ x, foldedSetIterable iter X.env x = pure x := by intro _; rfl) (hs1 : ∀ env x, foldedSetIterable iter1 env x = pure x := by intro _ _; rfl) :
    PE X (.SetComp elt [⟨tg, iter, ifs, 0⟩, ⟨tg1, iter1, ifs1, 0⟩] scope pos) (tGc wi g tt (tIn wi1 g1 tt1 (tlSet X.prog X.w te) vs1) (own.map (·.2)) fun D => SetSO X.prog X.w D []) := by
  refine ⟨fun pins s σ H Q I h => ?_⟩
  rw [PpSet.eval_SetComp]
  refine gc_core (cx := .SetComp elt [⟨tg, iter, ifs, 0⟩, ⟨tg1, iter1, ifs1, 0⟩] scope pos) (gs := [⟨tg1, iter1, ifs1, 0⟩]) (leaf := leafIn (.SetComp elt [⟨tg, iter, ifs, 0⟩, ⟨tg1, iter1, ifs1, 0⟩] scope pos) 1 iter1) (o := newSetObj X.w) (ho := fun D => SetSO X.prog X.w D []) (vl := vs1) (use := none) rfl turn_set2o
    (fun R s it D env h0 h1 => PpSet.codeAny_compStart_set h0 h1) (fun E s Q' q => PpSet.newSet_ok q) (fun H h _ => setSO_new (setS_fresh X.prog X.w)) hc hN I hi ok hv hg ht
    (fun s H C cl fp => pl_in (vl := []) hc rfl turn_set2i (fun _ z => nomatch z) (fun R s it D env h0 h1 => start_set1 h0 h1) (hi1 s H C cl fp) hs1 (hg1 s H C cl fp) (ht1 s H C cl fp) (pl_set rfl (he s H C cl fp))) hs h fun D C s' m H' I' q hn f => ⟨m, hn, fun h'' sb => ?_⟩
  obtain ⟨f0, f1, f2, f3, f4, f5⟩ := f
  exact ⟨.ref D, H', I'.turned (t' := s'.toks) (fun b o hb e => (sb.2 b hb).trans e) f0 f1 f3 f4 f5, rfl, q⟩
end
end CA
/-! sorted() of a set of texts. -/
namespace CA
open PySem PySem.Spec L2 PySem.Froz
open PyProof.Rows hiding St

section
variable {P : Program} {w : World} {A : Around} {E : Value → Shared → Prop} {s : Shared} {a : Addr} {l : List PySem.Str}
theorem sorted_setS {Q : Value → Shared → Prop} (R : SetS P w s.heap a l) (hh : A.handled = none) (h64 : l.length < 64)
    (hQ : ∀ s' p (out : Array Value) (c : Nat) (ys : List PySem.Str), (∀ b o, s.heap.get? b = some o → s'.heap.get? b = some o) → s'.gens = s.gens → s'.os = s.os → s.heap.objs.size ≤ p →
      s'.heap.get? p = some (seqObj "list" out c) → StrsAre out.toList ys → ys.Perm l → sortedS ys = true → Q (.ref p) s') :
    wpAny (model P w) A (call (.builtin "sorted") [.ref a]) Q E s := by
  obtain ⟨⟨es, ep, t⟩, ho, F⟩ := R
  obtain ⟨ps, pm, pl⟩ := F.pm
  have hsz : es.size = l.length := F.ok.sz
  refine Calls.call_function_entry kind_sorted plain_sorted entry_sorted (args_sorted1 _) ?_
  unfold Builtin.«sorted»
  refine wpAny_bind (m := checkCount "sorted" 1 1 _) (wpAny_pure ?_)
  refine wpAny_bind (collect_set (A := A.in1) hh ⟨_, ho, rfl, rfl⟩ F.ok.fit (by show es.size < scanBound; unfold scanBound; omega) F.ris F.led fun s1 vs k1 hz g1 o1 pv => ?_)
  have pv2 : vs.Perm (ps.map fun p => Value.str p.1 p.2) := by
    have z := pm.map (·.2)
    rw [List.map_map] at z
    exact pv.trans z
  have hvl : vs.length = l.length := by rw [pv2.length_eq, List.length_map, ← pl, List.length_map]
  have hS : StrsAre vs (vs.map strOf) := strsAre_map vs fun v hv => by
    obtain ⟨p, _, e⟩ := List.mem_map.mp (pv2.mem_iff.mp hv)
    exact ⟨p.1, p.2, e.symm⟩
  have pk : (vs.map strOf).Perm l := by
    have z := pv2.map strOf
    rw [List.map_map] at z
    rw [← pl]
    exact z
  refine wpAny_bind (wpAny_newList ?_ (by rw [hvl, sizeLine_eq]; omega))
  have hoL : (s1.heap.push (seqObj "list" vs.toArray 0)).get? s1.heap.objs.size = some (seqObj "list" vs.toArray 0) := Heap.get?_push_size _ rfl
  refine wpAny_bind (wpAny_holding (wpAny_call_entry slot_list_sort ⟨_, hoL, rfl⟩ entry_list_sort (list_sort_treeK strKind_oneLt hoL hS.keysOf (fun v₁ v₂ rest e => keyKind_strs (by rw [← e]; exact hS)) (by rw [hvl]; exact h64) fun st' hp hs => ⟨_, rfl, ?_⟩) (args_list_sort _)))
  obtain ⟨ys, y1, y2, y3⟩ := sorted_out_str hS hp hs
  obtain ⟨c, hc⟩ := sortedHeap_at (vs := vs) (out := (arrOf st').map (·.2)) hoL
  refine wpAny_pure ⟨_, rfl, hQ _ s1.heap.objs.size _ c ys (fun b u e => ?_) g1 o1 hz hc y1 (y2.trans pk) y3⟩
  have q := k1 b u e
  have hlt := Heap.lt_size q
  show (sortedHeap (s1.heap.push (seqObj "list" vs.toArray 0)) s1.heap.objs.size vs ((arrOf st').map (·.2))).get? b = some u
  rw [sortedHeap_old (Nat.ne_of_lt hlt) (by rw [size_push']; exact Nat.lt_succ_of_lt hlt)]
  exact Heap.get?_push_of_some _ q
end
/-- sorted(found), fewer than 64 texts -/
def rSortSetS (P : Program) (w : World) : List V → Hp → VK → Prop := fun vs H Q => ∃ (a : Addr) (l : List PySem.Str), vs = [V.ref a] ∧ H a = some (SetSO P w a l) ∧ l.length < 64 ∧
  ∀ (ys : List PySem.Str) (p : Addr), ys.Perm l → sortedS ys = true → H p = none → Q (.ref p) (upd H p (.lst (ys.map V.str)))
theorem cr_sortSetS {X : Cx} (hc : X.calm = true) : CallR X (.builtin "sorted") (rSortSetS X.prog X.w) := by
  intro pins s σ H vs us Q I r h
  obtain ⟨a, l, rfl, ha, h64, q⟩ := h
  have R := setSO_get I ha
  rw [Vals.ref1 r]
  refine sorted_setS R (I.ok.hd hc) h64 fun s' p out c ys k g o hp hg hi hm hs => ?_
  have hlen : (ys.map V.str).length ≤ sizeLine := by rw [List.length_map, hm.length_eq, sizeLine_eq]; omega
  have hn : H p = none := I.hok.fresh hp
  have J : Inv X pins σ (upd H p (.lst (ys.map V.str))) { s with heap := s'.heap, gens := s'.gens, drawn := s'.drawn, toks := s'.toks } :=
    I.call (ch := []) (Un.laid k hp hn) (I.hok.laid k hp ⟨hlen, out.toList, c, vals_of_strs hi, hg⟩) (by rw [g]; exact I.bare) (fun _ z => nomatch z)
  have e : s' = { s with heap := s'.heap, gens := s'.gens, drawn := s'.drawn, toks := s'.toks } := by
    cases s'
    cases s
    cases o
    rfl
  rw [e]
  exact ⟨.ref p, _, J, rfl, q ys p hm hs hn⟩
end CA
/-! d.items(), d.values() of a dict whose keys are tuples. -/
namespace CA
open PySem PySem.Spec L2
open PyProof.Rows hiding St

section
variable {X : Cx} {pins : List (Addr × Obj)} {σ : L2.St} {H : Hp} {s : Shared} {d : Addr} {o : Obj}
theorem frzT2 {kvs : List (List Key × V)} (I : Inv X pins σ H s) (h : H d = some (.frz o (.dT kvs))) :
    (d == sysModules) = false ∧ s.heap.get? d = some o ∧ o.ExactDict ∧ ∃ (es : Array DictEntry) (ep : Nat), o.data = .dict es ep ∧ es.size = kvs.length ∧
      ∀ (i : Nat) (k : List Key) (v : V), kvs[i]? = some (k, v) → ∃ (en : DictEntry) (q : Addr), es[i]? = some en ∧ en.key = .ref q ∧ H q = some (.tup (k.map kV)) ∧ RelV v en.val := by
  obtain ⟨hd, z, hs, xs, pr, o', es, ep, ho, hx, hdt, he, _⟩ := I.hok d _ h
  rw [hd] at ho
  cases ho
  refine ⟨hs, hd, hx, es, ep, hdt, ?_, fun i k v e => ?_⟩
  · have l1 : es.size = xs.length := size_of_entries he
    have l2 : kvs.length = xs.length := Paired.length pr
    omega
  · obtain ⟨b, hb, e1, e2, e3⟩ := paired_get pr e
    have q := entry_at he i
    rw [hb] at q
    exact ⟨_, b.2.1, q, rfl, e2, e3⟩
end
/-- the values, the pairs (each a new tuple) -/
def ItdT (d : Addr) (o : Obj) (kvs : List (List Key × V)) : It :=
  ⟨fun i H => H d = some (.frz o (.dT kvs)) ∧ i < kvs.length, fun i H x H' => H' = H ∧ ∃ k, kvs[i]? = some (k, x), fun i H => H d = some (.frz o (.dT kvs)) ∧ kvs.length ≤ i⟩
def ItiT (d : Addr) (o : Obj) (kvs : List (List Key × V)) : It :=
  ⟨fun i H => H d = some (.frz o (.dT kvs)) ∧ i < kvs.length, fun i H x H' => ∃ T k v q, kvs[i]? = some (k, v) ∧ x = .ref T ∧ H T = none ∧ H q = some (.tup (k.map kV)) ∧ H' = upd H T (.tup [.ref q, v]), fun i H => H d = some (.frz o (.dT kvs)) ∧ kvs.length ≤ i⟩
section
variable {P : Program} {w : World} {K : PySem.W.Frag} {d : Addr} {o : Obj} {es : Array DictEntry} {ep : Nat}
theorem raw_of {h : Heap} (h1 : h.get? d = some o) (h2 : o.ExactDict) (h3 : o.data = .dict es ep) : h.DictRaw d es ep := ⟨o, h1, h2, h3⟩
theorem turn_valsT {kvs : List (List Key × V)} {tg : Expr} (it : Addr) (hod : o.data = .dict es ep) : Turn P w K tg (ItdT d o kvs) [it] it (fun i h => h.IsValIter it d i kvs.length ep) where
  mem := by simp
  obj := fun i h st b hb => by
    have e : b = it := by simpa using hb
    subst e
    obtain ⟨oi, e, c, dd⟩ := st
    exact ⟨oi, e, fun v z => by rw [dd] at z; cases z⟩
  keep := fun i h h' st k => st.at fun oi e => k it (by simp) oi e
  item := by
    intro X hP hw hK hc i pins s σ H E I hf st hg
    subst hP hw hK
    obtain ⟨hd, hi⟩ := hg
    obtain ⟨f0, f1, f2, f3, f4, f5⟩ := hf it (by simp)
    obtain ⟨hs, hgd, hx, es', ep', hdt, hsz, ent⟩ := frzT2 I hd
    obtain ⟨rfl, rfl⟩ := dict_ep hod hdt
    obtain ⟨⟨k, v⟩, hkv⟩ : ∃ p, kvs[i]? = some p := ⟨kvs[i], List.getElem?_eq_getElem hi⟩
    obtain ⟨en, q, hen, hkey, hq, rv⟩ := ent i k v hkv
    have hlt : i < es'.size := by rw [hsz]; exact hi
    have ee : es'[i] = en := by
      rw [Array.getElem?_eq_getElem hlt] at hen
      exact Option.some.inj hen
    rw [← hsz] at st
    refine wpAny_pyNext_values_item_raw st (raw_of hgd hx hdt) hlt fun h' st' sb => ?_
    have I1 : Inv X pins σ H { s with heap := h' } := I.turned (t' := s.toks) (fun b ob hb e => (sb.2 b hb).trans e) f0 f1 f3 f4 f5
    obtain ⟨oi, e, c, dd⟩ := id st'
    rw [hsz] at st'
    rw [ee]
    exact ⟨en.val, rfl, go_of (s := { s with heap := h' }) e c dd (by decide) ⟨v, H, I1, rv, ⟨rfl, k, hkv⟩, st', fun b hb => (hf b hb).1⟩⟩
  done := by
    intro X hP hw hK hc i pins s σ H E I hf st hg
    subst hP hw hK
    obtain ⟨hd, hi⟩ := hg
    obtain ⟨f0, f1, f2, f3, f4, f5⟩ := hf it (by simp)
    obtain ⟨hs, hgd, hx, es', ep', hdt, hsz, ent⟩ := frzT2 I hd
    obtain ⟨rfl, rfl⟩ := dict_ep hod hdt
    rw [← hsz] at st hi
    exact wpAny_pyNext_values_end_raw (I.ok.hd hc) st (raw_of hgd hx hdt) hi fun h' eb => ⟨rfl, I.turned (t' := s.toks) (fun b ob hb e => eb b ob hb e) f0 f1 f3 f4 f5⟩
  self := fun A i s Q E st h => wpAny_pyIter_valiter st h
theorem turn_itemsT {kvs : List (List Key × V)} {elts : List Expr} {kk : Nat} {tpos : Pos} (it : Addr) (hod : o.data = .dict es ep) :
    Turn P w K (.Tuple elts kk tpos) (ItiT d o kvs) [it] it (fun i h => ∃ ok ov, IsItemIter h it d i kvs.length ep ok ov) where
  mem := by simp
  obj := fun i h st b hb => by
    have e : b = it := by simpa using hb
    subst e
    obtain ⟨ok, ov, e⟩ := st
    exact ⟨_, e, fun v z => nomatch z⟩
  keep := fun i h h' st k => let ⟨ok, ov, e⟩ := st; ⟨ok, ov, k it (by simp) _ e⟩
  item := by
    intro X hP hw hK hc i pins s σ H E I hf st hg
    subst hP hw hK
    obtain ⟨hd, hi⟩ := hg
    obtain ⟨hs, hgd, hx, es', ep', hdt, hsz, ent⟩ := frzT2 I hd
    obtain ⟨rfl, rfl⟩ := dict_ep hod hdt
    obtain ⟨⟨k, v⟩, hkv⟩ : ∃ p, kvs[i]? = some p := ⟨kvs[i], List.getElem?_eq_getElem hi⟩
    obtain ⟨en, q, hen, hkey, hq, rv⟩ := ent i k v hkv
    have hlt' : i < es'.size := by rw [hsz]; exact hi
    have ee : es'[i] = en := by
      rw [Array.getElem?_eq_getElem hlt'] at hen
      exact Option.some.inj hen
    obtain ⟨ok, ov, he⟩ := st
    rw [← hsz] at he
    have hlt : it < s.heap.objs.size := Heap.lt_size he
    refine wpAny_pyNext_items_item_raw he (raw_of hgd hx hdt) hlt' fun h' ho hT hz hk => ?_
    rw [ee] at ho hT
    refine ⟨_, rfl, wpAny_letOwnedTupleGo_items (s := { s with heap := h' }) ho fun h'' he' sb => ?_⟩
    have hT2 : h''.get? s.heap.objs.size = some { cls := .type "tuple", data := .seq #[en.key, en.val] } := (sb.2 _ (Nat.ne_of_gt hlt)).trans hT
    have new : ObjOk X.prog X.w (upd H s.heap.objs.size (.tup [.ref q, v])) h'' s.heap.objs.size (.tup [.ref q, v]) :=
      ⟨by show 2 ≤ sizeLine; decide, [en.key, en.val], .cons hkey (.cons rv .nil), ⟨_, hT2, rfl, _, rfl⟩⟩
    have I1 : Inv X pins σ (upd H s.heap.objs.size (.tup [.ref q, v])) { s with heap := h'' } :=
      I.turnedNew (t' := s.toks) (ch := [it]) (fun b ob hb e => (sb.2 b (by simpa using hb)).trans (hk b ob (by simpa using hb) e)) hf (Nat.le_refl _) new
    refine ⟨.ref s.heap.objs.size, _, I1, rfl, ⟨_, k, v, q, hkv, rfl, I.hok.fresh (Nat.le_refl _), hq, rfl⟩, ⟨en.key, en.val, ?_⟩, fun b hb => ?_⟩
    · rw [← hsz]; exact he'
    · have e : b = it := by simpa using hb
      rw [e, upd_ne (Nat.ne_of_lt hlt)]
      exact (hf it (by simp)).1
  done := by
    intro X hP hw hK hc i pins s σ H E I hf st hg
    subst hP hw hK
    obtain ⟨hd, hi⟩ := hg
    obtain ⟨f0, f1, f2, f3, f4, f5⟩ := hf it (by simp)
    obtain ⟨hs, hgd, hx, es', ep', hdt, hsz, ent⟩ := frzT2 I hd
    obtain ⟨rfl, rfl⟩ := dict_ep hod hdt
    obtain ⟨ok, ov, he⟩ := st
    rw [← hsz] at he hi
    exact wpAny_pyNext_items_end_raw (I.ok.hd hc) he (raw_of hgd hx hdt) hi fun h' eb => ⟨rfl, I.turned (t' := s.toks) (fun b ob hb e => eb b ob hb e) f0 f1 f3 f4 f5⟩
  self := fun A i s Q E st h => let ⟨_, _, e⟩ := st; PySem.W.kcp_self e h
end
def iValsT (td : TE) : TI := fun σ H R => td σ H fun x H1 => ∃ d o kvs, x = .ref d ∧ H1 d = some (.frz o (.dT kvs)) ∧ R (ItdT d o kvs) H1
def iItemsT (td : TE) : TI := fun σ H R => td σ H fun x H1 => ∃ d o kvs, x = .ref d ∧ H1 d = some (.frz o (.dT kvs)) ∧ R (ItiT d o kvs) H1
section
variable {X : Cx} {tg e : Expr} {td : TE} {apos cpos : Pos}
theorem pi_valuesT (he : PE X e td) (hbase : attributeBase e "values" X.env (eval e X.env) = eval e X.env := by rfl) (hline : (apos.endLine == cpos.line) = true := by rfl) : PI X tg (.Call (.Attribute e "values" apos) [] [] cpos) (iValsT td) := by
  refine ⟨fun pins s σ H R I h => ?_⟩
  refine wpAny_Call_method (T := "dict") (id := "dict.values") hbase rfl hline PySem.F.plainAttrs_dict PySem.F.slot_dict_values PySem.F.type_dict_values (thn (he.run pins s σ H _ I h) fun u s1 ⟨x, H1, I1, rx, d, o, kvs, ex, hd, q⟩ => ?_)
  subst ex
  obtain rfl : u = Value.ref d := rx
  obtain ⟨hs, hgd, hx, es, ep, hdt, hsz, ent⟩ := frzT2 I1 hd
  have hT : s1.TypeIs (.ref d) "dict" := ⟨o, hgd, hx.1⟩
  refine ⟨hT, fun a e => by cases e; exact ⟨o, hgd, hx.2.1⟩, ?_⟩
  have I2 : Inv X pins σ H1 { s1 with heap := s1.heap.push { cls := .type "dict_values", data := .fields #[.ref d] } } := I1.kept (t' := s1.toks) fun b ob q => Heap.get?_push_of_some _ q
  have fin : wpAny (model X.prog X.w) X.A (pyIter (.ref s1.heap.objs.size)) (PIE X pins σ tg R) X.xe { s1 with heap := s1.heap.push { cls := .type "dict_values", data := .fields #[.ref d] } } := by
    refine wpAny_pyIter_values_raw (d := d) (es := es) (ep := ep) ⟨_, Heap.get?_push_size _ rfl, rfl, rfl⟩ (raw_of (Heap.get?_push_of_some _ hgd) hx hdt) (pi_one (tk := s1.toks) I2 _ (turn_valsT _ hdt) ⟨_, Heap.get?_push_size _ rfl, rfl, ?_⟩ q)
    rw [hsz] <;> rfl
  show wpAny _ _ (callWith cpos (.builtin "dict.values") [.ref d] [] []) _ X.xe s1
  exact method_meetsIn PySem.F.slot_dict_values PySem.F.entry_dict_values rfl (PySem.evalArgs_none ⟨rfl, hT, PySem.F.args_dict_values_1 _, _, meets_dict_values_raw d hs, ⟨es, ep, raw_of hgd hx hdt⟩, fin⟩)
theorem pi_itemsT {elts : List Expr} {kk : Nat} {tpos : Pos} (he : PE X e td) (hbase : attributeBase e "items" X.env (eval e X.env) = eval e X.env := by rfl) (hline : (apos.endLine == cpos.line) = true := by rfl) :
    PI X (.Tuple elts kk tpos) (.Call (.Attribute e "items" apos) [] [] cpos) (iItemsT td) := by
  refine ⟨fun pins s σ H R I h => ?_⟩
  refine wpAny_Call_method (T := "dict") (id := "dict.items") hbase rfl hline PySem.F.plainAttrs_dict PySem.F.slot_dict_items PySem.F.type_dict_items (thn (he.run pins s σ H _ I h) fun u s1 ⟨x, H1, I1, rx, d, o, kvs, ex, hd, q⟩ => ?_)
  subst ex
  obtain rfl : u = Value.ref d := rx
  obtain ⟨hs, hgd, hx, es, ep, hdt, hsz, ent⟩ := frzT2 I1 hd
  have hT : s1.TypeIs (.ref d) "dict" := ⟨o, hgd, hx.1⟩
  refine ⟨hT, fun a e => by cases e; exact ⟨o, hgd, hx.2.1⟩, ?_⟩
  have I2 : Inv X pins σ H1 { s1 with heap := s1.heap.push { cls := .type "dict_items", data := .fields #[.ref d] } } := I1.kept (t' := s1.toks) fun b ob q => Heap.get?_push_of_some _ q
  have fin : wpAny (model X.prog X.w) X.A (pyIter (.ref s1.heap.objs.size)) (PIE X pins σ (.Tuple elts kk tpos) R) X.xe { s1 with heap := s1.heap.push { cls := .type "dict_items", data := .fields #[.ref d] } } := by
    refine wpAny_pyIter_items_raw (d := d) (es := es) (ep := ep) ⟨_, Heap.get?_push_size _ rfl, rfl, rfl⟩ (raw_of (Heap.get?_push_of_some _ hgd) hx hdt) (pi_one (tk := s1.toks) I2 _ (turn_itemsT _ hdt) ⟨.none, .none, ?_⟩ q)
    rw [← hsz]
    exact Heap.get?_push_size _ rfl
  show wpAny _ _ (callWith cpos (.builtin "dict.items") [.ref d] [] []) _ X.xe s1
  exact method_meetsIn PySem.F.slot_dict_items PySem.F.entry_dict_items rfl (PySem.evalArgs_none ⟨rfl, hT, PySem.F.args_dict_items_1 _, _, meets_dict_items_raw d hs, ⟨es, ep, raw_of hgd hx hdt⟩, fin⟩)
end
end CA
/-! Dict comprehensions whose keys are tuples. -/
namespace CA
open PySem PySem.Spec L2
open PyProof.Rows hiding St

section
variable {X : Cx}
/-- d[k] = v by a comprehension, k a tuple -/
theorem t_dictSet {pins : List (Addr × Obj)} {σ : L2.St} {H : Hp} {s : Shared} {E : Value → Shared → Prop} {D b : Addr} {kvs : List (List Key × V)} {k : List Key} {v : V} {r : Value} {Q : Unit → Shared → Prop} (hu : X.A.units + 1 < cLine) (I : Inv X pins σ H s) (hD : H D = some (.dT kvs)) (hz : kvs.length < sizeLine)
    (eb : H b = some (.tup (k.map kV))) (rv : RelV v r) (h : ∀ s', Inv X pins σ (upd H D (.dT (putK kvs k v))) s' → Q () s') : wpAny (model X.prog X.w) X.A (dictSet D (.ref b) r) Q E s := by
  obtain ⟨z, hd, xs, rel, dd⟩ := dt_of I.hok hD
  have hzx : xs.length ≤ sizeLine := by rw [← Paired.length rel]; exact z
  have hl : (putK kvs k v).length ≤ sizeLine := by have := length_putK kvs k v; omega
  refine wpAny_dictSet_heap (knd := tupleKind (mixKind X.prog X.w)) (hsz := hzx) (Nat.lt_of_succ_lt hu) (key_of I.hok eb) dd fun h' dd' hs => h _ ?_
  obtain ⟨q, es, ep, hq, h2, h3, h4, _, h5⟩ := dd'
  refine d_write I (by rw [hD]; exact True.intro) hs ⟨q, hq⟩ ⟨hl, hd, _, (rel.put k eb rv).keeps fun c ys ec => ?_, q, es, ep, hq, h2, h3, h4, h5⟩
  rw [upd_ne (ne_of ec hD (fun z => nomatch z))]
  exact ec
def leafDict (kx vx : Expr) : Leaf := fun acc env => match acc with
  | .ref D => do
    let kv ← eval kx env
    let vv ← holding [kv] (eval vx env)
    standAt { kx.pos with endLine := vx.pos.endLine, endCol := vx.pos.endCol }
    holding [kv, vv] (dictSet D kv vv)
  | _ => pure ()
def tlDict (tk tv : TE) : TL := fun D σ H Nx => tk σ H fun y H4 => tv σ H4 fun z H5 => ∃ (kvs : List (List Key × V)) (k : List Key) (b : Addr), y = .ref b ∧ H5 b = some (.tup (k.map kV)) ∧ H5 D = some (.dT kvs) ∧ kvs.length < sizeLine ∧ Nx (upd H5 D (.dT (putK kvs k z)))
theorem pl_dict {kx vx : Expr} {tk tv : TE} {vs : List Nat} (hu : X.A.units + 1 < cLine) (hx : X.xe = fun _ _ => False) (hk : PE X kx tk) (he : PE X vx tv) : PLf X (leafDict kx vx) vs (tlDict tk tv) := by
  refine ⟨fun p s σ H D Nx I h => ?_⟩
  unfold leafDict
  have z := hk.run p s σ H _ I h
  rw [hx] at z
  refine wpAny_bind (wpAny_mono z (fun v s1 ⟨y, H1, I1, r1, q1⟩ => ?_) fun _ _ q => q)
  have z := he.run p s1 σ H1 _ I1 q1
  rw [hx] at z
  refine wpAny_bind (wpAny_holding (wpAny_mono z (fun v2 s2 ⟨y2, H2, I2, r2, kvs, k, b, ey, eb, eD, hl, nx⟩ => ?_) fun _ _ q => q))
  subst ey
  cases (show v = Value.ref b from r1)
  refine wpAny_bind (wpAny_standAt (wpAny_holding (t_dictSet hu I2 eD hl eb r2 fun s' I' => ?_)))
  exact ⟨σ, _, I', KeepS.refl _ _, nx⟩
theorem turn_dict1 {prog : Program} {w : World} {kx vx tg iter : Expr} {ifs : List Expr} {scope : Scope} {pos : Pos} : IsTurn prog w (.DictComp kx vx [⟨tg, iter, ifs, 0⟩] scope pos) 0 tg iter ifs (leafDict kx vx) :=
  ⟨fun _ _ _ => rfl, fun _ _ _ _ => rfl, fun it D env => by
    show (compTurn (.DictComp kx vx [⟨tg, iter, ifs, 0⟩] scope pos) 0 it (.ref D) env).onRaise _ = _
    rw [compTurn_dict]
    rfl⟩
abbrev newDictObj : Obj := { cls := .type "dict", data := .dict #[] }
/-- {kx: vx for tg in iter if ..}, the keys tuples -/
theorem pe_dictT {kx vx tg iter : Expr} {ifs : List Expr} {scope : Scope} {own : List (PySem.Str × Nat)} {pos : Pos} {wi : TI} {g : TG} {tt : TT} {tk tv : TE} (hu : X.A.units + 1 < cLine) (hc : X.calm = true) (hN : X.N.Nodup) (hi : PI X tg iter wi) (ok : BlkOk X.N X.env.scope scope own)
    (hg : ∀ (s : Shared) (H : Hp) (C : Addr) (cl : List (PySem.Str × Addr)) (fp : List Addr), PG (X.blk s H scope (compEnvC scope cl C X.env) fp) tg g) (ht : ∀ (s : Shared) (H : Hp) (C : Addr) (cl : List (PySem.Str × Addr)) (fp : List Addr), PTs (X.blk s H scope (compEnvC scope cl C X.env) fp) ifs tt)
    (hk : ∀ (s : Shared) (H : Hp) (C : Addr) (cl : List (PySem.Str × Addr)) (fp : List Addr), PE (X.blk s H scope (compEnvC scope cl C X.env) fp) kx tk)
    (he : ∀ (s : Shared) (H : Hp) (C : Addr) (cl : List (PySem.Str × Addr)) (fp : List Addr), PE (X.blk s H scope (compEnvC scope cl C X.env) fp) vx tv) (hs : ∀ x, foldedSetIterable iter X.env x = pure x := by intro _; rfl) :
    PE X (.DictComp kx vx [⟨tg, iter, ifs, 0⟩] scope pos) (tGc wi g tt (tlDict tk tv) (own.map (·.2)) fun _ => .dT []) := by
  refine ⟨fun pins s σ H Q I h => ?_⟩
  rw [arm_eval_DictComp]
  refine gc_core (cx := .DictComp kx vx [⟨tg, iter, ifs, 0⟩] scope pos) (gs := []) (leaf := leafDict kx vx) (o := newDictObj) (ho := fun _ => .dT []) (vl := []) (use := none) rfl turn_dict1 (fun R s it D env h0 h1 => codeAny_compStart_dict h0 h1)
    (fun E s Q' q => wpAny_newObj_type q) (fun H h b => dt_empty h b) hc hN I hi ok (fun _ z => nomatch z) hg ht (fun s H C cl fp => pl_dict hu rfl (hk s H C cl fp) (he s H C cl fp)) hs h fun D C s' m H' I' q hn f => ⟨m, hn, fun h'' sb => ?_⟩
  obtain ⟨f0, f1, f2, f3, f4, f5⟩ := f
  exact ⟨.ref D, H', I'.turned (t' := s'.toks) (fun b o hb e => (sb.2 b hb).trans e) f0 f1 f3 f4 f5, rfl, q⟩
/-- name = {..} on one line, the name a local -/
theorem ps_setDictT {i : Nat} {y : PySem.Str} {py : Pos} {kx vx tg iter : Expr} {ifs : List Expr} {scope : Scope} {own : List (PySem.Str × Nat)} {pos spos : Pos} {wi : TI} {g : TG} {tt : TT} {tk tv : TE} (hu : X.A.units + 1 < cLine) (hc : X.calm = true) (hN : X.N.Nodup) (hy : X.N[i]? = some y) (hyl : X.env.scope.names.lookup y = some .local)
    (hsw : swapsWith (.DictComp kx vx [⟨tg, iter, ifs, 0⟩] scope pos) (some (.Name y py)) spos.line X.env = pure true) (hi : PI X tg iter wi) (ok : BlkOk X.N X.env.scope scope own)
    (hg : ∀ (s : Shared) (H : Hp) (C : Addr) (cl : List (PySem.Str × Addr)) (fp : List Addr), PG (X.blk s H scope (compEnvC scope cl C X.env) fp) tg g) (ht : ∀ (s : Shared) (H : Hp) (C : Addr) (cl : List (PySem.Str × Addr)) (fp : List Addr), PTs (X.blk s H scope (compEnvC scope cl C X.env) fp) ifs tt)
    (hk : ∀ (s : Shared) (H : Hp) (C : Addr) (cl : List (PySem.Str × Addr)) (fp : List Addr), PE (X.blk s H scope (compEnvC scope cl C X.env) fp) kx tk)
    (he : ∀ (s : Shared) (H : Hp) (C : Addr) (cl : List (PySem.Str × Addr)) (fp : List Addr), PE (X.blk s H scope (compEnvC scope cl C X.env) fp) vx tv) (hs : ∀ x, foldedSetIterable iter X.env x = pure x := by intro _; rfl) :
    PS X (.Assign [.Name y py] (.DictComp kx vx [⟨tg, iter, ifs, 0⟩] scope pos) spos) (tAsg (tGc wi g tt (tlDict tk tv) (own.map (·.2)) fun _ => .dT []) (gName i)) := by
  refine ⟨fun pins s σ H D I h => ?_⟩
  rw [exec_Assign_Name_used _ _ _ _ hsw]
  refine wpAny_bind (wpAny_standAt (wpAny_bind ?_))
  show wpAny _ X.A (do let _ ← comprehension (.DictComp kx vx [⟨tg, iter, ifs, 0⟩] scope pos) scope X.env (firstIterPos [⟨tg, iter, ifs, 0⟩] pos) newDict false (eval iter X.env) (some (assign (.Name y py) X.env))) _ _ s
  have h : tGc wi g tt (tlDict tk tv) (own.map (·.2)) (fun _ => .dT []) σ H (fun x H1 => gName i x σ H1 D.nx) := h
  refine wpAny_bind (thn (gc_core (Qf := fun _ s' => SP X pins D .next s') (cx := .DictComp kx vx [⟨tg, iter, ifs, 0⟩] scope pos) (gs := []) (leaf := leafDict kx vx) (o := newDictObj) (ho := fun _ => .dT []) (vl := []) rfl turn_dict1 (fun R s it D env h0 h1 => codeAny_compStart_dict h0 h1)
    (fun E s Q' q => wpAny_newObj_type q) (fun H h b => dt_empty h b) hc hN I hi ok (fun _ z => nomatch z) hg ht (fun s H C cl fp => pl_dict hu rfl (hk s H C cl fp) (he s H C cl fp)) hs h fun L C s' m H' I' q hn f => ?_) fun _ s' hq => wpAny_pure (wpAny_pure hq))
  show wpAny _ _ (assign (.Name y py) X.env (.ref L)) _ _ _
  refine wpAny_assign_Name (store_ok2 (v := V.ref L) I' hN hy (.inl hyl) rfl (fun s2 I2 ⟨a, sb, ha⟩ => ?_) (.inr hyl))
  obtain ⟨f0, f1, f2, f3, f4, f5⟩ := f
  have haC : C ≠ a := by
    rcases ha with z | z
    · rw [z]; exact f1
    · exact fun e => f4 y a z e.symm
  refine ⟨m, hn.sameBut sb haC, fun h3 sb3 => ?_⟩
  exact ⟨_, H', I2.turned (t' := s2.toks) (fun b o hb e => (sb3.2 b hb).trans e) f0 f1 f3 f4 f5, q⟩
/-! ### setdefault -/
def tTSetd (td ty tx : TE) : TE := fun σ H Q => td σ H fun x H1 => ∃ a, x = .ref a ∧ IsD H1 a ∧ ty σ H1 fun y H2 => tx σ H2 fun z H3 => ∃ (kvs : List (List Key × V)) (k : List Key) (b : Addr), H3 a = some (.dT kvs) ∧ y = .ref b ∧ H3 b = some (.tup (k.map kV)) ∧ kvs.length < sizeLine ∧
  (∀ v, valV kvs k = some v → Q v H3) ∧ (valV kvs k = none → Q z (upd H3 a (.dT (putK kvs k z))))
theorem t_setd {pins : List (Addr × Obj)} {σ : L2.St} {H : Hp} {s : Shared} {E : Value → Shared → Prop} {a b : Addr} {r : Value} {d : V} {kvs : List (List Key × V)} {k : List Key} {Q : Value → Shared → Prop} (hu : X.A.units + 1 < cLine) (I : Inv X pins σ H s) (e : H a = some (.dT kvs)) (eb : H b = some (.tup (k.map kV))) (rd : RelV d r) (hl : kvs.length < sizeLine)
    (h1 : ∀ v, valV kvs k = some v → ∀ (w' : Value) (s' : Shared), Inv X pins σ H s' → RelV v w' → Q w' s') (h2 : valV kvs k = none → ∀ (w' : Value) (s' : Shared), Inv X pins σ (upd H a (.dT (putK kvs k d))) s' → RelV d w' → Q w' s') :
    wpAny (model X.prog X.w) X.A (call (.builtin "dict.setdefault") [.ref a, .ref b, r]) Q E s := by
  obtain ⟨z, hd, xs, rel, dd⟩ := dt_of I.hok e
  have hz : xs.length ≤ sizeLine := by rw [← Paired.length rel]; exact z
  refine call_setdefault_heap (knd := tupleKind (mixKind X.prog X.w)) (hsz := hz) (tupleKind_room_in1 hu) (key_of I.hok eb) hd dd (fun p hp => ?_) fun hn h' dd' hs => ?_
  · have q := rel.val k
    rw [hp] at q
    cases q0 : valV kvs k with
    | none =>
      rw [q0] at q
      exact (show False from q).elim
    | some v0 =>
      rw [q0] at q
      exact h1 v0 q0 _ _ (I.tok _) q
  · have q := rel.val k
    rw [hn] at q
    cases q0 : valV kvs k with
    | some v0 =>
      rw [q0] at q
      exact (show False from q).elim
    | none =>
      have hl2 : (putK kvs k d).length ≤ sizeLine := by have := length_putK kvs k d; omega
      obtain ⟨o, es, ep, hq, y2, y3, y4, _, y5⟩ := dd'
      refine h2 q0 _ _ (d_write I (by rw [e]; exact True.intro) hs ⟨o, hq⟩ ⟨hl2, hd, _, (rel.put k eb rd).keeps fun c ys ec => ?_, o, es, ep, hq, y2, y3, y4, y5⟩) rd
      rw [upd_ne (ne_of ec e (fun z => nomatch z))]
      exact ec
theorem pe_tsetd {o e f : Expr} {td ty tx : TE} {apos cpos : Pos} (hu : X.A.units + 1 < cLine) (ho : PE X o td) (he : PE X e ty) (hf : PE X f tx) (m : M2 X o "setdefault" apos e f cpos) : PE X (.Call (.Attribute o "setdefault" apos) [e, f] [] cpos) (tTSetd td ty tx) := by
  refine ⟨fun pins s σ H Q I h => ?_⟩
  refine wpAny_Call_method m.base m.few m.line PySem.F.plainAttrs_dict PySem.F.slot_dict_setdefault PySem.F.type_dict_setdefault (thn (ho.run pins s σ H _ I h) fun u s1 ⟨x, H1, I1, rx, a, ex, d, q1⟩ => ?_)
  subst ex
  obtain rfl : u = Value.ref a := rx
  obtain ⟨t1, t2, _⟩ := isD_at I1 d
  refine ⟨t1, t2, ?_⟩
  rw [m.trees]
  refine Calls.callWith_builtin rfl (Calls.evalArgs_plain (Calls.spliced_cons (thn (he.run pins s1 σ H1 _ I1 q1) fun iv s2 ⟨y, H2, I2, ry, q2⟩ =>
    Calls.spliced_cons (thn (hf.run pins s2 σ H2 _ I2 q2) fun fv s3 ⟨z, H3, I3, rz, kvs, k, b, ea, ey, eb, hl, q3, q4⟩ => Calls.spliced_nil ?_))))
  subst ey
  cases (show iv = Value.ref b from ry)
  exact t_setd hu I3 ea eb rz hl (fun v hv w' s4 I4 rw' => ⟨v, _, I4, rw', q3 v hv⟩) fun hn w' s4 I4 rw' => ⟨z, _, I4, rw', q4 hn⟩
end
end CA
/-! set() of a tuple of texts and of a list of texts, its len. -/
namespace CA
open PySem PySem.Spec L2
open PyProof.Rows hiding St
def addAll (l : List PySem.Str) (xs : List PySem.Str) : List PySem.Str := xs.foldl (fun l x => addL x l) l
theorem addL_len (x : PySem.Str) (l : List PySem.Str) : (addL x l).length ≤ l.length + 1 := by
  unfold addL
  split <;> simp
theorem addAll_take (l xs : List PySem.Str) (i : Nat) (x : PySem.Str) (h : xs[i]? = some x) : addAll l (xs.take (i + 1)) = addL x (addAll l (xs.take i)) := by
  unfold addAll
  rw [List.take_add_one, h, List.foldl_append]
  rfl
theorem addAll_len (l : List PySem.Str) : ∀ xs : List PySem.Str, (addAll l xs).length ≤ l.length + xs.length := by
  intro xs
  induction xs generalizing l with
  | nil => simp [addAll]
  | cons x xs ih =>
    have h := ih (addL x l)
    have h2 := addL_len x l
    show (addAll (addL x l) xs).length ≤ _
    rw [List.length_cons]
    omega
section
variable {P : Program} {w : World} {A : Around} {E : Value → Shared → Prop} {s : Shared}
theorem set_update_texts {I : Addr} {fp wr : List Addr} {G : Array GenState → Array GenState → Prop} {n : Nat} {Pv : Nat → Value → Prop} {St : Nat → Shared → Prop} {R : Result → Shared → Prop}
    (W : WalksS P w A.in1 I fp wr G n Pv St) (S : Addr) (hSf : S ∉ fp) (xs : List PySem.Str) (hn : n = xs.length) (hb : xs.length + 1 < scanBound) (hval : ∀ i v, Pv i v → ∃ k t, xs[i]? = some k ∧ v = .str k t) :
    ∀ (k i : Nat) (s : Shared), n - i = k → i ≤ n → St i s → SetS P w s.heap S (addAll [] (xs.take i)) →
      (∀ s', Moved (S :: wr) G s s' → SetS P w s'.heap S (addAll [] xs) → R (.ok (.ret .none)) s') →
      codeAny (model P w) A (.builtin "set.update.loop" ⟨[.ref S, .ref I], []⟩) R s := by
  have hSw : S ∉ wr := fun h => hSf (W.sub _ h)
  have hsub : ∀ b ∈ wr, b ∈ S :: wr := fun b hb => List.mem_cons_of_mem _ hb
  intro k
  induction k with
  | zero =>
    intro i s hk' hi hst hS hR
    have hin : i = n := by omega
    subst hin
    refine codeAny_builtin PyProof.Rows.F.entry_set_update_loop ?_
    rw [Around.under_plainId PyProof.Rows.F.plain_set_update_loop _]
    show wpAny _ A.in1 (pyNext (.ref I) >>= _) _ _ s
    refine wpAny_bind (W.done s _ _ hst fun s' hm => ?_)
    show wpAny _ A.in1 (ret Value.none) _ _ s'
    have e : xs.take i = xs := List.take_of_length_le (by omega)
    rw [e] at hS
    exact wpAny_pure (hR s' (hm.mono hsub) (hS.at fun o e => hm.heap S o hSw e))
  | succ k ih =>
    intro i s hk' hi hst hS hR
    have hlt : i < n := by omega
    refine codeAny_builtin PyProof.Rows.F.entry_set_update_loop ?_
    rw [Around.under_plainId PyProof.Rows.F.plain_set_update_loop _]
    show wpAny _ A.in1 (pyNext (.ref I) >>= _) _ _ s
    refine wpAny_bind (W.item i s _ _ hlt hst fun v s' hP hst' hm => ?_)
    obtain ⟨z, t, hz, rfl⟩ := hval i v hP
    have hS' : SetS P w s'.heap S (addAll [] (xs.take i)) := hS.at fun o e => hm.heap S o hSw e
    have hroom : (addAll [] (xs.take i)).length + 1 < scanBound := by
      have q := addAll_len [] (xs.take i)
      rw [List.length_take] at q
      simp only [List.length_nil] at q
      omega
    show wpAny _ A.in1 (holding [Value.str z t] (setAdd S (.str z t)) >>= _) _ _ s'
    refine wpAny_bind (wpAny_holding ?_)
    unfold setAdd
    refine wpAny_holding ?_
    refine wpAny_bind ((PySem.strKind P w).pyHash (k := z) (PySem.Froz.is_str z t) ?_)
    refine setS_hashed (s := { s' with toks := s'.toks + 1 }) hS' hroom fun b h' hsb hS2 => ?_
    rw [← addAll_take [] xs i z hz] at hS2
    refine wpAny_pure ⟨plainId_quiet PyProof.Rows.F.plain_set_update_loop _, ih (i + 1) _ (by omega) hlt (W.frame _ s' _ _ hst' (Nat.le_succ _) fun b hb o e => ?_) hS2 fun s'' hm'' hS'' => ?_⟩
    · rw [hsb.2 b (fun h : b = S => hSf (by rw [← h]; exact hb))]; exact e
    · refine hR s'' (Moved.trans W.gtrans ((hm.mono hsub).then_heap (Nat.le_succ _) fun b o hb e => ?_) hm'') hS''
      rw [hsb.2 b (fun h : b = S => hb (by rw [h]; exact List.mem_cons_self))]; exact e

/-- set() of a tuple of texts -/
theorem set_tuple {l : Addr} {items : Array Value} (xs : List PySem.Str) {Q : Value → Shared → Prop} (hh : A.handled = none) (hl : s.heap.IsTuple l items) (hit : StrsAre items.toList xs) (hb : xs.length + 1 < scanBound)
    (h : ∀ (h' : Heap) (tk : Nat), SetS P w h' s.heap.objs.size (addAll [] xs) → (∀ b o, s.heap.get? b = some o → h'.get? b = some o) → Q (.ref s.heap.objs.size) { s with heap := h', toks := tk }) :
    wpAny (model P w) A (call (.type "set") [.ref l]) Q E s := by
  have hisz : items.size = xs.length := by
    have q := hit.length
    rw [Array.length_toList] at q
    exact q
  obtain ⟨c, tl, hmro⟩ := PySem.F.called_set.mro
  have hmade := PySem.F.called_set.made
  have hsub := PySem.F.called_set.sub
  refine wpAny_call (codeAny_of_tree ?_)
  show wpAny _ _ (callAny (.type "set") _) _ _ _
  refine wpAny_pure ⟨Code.quiet_builtin _ (by decide +kernel), codeAny_builtin PySem.F.entry_type_call ?_⟩
  rw [Around.under_plain (weight_type_call_type "set" [.ref l] []) rfl]
  have h1 := PySem.F.called_set.notType
  have h2 := PySem.F.called_set.canCreate
  have hct := PySem.F.typeCall_set_1 (.ref l)
  repeat (any_goals (first | assumption | wp_step))

  refine codeAny_mono (code_set_led1 (.ref l) (E := E) (Q₁ := fun obj s₁ => obj = .ref s.heap.objs.size ∧ s₁ = { s with heap := s.heap.push (newSetObj w) }) ⟨rfl, rfl⟩) fun r s₁ hr => ?_
  cases r with
  | error e => exact hr
  | ok fl =>
    cases fl with
    | ret obj =>
      obtain ⟨rfl, rfl⟩ := hr
      have hS : (s.heap.push (newSetObj w)).get? s.heap.objs.size = some (newSetObj w) := Heap.get?_push_size _ rfl
      have hT : Shared.TypeIs { s with heap := s.heap.push (newSetObj w) } (.ref s.heap.objs.size) "set" := ⟨_, hS, rfl⟩
      have hli := PySem.F.called_set.init.lookup
      have hbi := PySem.F.called_set.init.bind (.ref s.heap.objs.size)
      repeat (any_goals (first | assumption | wp_step))

      refine codeAny_mono (codeAny_call_builtin (R := wants (fun r s₂ => r = .none ∧ ∃ h' tk, s₂ = { s with heap := h', toks := tk } ∧ SetS P w h' s.heap.objs.size (addAll [] xs) ∧
          (∀ b o, s.heap.get? b = some o → h'.get? b = some o)) E) PySem.F.called_set.init.plain PySem.F.entry_set_init (check_set_init_1 hT ?_)) fun r₂ s₂ hr₂ => ?_
      · obtain ⟨ol, hol, hcl, nl, hdl⟩ := hl
        obtain ⟨ocls, odict, odata, oslots⟩ := ol
        simp only at hcl hdl
        subst hcl; subst hdl
        have hol' : (s.heap.push (newSetObj w)).get? l = some { cls := .type "tuple", dict := odict, data := .seq items nl, slots := oslots } := Heap.get?_push_of_some _ hol
        have hsls := PySem.F.sub_tuple_set
        have hslf := PySem.F.sub_tuple_frozenset
        have hne : (Value.type "tuple" == Value.type "dict") = false := by decide
        have hl1 : (s.heap.push (newSetObj w)).IsTuple l items := ⟨_, hol', rfl, nl, rfl⟩
        unfold Builtin.«set.__init__» noKeywords Builtin.Frozenset.updateFrom
        generalize hPI : pyIter = PI
        wp_walk
        subst hPI

        refine wpAny_pyIter_tuple hl1 ?_
        refine wpAny_bind (wpAny_runValue ?_)
        have hlS : l < s.heap.objs.size := Heap.lt_size hol
        have hh3 : A.in1.in1.in1.handled = none := by simp [hh]
        have hneI : l ≠ (s.heap.push (newSetObj w)).objs.size := by
          rw [Heap.size_push]; exact Nat.ne_of_lt (Nat.lt_succ_of_lt hlS)
        have hSf : s.heap.objs.size ∉ [(s.heap.push (newSetObj w)).objs.size, l] := by
          rw [Heap.size_push]; simp only [List.mem_cons, List.mem_singleton, List.not_mem_nil, or_false, not_or]
          exact ⟨Nat.ne_of_lt (Nat.lt_succ_self _), Nat.ne_of_gt hlS⟩
        have hval : ∀ (i : Nat) (v : Value), items[i]? = some v → ∃ k t, xs[i]? = some k ∧ v = .str k t := fun i v hv => by
          have hi : i < xs.length := by rw [← hisz]; exact (Array.getElem?_eq_some_iff.mp hv).1
          obtain ⟨t, e⟩ := SS.strs_at hit i v (by rw [Array.getElem?_toList]; exact hv)
          refine ⟨xs[i], t, List.getElem?_eq_getElem hi, ?_⟩
          rw [e, List.getD_eq_getElem?_getD, List.getElem?_eq_getElem hi] <;> rfl
        refine set_update_texts ((Walks.tuple hh3 _ l hneI items).toS) s.heap.objs.size
          hSf xs hisz hb hval (items.size - 0) 0 _ (by omega) (Nat.zero_le _)
          ⟨⟨_, Heap.get?_push_size _ rfl, rfl, rfl⟩, (hl1.push _)⟩ ?hS0 ?hR
        case hS0 => exact (setS_fresh P w).at fun o e => Heap.get?_push_of_some _ e
        case hR =>
          intro s' hm hS'
          obtain ⟨h', g2, d', tk', os'⟩ := s'
          have eg : g2 = s.gens := hm.gens
          have ed : d' = s.drawn := hm.drawn
          have eo : os' = s.os := hm.os
          subst eg; subst ed; subst eo
          show wpAny _ _ _ _ _ _
          refine wpAny_pure ?_
          show wpAny _ _ (ret Value.none) _ _ _
          refine wpAny_pure ⟨rfl, h', tk', rfl, hS', fun b o e => ?_⟩
          have hb0 : b < s.heap.objs.size := Heap.lt_size e
          have hb2 : b ≠ (s.heap.push (newSetObj w)).objs.size := by
            rw [Heap.size_push]; exact Nat.ne_of_lt (Nat.lt_succ_of_lt hb0)
          exact hm.heap b o (by simp only [List.mem_cons, List.mem_singleton, List.not_mem_nil, or_false, not_or]; exact ⟨Nat.ne_of_lt hb0, hb2⟩) (Heap.get?_push_of_some _ (Heap.get?_push_of_some _ e))
      · cases r₂ with
        | error e => exact hr₂
        | ok fl₂ =>
          cases fl₂ with
          | ret r =>
            obtain ⟨rfl, h', tk, rfl, hS', hk'⟩ := hr₂
            repeat (any_goals (first | assumption | wp_step))
            exact h _ _ hS' hk'
          | _ => exact hr₂.elim
    | _ => exact hr.elim

/-- set() of a list of texts -/
theorem set_list {l : Addr} {items : Array Value} (xs : List PySem.Str) {Q : Value → Shared → Prop} (hh : A.handled = none) (hl : s.heap.IsList l items) (hit : StrsAre items.toList xs) (hb : xs.length + 1 < scanBound)
    (h : ∀ (h' : Heap) (tk : Nat), SetS P w h' s.heap.objs.size (addAll [] xs) → (∀ b o, s.heap.get? b = some o → h'.get? b = some o) → Q (.ref s.heap.objs.size) { s with heap := h', toks := tk }) :
    wpAny (model P w) A (call (.type "set") [.ref l]) Q E s := by
  have hisz : items.size = xs.length := by
    have q := hit.length
    rw [Array.length_toList] at q
    exact q
  obtain ⟨c, tl, hmro⟩ := PySem.F.called_set.mro
  have hmade := PySem.F.called_set.made
  have hsub := PySem.F.called_set.sub
  refine wpAny_call (codeAny_of_tree ?_)
  show wpAny _ _ (callAny (.type "set") _) _ _ _
  refine wpAny_pure ⟨Code.quiet_builtin _ (by decide +kernel), codeAny_builtin PySem.F.entry_type_call ?_⟩
  rw [Around.under_plain (weight_type_call_type "set" [.ref l] []) rfl]
  have h1 := PySem.F.called_set.notType
  have h2 := PySem.F.called_set.canCreate
  have hct := PySem.F.typeCall_set_1 (.ref l)
  repeat (any_goals (first | assumption | wp_step))

  refine codeAny_mono (code_set_led1 (.ref l) (E := E) (Q₁ := fun obj s₁ => obj = .ref s.heap.objs.size ∧ s₁ = { s with heap := s.heap.push (newSetObj w) }) ⟨rfl, rfl⟩) fun r s₁ hr => ?_
  cases r with
  | error e => exact hr
  | ok fl =>
    cases fl with
    | ret obj =>
      obtain ⟨rfl, rfl⟩ := hr
      have hS : (s.heap.push (newSetObj w)).get? s.heap.objs.size = some (newSetObj w) := Heap.get?_push_size _ rfl
      have hT : Shared.TypeIs { s with heap := s.heap.push (newSetObj w) } (.ref s.heap.objs.size) "set" := ⟨_, hS, rfl⟩
      have hli := PySem.F.called_set.init.lookup
      have hbi := PySem.F.called_set.init.bind (.ref s.heap.objs.size)
      repeat (any_goals (first | assumption | wp_step))

      refine codeAny_mono (codeAny_call_builtin (R := wants (fun r s₂ => r = .none ∧ ∃ h' tk, s₂ = { s with heap := h', toks := tk } ∧ SetS P w h' s.heap.objs.size (addAll [] xs) ∧
          (∀ b o, s.heap.get? b = some o → h'.get? b = some o)) E) PySem.F.called_set.init.plain PySem.F.entry_set_init (check_set_init_1 hT ?_)) fun r₂ s₂ hr₂ => ?_
      · obtain ⟨ol, hol, hcl, nl, hdl⟩ := hl
        obtain ⟨ocls, odict, odata, oslots⟩ := ol
        simp only at hcl hdl
        subst hcl; subst hdl
        have hol' : (s.heap.push (newSetObj w)).get? l = some { cls := .type "list", dict := odict, data := .seq items nl, slots := oslots } := Heap.get?_push_of_some _ hol
        have hsls := PySem.F.sub_list_set
        have hslf := PySem.F.sub_list_frozenset
        have hne : (Value.type "list" == Value.type "dict") = false := by decide
        have hl1 : (s.heap.push (newSetObj w)).IsList l items := ⟨_, hol', rfl, nl, rfl⟩
        unfold Builtin.«set.__init__» noKeywords Builtin.Frozenset.updateFrom
        generalize hPI : pyIter = PI
        wp_walk
        subst hPI

        refine wpAny_pyIter_list hl1 ?_
        refine wpAny_bind (wpAny_runValue ?_)
        have hlS : l < s.heap.objs.size := Heap.lt_size hol
        have hh3 : A.in1.in1.in1.handled = none := by simp [hh]
        have hneI : l ≠ (s.heap.push (newSetObj w)).objs.size := by
          rw [Heap.size_push]; exact Nat.ne_of_lt (Nat.lt_succ_of_lt hlS)
        have hSf : s.heap.objs.size ∉ [(s.heap.push (newSetObj w)).objs.size, l] := by
          rw [Heap.size_push]; simp only [List.mem_cons, List.mem_singleton, List.not_mem_nil, or_false, not_or]
          exact ⟨Nat.ne_of_lt (Nat.lt_succ_self _), Nat.ne_of_gt hlS⟩
        have hval : ∀ (i : Nat) (v : Value), items[i]? = some v → ∃ k t, xs[i]? = some k ∧ v = .str k t := fun i v hv => by
          have hi : i < xs.length := by rw [← hisz]; exact (Array.getElem?_eq_some_iff.mp hv).1
          obtain ⟨t, e⟩ := SS.strs_at hit i v (by rw [Array.getElem?_toList]; exact hv)
          refine ⟨xs[i], t, List.getElem?_eq_getElem hi, ?_⟩
          rw [e, List.getD_eq_getElem?_getD, List.getElem?_eq_getElem hi] <;> rfl
        refine set_update_texts ((Walks.list hh3 _ l hneI items).toS) s.heap.objs.size
          hSf xs hisz hb hval (items.size - 0) 0 _ (by omega) (Nat.zero_le _)
          ⟨⟨_, Heap.get?_push_size _ rfl, rfl, rfl⟩, (hl1.push _)⟩ ?hS0 ?hR
        case hS0 => exact (setS_fresh P w).at fun o e => Heap.get?_push_of_some _ e
        case hR =>
          intro s' hm hS'
          obtain ⟨h', g2, d', tk', os'⟩ := s'
          have eg : g2 = s.gens := hm.gens
          have ed : d' = s.drawn := hm.drawn
          have eo : os' = s.os := hm.os
          subst eg; subst ed; subst eo
          show wpAny _ _ _ _ _ _
          refine wpAny_pure ?_
          show wpAny _ _ (ret Value.none) _ _ _
          refine wpAny_pure ⟨rfl, h', tk', rfl, hS', fun b o e => ?_⟩
          have hb0 : b < s.heap.objs.size := Heap.lt_size e
          have hb2 : b ≠ (s.heap.push (newSetObj w)).objs.size := by
            rw [Heap.size_push]; exact Nat.ne_of_lt (Nat.lt_succ_of_lt hb0)
          exact hm.heap b o (by simp only [List.mem_cons, List.mem_singleton, List.not_mem_nil, or_false, not_or]; exact ⟨Nat.ne_of_lt hb0, hb2⟩) (Heap.get?_push_of_some _ (Heap.get?_push_of_some _ e))
      · cases r₂ with
        | error e => exact hr₂
        | ok fl₂ =>
          cases fl₂ with
          | ret r =>
            obtain ⟨rfl, h', tk, rfl, hS', hk'⟩ := hr₂
            repeat (any_goals (first | assumption | wp_step))
            exact h _ _ hS' hk'
          | _ => exact hr₂.elim
    | _ => exact hr.elim
end
end CA
/-! set(texts), len(set), x in set: as calls. -/
namespace CA
open PySem PySem.Spec L2
open PyProof.Rows hiding St
section
variable {X : Cx}
def rSetTx (P : Program) (w : World) (K : PySem.W.Frag) : List V → Hp → VK → Prop := fun vs H Q => ∃ (p : Addr) (xs : List PySem.Str), vs = [.ref p] ∧ (SqT K H p (xs.map V.str) ∨ SqL K H p (xs.map V.str)) ∧ xs.length < 4000 ∧
  ∀ q, H q = none → Q (.ref q) (upd H q (SetSO P w q (addAll [] xs)))
theorem cr_setTx (hc : X.calm = true) : CallR X (.type "set") (rSetTx X.prog X.w X.K) := by
  intro pins s σ H vs us Q I r h
  obtain ⟨p, xs, rfl, hq, hl, q⟩ := h
  rw [Vals.ref1 r]
  have hn : H s.heap.objs.size = none := I.hok.fresh (Nat.le_refl _)
  have fin : ∀ (h' : Heap) (tk : Nat), SetS X.prog X.w h' s.heap.objs.size (addAll [] xs) → (∀ b o, s.heap.get? b = some o → h'.get? b = some o) → EP X pins σ Q (.ref s.heap.objs.size) { s with heap := h', toks := tk } := fun h' tk R k =>
    ⟨.ref s.heap.objs.size, _, I.laid (t' := tk) k (Nat.le_refl _) (setSO_new R), rfl, q _ hn⟩
  rcases hq with hq | hq
  · obtain ⟨its, rv, pt, hz⟩ := I.tuple hq
    exact set_tuple xs (I.ok.hd hc) (show s.heap.IsTuple p its.toArray from pt) (by simpa using strsAre_of rv) (by unfold scanBound; omega) fin
  · obtain ⟨its, rv, pl, hz⟩ := I.list hq
    exact set_list xs (I.ok.hd hc) pl.isList (by simpa using strsAre_of rv) (by unfold scanBound; omega) fin
def rLenS (P : Program) (w : World) : List V → Hp → VK → Prop := fun vs H Q => ∃ (a : Addr) (l : List PySem.Str), vs = [.ref a] ∧ H a = some (SetSO P w a l) ∧ l.length < 4000 ∧ Q (.int l.length) H
theorem cr_lenS : CallR X (.builtin "len") (rLenS X.prog X.w) := by
  intro pins s σ H vs us Q I r h
  obtain ⟨a, l, rfl, ha, hl, q⟩ := h
  rw [Vals.ref1 r]
  obtain ⟨D, ho, F⟩ := setSO_get I ha
  have e : D.1.size = l.length := F.ok.sz
  exact call_len_set ho ⟨rfl, rfl, rfl⟩ rfl F.ok.fit (by rw [e]; omega) ⟨.int l.length, H, I.tok _, ⟨_, by rw [e]⟩, q⟩
/-- k in found, k not in found -/
def rInS (P : Program) (w : World) (neg : Bool) : V → V → Hp → VK → Prop := fun x y H Q => ∃ (k : PySem.Str) (a : Addr) (l : List PySem.Str), x = .str k ∧ y = .ref a ∧ H a = some (SetSO P w a l) ∧ l.length < scanBound ∧ Q (.bl (if neg then !decide (k ∈ l) else decide (k ∈ l))) H
theorem or_inS : OpR X (compareOp .In) (rInS X.prog X.w false) := by
  intro pins s σ H x y v u Q I rx ry h
  obtain ⟨k, a, l, rfl, rfl, ha, hl, q⟩ := h
  obtain ⟨tk, rfl⟩ := (show ∃ t, v = Value.str k t from rx)
  cases (show u = Value.ref a from ry)
  exact wpAny_inSet_of (PySem.Froz.is_str _ _) rfl ((setSO_get I ha).setOf hl) ⟨.bl (decide (k ∈ l)), H, I.tok _, rfl, q⟩
theorem or_notinS : OpR X (compareOp .NotIn) (rInS X.prog X.w true) := by
  intro pins s σ H x y v u Q I rx ry h
  obtain ⟨k, a, l, rfl, rfl, ha, hl, q⟩ := h
  obtain ⟨tk, rfl⟩ := (show ∃ t, v = Value.str k t from rx)
  cases (show u = Value.ref a from ry)
  exact wpAny_notInSet_of (PySem.Froz.is_str _ _) rfl ((setSO_get I ha).setOf hl) ⟨.bl (!decide (k ∈ l)), H, I.tok _, rfl, q⟩
end
/-! ### lists told apart -/
theorem addL_mem {x k : PySem.Str} {l : List PySem.Str} : x ∈ addL k l ↔ x = k ∨ x ∈ l := by
  unfold addL
  split
  · rename_i h
    exact ⟨.inr, fun z => z.elim (fun e => e ▸ h) id⟩
  · exact List.mem_cons
theorem addL_nodup {k : PySem.Str} {l : List PySem.Str} (h : l.Nodup) : (addL k l).Nodup := by
  unfold addL
  split
  · exact h
  · rename_i hk
    exact List.nodup_cons.mpr ⟨hk, h⟩
theorem addAll_mem {x : PySem.Str} : ∀ {xs l : List PySem.Str}, x ∈ addAll l xs ↔ x ∈ l ∨ x ∈ xs := by
  intro xs
  induction xs with
  | nil => intro l; simp [addAll]
  | cons y ys ih =>
    intro l
    show x ∈ addAll (addL y l) ys ↔ _
    rw [ih, addL_mem, List.mem_cons]
    constructor
    · rintro ((h | h) | h)
      · exact .inr (.inl h)
      · exact .inl h
      · exact .inr (.inr h)
    · rintro (h | h | h)
      · exact .inl (.inr h)
      · exact .inl (.inl h)
      · exact .inr h
theorem addAll_nodup : ∀ {xs l : List PySem.Str}, l.Nodup → (addAll l xs).Nodup := by
  intro xs
  induction xs with
  | nil => intro l h; exact h
  | cons y ys ih => intro l h; exact ih (addL_nodup h)
/-- the set of xs has as many members as xs exactly if xs has none twice -/
theorem addAll_full : ∀ {xs l : List PySem.Str}, ((addAll l xs).length = l.length + xs.length ↔ xs.Nodup ∧ ∀ x ∈ xs, x ∉ l) := by
  intro xs
  induction xs with
  | nil => intro l; simp [addAll]
  | cons y ys ih =>
    intro l
    show (addAll (addL y l) ys).length = _ ↔ _
    by_cases hy : y ∈ l
    · have e : addL y l = l := by unfold addL; rw [if_pos hy]
      rw [e]
      have q := addAll_len l ys
      constructor
      · intro h
        rw [List.length_cons] at h
        omega
      · intro h
        exact absurd hy (h.2 y (List.mem_cons_self ..))
    · have e : addL y l = y :: l := by unfold addL; rw [if_neg hy]
      rw [e]
      have q := ih (l := y :: l)
      rw [List.length_cons] at q
      have r : (addAll (y :: l) ys).length = l.length + (y :: ys).length ↔ (addAll (y :: l) ys).length = l.length + 1 + ys.length := by rw [List.length_cons]; omega
      rw [r, q, List.nodup_cons]
      constructor
      · rintro ⟨h1, h2⟩
        refine ⟨⟨fun z => h2 y z (List.mem_cons_self ..), h1⟩, fun x hx => ?_⟩
        rcases List.mem_cons.mp hx with z | z
        · rw [z]; exact hy
        · exact fun w => h2 x z (List.mem_cons_of_mem _ w)
      · rintro ⟨⟨h1, h2⟩, h3⟩
        refine ⟨h2, fun x hx z => ?_⟩
        rcases List.mem_cons.mp z with w | w
        · rw [w] at hx; exact h1 hx
        · exact h3 x (List.mem_cons_of_mem _ hx) w
/-- two sorted lists of the same texts, none twice, are the same -/
theorem ltCps_as {a b : List Nat} (h1 : ltCps a b = false) (h2 : ltCps b a = false) : a = b := by
  rw [ltCps_eq] at h1 h2
  simp only [decide_eq_false_iff_not] at h1 h2
  exact List.le_antisymm (List.not_lt.mp h2) (List.not_lt.mp h1)
end CA
namespace CA
open PySem L2 PySem.Spec PyProof.Rows
/-! ### xs.extend(t), t a tuple -/
open MeetsSeq in
open AutoSeq1 (wpAny_loadPart' idx_int) in
theorem meets_extendT (l b : Addr) (as bs : Array Value) (n m : Nat) (dd : Option Addr) (sl : Array (Option Value)) (hs : as.size + bs.size ≤ sizeLine) (hlong : ¬ (!as.isEmpty && Builtin.List.listTooLong (as.size + bs.size)) = true) :
    Meets (Builtin.«list.extend» ⟨[.ref l, .ref b], []⟩) (fun _ R s => s.heap.get? l = some { cls := .type "list", data := .seq as n } ∧ s.heap.get? b = some { cls := .type "tuple", dict := dd, data := .seq bs m, slots := sl } ∧
      R (.ok (.ret Value.none)) { s with heap := s.heap.update l (Obj.mapSeq fun x => x ++ bs) }) :=
  .of_wp fun prog w A R s h => by
    obtain ⟨hp, g, d, tk, os⟩ := s
    obtain ⟨ha, hb, h⟩ := h
    have f1 := idx_int
    have f2 := AutoSeq1.sub_tuple_tuple
    have f3 := AutoSeq1.sub_list_list
    have f4 := AutoSeq1.sub_tuple_list
    have f5 := AutoSeq1.sub_list_tuple
    have hz1 : as.size ≤ sizeLine := by omega
    have hz2 : (as ++ bs).size ≤ sizeLine + 1 := by rw [Array.size_append]; omega
    wp_walk using (wpAny_updateSeq ha rfl (hz := hz1) (_hz' := hz2)), wpAny_loadPart' ha, wpAny_loadPart' hb
    exact ⟨_, rfl, h⟩
section
variable {X : Cx}
def rExtendT (K : PySem.W.Frag) : V → List V → Hp → VK → Prop := fun x vs H Q => ∃ l b xs zs, x = .ref l ∧ vs = [.ref b] ∧ H l = some (.lst xs) ∧ SqT K H b zs ∧ xs.length + zs.length ≤ sizeLine ∧ Q .non (upd H l (.lst (xs ++ zs)))
theorem mt_extendT : MtM X "list.extend" (rExtendT X.K) := by
  intro pins s σ H x vs v us Q I rx rv h
  obtain ⟨l, b, xs, zs, rfl, rfl, hH, hB, hz, q⟩ := h
  cases rx
  obtain ⟨u, rfl, ru⟩ := rv.one
  cases ru
  obtain ⟨_, its, n, r, hl, e⟩ := I.lstM hH
  obtain ⟨its2, r2, ⟨o2, ho2, hc2, n2, hd2⟩, _⟩ := I.tuple hB
  obtain ⟨c2, dd2, data2, sl2⟩ := o2
  simp only at hc2 hd2
  subst hc2 hd2
  have hsz : its.toArray.size + its2.toArray.size ≤ sizeLine := by rw [List.size_toArray, List.size_toArray, ← r.length, ← r2.length]; exact hz
  have hlong : ¬ (!its.toArray.isEmpty && Builtin.List.listTooLong (its.toArray.size + its2.toArray.size)) = true := by
    rw [notLongL hsz, Bool.and_false]
    exact Bool.false_ne_true
  refine call_meets F.slot_list_extend ⟨_, e, rfl⟩ F.entry_list_extend (F.args_list_extend_2 _ _) (meets_extendT l b its.toArray its2.toArray n n2 dd2 sl2 hsz hlong) ⟨e, ho2, ?_⟩
  refine ⟨.non, _, I.lset (its' := its ++ its2) hH e (by simp) (r.append r2) ?_, rfl, q⟩
  rw [List.length_append]
  exact hz
end
/-! ### for i, x in enumerate(t), t a tuple -/
open MeetsSeq in
theorem meets_enumT {v : Value} {o : Obj} {G : Heap → Prop} (B : Begins v o G) :
    Meets (Builtin.«enumerate.__new__» ⟨[.type "enumerate", v], []⟩) (fun _ R s => G s.heap ∧
      R (.ok (.ret (.ref (s.heap.push o).objs.size))) { s with heap := (s.heap.push o).push { cls := .type "enumerate", data := .fields #[.none, .bool false, .ref s.heap.objs.size, rawInt 0, .none, .none] } }) :=
  .of_wp fun prog w A R s h => by
    obtain ⟨hp, g, d, tk, os⟩ := s
    obtain ⟨h1, h⟩ := h
    have hsub := sub_enumerate
    have step : ∀ {A' : Around} {E : Value → Shared → Prop} {Q : Value → Shared → Prop}, Q (.ref hp.objs.size) ⟨hp.push o, g, d, tk, os⟩ → wpAny (model prog w) A' (pyIter v) Q E ⟨hp, g, d, tk, os⟩ :=
      fun q => B.iter prog w _ _ ⟨hp, g, d, tk, os⟩ _ h1 q
    wp_walk using step
    refine wpAny_stack_any fun st => wpAny_pure ?_
    split
    · rename_i c _ _ _ _ _
      cases (c == Value.type "enumerate") <;> (wp_walk using step; exact ⟨_, rfl, h⟩)
    · wp_walk using step
      exact ⟨_, rfl, h⟩
theorem call_enumT {prog : Program} {w : World} {A : Around} {E : Value → Shared → Prop} {s : Shared} {v : Value} {o : Obj} {G : Heap → Prop} {Q : Value → Shared → Prop} (B : Begins v o G) (h1 : G s.heap)
    (h : ∀ h', IsEnum h' (s.heap.objs.size + 1) s.heap.objs.size 0 .none → h'.get? s.heap.objs.size = some o → (∀ b o, s.heap.get? b = some o → h'.get? b = some o) → Q (.ref (s.heap.objs.size + 1)) { s with heap := h' }) :
    wpAny (model prog w) A (call (.type "enumerate") [v]) Q E s := by
  refine callType_new F.called_enumerate (by decide) (F.typeCall_enumerate_1 _) (F.newCall_enumerate_1 _) (fun obj => F.args_object_init_2 obj _) F.entry_enumerate_new (meets_enumT B) ⟨h1, ?_⟩
  have hz : (s.heap.push o).objs.size = s.heap.objs.size + 1 := Heap.size_push ..
  show _ ∧ _
  rw [hz]
  have he : ((s.heap.push o).push { cls := .type "enumerate", data := .fields #[.none, .bool false, .ref s.heap.objs.size, rawInt 0, .none, .none] }).get? (s.heap.objs.size + 1) = some { cls := .type "enumerate", data := .fields #[.none, .bool false, .ref s.heap.objs.size, rawInt 0, .none, .none] } := by
    rw [← hz]; exact Heap.get?_push_size _ rfl
  exact ⟨⟨_, he, rfl⟩, h _ he (Heap.get?_push_of_some _ (Heap.get?_push_size _ B.free)) fun b o' x => Heap.get?_push_of_some _ (Heap.get?_push_of_some _ x)⟩
/-- the tuple at a, each item in a new pair with its place -/
def IteT (K : PySem.W.Frag) (a : Addr) : It :=
  ⟨fun i H => ∃ (xs : List V) (x : V), SqT K H a xs ∧ xs[i]? = some x, fun i H v H' => ∃ T x, v = .ref T ∧ H T = none ∧ H' = upd H T (.tup [.int (i : Nat), x]) ∧ ∀ xs, SqT K H a xs → xs[i]? = some x, fun i H => ∃ xs : List V, SqT K H a xs ∧ xs.length ≤ i⟩
theorem turn_enumT {P : Program} {w : World} {K : PySem.W.Frag} {elts : List Expr} {kk : Nat} {tpos : Pos} (a e it : Addr) (hai : a ≠ it) (hae : a ≠ e) :
    Turn P w K (.Tuple elts kk tpos) (IteT K a) [e, it] e (fun i h => (∃ old, IsEnum h e it ((i : Nat) : Int) old) ∧ h.IsTupleIter it a i ∧ e ≠ it) where
  mem := by simp
  obj := fun i h st b hb => by
    obtain ⟨⟨old, he⟩, ⟨o, ho, hc, hd⟩, _⟩ := st
    have q : b = e ∨ b = it := by simpa using hb
    rcases q with rfl | rfl
    · exact ⟨_, he, fun v q => nomatch q⟩
    · exact ⟨o, ho, fun v q => by rw [hd] at q; cases q⟩
  keep := fun i h h' st k => let ⟨⟨old, he⟩, hi, hne⟩ := st; ⟨⟨old, k e (by simp) _ he⟩, hi.at fun o q => k it (by simp) o q, hne⟩
  item := by
    intro X hP hw hK hc i pins s σ H E I hf st hg
    subst hP hw hK
    obtain ⟨⟨old, he⟩, hit, hne⟩ := st
    obtain ⟨xs, x, hq, hx⟩ := hg
    obtain ⟨its, rv, p, hz⟩ := I.tuple hq
    obtain ⟨u, hu, ru⟩ := rv.get hx
    have hel : e < s.heap.objs.size := Heap.lt_size he
    have hil : it < s.heap.objs.size := by obtain ⟨_, q, _⟩ := hit; exact Heap.lt_size q
    have hlt : i < its.toArray.size := by rw [List.size_toArray]; exact (List.getElem?_eq_some_iff.mp hu).1
    have hh : (X.A.in1).handled = none := I.ok.hd hc
    refine wpAny_pyNext_enum_itemC (Draws.tuple hh it a hai its.toArray) he ⟨hit, p⟩ hlt hne (by simp [hne, Ne.symm hae]) fun x' h' tk hP ho hst hT hsz hk => ?_
    have ex : x' = u := by
      have z : its.toArray[i]? = some u := by simpa using hu
      rw [z] at hP
      exact (Option.some.inj hP).symm
    subst ex
    refine ⟨_, rfl, wpAny_letOwnedTupleGo_enum (s := { s with heap := h', toks := tk + 1 }) ho fun h'' he' sb => ?_⟩
    have hT2 : h''.get? s.heap.objs.size = some { cls := .type "tuple", data := .seq #[.int i tk, x'] } := (sb.2 _ (Nat.ne_of_gt hel)).trans hT
    have new : ObjOk X.prog X.w (upd H s.heap.objs.size (.tup [.int (i : Nat), x])) h'' s.heap.objs.size (.tup [.int (i : Nat), x]) :=
      ⟨by show 2 ≤ sizeLine; decide, [.int i tk, x'], .cons ⟨_, rfl⟩ (.cons ru .nil), ⟨_, hT2, rfl, _, rfl⟩⟩
    have I1 : Inv X pins σ (upd H s.heap.objs.size (.tup [.int (i : Nat), x])) { s with heap := h'', toks := tk + 1 } :=
      I.turnedNew (ch := [e, it]) (fun b ob hb q => (sb.2 b (fun z => hb (by simp [z]))).trans (hk b ob (fun z => hb (by simp [z])) (fun z => hb (by simp [z])) q)) hf (Nat.le_refl _) new
    refine ⟨.ref s.heap.objs.size, _, I1, rfl, ⟨_, x, rfl, I.hok.fresh (Nat.le_refl _), rfl, fun ys hy => by rw [I.tuple_inj hy hq]; exact hx⟩, ⟨⟨x', ?_⟩, hst.1.at fun o q => (sb.2 it (Ne.symm hne)).trans q, hne⟩, fun b hb => ?_⟩
    · have e1 : ((i + 1 : Nat) : Int) = (i : Int) + 1 := by omega
      rw [e1]; exact he'
    · have hb' : b < s.heap.objs.size := by
        have q : b = e ∨ b = it := by simpa using hb
        rcases q with rfl | rfl
        · exact hel
        · exact hil
      rw [upd_ne (Nat.ne_of_lt hb')]
      exact (hf b hb).1
  done := by
    intro X hP hw hK hc i pins s σ H E I hf st hg
    subst hP hw hK
    obtain ⟨⟨old, he⟩, hit, hne⟩ := st
    obtain ⟨xs, hq, hx⟩ := hg
    obtain ⟨its, rv, p, hz⟩ := I.tuple hq
    obtain ⟨f0, f1, f2, f3, f4, f5⟩ := hf it (by simp)
    have hh : (X.A.in1).handled = none := I.ok.hd hc
    have hend : its.toArray[i]? = none := by rw [List.getElem?_toArray, List.getElem?_eq_none_iff, ← rv.length]; exact hx
    have D : Draws X.prog X.w X.A.in1 it [it, a] i (fun _ _ => False) (fun j h => j = i ∧ h.IsTupleIter it a i ∧ h.IsTuple a its.toArray) :=
      { live := fun _ _ st => let ⟨o, ho, _⟩ := st.2.1; ⟨o, ho⟩
        frame := fun _ _ _ st hk => ⟨st.1, st.2.1.at fun o e => hk it (by simp) o e, st.2.2.at fun o e => hk a (by simp) o e⟩
        item := fun j s Q E hj st hQ => absurd st.1 (Nat.ne_of_lt hj)
        done := fun s Q E st hE => wpAny_nextOf_tuple_end hh st.2.1 st.2.2 hend hE }
    exact wpAny_pyNext_enum_endD D he ⟨rfl, hit, p⟩ fun h' eb => ⟨rfl, I.turned (t' := s.toks) (fun b o hb q => eb b o hb q) f0 f1 f3 f4 f5⟩
  self := fun A i s Q E st h => let ⟨⟨_, he⟩, _⟩ := st; wpAny_pyIter_enum he h
def iEnumT (K : PySem.W.Frag) (ta : TA) : TI := fun σ H R => ta σ H fun vs H1 => ∃ a xs, vs = [.ref a] ∧ SqT K H1 a xs ∧ R (IteT K a) H1
theorem pi_enumT {X : Cx} {e : Expr} {ta : TA} {p pos tpos : Pos} {elts : List Expr} {kk : Nat} (hm : X.mg "enumerate" = none) (ha : PA X [e] ta) (hg : Gl X "enumerate" := by rfl) (hs : starEach [e] X.env = [(false, eval e X.env)] := by rfl) :
    PI X (.Tuple elts kk tpos) (.Call (.Name "enumerate" p) [e] [] pos) (iEnumT X.K ta) := by
  refine ⟨fun pins s σ H R I h => ?_⟩
  refine Call_ (ld_blt I hg hm boot_enumerate (PyProof.Rows.callWith_type1 (thn (ha.run pos pins s σ H _ I h) fun us s1 ⟨vs, H1, I1, r1, a, xs, ex, hq, q⟩ => ?_) hs rfl))
  subst ex
  cases r1 with
  | cons r rr =>
    cases rr
    cases r
    obtain ⟨its, rv, p', hz⟩ := I1.tuple hq
    have hlt : a < s1.heap.objs.size := by obtain ⟨_, z, _⟩ := p'; exact Heap.lt_size z
    refine call_enumT (begins_tuple a its.toArray) p' fun h' he hit hk => wpAny_pyIter_enum he ?_
    have I2 : Inv X pins σ H1 { s1 with heap := h' } := I1.kept (t' := s1.toks) hk
    refine ⟨s1.heap.objs.size + 1, [s1.heap.objs.size + 1, s1.heap.objs.size], _, _, H1, rfl, I2, turn_enumT a (s1.heap.objs.size + 1) s1.heap.objs.size (Nat.ne_of_lt hlt) (Nat.ne_of_lt (Nat.lt_succ_of_lt hlt)), ⟨⟨.none, he⟩, ⟨_, hit, rfl, rfl⟩, Nat.succ_ne_self _⟩, fun b hb => ?_, q⟩
    have q : b = s1.heap.objs.size + 1 ∨ b = s1.heap.objs.size := by simpa using hb
    have hle : s1.heap.objs.size ≤ b := by
      rcases q with z | z
      · rw [z]; exact Nat.le_succ _
      · rw [z]; exact Nat.le_refl _
    exact I1.fpOk hle (I1.hok.fresh hle)
/-- the loop over it, by an invariant -/
theorem for_enumT {K : PySem.W.Frag} {a : Addr} {xs : List V} {g : TG} {tb : TS} {D : Ends} {σ : L2.St} {H : Hp} (Pv : Nat → L2.St → Hp → Prop) (h0 : Pv 0 σ H) (hl : ∀ i σ H, i ≤ xs.length → Pv i σ H → SqT K H a xs)
    (hs : ∀ i x σ H T, xs[i]? = some x → Pv i σ H → H T = none → g (.ref T) σ (upd H T (.tup [.int (i : Nat), x])) fun σ2 H2 => tb { D with nx := Pv (i + 1), ct := Pv (i + 1), bk := D.nx } σ2 H2) (hd : ∀ σ H, Pv xs.length σ H → D.nx σ H) :
    ∃ W : Nat → Nat → L2.St → Hp → Prop, (∃ m, W 0 m σ H) ∧ ∀ i m σ H, W i m σ H →
      ((IteT K a).stop i H ∧ D.nx σ H) ∨ ((IteT K a).go i H ∧ ∃ N : L2.St → Hp → Prop, (∀ σ' H', N σ' H' → ∃ m', m' < m ∧ W (i + 1) m' σ' H') ∧ ∀ x H', (IteT K a).yld i H x H' → g x σ H' fun σ2 H2 => tb { D with nx := N, ct := N, bk := D.nx } σ2 H2) := by
  refine ⟨fun i m σ H => m = xs.length - i ∧ i ≤ xs.length ∧ Pv i σ H, ⟨xs.length, by simp, Nat.zero_le _, h0⟩, ?_⟩
  rintro i m σ H ⟨rfl, hi, p⟩
  have q := hl i σ H hi p
  by_cases hlt : i < xs.length
  · refine .inr ⟨⟨xs, xs[i], q, by simp [hlt]⟩, Pv (i + 1), fun σ' H' p' => ⟨xs.length - (i + 1), by omega, rfl, hlt, p'⟩, fun v H' y => ?_⟩
    obtain ⟨T, x, rfl, hT, rfl, hx⟩ := y
    exact hs i x σ H T (hx xs q) p hT
  · have e : i = xs.length := by omega
    subst e
    exact .inl ⟨⟨xs, q, Nat.le_refl _⟩, hd σ H p⟩
end CA
/-! Trees of values; comprehensions that map. -/
namespace CA
open PySem L2
/-! ### how a heap goes on when tuples stay and lists stay lists -/
structure Gr (H H' : Hp) : Prop where
  tup : ∀ a xs, H a = some (.tup xs) → H' a = some (.tup xs)
  lst : ∀ a xs, H a = some (.lst xs) → ∃ ys, H' a = some (.lst ys)
  dct : ∀ a kvs, H a = some (.dK kvs) → ∃ lvs, H' a = some (.dK lvs)
theorem Gr.refl (H : Hp) : Gr H H := ⟨fun _ _ e => e, fun _ _ e => ⟨_, e⟩, fun _ _ e => ⟨_, e⟩⟩
theorem Gr.trans {H H1 H2 : Hp} (a : Gr H H1) (b : Gr H1 H2) : Gr H H2 :=
  ⟨fun c xs e => b.tup c xs (a.tup c xs e), fun c xs e => let ⟨ys, h⟩ := a.lst c xs e; b.lst c ys h, fun c xs e => let ⟨ys, h⟩ := a.dct c xs e; b.dct c ys h⟩
theorem Gr.of {H H' : Hp} (s : Same H H') : Gr H H' := ⟨fun _ _ e => s _ _ e, fun _ _ e => ⟨_, s _ _ e⟩, fun _ _ e => ⟨_, s _ _ e⟩⟩
theorem Gr.keep {H H' : Hp} {m : Addr} (k : Keep [m] H H') (h : ∃ L, H m = some (.lst L)) (h' : ∃ L, H' m = some (.lst L)) : Gr H H' := by
  obtain ⟨L, hL⟩ := h
  refine ⟨fun a xs e => k.one e (ne_of e hL (by intro z; cases z)), fun a xs e => ?_, fun a xs e => ⟨_, k.one e (ne_of e hL (by intro z; cases z))⟩⟩
  by_cases z : a = m
  · rw [z]; exact h'
  · exact ⟨_, k.one e z⟩
theorem Same.trans' {H H1 H2 : Hp} (a : Same H H1) (b : Same H1 H2) : Same H H2 := fun c o e => b c o (a c o e)
/-! ### trees -/
/-- a tuple of trees, or any other value -/
inductive Tr where
  | at (v : V)
  | tup (ts : List Tr)
/-- a text is not too long -/
def smV : V → Prop
  | .str s => s.length ≤ 1000
  | _ => True
inductive Nt (H : Hp) : V → Prop where
  | flat {v : V} (h : flatV v = true) (hs : smV v) : Nt H v
  | lst {a : Addr} {xs : List V} (h : H a = some (.lst xs)) : Nt H (.ref a)
  | dct {a : Addr} {kvs : List (Key × V)} (h : H a = some (.dK kvs)) : Nt H (.ref a)
mutual
inductive Tw (H : Hp) : V → Tr → Prop
  | at {v : V} : Nt H v → Tw H v (.at v)
  | tup {a : Addr} {vs : List V} {ts : List Tr} : H a = some (.tup vs) → TwL H vs ts → ts.length ≤ 1000 → Tw H (.ref a) (.tup ts)
inductive TwL (H : Hp) : List V → List Tr → Prop
  | nil : TwL H [] []
  | cons {v : V} {vs : List V} {t : Tr} {ts : List Tr} : Tw H v t → TwL H vs ts → TwL H (v :: vs) (t :: ts)
end
theorem Nt.gr {H H' : Hp} {v : V} (n : Nt H v) (g : Gr H H') : Nt H' v := by
  cases n with
  | flat h hs => exact .flat h hs
  | lst h => obtain ⟨ys, e⟩ := g.lst _ _ h; exact .lst e
  | dct h => obtain ⟨ys, e⟩ := g.dct _ _ h; exact .dct e
mutual
theorem Tw.gr {H H' : Hp} (g : Gr H H') : ∀ (t : Tr) (v : V), Tw H v t → Tw H' v t
  | .at _, _, .at n => .at (n.gr g)
  | .tup ts, _, .tup h l b => .tup (g.tup _ _ h) (TwL.gr g ts _ l) b
theorem TwL.gr {H H' : Hp} (g : Gr H H') : ∀ (ts : List Tr) (vs : List V), TwL H vs ts → TwL H' vs ts
  | [], _, .nil => .nil
  | t :: ts, _, .cons h l => .cons (Tw.gr g t _ h) (TwL.gr g ts _ l)
end
theorem Tw.kd {H : Hp} {v : V} {t : Tr} (w : Tw H v t) : Kd H v := by
  cases w with
  | «at» n =>
    cases n with
    | flat h _ => exact .flat h
    | lst h => exact .lst h
    | dct h => exact .dct h
  | tup h l _ => exact .tup h
theorem TwL.len {H : Hp} : ∀ {vs : List V} {ts : List Tr}, TwL H vs ts → vs.length = ts.length
  | _, _, .nil => rfl
  | _, _, .cons _ l => by rw [List.length_cons, List.length_cons, TwL.len l]
theorem TwL.get {H : Hp} : ∀ {vs : List V} {ts : List Tr} {i : Nat} {v : V}, TwL H vs ts → vs[i]? = some v → ∃ t, ts[i]? = some t ∧ Tw H v t
  | _, _, _, _, .nil, h => by simp at h
  | _, _, 0, _, .cons w l, h => by simp at h; subst h; exact ⟨_, rfl, w⟩
  | _, _, i + 1, _, .cons w l, h => by
    obtain ⟨t, e, w'⟩ := TwL.get (i := i) l (by simpa using h)
    exact ⟨t, by simpa using e, w'⟩
theorem TwL.get' {H : Hp} : ∀ {vs : List V} {ts : List Tr} {i : Nat} {t : Tr}, TwL H vs ts → ts[i]? = some t → ∃ v, vs[i]? = some v ∧ Tw H v t
  | _, _, _, _, .nil, h => by simp at h
  | _, _, 0, _, .cons w l, h => by simp at h; subst h; exact ⟨_, rfl, w⟩
  | _, _, i + 1, _, .cons w l, h => by
    obtain ⟨t, e, w'⟩ := TwL.get' (i := i) l (by simpa using h)
    exact ⟨t, by simpa using e, w'⟩
theorem TwL.app {H : Hp} : ∀ {vs us : List V} {ts rs : List Tr}, TwL H vs ts → TwL H us rs → TwL H (vs ++ us) (ts ++ rs)
  | _, _, _, _, .nil, r => r
  | _, _, _, _, .cons w l, r => .cons w (TwL.app l r)
theorem TwL.drop {H : Hp} : ∀ {vs : List V} {ts : List Tr} (n : Nat), TwL H vs ts → TwL H (vs.drop n) (ts.drop n)
  | _, _, 0, l => l
  | _, _, _ + 1, .nil => .nil
  | _, _, n + 1, .cons _ l => TwL.drop n l
theorem TwL.take {H : Hp} : ∀ {vs : List V} {ts : List Tr} (n : Nat), TwL H vs ts → TwL H (vs.take n) (ts.take n)
  | _, _, 0, _ => .nil
  | _, _, _ + 1, .nil => .nil
  | _, _, n + 1, .cons w l => .cons w (TwL.take n l)
/-- texts as trees -/
def tx (s : Str) : Tr := .at (.str s)
theorem TwL.txs {H : Hp} : ∀ ss : List Str, (∀ s ∈ ss, s.length ≤ 1000) → TwL H (ss.map V.str) (ss.map tx)
  | [], _ => .nil
  | s :: r, h => .cons (.at (.flat rfl (h s (List.mem_cons_self ..)))) (TwL.txs r fun s hs => h s (List.mem_cons_of_mem _ hs))
theorem TwL.to_txs {H : Hp} : ∀ {vs : List V} {ss : List Str}, TwL H vs (ss.map tx) → vs = ss.map V.str
  | _, [], .nil => rfl
  | _, s :: ss, .cons w l => by
    cases w with
    | «at» n => rw [TwL.to_txs l]; rfl
/-! ### walks over texts -/
theorem walk_str {x : Str} {H0 : Hp} {Body : V → Hp → (Hp → Prop) → Prop} {Qd : Hp → Prop} (Pv : Nat → Hp → Prop) (h0 : Pv 0 H0)
    (hs : ∀ i c H, x.cps[i]? = some c → Pv i H → Body (.str ⟨#[c]⟩) H (Pv (i + 1))) (hd : ∀ H, Pv x.cps.size H → Qd H) :
    ∃ W : Nat → Nat → Hp → Prop, (∃ m, W 0 m H0) ∧ ∀ i m H, W i m H →
      ((Its x).stop i H ∧ Qd H) ∨ ((Its x).go i H ∧ ∃ Nx : Hp → Prop, (∀ H', Nx H' → ∃ m', m' < m ∧ W (i + 1) m' H') ∧ ∀ v H', (Its x).yld i H v H' → Body v H' Nx) := by
  refine ⟨fun i m H => m = x.cps.size - i ∧ i ≤ x.cps.size ∧ Pv i H, ⟨_, rfl, Nat.zero_le _, h0⟩, ?_⟩
  rintro i m H ⟨rfl, hi, p⟩
  by_cases hlt : i < x.cps.size
  · refine .inr ⟨hlt, Pv (i + 1), fun H' p' => ⟨x.cps.size - (i + 1), by omega, rfl, hlt, p'⟩, fun v H' y => ?_⟩
    obtain ⟨e, c, hc, ev⟩ := y
    subst e ev
    exact hs i c _ hc p
  · have e : i = x.cps.size := by omega
    subst e
    exact .inl ⟨Nat.le_refl _, hd H p⟩
/-! ### comprehensions that map -/
theorem rd_same {H H' : Hp} {a : Addr} {u : HO} (h : Rd H a u) (s : Same H H') : Rd H' a u := h.elim (fun e => .inl (s _ _ e)) fun ⟨o, e⟩ => .inr ⟨o, s _ _ e⟩
theorem sqT_same {K : PySem.W.Frag} {H H' : Hp} {a : Addr} {xs : List V} (h : SqT K H a xs) (s : Same H H') : SqT K H' a xs := h.elim (fun e => .inl (rd_same e s)) .inr
theorem sqL_same {K : PySem.W.Frag} {H H' : Hp} {a : Addr} {xs : List V} (h : SqL K H a xs) (s : Same H H') : SqL K H' a xs := h.elim (fun e => .inl (rd_same e s)) .inr
/-- [te for v in a tuple]: each te leaves what was there; rs the answers -/
theorem lcm_tup {K : PySem.W.Frag} {tl : TE} {j : Nat} {te : TE} {vs : List Nat} {σ : L2.St} {H : Hp} {Q : VK} {a : Addr} {xs rs : List V} (ha : ∀ R : VK, R (.ref a) H → tl σ H R) (hq : SqT K H a xs)
    (hj : ∀ x, wipe ((wipe σ vs).set j (some x)) vs = wipe σ vs) (hz : xs.length ≤ sizeLine) (hl : rs.length = xs.length)
    (he : ∀ (i : Nat) (x r : V) (H' : Hp) (Q' : VK), xs[i]? = some x → rs[i]? = some r → Same H H' → (∀ H'', Same H' H'' → Q' r H'') → te ((wipe σ vs).set j (some x)) H' Q')
    (hQ : ∀ p H', Same H H' → H p = none → H' p = some (.lst rs) → Q (.ref p) H') : tLc (iTup K tl) (gName j) tYes te vs σ H Q := by
  refine ha _ ⟨a, rfl, ⟨xs, hq⟩, fun D hD => ?_⟩
  refine walk_tup (xs := xs) (fun i H' => Same H H' ∧ H' D = some (.lst (rs.take i))) ⟨same_new hD _, upd_same⟩ (fun i H' _ p => sqT_same hq p.1) (fun i x H' hx p => ?_) (fun H' p => ?_)
  · have hi : i < rs.length := by
      obtain ⟨hi, _⟩ := List.getElem?_eq_some_iff.mp hx
      omega
    have hr : rs[i]? = some rs[i] := List.getElem?_eq_getElem hi
    unfold gName
    refine ⟨hj x, ?_⟩
    unfold tYes
    refine iteT ?_
    refine he i x rs[i] H' _ hx hr p.1 fun H'' s2 => ⟨_, s2 _ _ p.2, ?_, ?_, ?_⟩
    · rw [List.length_take]
      omega
    · intro b o e
      have hb : b ≠ D := fun z => by rw [z, hD] at e; cases e
      rw [upd_ne hb]
      exact s2 _ _ (p.1 _ _ e)
    · rw [upd_same, List.take_add_one, hr]
      rfl
  · have e : rs.take xs.length = rs := List.take_of_length_le (by omega)
    rw [e] at p
    exact hQ D H' p.1 hD p.2
/-- the same over a text's signs -/
theorem lcm_str {tl : TE} {j : Nat} {te : TE} {vs : List Nat} {σ : L2.St} {H : Hp} {Q : VK} {x : Str} {f : V → V} (ha : ∀ R : VK, R (.str x) H → tl σ H R)
    (hj : ∀ x, wipe ((wipe σ vs).set j (some x)) vs = wipe σ vs) (hz : x.cps.size ≤ sizeLine)
    (he : ∀ (i c : Nat) (H' : Hp) (Q' : VK), x.cps[i]? = some c → Same H H' → (∀ H'', Same H' H'' → Q' (f (.str ⟨#[c]⟩)) H'') → te ((wipe σ vs).set j (some (.str ⟨#[c]⟩))) H' Q')
    (hQ : ∀ p H', Same H H' → H p = none → H' p = some (.lst (x.cps.toList.map fun c => f (.str ⟨#[c]⟩))) → Q (.ref p) H') : tLc (iStr tl) (gName j) tYes te vs σ H Q := by
  refine ha _ ⟨x, rfl, fun D hD => ?_⟩
  refine walk_str (x := x) (fun i H' => Same H H' ∧ H' D = some (.lst ((x.cps.toList.map fun c => f (.str ⟨#[c]⟩)).take i))) ⟨same_new hD _, upd_same⟩ (fun i c H' hx p => ?_) (fun H' p => ?_)
  · have hx' : x.cps.toList[i]? = some c := by rw [Array.getElem?_toList]; exact hx
    unfold gName
    refine ⟨hj _, ?_⟩
    unfold tYes
    refine iteT ?_
    refine he i c H' _ hx p.1 fun H'' s2 => ⟨_, s2 _ _ p.2, ?_, ?_, ?_⟩
    · rw [List.length_take]
      obtain ⟨hi, _⟩ := Array.getElem?_eq_some_iff.mp hx
      rw [List.length_map, Array.length_toList]
      omega
    · intro b o e
      have hb : b ≠ D := fun z => by rw [z, hD] at e; cases e
      rw [upd_ne hb]
      exact s2 _ _ (p.1 _ _ e)
    · rw [upd_same, List.take_add_one, List.getElem?_map, hx']
      rfl
  · have e : (x.cps.toList.map fun c => f (.str ⟨#[c]⟩)).take x.cps.size = x.cps.toList.map fun c => f (.str ⟨#[c]⟩) := List.take_of_length_le (by rw [List.length_map, Array.length_toList]; exact Nat.le_refl _)
    rw [e] at p
    exact hQ D H' p.1 hD p.2
/-! ### zip of two tuples -/
theorem walk_zipT {K : PySem.W.Frag} {a b : Addr} {xs ys : List V} {H0 : Hp} {Body : V → Hp → (Hp → Prop) → Prop} {Qd : Hp → Prop} (hl : xs.length = ys.length) (Pv : Nat → Hp → Prop) (h0 : Pv 0 H0) (hq : ∀ i H, Pv i H → SqT K H a xs ∧ SqT K H b ys)
    (hs : ∀ (i : Nat) (x y : V) (T : Addr) (H : Hp), xs[i]? = some x → ys[i]? = some y → Pv i H → H T = none → Body (.ref T) (upd H T (.tup [x, y])) (Pv (i + 1))) (hd : ∀ H, Pv xs.length H → Qd H) :
    ∃ W : Nat → Nat → Hp → Prop, (∃ m, W 0 m H0) ∧ ∀ i m H, W i m H →
      ((RZ.ItzT K a b).stop i H ∧ Qd H) ∨ ((RZ.ItzT K a b).go i H ∧ ∃ Nx : Hp → Prop, (∀ H', Nx H' → ∃ m', m' < m ∧ W (i + 1) m' H') ∧ ∀ v H', (RZ.ItzT K a b).yld i H v H' → Body v H' Nx) := by
  refine ⟨fun i m H => m = xs.length - i ∧ i ≤ xs.length ∧ Pv i H, ⟨xs.length, rfl, Nat.zero_le _, h0⟩, ?_⟩
  rintro i m H ⟨rfl, hi, p⟩
  obtain ⟨qx, qy⟩ := hq i H p
  by_cases hlt : i < xs.length
  · have hx : xs[i]? = some xs[i] := List.getElem?_eq_getElem hlt
    have hlt2 : i < ys.length := by omega
    have hy : ys[i]? = some ys[i] := List.getElem?_eq_getElem hlt2
    refine .inr ⟨⟨xs, ys, _, _, qx, qy, hx, hy⟩, Pv (i + 1), fun H' p' => ⟨xs.length - (i + 1), by omega, rfl, hlt, p'⟩, fun v H' y => ?_⟩
    obtain ⟨T, x', y', rfl, hT, rfl, f1, f2⟩ := y
    exact hs i x' y' T H (f1 xs qx) (f2 ys qy) p hT
  · have e : i = xs.length := by omega
    subst e
    exact .inl ⟨⟨xs, ys, qx, qy, Or.inl (Nat.le_refl _)⟩, hd H p⟩
/-- [te for x, y in zip(a, b)]; b may be new -/
theorem lcm_zip {K : PySem.W.Frag} {ta : TA} {j k : Nat} {te : TE} {vs : List Nat} {σ : L2.St} {H0 : Hp} {Q : VK} {a : Addr} {xs ys rs : List V} (ha : ∀ R : List V → Hp → Prop, (∀ b H, Same H0 H → SqT K H b ys → R [.ref a, .ref b] H) → ta σ H0 R) (hqa : SqT K H0 a xs) (hxy : xs.length = ys.length)
    (hj : ∀ x y, wipe (((wipe σ vs).set j (some x)).set k (some y)) vs = wipe σ vs) (hz : xs.length ≤ sizeLine) (hl : rs.length = xs.length)
    (he : ∀ (i : Nat) (x y r : V) (H' : Hp) (Q' : VK), xs[i]? = some x → ys[i]? = some y → rs[i]? = some r → Same H0 H' → (∀ H'', Same H' H'' → Q' r H'') → te (((wipe σ vs).set j (some x)).set k (some y)) H' Q')
    (hQ : ∀ p H', Same H0 H' → H' p = some (.lst rs) → Q (.ref p) H') : tLc (RZ.iZipA K ta) (gTup K 2 (gCons (gName j) (gCons (gName k) gNil))) tYes te vs σ H0 Q := by
  refine ha _ fun b H s0 hqb => ⟨a, b, xs, ys, rfl, .inr ⟨sqT_same hqa s0, hqb, fun D hD => ?_⟩⟩
  refine walk_zipT (xs := xs) (ys := ys) hxy (fun i H' => Same H H' ∧ H' D = some (.lst (rs.take i))) ⟨same_new hD _, upd_same⟩ (fun i H' p => ⟨sqT_same (sqT_same hqa s0) p.1, sqT_same hqb p.1⟩) (fun i x y T H' hx hy p hT => ?_) (fun H' p => ?_)
  · have hi : i < rs.length := by
      obtain ⟨hi, _⟩ := List.getElem?_eq_some_iff.mp hx
      omega
    have hr : rs[i]? = some rs[i] := List.getElem?_eq_getElem hi
    have sT := same_new hT (.tup [x, y])
    refine ⟨T, [x, y], rfl, SqT.of upd_same, rfl, x, _, rfl, y, _, rfl, rfl, hj x y, ?_⟩
    unfold tYes
    refine iteT ?_
    refine he i x y rs[i] _ _ hx hy hr (fun b o e => sT _ _ (p.1 _ _ (s0 _ _ e))) fun H'' s2 => ⟨_, s2 _ _ (sT _ _ p.2), ?_, ?_, ?_⟩
    · rw [List.length_take]
      omega
    · intro b o e
      have hb : b ≠ D := fun z => by rw [z, hD] at e; cases e
      rw [upd_ne hb]
      exact s2 _ _ (sT _ _ (p.1 _ _ e))
    · rw [upd_same, List.take_add_one, hr]
      rfl
  · have e : rs.take xs.length = rs := List.take_of_length_le (by omega)
    rw [e] at p
    exact hQ D H' (fun b o e => p.1 _ _ (s0 _ _ e)) p.2
/-! ### isinstance -/
def trStr : Tr → Bool
  | .at (.str _) => true
  | _ => false
def trTup : Tr → Bool
  | .tup _ => true
  | _ => false
def trInt : Tr → Bool
  | .at (.int _) => true
  | .at (.bl _) => true
  | _ => false
def trBl : Tr → Bool
  | .at (.bl _) => true
  | _ => false
section
variable {K : PySem.W.Frag} {H : Hp} {v : V} {t : Tr} {Q : VK}
theorem isi_str (w : Tw H v t) (q : Q (.bl (trStr t)) H) : rIsi K [v, .ty "str"] H Q := by
  cases w with
  | tup h l _ => exact ⟨_, _, _, _, _, rfl, .ty _, .base (.tup h), kit_ty (r := false) (by decide +kernel), q⟩
  | «at» n =>
    cases n with
    | lst h => exact ⟨_, _, _, _, _, rfl, .ty _, .base (.lst h), kit_ty (r := false) (by decide +kernel), q⟩
    | dct h => exact ⟨_, _, _, _, _, rfl, .ty _, .base (.dK h), kit_ty (r := false) (by decide +kernel), q⟩
    | flat h =>
      cases v with
      | non => exact ⟨_, _, _, _, _, rfl, .ty _, .base .non, kit_ty (r := false) (by decide +kernel), q⟩
      | bl b => exact ⟨_, _, _, _, _, rfl, .ty _, .base (.bl _), kit_ty (r := false) (by decide +kernel), q⟩
      | int b => exact ⟨_, _, _, _, _, rfl, .ty _, .base (.int _), kit_ty (r := false) (by decide +kernel), q⟩
      | str b => exact ⟨_, _, _, _, _, rfl, .ty _, .base (.str _), kit_ty (r := true) (by decide +kernel), q⟩
      | _ => cases h
theorem isi_tup (w : Tw H v t) (q : Q (.bl (trTup t)) H) : rIsi K [v, .ty "tuple"] H Q := by
  cases w with
  | tup h l _ => exact ⟨_, _, _, _, _, rfl, .ty _, .base (.tup h), kit_ty (r := true) (by decide +kernel), q⟩
  | «at» n =>
    cases n with
    | lst h => exact ⟨_, _, _, _, _, rfl, .ty _, .base (.lst h), kit_ty (r := false) (by decide +kernel), q⟩
    | dct h => exact ⟨_, _, _, _, _, rfl, .ty _, .base (.dK h), kit_ty (r := false) (by decide +kernel), q⟩
    | flat h =>
      cases v with
      | non => exact ⟨_, _, _, _, _, rfl, .ty _, .base .non, kit_ty (r := false) (by decide +kernel), q⟩
      | bl b => exact ⟨_, _, _, _, _, rfl, .ty _, .base (.bl _), kit_ty (r := false) (by decide +kernel), q⟩
      | int b => exact ⟨_, _, _, _, _, rfl, .ty _, .base (.int _), kit_ty (r := false) (by decide +kernel), q⟩
      | str b => exact ⟨_, _, _, _, _, rfl, .ty _, .base (.str _), kit_ty (r := false) (by decide +kernel), q⟩
      | _ => cases h
theorem isi_int (w : Tw H v t) (q : Q (.bl (trInt t)) H) : rIsi K [v, .ty "int"] H Q := by
  cases w with
  | tup h l _ => exact ⟨_, _, _, _, _, rfl, .ty _, .base (.tup h), kit_ty (r := false) (by decide +kernel), q⟩
  | «at» n =>
    cases n with
    | lst h => exact ⟨_, _, _, _, _, rfl, .ty _, .base (.lst h), kit_ty (r := false) (by decide +kernel), q⟩
    | dct h => exact ⟨_, _, _, _, _, rfl, .ty _, .base (.dK h), kit_ty (r := false) (by decide +kernel), q⟩
    | flat h =>
      cases v with
      | non => exact ⟨_, _, _, _, _, rfl, .ty _, .base .non, kit_ty (r := false) (by decide +kernel), q⟩
      | bl b => exact ⟨_, _, _, _, _, rfl, .ty _, .base (.bl _), kit_ty (r := true) (by decide +kernel), q⟩
      | int b => exact ⟨_, _, _, _, _, rfl, .ty _, .base (.int _), kit_ty (r := true) (by decide +kernel), q⟩
      | str b => exact ⟨_, _, _, _, _, rfl, .ty _, .base (.str _), kit_ty (r := false) (by decide +kernel), q⟩
      | _ => cases h
theorem isi_bool (w : Tw H v t) (q : Q (.bl (trBl t)) H) : rIsi K [v, .ty "bool"] H Q := by
  cases w with
  | tup h l _ => exact ⟨_, _, _, _, _, rfl, .ty _, .base (.tup h), kit_ty (r := false) (by decide +kernel), q⟩
  | «at» n =>
    cases n with
    | lst h => exact ⟨_, _, _, _, _, rfl, .ty _, .base (.lst h), kit_ty (r := false) (by decide +kernel), q⟩
    | dct h => exact ⟨_, _, _, _, _, rfl, .ty _, .base (.dK h), kit_ty (r := false) (by decide +kernel), q⟩
    | flat h =>
      cases v with
      | non => exact ⟨_, _, _, _, _, rfl, .ty _, .base .non, kit_ty (r := false) (by decide +kernel), q⟩
      | bl b => exact ⟨_, _, _, _, _, rfl, .ty _, .base (.bl _), kit_ty (r := true) (by decide +kernel), q⟩
      | int b => exact ⟨_, _, _, _, _, rfl, .ty _, .base (.int _), kit_ty (r := false) (by decide +kernel), q⟩
      | str b => exact ⟨_, _, _, _, _, rfl, .ty _, .base (.str _), kit_ty (r := false) (by decide +kernel), q⟩
      | _ => cases h
variable {σ : L2.St} {i : Nat}
theorem tisi_str (hσ : σ[i]? = some (some v)) (w : Tw H v t) (q : Q (.bl (trStr t)) H) : tCB (rIsi K) (tCons (tVar i) (tCons (tC (.ty "str")) tNil)) σ H Q := ⟨v, hσ, isi_str (K := K) w q⟩
theorem tisi_tup (hσ : σ[i]? = some (some v)) (w : Tw H v t) (q : Q (.bl (trTup t)) H) : tCB (rIsi K) (tCons (tVar i) (tCons (tC (.ty "tuple")) tNil)) σ H Q := ⟨v, hσ, isi_tup (K := K) w q⟩
theorem tisi_int (hσ : σ[i]? = some (some v)) (w : Tw H v t) (q : Q (.bl (trInt t)) H) : tCB (rIsi K) (tCons (tVar i) (tCons (tC (.ty "int")) tNil)) σ H Q := ⟨v, hσ, isi_int (K := K) w q⟩
theorem tisi_bool (hσ : σ[i]? = some (some v)) (w : Tw H v t) (q : Q (.bl (trBl t)) H) : tCB (rIsi K) (tCons (tVar i) (tCons (tC (.ty "bool")) tNil)) σ H Q := ⟨v, hσ, isi_bool (K := K) w q⟩
end
end CA
namespace CA
open PySem L2
def topS (i : Nat) : Stmt := PySem.Challenge.pw_calledanew_k41_event_texts.main.body.getD i (.Pass ⟨0, 0, 0, 0⟩)
/-- built-in names that are not shadowed -/
structure Blt (mg : Str → Option Value) : Prop where
  isinstance : mg "isinstance" = none
  int : mg "int" = none
  bool : mg "bool" = none
  str : mg "str" = none
  tuple : mg "tuple" = none
  len : mg "len" = none
  all : mg "all" = none
  set : mg "set" = none
  zip : mg "zip" = none
  sorted : mg "sorted" = none
  enumerate : mg "enumerate" = none
  list : mg "list" = none
/-! ### what the tests of values answer -/
def trInteger (t : Tr) : Bool := trInt t && !trBl t
def okSign (c : Nat) : Bool := !decide ([c] < (Str.ofString "a").cps.toList) && !decide ((Str.ofString "z").cps.toList < [c])
def sgV : V → V
  | .str s => .bl (!decide (s.cps.toList < (Str.ofString "a").cps.toList) && !decide ((Str.ofString "z").cps.toList < s.cps.toList))
  | v => v
def nmS (s : Str) : Bool := decide (1 ≤ (s.length : Int)) && decide ((s.length : Int) ≤ 8) && (s.cps.toList.map okSign).all id
def trName : Tr → Bool
  | .at (.str s) => nmS s
  | _ => false
def spInteger : Sp := fun vs H Q _ => ∃ v t, vs = [v] ∧ Tw H v t ∧ Q (.bl (trInteger t)) H
def spName : Sp := fun vs H Q _ => ∃ v t, vs = [v] ∧ Tw H v t ∧ ∀ H', Same H H' → Q (.bl (trName t)) H'
theorem same_upd {H H' : Hp} {p : Addr} {o : HO} (h : H p = none) (s : Same H H') : Same H (upd H' p o) := fun c u e => by rw [upd_ne (fun q => by rw [q, h] at e; cases e)]; exact s _ _ e
section
variable {P : Program} {w : World} {K : PySem.W.Frag} {mg : Str → Option Value} {base : Heap}
abbrev s_is_name : Stmt := topS 1
theorem sc_is_name : FnScope ["value", "letter"] ["value"] (defScope s_is_name) := ⟨rfl, rfl, rfl, by decide +kernel, rfl, by decide +kernel, by decide +kernel⟩
theorem ok_is_name {f : Addr} {fd : FuncData} (F : Fun K "is_name" "is_name" s_is_name f fd) (B : Blt mg) : FnOk P w K mg base CX0 1 f fd ["value"] spName := by
  refine F.ok sc_is_name (fun vs H Q E h => ?_) (fun cdv A outer s H vs Q E hr h => ?_)
  · obtain ⟨v, t, rfl, _⟩ := h
    rfl
  obtain ⟨v, t, rfl, wt, q⟩ := h
  refine ⟨_, (pss_cons (ps_if (PW.pt (pw_or (pt_not (pt_val (pe_callB call_isi (by rfl) B.isinstance (by decide +kernel) (pa_cons (pv 0) (pa_cons (pe_bltn (v := .ty "str") (by rfl) B.str (by decide +kernel) rfl) pa_nil))))) (pw_or1 (pt_not (pt_chain op_le op_le pe_int (pe_callB call_len_str (by rfl) B.len (by decide +kernel) (pa_cons (pv 0) pa_nil)) pe_int)))))
    (pss_one (ps_ret pe_bl))
    pss_nil)
  (pss_one (ps_ret (pe_callB (cr_all rfl) (by rfl) B.all (by decide +kernel) (pa_cons (pe_lc (own := [("letter", 1)]) (g := gName 1) (tt := tYes) rfl sc_is_name.nd (pi_str (pv 0)) (blkOk_by (own := [("letter", 1)]) (N := ["value", "letter"]) (sc := defScope s_is_name) (by decide +kernel))
    (fun s H C cl fp => pg_name (i := 1) sc_is_name.nd rfl (Or.inl rfl)) (fun s H C cl fp => pts_nil) (fun s H C cl fp => pe_chain op_le_str op_le_str pe_str (pv 1) pe_str)) pa_nil))))), ?_⟩
  refine tisi_str (K := K) (v := v) rfl wt ⟨_, rfl, ?_⟩
  have fin : ∀ b : Bool, trName t = b → ∀ H', Same H H' → Q (.bl b) H' := fun b e H' s => by rw [← e]; exact q H' s
  cases hs : trStr t with
  | false =>
    refine iteT (iteT ?_)
    refine fin false ?_ H (fun _ _ e => e)
    cases t with
    | tup ts => rfl
    | «at» u =>
      cases u with
      | str z => cases hs
      | _ => rfl
  | true =>
    obtain ⟨z, rfl⟩ : ∃ z, t = .at (.str z) := by
      cases t with
      | tup ts => cases hs
      | «at» u =>
        cases u with
        | str z => exact ⟨z, rfl⟩
        | _ => cases hs
    have hv : v = .str z ∧ z.length ≤ 1000 := by
      cases wt with
      | «at» n =>
        cases n with
        | flat _ h => exact ⟨rfl, h⟩
    obtain ⟨rfl, hz⟩ := hv
    have hz2 : z.length ≤ sizeLine := Nat.le_trans hz (by decide)
    refine iteF ⟨_, rfl, z, rfl, hz2, _, _, rfl, rfl, _, rfl, ite2 (fun c1 => ?_) (fun c1 => ?_)⟩
    · have d1 : decide (1 ≤ (z.length : Int)) = true := c1
      refine ⟨_, _, rfl, rfl, _, rfl, ite2 (fun c2 => ?_) (fun c2 => ?_)⟩
      · have d2 : decide ((z.length : Int) ≤ 8) = false := by
          cases hd : decide ((z.length : Int) ≤ 8) with
          | false => rfl
          | true => rw [hd] at c2; cases c2
        refine fin false ?_ H (fun _ _ e => e)
        show nmS z = false
        unfold nmS
        rw [d1, d2]
        rfl
      · have d2 : decide ((z.length : Int) ≤ 8) = true := by
          cases hd : decide ((z.length : Int) ≤ 8) with
          | true => rfl
          | false => rw [hd] at c2; exact absurd rfl c2
        dsimp only [tNext, tRet, tCB, tCons, tNil]
        refine lcm_str (tl := tVar 0) (j := 1) (vs := [1]) (σ := L2.start ["value", "letter"] [V.str z]) (H := H) (x := z) (f := sgV) (fun R h => ⟨_, rfl, h⟩) (fun x => rfl) hz2 (fun i c H' Q' hx sm k => ?_) fun p H' sm hn hp => ?_
        · refine ⟨_, rfl, _, _, rfl, rfl, _, rfl, ite2 (fun c3 => ?_) (fun c3 => ?_)⟩
          · refine ⟨_, _, rfl, rfl, ?_⟩
            have e : sgV (.str ⟨#[c]⟩) = .bl (!decide ((Str.ofString "z").cps.toList < [c])) := by
              show V.bl (!decide ([c] < (Str.ofString "a").cps.toList) && _) = _
              rw [show (!decide ([c] < (Str.ofString "a").cps.toList)) = true from c3]
              rfl
            rw [e] at k
            exact k H' (fun _ _ e => e)
          · have e : sgV (.str ⟨#[c]⟩) = .bl false := by
              show V.bl (!decide ([c] < (Str.ofString "a").cps.toList) && _) = _
              rw [show (!decide ([c] < (Str.ofString "a").cps.toList)) = false from Bool.eq_false_iff.mpr c3]
              rfl
            rw [e] at k
            exact k H' (fun _ _ e => e)
        · refine ⟨p, z.cps.toList.map okSign, rfl, SqL.of (by rw [hp, List.map_map]; rfl), ?_⟩
          refine fin _ ?_ H' sm
          show nmS z = _
          unfold nmS
          rw [d1, d2]
          rfl
    · have d1 : decide (1 ≤ (z.length : Int)) = false := Bool.eq_false_iff.mpr c1
      refine ⟨_, rfl, iteT ?_⟩
      refine fin false ?_ H (fun _ _ e => e)
      show nmS z = false
      unfold nmS
      rw [d1]
      rfl
end
end CA
namespace CA
open PySem L2
/-- built-in names and defs that the draws use -/
structure TxtD (K : PySem.W.Frag) (mg : Str → Option Value) (fm : Addr) : Prop where
  int : mg "int" = none
  len : mg "len" = none
  abs : mg "abs" = none
  g__law_mixed : mg "_law_mixed" = some (.ref fm)
  k__law_mixed : PySem.W.keepIn K (.ref fm) = true
section
variable {P : Program} {w : World} {K : PySem.W.Frag} {mg : Str → Option Value} {base : Heap} {fm : Addr}
abbrev s__law_start : Stmt := topS 12
theorem sc__law_start : FnScope ["_law_script", "_law_seed", "_law_cell"] ["_law_script"] (defScope s__law_start) := ⟨rfl, rfl, rfl, by decide +kernel, rfl, by decide +kernel, by decide +kernel⟩
theorem cut63 {xs : List V} (h : xs.length ≤ 63) : cutV xs none (some 63) = xs := by
  unfold cutV
  have e : HT.sIx xs.length xs.length (some 63) = xs.length := by
    show (if (63 : Int) < 0 then ((63 : Int) + (xs.length : Int)).toNat else min (63 : Int).toNat xs.length) = xs.length
    rw [if_neg (by decide)]
    show min 63 xs.length = xs.length
    omega
  rw [e]
  show (xs.drop 0).take (xs.length - 0) = xs
  simp
theorem ok__law_start {f : Addr} {fd : FuncData} (F : Fun K "_law_start" "_law_start" s__law_start f fd) (T : TxtD K mg fm) : FnOk P w K mg base CX0 1 f fd ["_law_script"] (spStart K) := by
  refine F.ok sc__law_start (fun vs H Q E h => ?_) (fun cdv A outer s H vs Q E hr h => ?_)
  · obtain ⟨a, ns, rfl, _⟩ := h
    rfl
  obtain ⟨a, ns, rfl, hS, h63, q⟩ := h
  refine ⟨_, (pss_cons (ps_set (i := 1) sc__law_start.nd rfl (Or.inl rfl) pe_int)
  (pss_cons (ps_for PassesOwn.never rfl (pi_list (pe_slice sl_list (pv 0) po_none (po_some pe_int))) (pg_name (i := 2) sc__law_start.nd rfl (Or.inl rfl))
    (pss_one (ps_set (i := 1) sc__law_start.nd rfl (Or.inl rfl) (pe_op op_mod (pe_callTy call_int1 (by rfl) T.int (by decide +kernel) (pa_cons (pe_op op_add (pe_op op_mul (pv 1) pe_int) (pv 2)) pa_nil)) pe_int))))
  (pss_one (ps_ret (pe_lst (pa_cons (pe_slice sl_list (pv 0) po_none (po_some pe_int)) (pa_cons pe_int (pa_cons pe_int (pa_cons (pv 1) (pa_cons pe_int pa_nil)))))))))), ?_⟩
  have hl : (ns.map V.int).length ≤ 63 := by rw [List.length_map]; exact h63
  refine ⟨_, rfl, 63, rfl, a, _, rfl, hS, fun p hp => ?_⟩
  rw [cut63 hl]
  have s1 : Same H (upd H p (.lst (ns.map V.int))) := same_new hp _
  refine ⟨p, rfl, ⟨_, SqL.of upd_same⟩, for_list (K := K) (a := p) (xs := ns.map V.int) (fun i σ H2 => ∃ (z : Int) (v : Option V), σ = [some (.ref a), some (.int z), v] ∧ H2 = upd H p (.lst (ns.map V.int)) ∧ 0 ≤ z ∧ z < 2147483629)
    ⟨17, none, rfl, rfl, by decide, by decide⟩ (fun i σ H2 _ ⟨_, _, _, e, _⟩ => by rw [e]; exact SqL.of upd_same) ?_ ?_⟩
  · rintro i y σ H2 hi ⟨z, v, rfl, rfl, h0, h1⟩
    obtain ⟨x, rfl⟩ : ∃ x, y = V.int x := by
      rw [List.getElem?_map] at hi
      cases e : ns[i]? with
      | none => rw [e] at hi; cases hi
      | some x => rw [e] at hi; exact ⟨x, (Option.some.inj hi).symm⟩
    refine ⟨_, rfl, _, _, rfl, rfl, Or.inl ⟨by omega, by omega⟩, _, rfl, _, _, rfl, rfl, .inl ⟨_, rfl, _, _, rfl, rfl, (by show (0 : Int) < 2147483629; decide), ?_⟩⟩
    exact ⟨_, _, rfl, rfl, Int.emod_nonneg _ (by decide), Int.emod_lt_of_pos _ (by decide)⟩
  · rintro σ H2 ⟨z, v, rfl, rfl, h0, h1⟩
    refine ⟨_, rfl, 63, rfl, a, _, rfl, s1.seq hS, fun c hc => ?_⟩
    rw [cut63 hl]
    refine ⟨_, rfl, (by show 5 ≤ sizeLine; decide), fun st hst => ?_⟩
    have s2 : Same (upd H p (.lst (ns.map V.int))) (upd (upd H p (.lst (ns.map V.int))) c (.lst (ns.map V.int))) := same_new hc _
    have s3 := same_new hst (stL c 0 0 z 0)
    have cst : c ≠ st := ne_of_none upd_same hst
    exact q st c _ ((s1.trans s2).free hst) (s1.trans (s2.trans s3)) ⟨⟨ns, 0, 0, z, 0, upd_same, (by rw [upd_ne cst]; exact upd_same), cst, h63, Int.le_refl 0, Int.le_refl 0, h0, h1⟩⟩
abbrev s__law_mixed : Stmt := topS 13
theorem sc__law_mixed : FnScope ["_law_cell", "_law_count", "_law_size", "_law_number"] ["_law_cell", "_law_count", "_law_size"] (defScope s__law_mixed) := ⟨rfl, rfl, rfl, by decide +kernel, rfl, by decide +kernel, by decide +kernel⟩
theorem ok__law_mixed {f : Addr} {fd : FuncData} (F : Fun K "_law_mixed" "_law_mixed" s__law_mixed f fd) (T : TxtD K mg fm) : FnOk P w K mg base CX0 1 f fd ["_law_cell", "_law_count", "_law_size"] spMixed := by
  refine F.ok sc__law_mixed (fun vs H Q E h => ?_) (fun cdv A outer s H vs Q E hr h => ?_)
  · obtain ⟨a, b, n, rfl, _⟩ := h
    rfl
  obtain ⟨a, b, n, rfl, hn, q⟩ := h
  refine ⟨_, (pss_cons (ps_set (i := 3) sc__law_mixed.nd rfl (Or.inl rfl) (pe_op op_mod (pe_callTy call_int1 (by rfl) T.int (by decide +kernel) (pa_cons (pe_op op_add (pe_op op_add (pe_op op_mul (pv 0) pe_int) (pe_op op_mul (pv 1) pe_int)) pe_int) pa_nil)) pe_int))
  (pss_cons (ps_set (i := 3) sc__law_mixed.nd rfl (Or.inl rfl) (pe_op op_mod (pe_callTy call_int1 (by rfl) T.int (by decide +kernel) (pa_cons (pe_op op_add (pe_op op_mul (pv 3) (pe_op op_add (pe_op op_fdiv (pv 3) pe_int) pe_int)) (pv 1)) pa_nil)) pe_int))
  (pss_cons (ps_set (i := 3) sc__law_mixed.nd rfl (Or.inl rfl) (pe_op op_mod (pe_callTy call_int1 (by rfl) T.int (by decide +kernel) (pa_cons (pe_op op_add (pe_op op_mul (pv 3) (pe_op op_add (pe_op op_fdiv (pv 3) pe_int) pe_int)) pe_int) pa_nil)) pe_int))
  (pss_one (ps_ret (pe_op op_mod (pe_callTy call_int1 (by rfl) T.int (by decide +kernel) (pa_cons (pe_op op_fdiv (pv 3) pe_int) pa_nil)) (pv 2))))))), ?_⟩
  have c1 : ∀ i : Int, CMul i 69621 := fun i => Or.inr ⟨by decide, by decide⟩
  have c2 : ∀ i : Int, CMul i 48271 := fun i => Or.inr ⟨by decide, by decide⟩
  have md : ∀ (x m y : Int), 0 < m → m ≤ 4294967296 → CMul (x % m) y := fun x m y hm h => Or.inl ⟨by have := Int.emod_nonneg x (by omega : m ≠ 0); omega, by have := Int.emod_lt_of_pos x hm; omega⟩
  refine ⟨_, rfl, _, _, rfl, rfl, c1 _, _, rfl, _, _, rfl, rfl, c2 _, _, _, rfl, rfl, _, _, rfl, rfl, .inl ⟨_, rfl, _, _, rfl, rfl, (by show (0 : Int) < 2147483647; decide), ?_⟩⟩
  refine ⟨_, rfl, _, rfl, _, _, rfl, rfl, ⟨by decide, by decide⟩, _, _, rfl, rfl, _, _, rfl, rfl, md _ _ _ (by decide) (by decide), _, rfl, _, _, rfl, rfl, .inl ⟨_, rfl, _, _, rfl, rfl, (by show (0 : Int) < 2147483629; decide), ?_⟩⟩
  refine ⟨_, rfl, _, rfl, _, _, rfl, rfl, ⟨by decide, by decide⟩, _, _, rfl, rfl, _, _, rfl, rfl, md _ _ _ (by decide) (by decide), _, _, rfl, rfl, .inl ⟨_, rfl, _, _, rfl, rfl, (by show (0 : Int) < 2147483579; decide), ?_⟩⟩
  refine ⟨_, rfl, _, _, rfl, rfl, ⟨by decide, by decide⟩, .inl ⟨_, rfl, _, rfl, _, _, rfl, rfl, hn, ?_⟩⟩
  exact q _ (Int.emod_nonneg _ (by omega)) (Int.emod_lt_of_pos _ hn)
abbrev s__law_take : Stmt := topS 14
theorem sc__law_take : FnScope ["_law_state", "_law_size", "_law_cell", "_law_digit"] ["_law_state", "_law_size"] (defScope s__law_take) := ⟨rfl, rfl, rfl, by decide +kernel, rfl, by decide +kernel, by decide +kernel⟩
theorem at_map {ns : List Int} {i : Int} (h0 : 0 ≤ i) (h : i < (((ns.map V.int).length : Nat) : Int)) : ∃ x : Int, atI (ns.map V.int) i = some (.int x) := by
  rw [List.length_map] at h
  have hk : i.toNat < ns.length := by omega
  exact ⟨ns[i.toNat], at_of (j := i.toNat) (by omega) (by rw [List.getElem?_map, List.getElem?_eq_getElem hk] <;> rfl)⟩
theorem big_pos : (0 : Int) < ((10 ^ Int.toNat 60) ^ Int.toNat 10) := Int.pow_pos (Int.pow_pos (by decide))
theorem at5 {a b c d e : V} (k : Nat) (v : V) (h : [a, b, c, d, e][k]? = some v) : atI [a, b, c, d, e] (k : Int) = some v := atI_nat h
theorem ok__law_take {f : Addr} {fd fdm : FuncData} (F : Fun K "_law_take" "_law_take" s__law_take f fd) (T : TxtD K mg fm) (G_law_mixed : FnOk P w K mg base CX0 1 fm fdm ["_law_cell", "_law_count", "_law_size"] spMixed) (b_law_mixed : Binds K fdm ["_law_cell", "_law_count", "_law_size"] []) :
    FnOk P w K mg base CX0 2 f fd ["_law_state", "_law_size"] spTake := by
  refine F.ok sc__law_take (fun vs H Q E h => ?_) (fun cdv A outer s H vs Q E hr h => ?_)
  · obtain ⟨st, scr, n, rfl, _⟩ := h
    rfl
  obtain ⟨st, scr, n, rfl, S, hn, hn2, q⟩ := h
  refine ⟨_, (pss_cons (ps_asg (pe_op op_add (pe_ix ix_list (pv 0) pe_int (fun _ _ => rfl)) pe_int) (pg_sub (pv 0) pe_int L2.set_list))
  (pss_cons (ps_if (PW.pt (pw_and (pt_cmpR op_eq (pe_ix ix_list (pv 0) pe_int (fun _ _ => rfl)) pe_int (nomark _)) (pw_and1 (pt_cmpR op_lt (pe_ix ix_list (pv 0) pe_int (fun _ _ => rfl)) (pe_callB call_len_seq (by rfl) T.len PySem.boot_len (pa_cons (pe_ix ix_list (pv 0) pe_int (fun _ _ => rfl)) pa_nil)) (nomark _)))))
    (pss_cons (ps_set (i := 2) sc__law_take.nd rfl (Or.inl rfl) (pe_callB call_abs (by rfl) T.abs (by decide +kernel) (pa_cons (pe_callTy call_int1 (by rfl) T.int (by decide +kernel) (pa_cons (pe_ix ix_list (pe_ix ix_list (pv 0) pe_int (fun _ _ => rfl)) (pe_ix ix_list (pv 0) pe_int (fun _ _ => rfl)) (fun _ _ => rfl)) pa_nil)) pa_nil)))
      (pss_cons (ps_asg (pe_op op_add (pe_ix ix_list (pv 0) pe_int (fun _ _ => rfl)) pe_int) (pg_sub (pv 0) pe_int L2.set_list))
      (pss_cons (ps_if (pt_cmpR op_lt (pv 2) (pe_op op_pow pe_int pe_int) (nomark _))
        (pss_one (ps_ret (pe_call G_law_mixed hr rfl T.g__law_mixed T.k__law_mixed b_law_mixed .nil pass0 (pa_cons (pv 2) (pa_cons (pe_ix ix_list (pv 0) pe_int (fun _ _ => rfl)) (pa_cons (pv 1) pa_nil))))))
        pss_nil)
      (pss_one (ps_asg (pe_op op_mod (pe_callTy call_int1 (by rfl) T.int (by decide +kernel) (pa_cons (pv 2) pa_nil)) (pe_op op_powW (pe_op op_pow pe_int pe_int) pe_int)) (pg_sub (pv 0) pe_int L2.set_list))))))
    pss_nil)
  (pss_cons (ps_if (pt_cmpR op_eq (pe_ix ix_list (pv 0) pe_int (fun _ _ => rfl)) pe_int (nomark _))
    (pss_one (ps_ret (pe_call G_law_mixed hr rfl T.g__law_mixed T.k__law_mixed b_law_mixed .nil pass0 (pa_cons (pe_ix ix_list (pv 0) pe_int (fun _ _ => rfl)) (pa_cons (pe_ix ix_list (pv 0) pe_int (fun _ _ => rfl)) (pa_cons (pv 1) pa_nil))))))
    pss_nil)
  (pss_cons (ps_set (i := 3) sc__law_take.nd rfl (Or.inl rfl) (pe_op op_mod (pe_callTy call_int1 (by rfl) T.int (by decide +kernel) (pa_cons (pe_ix ix_list (pv 0) pe_int (fun _ _ => rfl)) pa_nil)) (pv 1)))
  (pss_cons (ps_asg (pe_op op_fdiv (pe_ix ix_list (pv 0) pe_int (fun _ _ => rfl)) (pv 1)) (pg_sub (pv 0) pe_int L2.set_list))
  (pss_one (ps_ret (pv 3)))))))), ?_⟩
  obtain ⟨ns, i, d, seed, c, h1, h2, ne, h63, hi, hd, hs0, hs1⟩ := S.ex
  refine ⟨_, rfl, st, _, _, _, rfl, rfl, SqL.of h1, at5 4 _ rfl, _, _, rfl, rfl, _, rfl, st, _, 4, 4, rfl, rfl, h1, rfl, ?_⟩
  have k1 : Keep [st] H (upd H st (stL scr i d seed (c + 1))) := Keep.upd
  have e1 : (upd H st (stL scr i d seed (c + 1))) st = some (stL scr i d seed (c + 1)) := upd_same
  generalize hJ : upd H st (stL scr i d seed (c + 1)) = J at k1 e1
  rw [show upd H st (.lst ([V.ref scr, .int i, .int d, .int seed, .int c].set 4 (.int (c + 1)))) = J from hJ]
  clear hJ
  have fin : ∀ (J : Hp) (i' d' c' r : Int), Keep [st] H J → J st = some (stL scr i' d' seed c') → 0 ≤ i' → 0 ≤ d' → 0 ≤ r → r < n → Q (.int r) J := fun J i' d' c' r k e hi' hd' hr0 hr1 =>
    q r J hr0 hr1 k ⟨⟨ns, i', d', seed, c', e, k.one h2 ne, ne, h63, hi', hd', hs0, hs1⟩⟩
  have fin2 : ∀ (J : Hp) (d' d2 r : Int) (i' c' : Int), Keep [st] H J → J st = some (stL scr i' d' seed c') → 0 ≤ i' → 0 ≤ d2 → 0 ≤ r → r < n → Q (.int r) (upd J st (.lst ([V.ref scr, .int i', .int d', .int seed, .int c'].set 2 (.int d2)))) := fun J d' d2 r i' c' k e hi' hd2 hr0 hr1 =>
    fin _ i' d2 c' r (k.trans Keep.upd) (by rw [upd_same]; rfl) hi' hd2 hr0 hr1
  have dn : CDiv d n := ⟨hn, by omega⟩
  refine ⟨_, rfl, st, _, _, _, rfl, rfl, SqL.of e1, at5 2 _ rfl, rfl, _, rfl, ite2 (fun c0 => ?_) (fun c0 => ?_)⟩
  · refine ⟨_, rfl, st, _, _, _, rfl, rfl, SqL.of e1, at5 1 _ rfl, _, rfl, st, _, _, _, rfl, rfl, SqL.of e1, at5 0 _ rfl, scr, _, rfl, .inl (SqL.of (k1.one h2 ne)), _, _, rfl, rfl, _, rfl, ite2 (fun c1 => ?_) (fun c1 => ?_)⟩
    · obtain ⟨x, hx⟩ := at_map hi (of_decide_eq_true c1)
      refine ⟨_, rfl, st, _, _, _, rfl, rfl, SqL.of e1, at5 0 _ rfl, _, rfl, st, _, _, _, rfl, rfl, SqL.of e1, at5 1 _ rfl, scr, _, _, _, rfl, rfl, SqL.of (k1.one h2 ne), hx, .inl ⟨_, rfl, _, rfl, ?_⟩⟩
      refine ⟨_, rfl, st, _, _, _, rfl, rfl, SqL.of e1, at5 1 _ rfl, _, _, rfl, rfl, _, rfl, st, _, 1, 1, rfl, rfl, e1, rfl, ?_⟩
      have k2 : Keep [st] H (upd J st (stL scr (i + 1) d seed (c + 1))) := k1.trans Keep.upd
      have e2 : (upd J st (stL scr (i + 1) d seed (c + 1))) st = some (stL scr (i + 1) d seed (c + 1)) := upd_same
      generalize hJ2 : upd J st (stL scr (i + 1) d seed (c + 1)) = J2 at k2 e2
      rw [show upd J st (.lst ([V.ref scr, .int i, .int d, .int seed, .int (c + 1)].set 1 (.int (i + 1)))) = J2 from hJ2]
      clear hJ2
      refine ⟨_, rfl, _, _, rfl, rfl, ⟨by decide, by decide, by decide⟩, _, _, rfl, rfl, _, rfl, ite2 (fun c2 => ?_) (fun c2 => ?_)⟩
      · refine ⟨_, rfl, _, rfl, st, _, _, _, rfl, rfl, SqL.of e2, at5 4 _ rfl, _, rfl, _, _, n, rfl, hn, fun r hr0 hr1 => ?_⟩
        exact fin J2 (i + 1) d (c + 1) r k2 e2 (by omega) hd hr0 hr1
      · refine ⟨_, rfl, .inl ⟨_, rfl, _, _, rfl, rfl, ⟨by decide, by decide, by decide⟩, _, _, rfl, rfl, ⟨by decide, by decide +kernel⟩, _, _, rfl, rfl, ?_, ?_⟩⟩
        · exact big_pos
        · have hdT := Int.emod_nonneg (if x < 0 then -x else x) (Int.ne_of_gt big_pos)
          refine ⟨_, rfl, st, _, 2, 2, rfl, rfl, e2, rfl, ?_⟩
          have kT : Keep [st] H (upd J2 st (stL scr (i + 1) ((if x < 0 then -x else x) % ((10 ^ Int.toNat 60) ^ Int.toNat 10)) seed (c + 1))) := k2.trans Keep.upd
          have eT : (upd J2 st (stL scr (i + 1) ((if x < 0 then -x else x) % ((10 ^ Int.toNat 60) ^ Int.toNat 10)) seed (c + 1))) st = some (stL scr (i + 1) ((if x < 0 then -x else x) % ((10 ^ Int.toNat 60) ^ Int.toNat 10)) seed (c + 1)) := upd_same
          have hiT : 0 ≤ i + 1 := by omega
          refine ⟨_, rfl, st, _, _, _, rfl, rfl, SqL.of eT, at5 2 _ rfl, rfl, _, rfl, ite2 (fun c3 => ?_) (fun c3 => ?_)⟩
          · refine ⟨_, rfl, st, _, _, _, rfl, rfl, SqL.of eT, at5 3 _ rfl, _, rfl, st, _, _, _, rfl, rfl, SqL.of eT, at5 4 _ rfl, _, rfl, _, _, n, rfl, hn, fun r hr0 hr1 => ?_⟩
            exact fin _ (i + 1) ((if x < 0 then -x else x) % ((10 ^ Int.toNat 60) ^ Int.toNat 10)) (c + 1) r kT eT hiT hdT hr0 hr1
          · refine ⟨_, rfl, st, _, _, _, rfl, rfl, SqL.of eT, at5 2 _ rfl, .inl ⟨_, rfl, _, rfl, _, _, rfl, rfl, hn, ?_⟩⟩
            refine ⟨_, rfl, st, _, _, _, rfl, rfl, SqL.of eT, at5 2 _ rfl, _, rfl, _, _, rfl, rfl, dn, _, rfl, st, _, 2, 2, rfl, rfl, eT, rfl, _, rfl, ?_⟩
            exact fin2 _ ((if x < 0 then -x else x) % ((10 ^ Int.toNat 60) ^ Int.toNat 10)) (((if x < 0 then -x else x) % ((10 ^ Int.toNat 60) ^ Int.toNat 10)) / n) (((if x < 0 then -x else x) % ((10 ^ Int.toNat 60) ^ Int.toNat 10)) % n) (i + 1) (c + 1) kT eT hiT (Int.ediv_nonneg hdT (Int.le_of_lt hn)) (Int.emod_nonneg _ (Int.ne_of_gt hn)) (Int.emod_lt_of_pos _ hn)
    · refine ⟨_, rfl, st, _, _, _, rfl, rfl, SqL.of e1, at5 2 _ rfl, rfl, _, rfl, ite2 (fun c3 => ?_) (fun c3 => ?_)⟩
      · refine ⟨_, rfl, st, _, _, _, rfl, rfl, SqL.of e1, at5 3 _ rfl, _, rfl, st, _, _, _, rfl, rfl, SqL.of e1, at5 4 _ rfl, _, rfl, _, _, n, rfl, hn, fun r hr0 hr1 => ?_⟩
        exact fin _ i d (c + 1) r k1 e1 hi hd hr0 hr1
      · refine ⟨_, rfl, st, _, _, _, rfl, rfl, SqL.of e1, at5 2 _ rfl, .inl ⟨_, rfl, _, rfl, _, _, rfl, rfl, hn, ?_⟩⟩
        refine ⟨_, rfl, st, _, _, _, rfl, rfl, SqL.of e1, at5 2 _ rfl, _, rfl, _, _, rfl, rfl, dn, _, rfl, st, _, 2, 2, rfl, rfl, e1, rfl, _, rfl, ?_⟩
        exact fin2 _ d (d / n) (d % n) i (c + 1) k1 e1 hi (Int.ediv_nonneg hd (Int.le_of_lt hn)) (Int.emod_nonneg _ (Int.ne_of_gt hn)) (Int.emod_lt_of_pos _ hn)
  · refine ⟨_, rfl, st, _, _, _, rfl, rfl, SqL.of e1, at5 2 _ rfl, rfl, _, rfl, ite2 (fun c3 => ?_) (fun c3 => ?_)⟩
    · refine ⟨_, rfl, st, _, _, _, rfl, rfl, SqL.of e1, at5 3 _ rfl, _, rfl, st, _, _, _, rfl, rfl, SqL.of e1, at5 4 _ rfl, _, rfl, _, _, n, rfl, hn, fun r hr0 hr1 => ?_⟩
      exact fin _ i d (c + 1) r k1 e1 hi hd hr0 hr1
    · refine ⟨_, rfl, st, _, _, _, rfl, rfl, SqL.of e1, at5 2 _ rfl, .inl ⟨_, rfl, _, rfl, _, _, rfl, rfl, hn, ?_⟩⟩
      refine ⟨_, rfl, st, _, _, _, rfl, rfl, SqL.of e1, at5 2 _ rfl, _, rfl, _, _, rfl, rfl, dn, _, rfl, st, _, 2, 2, rfl, rfl, e1, rfl, _, rfl, ?_⟩
      exact fin2 _ d (d / n) (d % n) i (c + 1) k1 e1 hi (Int.ediv_nonneg hd (Int.le_of_lt hn)) (Int.emod_nonneg _ (Int.ne_of_gt hn)) (Int.emod_lt_of_pos _ hn)
end
end CA
namespace CA
open PySem L2
theorem Keep.updn {H H' : Hp} {D : Addr} {o : HO} {ms : List Addr} (k : Keep ms H H') (hD : H D = none) : Keep ms H (L2.upd H' D o) := fun b u e n => by rw [upd_ne (ne_of_none e hD)]; exact k b u e n
theorem at_in {xs : List V} {r : Int} (h0 : 0 ≤ r) (h : r < ((xs.length : Nat) : Int)) : ∃ v, atI xs r = some v ∧ v ∈ xs := by
  have hk : r.toNat < xs.length := by omega
  exact ⟨xs[r.toNat], at_of (j := r.toNat) (by omega) (List.getElem?_eq_getElem hk), List.getElem_mem hk⟩
theorem StAt.isL {H : Hp} {st scr : Addr} (S : StAt H st scr) : ∃ L, H st = some (.lst L) := by
  obtain ⟨ns, i, d, seed, c, h1, _⟩ := S.ex
  exact ⟨_, h1⟩
theorem StAt.updn {H H' : Hp} {st scr D : Addr} {o : HO} (S0 : StAt H st scr) (hD : H D = none) (S : StAt H' st scr) : StAt (upd H' D o) st scr := by
  obtain ⟨ns0, i0, d0, seed0, c0, h10, h20, r0⟩ := S0.ex
  obtain ⟨ns, i, d, seed, c, h1, h2, r⟩ := S.ex
  exact ⟨ns, i, d, seed, c, by rw [upd_ne (ne_of_none h10 hD)]; exact h1, by rw [upd_ne (ne_of_none h20 hD)]; exact h2, r⟩
theorem StAt.gr {H H' : Hp} {st scr : Addr} (S : StAt H st scr) (S' : StAt H' st scr) (k : Keep [st] H H') : Gr H H' := by
  obtain ⟨ns0, i0, d0, seed0, c0, h10, h20, r0⟩ := S.ex
  obtain ⟨ns, i, d, seed, c, h1, h2, r⟩ := S'.ex
  exact Gr.keep k ⟨_, h10⟩ ⟨_, h1⟩
theorem StAt.nlst {H : Hp} {st scr a : Addr} {o : HO} (S : StAt H st scr) (h : H a = some o) (n : ∀ L, o ≠ .lst L) : a ≠ st := by
  obtain ⟨ns0, i0, d0, seed0, c0, h10, h20, r0⟩ := S.ex
  exact ne_of h h10 (fun z => n _ z)
structure TxtPk (K : PySem.W.Frag) (mg : Str → Option Value) (ft fp : Addr) : Prop where
  len : mg "len" = none
  range : mg "range" = none
  tuple : mg "tuple" = none
  g__law_take : mg "_law_take" = some (.ref ft)
  k__law_take : PySem.W.keepIn K (.ref ft) = true
  g__law_pick : mg "_law_pick" = some (.ref fp)
  k__law_pick : PySem.W.keepIn K (.ref fp) = true
/-- one of the texts of a list or a tuple, or a sign of a text -/
def spPick (K : PySem.W.Frag) : Sp := fun vs H Q _ => ∃ (st scr : Addr) (v : V), vs = [.ref st, v] ∧ StAt H st scr ∧
  ((∃ (p : Addr) (ss : List Str), v = .ref p ∧ p ≠ st ∧ ((SqL K H p (ss.map V.str) ∧ ∀ H', Keep [st] H H' → SqL K H' p (ss.map V.str)) ∨ H p = some (.tup (ss.map V.str))) ∧ 0 < ss.length ∧ ss.length < 1000 ∧ ∀ s ∈ ss, ∀ H', Keep [st] H H' → StAt H' st scr → Q (.str s) H')
  ∨ (∃ z : Str, v = .str z ∧ 0 < z.length ∧ z.length < 1000 ∧ ∀ c ∈ z.cps.toList, ∀ H', Keep [st] H H' → StAt H' st scr → Q (.str ⟨#[c]⟩) H'))
section
variable {P : Program} {w : World} {K : PySem.W.Frag} {mg : Str → Option Value} {base : Heap} {ft fp : Addr}
abbrev s__law_pick : Stmt := topS 15
theorem sc__law_pick : FnScope ["_law_state", "_law_names_here"] ["_law_state", "_law_names_here"] (defScope s__law_pick) := ⟨rfl, rfl, rfl, by decide +kernel, rfl, by decide +kernel, by decide +kernel⟩
theorem ok__law_pick {fd fdt : FuncData} (F : Fun K "_law_pick" "_law_pick" s__law_pick fp fd) (T : TxtPk K mg ft fp) (G_law_take : FnOk P w K mg base CX0 2 ft fdt ["_law_state", "_law_size"] spTake) (b_law_take : Binds K fdt ["_law_state", "_law_size"] []) :
    FnOk P w K mg base CX0 3 fp fd ["_law_state", "_law_names_here"] (spPick K) := by
  refine F.ok sc__law_pick (fun vs H Q E h => ?_) (fun cdv A outer s H vs Q E hr h => ?_)
  · obtain ⟨st, scr, v, rfl, _⟩ := h
    rfl
  obtain ⟨st, scr, v, rfl, S, q⟩ := h
  refine ⟨_, (pss_one (ps_ret (pe_ix ix_seq (pv 1) (pe_call G_law_take hr rfl T.g__law_take T.k__law_take b_law_take .nil pass0 (pa_cons (pv 0) (pa_cons (pe_callB (call_len_seq.or call_len_str) (by rfl) T.len (by decide +kernel) (pa_cons (pv 1) pa_nil)) pa_nil))) (fun _ _ => rfl)))), ?_⟩
  rcases q with ⟨p, ss, rfl, np, hp, h0, h1, q⟩ | ⟨z, rfl, h0, h1, q⟩
  · refine ⟨_, rfl, _, rfl, _, rfl, .inl ⟨p, ss.map V.str, rfl, hp.elim (fun e => .inl e.1) fun e => .inr (SqT.of e), ?_⟩⟩
    refine ⟨st, scr, ((ss.map V.str).length : Int), rfl, S, by rw [List.length_map]; omega, by rw [List.length_map]; omega, fun r H' r0 r1 k S' => ?_⟩
    obtain ⟨v, hv, hm⟩ := at_in r0 r1
    obtain ⟨s', hs', rfl⟩ := List.mem_map.mp hm
    rcases hp with hp | hp
    · exact .inl ⟨p, _, r, _, rfl, rfl, hp.2 _ k, hv, q s' hs' H' k S'⟩
    · exact .inr (.inl ⟨p, _, r, _, rfl, rfl, SqT.of (k.one hp np), hv, q s' hs' H' k S'⟩)
  · have hz : z.length ≤ sizeLine := Nat.le_trans (Nat.le_of_lt h1) (by decide)
    refine ⟨_, rfl, _, rfl, _, rfl, .inr ⟨z, rfl, hz, ?_⟩⟩
    refine ⟨st, scr, (z.length : Int), rfl, S, by omega, by omega, fun r H' r0 r1 k S' => ?_⟩
    have hk : r.toNat < z.cps.toList.length := by
      rw [Array.length_toList]
      have : (z.cps.size : Int) = (z.length : Int) := rfl
      omega
    have hat := atI_nat (List.getElem?_eq_getElem hk)
    rw [Int.toNat_of_nonneg r0] at hat
    refine .inr (.inr ⟨z, r, z.cps.toList[r.toNat], rfl, rfl, hz, hat, q _ (List.getElem_mem hk) H' k S'⟩)
end
/-- [te for v in range(n)] where each te draws a text -/
theorem lcd_range {K : PySem.W.Frag} {wi : TI} {j : Nat} {te : TE} {vs : List Nat} {σ : L2.St} {H : Hp} {Q : VK} {st scr : Addr} {B : Nat} {good : Str → Prop} (S : StAt H st scr) (hB : B ≤ 1000)
    (hwi : ∀ R' : It → Hp → Prop, (∀ n H1, n ≤ B → Keep [st] H H1 → StAt H1 st scr → R' (Itr 0 n) H1) → wi σ H R')
    (hj : ∀ x, wipe ((wipe σ vs).set j (some x)) vs = wipe σ vs)
    (he : ∀ x H' (Q' : VK), Keep [st] H H' → StAt H' st scr → (∀ s H'', good s → Keep [st] H' H'' → StAt H'' st scr → Q' (.str s) H'') → te ((wipe σ vs).set j (some x)) H' Q')
    (q : ∀ (D : Addr) (H' : Hp) (ss : List Str), H D = none → Keep [st] H H' → StAt H' st scr → H' D = some (.lst (ss.map V.str)) → ss.length ≤ B → (∀ s ∈ ss, good s) → Q (.ref D) H') : tLc wi (gName j) tYes te vs σ H Q := by
  refine hwi _ fun n H1 hn k1 S1 D hD => ?_
  have hDH : H D = none := by
    cases e : H D with
    | none => rfl
    | some o =>
      by_cases eD : D = st
      · obtain ⟨L, hL⟩ := S1.isL
        rw [eD, hL] at hD
        cases hD
      · rw [k1.one e eD] at hD; cases hD
  have nD : D ≠ st := fun e => by
    obtain ⟨L, hL⟩ := S.isL
    rw [e, hL] at hDH
    cases hDH
  refine walk_range (lo := 0) (n := n) (fun i H' => Keep [st] H H' ∧ StAt H' st scr ∧ ∃ ss : List Str, H' D = some (.lst (ss.map V.str)) ∧ ss.length = i ∧ ∀ s ∈ ss, good s) ⟨k1.updn hDH, S.updn hDH S1, [], upd_same, rfl, fun _ h => by cases h⟩ (fun i H' hi pv => ?_) (fun H' pv => ?_)
  · obtain ⟨k, S', ss, hDs, hl, hg⟩ := pv
    unfold gName
    refine ⟨hj _, ?_⟩
    unfold tYes
    refine iteT ?_
    refine he _ H' _ k S' fun s H2 gs k2 S2 => ?_
    refine ⟨_, k2.one hDs nD, ?_, (k.trans k2).updn hDH, S.updn hDH S2, ss ++ [s], by rw [upd_same, List.map_append]; rfl, by rw [List.length_append, hl]; rfl, fun u hu => ?_⟩
    · rw [List.length_map]
      exact Nat.lt_of_le_of_lt (show _ ≤ 1000 by omega) (by decide)
    · rcases List.mem_append.mp hu with hu | hu
      · exact hg u hu
      · rw [List.mem_singleton] at hu
        rw [hu]
        exact gs
  · obtain ⟨k, S', ss, hDs, hl, hg⟩ := pv
    exact q D H' ss hDH k S' hDs (by omega) hg
/-- the same over a tuple -/
theorem lcd_tup {K : PySem.W.Frag} {i j : Nat} {te : TE} {vs : List Nat} {σ : L2.St} {H : Hp} {Q : VK} {st scr a : Addr} {xs : List V} {good : Str → Prop} (S : StAt H st scr) (hσ : σ[i]? = some (some (.ref a))) (ha : H a = some (.tup xs)) (hB : xs.length ≤ 1000)
    (hj : ∀ x, wipe ((wipe σ vs).set j (some x)) vs = wipe σ vs)
    (he : ∀ x H' (Q' : VK), Keep [st] H H' → StAt H' st scr → (∀ s H'', good s → Keep [st] H' H'' → StAt H'' st scr → Q' (.str s) H'') → te ((wipe σ vs).set j (some x)) H' Q')
    (q : ∀ (D : Addr) (H' : Hp) (ss : List Str), H D = none → Keep [st] H H' → StAt H' st scr → H' D = some (.lst (ss.map V.str)) → ss.length = xs.length → (∀ s ∈ ss, good s) → Q (.ref D) H') : tLc (iTup K (tVar i)) (gName j) tYes te vs σ H Q := by
  refine ⟨_, hσ, a, rfl, ⟨xs, SqT.of ha⟩, fun D hDH => ?_⟩
  have na : a ≠ st := S.nlst ha (fun _ z => by cases z)
  have nD : D ≠ st := fun e => by
    obtain ⟨L, hL⟩ := S.isL
    rw [e, hL] at hDH
    cases hDH
  refine walk_tup (K := K) (a := a) (xs := xs) (fun i H' => Keep [st] H H' ∧ StAt H' st scr ∧ ∃ ss : List Str, H' D = some (.lst (ss.map V.str)) ∧ ss.length = i ∧ ∀ s ∈ ss, good s) ⟨(Keep.refl _).updn hDH, S.updn hDH S, [], upd_same, rfl, fun _ h => by cases h⟩ (fun i H' _ pv => SqT.of (pv.1.one ha na)) (fun i x H' hx pv => ?_) (fun H' pv => ?_)
  · obtain ⟨k, S', ss, hDs, hl, hg⟩ := pv
    have hi := (List.getElem?_eq_some_iff.mp hx).1
    unfold gName
    refine ⟨hj _, ?_⟩
    unfold tYes
    refine iteT ?_
    refine he _ H' _ k S' fun s H2 gs k2 S2 => ?_
    refine ⟨_, k2.one hDs nD, ?_, (k.trans k2).updn hDH, S.updn hDH S2, ss ++ [s], by rw [upd_same, List.map_append]; rfl, by rw [List.length_append, hl]; rfl, fun u hu => ?_⟩
    · rw [List.length_map]
      exact Nat.lt_of_le_of_lt (show _ ≤ 1000 by omega) (by decide)
    · rcases List.mem_append.mp hu with hu | hu
      · exact hg u hu
      · rw [List.mem_singleton] at hu
        rw [hu]
        exact gs
  · obtain ⟨k, S', ss, hDs, hl, hg⟩ := pv
    exact q D H' ss hDH k S' hDs hl hg
end CA
namespace CA
open PySem L2
theorem Keep.fresh {H H' : Hp} {st scr a : Addr} (k : Keep [st] H H') (S' : StAt H' st scr) (h : H' a = none) : H a = none := by
  cases e : H a with
  | none => rfl
  | some o =>
    by_cases ea : a = st
    · obtain ⟨L, hL⟩ := S'.isL
      rw [ea, hL] at h
      cases h
    · rw [k.one e ea] at h
      cases h
def letS : Str := "abcdefghijklmnopqrstuvwxyz"
theorem let_list : letS.cps.toList = (List.range 26).map (97 + ·) := by decide +kernel
theorem let_mem {c : Nat} (h : c ∈ letS.cps.toList) : 97 ≤ c ∧ c ≤ 122 := by
  rw [let_list] at h
  obtain ⟨i, hi, rfl⟩ := List.mem_map.mp h
  have := List.mem_range.mp hi
  omega
theorem let_at {r : Int} (h0 : 0 ≤ r) (h1 : r < 26) : atI letS.cps.toList r = some (97 + r.toNat) := by
  have hk : letS.cps.toList[r.toNat]? = some (97 + r.toNat) := by
    rw [let_list, List.getElem?_map, List.getElem?_range (by omega)]
    rfl
  have hat := atI_nat hk
  rw [Int.toNat_of_nonneg h0] at hat
  exact hat
def sign1 (s : Str) : Prop := ∃ c : Nat, s = ⟨#[c]⟩ ∧ 97 ≤ c ∧ c ≤ 122
theorem joinL_nil : ∀ ps : List (List Nat), TL.joinL [] ps = ps.flatten
  | [] => rfl
  | [p] => by simp [TL.joinL]
  | p :: q :: r => by
    show p ++ ([] ++ TL.joinL [] (q :: r)) = _
    rw [joinL_nil (q :: r)]
    simp
theorem join_list (ss : List Str) : (Txt.join ("" : Str) ss).cps.toList = (ss.map fun s => s.cps.toList).flatten := by
  have h := TL.tl_join ("" : Str) ss
  rw [TL.join_eq]
  have e : TL.tl ("" : Str) = [] := rfl
  rw [e, joinL_nil] at h
  exact h
theorem join_signs : ∀ {ss : List Str}, (∀ s ∈ ss, sign1 s) → ((ss.map fun s => s.cps.toList).flatten).length = ss.length ∧ ∀ c ∈ (ss.map fun s => s.cps.toList).flatten, 97 ≤ c ∧ c ≤ 122
  | [], _ => ⟨rfl, fun _ h => by cases h⟩
  | s :: r, h => by
    obtain ⟨c, rfl, h1, h2⟩ := h s (List.mem_cons_self ..)
    obtain ⟨e, g⟩ := join_signs fun x hx => h x (List.mem_cons_of_mem _ hx)
    rw [List.map_cons, List.flatten_cons]
    refine ⟨by rw [List.length_append, e, List.length_cons]; show 1 + r.length = r.length + 1; omega, fun d hd => ?_⟩
    rcases List.mem_append.mp hd with hd | hd
    · have hd : d ∈ [c] := hd
      rw [List.mem_singleton] at hd
      rw [hd]
      exact ⟨h1, h2⟩
    · exact g d hd
def ownS (sh : Int) (j : Nat) : Str := ⟨#[97 + ((sh + 7 * (j : Int)) % 26).toNat]⟩
def nmAt (sh fi : Int) (j : Nat) (s : Str) : Prop := ∃ t : Str, t.length ≤ 6 ∧ (∀ c ∈ t.cps.toList, 97 ≤ c ∧ c ≤ 122) ∧ ((fi = 0 ∧ s = ownS sh j ++ t) ∨ (fi = 1 ∧ s = t ++ ownS sh j))
theorem str_app (a b : Str) : (a ++ b).cps.toList = a.cps.toList ++ b.cps.toList := by
  show (a.cps ++ b.cps).toList = _
  exact Array.toList_append
theorem str_len (a : Str) : a.length = a.cps.toList.length := Array.length_toList.symm
theorem okSign_of {c : Nat} (h : 97 ≤ c ∧ c ≤ 122) : okSign c = true := by
  unfold okSign
  have e1 : (Str.ofString "a").cps.toList = [97] := by decide +kernel
  have e2 : (Str.ofString "z").cps.toList = [122] := by decide +kernel
  rw [e1, e2]
  have h1 : ¬ ([c] < [97]) := by
    intro z
    rw [List.cons_lt_cons_iff] at z
    rcases z with z | ⟨_, z⟩
    · omega
    · exact absurd z (List.lt_irrefl _)
  have h2 : ¬ ([122] < [c]) := by
    intro z
    rw [List.cons_lt_cons_iff] at z
    rcases z with z | ⟨_, z⟩
    · omega
    · exact absurd z (List.lt_irrefl _)
  rw [decide_eq_false h1, decide_eq_false h2]
  rfl
theorem own_bound (sh : Int) (j : Nat) : 97 ≤ 97 + ((sh + 7 * (j : Int)) % 26).toNat ∧ 97 + ((sh + 7 * (j : Int)) % 26).toNat ≤ 122 := by
  have h1 := Int.emod_nonneg (sh + 7 * (j : Int)) (by decide : (26 : Int) ≠ 0)
  have h2 := Int.emod_lt_of_pos (sh + 7 * (j : Int)) (by decide : (0 : Int) < 26)
  omega
theorem nmS_of {s : Str} (h1 : 1 ≤ s.length) (h2 : s.length ≤ 8) (h : ∀ c ∈ s.cps.toList, 97 ≤ c ∧ c ≤ 122) : nmS s = true := by
  unfold nmS
  rw [decide_eq_true (by omega), decide_eq_true (by omega)]
  show (s.cps.toList.map okSign).all id = true
  rw [List.all_eq_true]
  intro b hb
  obtain ⟨c, hc, rfl⟩ := List.mem_map.mp hb
  exact okSign_of (h c hc)
theorem nmAt_name {sh fi : Int} {j : Nat} {s : Str} (h : nmAt sh fi j s) : nmS s = true := by
  obtain ⟨t, ht, hc, h⟩ := h
  have hb := own_bound sh j
  have e1 : (ownS sh j).cps.toList = [97 + ((sh + 7 * (j : Int)) % 26).toNat] := rfl
  rw [str_len] at ht
  rcases h with ⟨_, rfl⟩ | ⟨_, rfl⟩
  · have e : (ownS sh j ++ t).cps.toList = (97 + ((sh + 7 * (j : Int)) % 26).toNat) :: t.cps.toList := by rw [str_app, e1]; rfl
    refine nmS_of (by rw [str_len, e, List.length_cons]; omega) (by rw [str_len, e, List.length_cons]; omega) fun c h => ?_
    rw [e] at h
    rcases List.mem_cons.mp h with rfl | h
    · exact hb
    · exact hc c h
  · have e : (t ++ ownS sh j).cps.toList = t.cps.toList ++ [97 + ((sh + 7 * (j : Int)) % 26).toNat] := by rw [str_app, e1]
    refine nmS_of (by rw [str_len, e, List.length_append]; simp) (by rw [str_len, e, List.length_append]; show _ + 1 ≤ 8; omega) fun c h => ?_
    rw [e] at h
    rcases List.mem_append.mp h with h | h
    · exact hc c h
    · rw [List.mem_singleton] at h
      rw [h]
      exact hb
theorem own_inj {sh : Int} {i j : Nat} (hi : i < 26) (hj : j < 26) (h : 97 + ((sh + 7 * (i : Int)) % 26).toNat = 97 + ((sh + 7 * (j : Int)) % 26).toNat) : i = j := by omega
theorem nmAt_ne {sh fi : Int} {i j : Nat} {s : Str} (hi : i < 26) (hj : j < 26) (a : nmAt sh fi i s) (b : nmAt sh fi j s) : i = j := by
  obtain ⟨t, _, _, a⟩ := a
  obtain ⟨u, _, _, b⟩ := b
  have e1 : ∀ k, (ownS sh k).cps.toList = [97 + ((sh + 7 * (k : Int)) % 26).toNat] := fun _ => rfl
  rcases a with ⟨f1, a⟩ | ⟨f1, a⟩ <;> rcases b with ⟨f2, b⟩ | ⟨f2, b⟩
  · have h : (ownS sh i ++ t).cps.toList = (ownS sh j ++ u).cps.toList := by rw [← a, b]
    rw [str_app, str_app, e1, e1] at h
    injection h with h _
    exact own_inj hi hj h
  · omega
  · omega
  · have h : (t ++ ownS sh i).cps.toList = (u ++ ownS sh j).cps.toList := by rw [← a, b]
    rw [str_app, str_app, e1, e1] at h
    have h := congrArg List.getLast? h
    rw [List.getLast?_append, List.getLast?_append] at h
    injection h with h
    exact own_inj hi hj h
theorem names_nodup {sh fi : Int} {ns : List Str} (hl : ns.length ≤ 26) (h : ∀ (j : Nat) s, ns[j]? = some s → nmAt sh fi j s) : ns.Nodup := by
  unfold List.Nodup
  rw [List.pairwise_iff_getElem]
  intro i j hi hj hij e
  have h1 := h i _ (List.getElem?_eq_getElem hi)
  have h2 := h j _ (List.getElem?_eq_getElem hj)
  rw [← e] at h2
  have := nmAt_ne (by omega) (by omega) h1 h2
  omega
def spLNames : Sp := fun vs H Q _ => ∃ (st scr : Addr) (n : Nat), vs = [.ref st, .int (n : Int)] ∧ StAt H st scr ∧ n ≤ 26 ∧
  ∀ (p : Addr) (H' : Hp) (ns : List Str), H p = none → Keep [st] H H' → StAt H' st scr → H' p = some (.lst (ns.map V.str)) → ns.length = n → (∀ s ∈ ns, nmS s = true) → ns.Nodup → Q (.ref p) H'
/-- a tuple with a word for each word -/
def spTab : Sp := fun vs H Q _ => ∃ (st scr pw : Addr) (ws : List Str), vs = [.ref st, .ref pw] ∧ StAt H st scr ∧ H pw = some (.tup (ws.map V.str)) ∧ 0 < ws.length ∧ ws.length < 1000 ∧
  ∀ (p : Addr) (H' : Hp) (ts : List Str), H p = none → Keep [st] H H' → StAt H' st scr → H' p = some (.tup (ts.map V.str)) → ts.length = ws.length → (∀ s ∈ ts, s ∈ ws) → Q (.ref p) H'
section
variable {P : Program} {w : World} {K : PySem.W.Frag} {mg : Str → Option Value} {base : Heap} {ft fp : Addr}
abbrev s__law_names : Stmt := topS 16
theorem sc__law_names : FnScope ["_law_state", "_law_many", "_law_letters", "_law_shift", "_law_first", "_law_names_here", "_law_k", "_law_text", "_law_own", "_law_j"] ["_law_state", "_law_many"] (defScope s__law_names) := ⟨rfl, rfl, rfl, by decide +kernel, rfl, by decide +kernel, by decide +kernel⟩
theorem ok__law_names {f : Addr} {fd fdt fdp : FuncData} (F : Fun K "_law_names" "_law_names" s__law_names f fd) (T : TxtPk K mg ft fp) (Gt : FnOk P w K mg base CX0 2 ft fdt ["_law_state", "_law_size"] spTake) (bt : Binds K fdt ["_law_state", "_law_size"] [])
    (Gp : FnOk P w K mg base CX0 3 fp fdp ["_law_state", "_law_names_here"] (spPick K)) (bp : Binds K fdp ["_law_state", "_law_names_here"] []) :
    FnOk P w K mg base CX0 4 f fd ["_law_state", "_law_many"] spLNames := by
  refine F.ok sc__law_names (fun vs H Q E h => ?_) (fun cdv A outer s H vs Q E hr h => ?_)
  · obtain ⟨st, scr, n, rfl, _⟩ := h
    rfl
  obtain ⟨st, scr, n, rfl, S, hn, q⟩ := h
  have hr2 : Room 2 _ := hr.mono (by decide)
  have hr3 : Room 3 _ := hr
  refine ⟨_, (pss_cons (ps_set (i := 2) sc__law_names.nd rfl (Or.inr rfl) pe_str)
  (pss_cons (ps_set (i := 3) sc__law_names.nd rfl (Or.inl rfl) (pe_call Gt hr2 rfl T.g__law_take T.k__law_take bt .nil pass0 (pa_cons (pv 0) (pa_cons pe_int pa_nil))))
  (pss_cons (ps_set (i := 4) sc__law_names.nd rfl (Or.inl rfl) (pe_call Gt hr2 rfl T.g__law_take T.k__law_take bt .nil pass0 (pa_cons (pv 0) (pa_cons pe_int pa_nil))))
  (pss_cons (ps_set (i := 5) sc__law_names.nd rfl (Or.inl rfl) (pe_lst pa_nil))
  (pss_cons (ps_for PassesOwn.never rfl (pi_range1 rfl T.range (pa_cons (pv 1) pa_nil)) (pg_name (i := 6) sc__law_names.nd rfl (Or.inl rfl))
    (pss_cons (ps_set (i := 7) sc__law_names.nd rfl (Or.inl rfl) (pe_join pe_str (pe_lc (own := [("_law_j", 9)]) (g := gName 9) (tt := tYes) (te := tCall (spPick K) [] E0 (tCons (tVar 0) (tCons (tVar 2) tNil))) rfl sc__law_names.nd (pi_range1 rfl T.range (pa_cons (pe_op op_mul (pe_call Gt hr2 rfl T.g__law_take T.k__law_take bt .nil pass0 (pa_cons (pv 0) (pa_cons pe_int pa_nil))) (pe_op op_add pe_int (pe_call Gt hr2 rfl T.g__law_take T.k__law_take bt .nil pass0 (pa_cons (pv 0) (pa_cons pe_int pa_nil))))) pa_nil))
        (blkOk_by (own := [("_law_j", 9)]) (N := ["_law_state", "_law_many", "_law_letters", "_law_shift", "_law_first", "_law_names_here", "_law_k", "_law_text", "_law_own", "_law_j"]) (sc := defScope s__law_names) (by decide +kernel))
        (fun s H C cl fp => pg_name (i := 9) sc__law_names.nd rfl (Or.inl rfl)) (fun s H C cl fp => pts_nil) (fun s H C cl fp => pe_call Gp hr3 rfl T.g__law_pick T.k__law_pick bp .nil pass0 (pa_cons (pv 0) (pa_cons (pv 2) pa_nil))))))
      (pss_cons (ps_set (i := 8) sc__law_names.nd rfl (Or.inl rfl) (pe_ix ix_str (pv 2) (pe_op op_mod (pe_op op_add (pv 3) (pe_op op_mul pe_int (pv 6))) pe_int) (fun _ _ => rfl)))
      (pss_one (ps_expr (pe_bm PySem.F.plainAttrs_list PySem.F.slot_list_append PySem.F.type_list_append mt_append (pv 5) (pa_cons (pe_ix ix_list (pe_lst (pa_cons (pe_op op_add_str (pv 8) (pv 7)) (pa_cons (pe_op op_add_str (pv 7) (pv 8)) pa_nil))) (pv 4) (fun _ _ => rfl)) pa_nil)))))))
  (pss_one (ps_ret (pv 5)))))))), ?_⟩
  refine ⟨_, rfl, st, scr, 26, rfl, S, by decide, by decide, fun sh H1 sh0 sh1 k1 S1 => ?_⟩
  refine ⟨_, rfl, st, scr, 2, rfl, S1, by decide, by decide, fun fi H2 fi0 fi1 k2 S2 => ?_⟩
  refine ⟨by decide, fun p hp => ?_⟩
  have K2 := k1.trans k2
  have hpH := K2.fresh S2 hp
  have npst : p ≠ st := fun e => by
    obtain ⟨L, hL⟩ := S.isL
    rw [e, hL] at hpH
    cases hpH
  refine ⟨_, rfl, (n : Int), rfl, by omega, by omega, for_range (lo := 0) (n := n)
    (fun i σ H' => ∃ x6 x7 x8 x9, ∃ ns : List Str, σ = [some (.ref st), some (.int (n : Int)), some (.str letS), some (.int sh), some (.int fi), some (.ref p), x6, x7, x8, x9] ∧ Keep [st] H H' ∧ StAt H' st scr ∧ H' p = some (.lst (ns.map V.str)) ∧ ns.length = i ∧ ∀ (j : Nat) s, ns[j]? = some s → nmAt sh fi j s)
    ⟨none, none, none, none, [], rfl, K2.updn hpH, S.updn hpH S2, upd_same, rfl, fun j s h => by simp at h⟩ (fun i σ H' hi pv => ?_) (fun σ H' pv => ?_)⟩
  · obtain ⟨x6, x7, x8, x9, ns, rfl, k, S', hpn, hl, hall⟩ := pv
    refine ⟨⟨_, rfl⟩, ?_⟩
    refine lcd_range (K := K) (j := 9) (vs := [9]) (st := st) (scr := scr) (B := 6) (good := sign1) S' (by decide) (fun R' h => ?_) (fun _ => rfl) (fun x H3 Q3 k3 S3 kk => ?_) fun D H3 ss hD k3 S3 hDs hss hgs => ?_
    · refine ⟨_, rfl, st, scr, 4, rfl, S', by decide, by decide, fun r1 H4 r10 r11 k4 S4 => ?_⟩
      refine ⟨_, rfl, st, scr, 2, rfl, S4, by decide, by decide, fun r2 H5 r20 r21 k5 S5 => ?_⟩
      have hr2' : r2 = 0 ∨ r2 = 1 := by omega
      have hm : 0 ≤ r1 * (1 + r2) ∧ r1 * (1 + r2) ≤ 6 := by rcases hr2' with e | e <;> rw [e] <;> omega
      exact ⟨_, _, rfl, rfl, _, _, rfl, rfl, .inl ⟨by omega, by omega⟩, _, rfl, by omega, by omega, h _ H5 (by omega) (k4.trans k5) S5⟩
    · exact ⟨_, rfl, _, rfl, st, scr, _, rfl, S3, .inr ⟨letS, rfl, by decide, by decide, fun c hc H4 k4 S4 => kk _ H4 ⟨c, rfl, let_mem hc⟩ k4 S4⟩⟩
    · obtain ⟨hjl, hjm⟩ := join_signs hgs
      have hsum : (ss.map (·.length)).sum + ss.length * (("" : Str).length) ≤ 16777216 := by
        have e0 : ("" : Str).length = 0 := rfl
        rw [e0, Nat.mul_zero, Nat.add_zero]
        have hb : ∀ l : List Str, (∀ s ∈ l, sign1 s) → (l.map (·.length)).sum = l.length := fun l => by
          induction l with
          | nil => intro _; rfl
          | cons a l ih =>
            intro h
            obtain ⟨c, rfl, _⟩ := h a (List.mem_cons_self ..)
            rw [List.map_cons, List.sum_cons, ih fun s hs => h s (List.mem_cons_of_mem _ hs), List.length_cons]
            show 1 + l.length = l.length + 1
            omega
        rw [hb ss hgs]
        omega
      refine ⟨_, D, ss, rfl, rfl, .inl (SqL.of hDs), hsum, ?_⟩
      have et := join_list ss
      generalize hT : Txt.join ("" : Str) ss = t at et
      rw [← et] at hjl hjm
      have tl6 : t.length ≤ 6 := by rw [str_len]; omega
      have hb := own_bound sh i
      have e0 : (0 : Int) + (i : Int) = (i : Int) := by omega
      have m0 := Int.emod_nonneg (sh + 7 * (0 + (i : Int))) (by decide : (26 : Int) ≠ 0)
      have m1 := Int.emod_lt_of_pos (sh + 7 * (0 + (i : Int))) (by decide : (0 : Int) < 26)
      refine ⟨_, rfl, _, rfl, _, rfl, _, _, rfl, rfl, .inl ⟨by omega, by omega⟩, _, _, rfl, rfl, _, _, rfl, rfl, (by show (0 : Int) < 26; decide), letS, _, _, rfl, rfl, by decide, let_at m0 m1, ?_⟩
      have eown : (⟨#[97 + ((sh + 7 * (0 + (i : Int))) % 26).toNat]⟩ : Str) = ownS sh i := by rw [e0]; rfl
      rw [eown]
      have kH3 := k.trans k3
      have hp3 := k3.one hpn npst
      have lo1 : (ownS sh i).length = 1 := rfl
      refine ⟨_, rfl, .inl ⟨rfl, _, SqL.of hp3⟩, _, rfl, _, rfl, _, _, rfl, rfl, Nat.le_trans (show (ownS sh i).length + t.length ≤ 7 by omega) (by decide), _, rfl, _, rfl, _, _, rfl, rfl, Nat.le_trans (show t.length + (ownS sh i).length ≤ 7 by omega) (by decide), (show 2 ≤ sizeLine by decide), fun pl hpl => ?_⟩
      have hplH := kH3.fresh S3 hpl
      have s4 := same_new hpl (.lst [V.str (ownS sh i ++ t), .str (t ++ ownS sh i)])
      have npl : p ≠ pl := fun e => by rw [e, hpl] at hp3; cases hp3
      have fin : ∀ (v : Str), nmAt sh fi i v → ∃ y6 y7 y8 y9, ∃ ns' : List Str, [some (V.ref st), some (V.int (n : Int)), some (.str letS), some (.int sh), some (.int fi), some (.ref p), some (.int (0 + (i : Int))), some (.str t), some (.str (ownS sh i)), x9] = [some (V.ref st), some (V.int (n : Int)), some (.str letS), some (.int sh), some (.int fi), some (.ref p), y6, y7, y8, y9] ∧ Keep [st] H (upd (upd H3 pl (.lst [V.str (ownS sh i ++ t), .str (t ++ ownS sh i)])) p (.lst (ns.map V.str ++ [.str v]))) ∧
          StAt (upd (upd H3 pl (.lst [V.str (ownS sh i ++ t), .str (t ++ ownS sh i)])) p (.lst (ns.map V.str ++ [.str v]))) st scr ∧ (upd (upd H3 pl (.lst [V.str (ownS sh i ++ t), .str (t ++ ownS sh i)])) p (.lst (ns.map V.str ++ [.str v]))) p = some (.lst (ns'.map V.str)) ∧ ns'.length = i + 1 ∧ ∀ (j : Nat) s, ns'[j]? = some s → nmAt sh fi j s := fun v hv => by
        refine ⟨_, _, _, _, ns ++ [v], rfl, (kH3.updn hplH).updn hpH, S.updn hpH (S.updn hplH S3), by rw [upd_same, List.map_append]; rfl, by rw [List.length_append, hl]; rfl, fun j s hs => ?_⟩
        rw [List.getElem?_append] at hs
        split at hs
        · exact hall j s hs
        · rename_i hj
          have hj2 : j - ns.length = 0 := by
            have := (List.getElem?_eq_some_iff.mp hs).1
            simp at this
            omega
          rw [hj2] at hs
          have hs : some v = some s := hs
          cases hs
          have : j = i := by omega
          rw [this]
          exact hv
      have hsz : (ns.map V.str).length < sizeLine := Nat.lt_of_le_of_lt (show _ ≤ 26 by rw [List.length_map]; omega) (by decide)
      by_cases hf : fi = 0
      · refine ⟨_, rfl, pl, _, fi, _, rfl, rfl, SqL.of upd_same, at_of (j := 0) (by omega) rfl, p, _, _, rfl, rfl, s4 _ _ hp3, hsz, ?_⟩
        exact fin _ ⟨t, tl6, hjm, .inl ⟨hf, rfl⟩⟩
      · refine ⟨_, rfl, pl, _, fi, _, rfl, rfl, SqL.of upd_same, at_of (j := 1) (by omega) rfl, p, _, _, rfl, rfl, s4 _ _ hp3, hsz, ?_⟩
        exact fin _ ⟨t, tl6, hjm, .inr ⟨by omega, rfl⟩⟩
  · obtain ⟨x6, x7, x8, x9, ns, rfl, k, S', hpn, hl, hall⟩ := pv
    refine ⟨_, rfl, q p _ ns hpH k S' hpn hl (fun s hs => ?_) (names_nodup (by omega) hall)⟩
    obtain ⟨j, hj⟩ := List.mem_iff_getElem?.mp hs
    exact nmAt_name (hall j s hj)
end
end CA
namespace CA
open PySem L2
/-- trees of texts, numbers and None, down to a depth -/
def okT : Nat → Tr → Prop
  | 0, _ => False
  | d + 1, .tup ts => ∀ t ∈ ts, okT d t
  | _ + 1, .at .non => True
  | _ + 1, .at (.str _) => True
  | _ + 1, .at (.int _) => True
  | _ + 1, .at _ => False
def spSameT (d : Nat) : Sp := fun vs H Q _ => ∃ (tv dv : V) (T : Tr), vs = [tv, dv] ∧ Tw H tv T ∧ Tw H dv T ∧ okT d T ∧ ∀ H', Same H H' → Q (.bl true) H'
structure TxtSm (K : PySem.W.Frag) (mg : Str → Option Value) (fs : Addr) : Prop where
  range : mg "range" = none
  g__law_same : mg "_law_same" = some (.ref fs)
  k__law_same : PySem.W.keepIn K (.ref fs) = true
theorem inV_true : ∀ n : Nat, inV (.bl false) (List.replicate n (V.bl true)) = false
  | 0 => rfl
  | n + 1 => by
    show (eqV (.bl true) (.bl false) || inV (.bl false) (List.replicate n (V.bl true))) = false
    rw [inV_true n]
    rfl
theorem flat_true : ∀ n : Nat, (List.replicate n (V.bl true)).all flatV = true
  | 0 => rfl
  | n + 1 => by
    show (flatV (.bl true) && (List.replicate n (V.bl true)).all flatV) = true
    rw [flat_true n]
    rfl
section
variable {P : Program} {w : World} {K : PySem.W.Frag} {mg : Str → Option Value} {base : Heap} {fs : Addr}
abbrev s__law_same : Stmt := topS 17
theorem sc__law_same : FnScope ["_law_told", "_law_due_here", "_law_k"] ["_law_told", "_law_due_here"] (defScope s__law_same) := ⟨rfl, rfl, rfl, by decide +kernel, rfl, by decide +kernel, by decide +kernel⟩
theorem ok__law_same_step {d k : Nat} (hk : 1 ≤ k) {fd : FuncData} (F : Fun K "_law_same" "_law_same" s__law_same fs fd) (B : Blt mg) (T : TxtSm K mg fs) (Gs : FnOk P w K mg base CX0 k fs fd ["_law_told", "_law_due_here"] (spSameT d)) (bs : Binds K fd ["_law_told", "_law_due_here"] []) :
    FnOk P w K mg base CX0 (k + 1) fs fd ["_law_told", "_law_due_here"] (spSameT (d + 1)) := by
  refine F.ok sc__law_same (fun vs H Q E h => ?_) (fun cdv A outer s H vs Q E hr h => ?_)
  · obtain ⟨tv, dv, TT, rfl, _⟩ := h
    rfl
  obtain ⟨tv, dv, TT, rfl, wt, wd, ok, q⟩ := h
  have ISI : ∀ (i : Nat) (ty : String), True := fun _ _ => trivial
  refine ⟨_, (pss_cons (ps_if (pt_val (pe_callB call_isi (by rfl) B.isinstance (by decide +kernel) (pa_cons (pv 1) (pa_cons (pe_bltn (v := .ty "tuple") (by rfl) B.tuple (by decide +kernel) rfl) pa_nil))))
    (pss_cons (ps_if (PW.pt (pw_or (pt_not (pt_val (pe_callB call_isi (by rfl) B.isinstance (by decide +kernel) (pa_cons (pv 0) (pa_cons (pe_bltn (v := .ty "tuple") (by rfl) B.tuple (by decide +kernel) rfl) pa_nil))))) (pw_or1 (pt_cmpR op_ne (pe_callB call_len_seq (by rfl) B.len (by decide +kernel) (pa_cons (pv 0) pa_nil)) (pe_callB call_len_seq (by rfl) B.len (by decide +kernel) (pa_cons (pv 1) pa_nil)) (nomark _)))))
        (pss_one (ps_ret pe_bl))
        pss_nil)
      (pss_one (ps_ret (pe_cmpR op_notIn_seq pe_bl (pe_lc (own := [("_law_k", 2)]) (g := gName 2) (tt := tYes) (te := tCall (spSameT d) [] E0 (tCons (tOp (rIxT K) (tVar 0) (tVar 2)) (tCons (tOp (rIxT K) (tVar 1) (tVar 2)) tNil))) rfl sc__law_same.nd (pi_range1 rfl T.range (pa_cons (pe_callB call_len_seq (by rfl) B.len (by decide +kernel) (pa_cons (pv 1) pa_nil)) pa_nil))
        (blkOk_by (own := [("_law_k", 2)]) (N := ["_law_told", "_law_due_here", "_law_k"]) (sc := defScope s__law_same) (by decide +kernel))
        (fun s H C cl fp => pg_name (i := 2) sc__law_same.nd rfl (Or.inl rfl)) (fun s H C cl fp => pts_nil) (fun s H C cl fp => pe_call Gs hr rfl T.g__law_same T.k__law_same bs .nil pass0 (pa_cons (pe_ix ix_tup (pv 0) (pv 2) (fun _ _ => rfl)) (pa_cons (pe_ix ix_tup (pv 1) (pv 2) (fun _ _ => rfl)) pa_nil)))) (by rfl)))))
    pss_nil)
  (pss_cons (ps_if (pt_cmpR op_isN (pv 1) pe_non (nomark _))
    (pss_one (ps_ret (pe_cmpR op_isN (pv 0) pe_non (nomark _))))
    pss_nil)
  (pss_cons (ps_if (pt_val (pe_callB call_isi (by rfl) B.isinstance (by decide +kernel) (pa_cons (pv 1) (pa_cons (pe_bltn (v := .ty "str") (by rfl) B.str (by decide +kernel) rfl) pa_nil))))
    (pss_one (ps_ret (pe_and (pe_callB call_isi (by rfl) B.isinstance (by decide +kernel) (pa_cons (pv 0) (pa_cons (pe_bltn (v := .ty "str") (by rfl) B.str (by decide +kernel) rfl) pa_nil))) (pe_one (pe_cmpR op_eq (pv 0) (pv 1) (nomark _))))))
    pss_nil)
  (pss_one (ps_ret (pe_and (pe_callB call_isi (by rfl) B.isinstance (by decide +kernel) (pa_cons (pv 0) (pa_cons (pe_bltn (v := .ty "int") (by rfl) B.int (by decide +kernel) rfl) pa_nil))) (pe_and (pe_not (pe_callB call_isi (by rfl) B.isinstance (by decide +kernel) (pa_cons (pv 0) (pa_cons (pe_bltn (v := .ty "bool") (by rfl) B.bool (by decide +kernel) rfl) pa_nil)))) (pe_one (pe_cmpR op_eq (pv 0) (pv 1) (nomark _)))))))))), ?_⟩
  refine tisi_tup (K := K) (v := dv) rfl wd ⟨_, rfl, ?_⟩
  have here : Same H H := fun _ _ e => e
  cases TT with
  | tup ts =>
    refine iteT ?_
    refine tisi_tup (K := K) (v := tv) rfl wt ⟨_, rfl, ?_⟩
    refine iteF ?_
    cases wt with
    | @tup a us _ ha hl hb =>
    cases wd with
    | @tup a2 us2 _ ha2 hl2 _ =>
    have l1 := hl.len
    have l2 := hl2.len
    refine ⟨_, rfl, a, us, rfl, .inr (SqT.of ha), _, rfl, a2, us2, rfl, .inr (SqT.of ha2), rfl, _, rfl, ?_⟩
    have e : decide (V.int (us.length : Int) = V.int (us2.length : Int)) = true := by rw [l1, l2]; simp
    rw [e]
    refine iteF ?_
    dsimp only [tRet, tOp, tC]
    refine ⟨_, rfl, a2, us2, rfl, .inr (SqT.of ha2), (us2.length : Int), rfl, by omega, by omega, fun D hD => ?_⟩
    have e2 : ((us2.length : Int)).toNat = us2.length := rfl
    rw [e2]
    refine walk_range (lo := 0) (n := us2.length) (fun i H' => Same H H' ∧ H' D = some (.lst (List.replicate i (V.bl true)))) ⟨same_new hD _, upd_same⟩ (fun i H' hi pv => ?_) (fun H' pv => ?_)
    · obtain ⟨sm, hDs⟩ := pv
      have hi1 : i < us.length := by omega
      obtain ⟨t1, ht1, w1⟩ := hl.get (List.getElem?_eq_getElem hi1)
      obtain ⟨t2, ht2, w2⟩ := hl2.get (List.getElem?_eq_getElem hi)
      have et : t2 = t1 := by rw [ht1] at ht2; injection ht2 with z; exact z.symm
      subst et
      have e0 : (0 : Int) + (i : Int) = (i : Int) := by omega
      refine ⟨rfl, ?_⟩
      unfold tYes
      refine iteT ⟨_, rfl, _, rfl, a, us, _, us[i], rfl, rfl, SqT.of (sm _ _ ha), at_of (j := i) e0 (List.getElem?_eq_getElem hi1), _, rfl, _, rfl, a2, us2, _, us2[i], rfl, rfl, SqT.of (sm _ _ ha2), at_of (j := i) e0 (List.getElem?_eq_getElem hi), _, _, t2, rfl, Tw.gr (Gr.of sm) _ _ w1, Tw.gr (Gr.of sm) _ _ w2, ok t2 (List.mem_of_getElem? ht1), fun H2 s2 => ?_⟩
      refine ⟨_, s2 _ _ hDs, ?_, same_upd hD fun c o e => s2 _ _ (sm _ _ e), ?_⟩
      · rw [List.length_replicate]
        exact Nat.lt_of_lt_of_le (show i < 1001 by omega) (by decide)
      · rw [upd_same, List.replicate_succ']
    · obtain ⟨sm, hDs⟩ := pv
      refine ⟨D, _, rfl, .inl (SqL.of hDs), rfl, flat_true _, ?_⟩
      rw [inV_true]
      exact q H' sm
  | «at» v =>
    have e1 : tv = v := by cases wt; rfl
    have e2 : dv = v := by cases wd; rfl
    subst e1 e2
    refine iteF ?_
    cases dv with
    | non =>
      refine ⟨_, rfl, rfl, _, rfl, iteT ?_⟩
      exact ⟨_, rfl, rfl, q H here⟩
    | str z =>
      refine ⟨_, rfl, rfl, _, rfl, iteF ?_⟩
      refine tisi_str (K := K) (v := .str z) rfl wd ⟨_, rfl, iteT ?_⟩
      refine tisi_str (K := K) (v := .str z) rfl wt ⟨_, rfl, iteT ?_⟩
      refine ⟨_, rfl, _, rfl, rfl, ?_⟩
      rw [decide_eq_true rfl]
      exact q H here
    | int z =>
      refine ⟨_, rfl, rfl, _, rfl, iteF ?_⟩
      refine tisi_str (K := K) (v := .int z) rfl wd ⟨_, rfl, iteF ?_⟩
      refine tisi_int (K := K) (v := .int z) rfl wt ⟨_, rfl, iteT ?_⟩
      refine tisi_bool (K := K) (v := .int z) rfl wt ⟨_, rfl, ⟨_, rfl, iteT ?_⟩⟩
      refine ⟨_, rfl, _, rfl, rfl, ?_⟩
      rw [decide_eq_true rfl]
      exact q H here
    | _ => exact ok.elim
theorem ok__law_same {fd : FuncData} (F : Fun K "_law_same" "_law_same" s__law_same fs fd) (B : Blt mg) (T : TxtSm K mg fs) (bs : Binds K fd ["_law_told", "_law_due_here"] []) : ∀ d : Nat, FnOk P w K mg base CX0 (d + 1) fs fd ["_law_told", "_law_due_here"] (spSameT d)
  | 0 => by
    have no : ∀ vs H Q E, ¬ spSameT 0 vs H Q E := fun vs H Q E h => by
      obtain ⟨_, _, _, _, _, _, z, _⟩ := h
      exact z
    refine ⟨?_, ?_⟩
    · intro vs H Q E h
      exact (no _ _ _ _ h).elim
    · intros
      rename_i h
      exact (no _ _ _ _ h).elim
  | d + 1 => ok__law_same_step (Nat.le_add_left 1 d) F B T (ok__law_same F B T bs d) bs
end
end CA
/-! Lines and events as texts: plain facts. -/
namespace CA
open PySem L2
abbrev spS : Str := " "
abbrev nlS : Str := "\n"
def evN (k : Str) : Option Nat := if k = "press" then some 1 else if k = "tick" then some 0 else if k = "hand" then some 2 else none
def itemsOf (l : Str) : List Str := Txt.split l spS
def itemsOk : List Str → Bool
  | [] => false
  | k :: ns => decide (evN k = some ns.length) && ns.all nmS
def lineOk (l : Str) : Bool := itemsOk (itemsOf l)
def resOf (ls : List Str) : Nat ⊕ List (List Str) := match ls.findIdx? (fun l => !lineOk l) with
  | some i => .inl (i + 1)
  | none => .inr (ls.map itemsOf)
def endsNl (t : Str) : Bool := decide (TL.tl t ≠ [] ∧ TL.tl t = (TL.tl t).dropLast ++ [10])
def cutNl (t : Str) : Str := cutS t none (some (-1))
def dueS (t : Str) : Nat ⊕ List (List Str) := if t = "" then .inr [] else if endsNl t = true then resOf (Txt.split (cutNl t) nlS) else .inl 0
/-! ### one sign as the separator -/
theorem pre1 (s c : Nat) (r : List Nat) : TL.pre [s] (c :: r) = decide (c = s) := by
  show ((c :: r).take 1 == [s]) = _
  rw [List.take_succ_cons, List.take_zero]
  by_cases h : c = s
  · subst h; simp
  · rw [decide_eq_false h]; simp [h]
theorem spl_snoc (s : Nat) : ∀ (L acc : List Nat), TL.spl [s] 0 acc (L ++ [s]) = TL.spl [s] 0 acc L ++ [[]]
  | [], acc => by
    show TL.spl [s] 0 acc (s :: []) = [acc] ++ [[]]
    rw [TL.spl_hit (by rw [pre1]; simp)]
    rfl
  | c :: L, acc => by
    rw [List.cons_append]
    by_cases h : c = s
    · subst h
      rw [TL.spl_hit (by rw [pre1]; simp), TL.spl_hit (by rw [pre1]; simp)]
      show acc :: TL.spl [c] 0 [] (L ++ [c]) = acc :: TL.spl [c] 0 [] L ++ [[]]
      rw [spl_snoc c L []]
      rfl
    · rw [TL.spl_miss (by rw [pre1]; simp [h]), TL.spl_miss (by rw [pre1]; simp [h])]
      exact spl_snoc s L _
theorem tl_nl : TL.tl nlS = [10] := by decide +kernel
theorem tl_sp : TL.tl spS = [32] := by decide +kernel
theorem split_nl (t : Str) : (Txt.split t nlS).map TL.tl = TL.spl [10] 0 [] (TL.tl t) := by
  have h := TL.split_spl t nlS (by rw [tl_nl]; simp) (TL.kind_ok (by decide +kernel))
  rw [tl_nl] at h
  exact h
theorem tl_cut (t : Str) : TL.tl (cutNl t) = (TL.tl t).dropLast := by
  unfold cutNl cutS
  show ((TL.tl t).drop 0).take (HT.sIx t.length t.length (some (-1)) - 0) = _
  have e : HT.sIx t.length t.length (some (-1)) = t.length - 1 := by
    show (if (-1 : Int) < 0 then ((-1 : Int) + (t.length : Int)).toNat else min (-1 : Int).toNat t.length) = _
    rw [if_pos (by decide)]
    omega
  rw [e, List.drop_zero, Nat.sub_zero, List.dropLast_eq_take, TL.len_tl]
theorem split_drop {t : Str} (h : endsNl t = true) : (Txt.split t nlS).dropLast = Txt.split (cutNl t) nlS := by
  obtain ⟨h0, h1⟩ := of_decide_eq_true h
  refine TL.map_tl_inj ?_
  rw [split_nl, tl_cut, List.map_dropLast, split_nl]
  rw [h1, spl_snoc, List.dropLast_concat, List.dropLast_concat]
theorem subAt_last (x : Str) : (0 + nlS.length ≤ x.length && Builtin.Str.subAt x nlS (x.length - nlS.length)) = endsNl x := by
  have hl : nlS.length = 1 := by decide +kernel
  rw [hl]
  unfold endsNl
  by_cases h0 : TL.tl x = []
  · have e0 : x.length = 0 := by rw [TL.len_tl, h0]; rfl
    rw [e0]
    simp [h0]
  · obtain ⟨M, c, hM⟩ : ∃ M c, TL.tl x = M ++ [c] := ⟨_, _, (List.dropLast_concat_getLast h0).symm⟩
    have e0 : x.length = M.length + 1 := by rw [TL.len_tl, hM]; simp
    have e1 : Builtin.Str.subAt x nlS (x.length - 1) = TL.pre (TL.tl nlS) ((TL.tl x).drop (x.length - 1)) := by
      rw [PySem.StrLaws.subAt_eq]
      rfl
    rw [e1, tl_nl, e0, hM]
    have e2 : (M ++ [c]).drop (M.length + 1 - 1) = [c] := by
      rw [Nat.add_sub_cancel, List.drop_left]
    rw [e2, pre1, List.dropLast_concat]
    have e3 : decide (0 + 1 ≤ M.length + 1) = true := decide_eq_true (by omega)
    rw [e3, Bool.true_and]
    by_cases hc : c = 10
    · subst hc; simp
    · simp [hc]
theorem ends_is (x : Str) : Txt.endswith x nlS = endsNl x := subAt_last x
/-! ### lengths -/
theorem mem_sum {l : List Nat} {a : Nat} (h : a ∈ l) : a ≤ l.sum := by
  induction l with
  | nil => cases h
  | cons b l ih =>
    rw [List.sum_cons]
    rcases List.mem_cons.mp h with rfl | h
    · omega
    · have := ih h; omega
theorem split_each {x y z : Str} (hy : 1 ≤ y.length) (h : z ∈ Txt.split x y) : z.length ≤ x.length := by
  have h1 := PyProof.Rows.split_weight x y hy
  have h2 : z.length ≤ ((Txt.split x y).map (·.length)).sum := mem_sum (List.mem_map.mpr ⟨z, h, rfl⟩)
  have h3 := PyProof.Rows.split_pos x y
  omega
theorem split_many {x y : Str} (hy : 1 ≤ y.length) : (Txt.split x y).length ≤ x.length + 1 := by
  have h1 := PyProof.Rows.split_weight x y hy
  omega
theorem cut_len (t : Str) : (cutNl t).length ≤ t.length := by
  rw [TL.len_tl, tl_cut, List.length_dropLast, TL.len_tl]
  omega
theorem items_ne (l : Str) : ∃ k ns, itemsOf l = k :: ns := by
  have h := PyProof.Rows.split_pos l spS
  unfold itemsOf
  cases e : Txt.split l spS with
  | nil => rw [e] at h; exact absurd h (by decide)
  | cons k ns => exact ⟨k, ns, rfl⟩
theorem ev_lt {k : Str} {n : Nat} (h : evN k = some n) : n ≤ 2 := by
  unfold evN at h
  split at h
  · injection h with h; omega
  · split at h
    · injection h with h; omega
    · split at h
      · injection h with h; omega
      · cases h
/-! ### the first bad line -/
theorem res_bad {ls : List Str} {i : Nat} {l : Str} (h : ls[i]? = some l) (hb : lineOk l = false) (ha : ∀ j m, j < i → ls[j]? = some m → lineOk m = true) : resOf ls = .inl (i + 1) := by
  have e : ls.findIdx? (fun l => !lineOk l) = some i := by
    rw [List.findIdx?_eq_some_iff_getElem]
    obtain ⟨hi, hg⟩ := List.getElem?_eq_some_iff.mp h
    refine ⟨hi, by rw [hg, hb]; rfl, fun j hj => ?_⟩
    have hj2 : j < ls.length := by omega
    rw [ha j _ hj (List.getElem?_eq_getElem hj2)]
    simp
  unfold resOf
  rw [e]
theorem res_good {ls : List Str} (ha : ∀ (j : Nat) m, ls[j]? = some m → lineOk m = true) : resOf ls = .inr (ls.map itemsOf) := by
  have e : ls.findIdx? (fun l => !lineOk l) = none := by
    rw [List.findIdx?_eq_none_iff]
    intro m hm
    obtain ⟨j, hj⟩ := List.getElem?_of_mem hm
    rw [ha j m hj]
    rfl
  unfold resOf
  rw [e]
end CA
/-! a, *b = list; enumerate(list, start=k); d.get(k) of a written dict. -/
namespace CA
open PySem L2 PySem.Spec PyProof.Rows
/-! ### a, *b = a list -/
theorem unpackStar {prog : Program} {w : World} {A : Around} {E : Value → Shared → Prop} {s : Shared} {l : Addr} {items : Array Value} {Q : List Value → Shared → Prop} (hl : s.heap.IsList l items) (hh : A.handled = none) (hn : 1 ≤ items.size) (hz : items.size ≤ sizeLine)
    (h : ∀ (h' : Heap) (tk : Nat), (∀ b o, s.heap.get? b = some o → h'.get? b = some o) → Q (items.toList.take 1 ++ [.ref h'.objs.size] ++ []) { s with heap := h'.push { cls := .type "list", data := .seq (items.toList.drop 1).toArray }, toks := tk }) : wpAny (model prog w) A (unpackItems (.ref l) 2 (some 1)) Q E s := by
  have hlt : l ≠ s.heap.objs.size := by obtain ⟨o, ho, _⟩ := hl; exact Nat.ne_of_lt (Heap.lt_size ho)
  unfold unpackItems
  refine wpAny_bind ?_
  unfold notIterableAtAll
  refine wpAny_bind (wpAny_specialOf hl.typeIs slot_list_iter.lookup ?_)
  refine wpAny_pure ?_
  simp only [Bool.false_eq_true, if_false]
  refine wpAny_bind (wpAny_holding (wpAny_pyIter_list hl ?_))
  refine wpAny_bind (wpAny_holding (PySem.W.kun_draw hlt 1 0 _ _ ⟨_, Heap.get?_push_size _ rfl, rfl, rfl⟩ (hl.push _) (by omega) fun h₁ hit₁ hs₁ => ?_))
  have hl₁ : h₁.IsList l items := (hl.push _).extBut hs₁.extBut hlt
  rw [Nat.zero_add] at hit₁
  have hit₁' := hit₁
  obtain ⟨oi, hoi, _⟩ := hit₁'
  have hl₁' := hl₁
  obtain ⟨ol, hol, _⟩ := hl₁'
  rw [List.drop_zero]
  have hfl : (items.toList.take 1).length = 1 := by rw [List.length_take, Array.length_toList]; omega
  rw [if_neg (show ¬ ((items.toList.take 1).length < 1) by rw [hfl]; omega)]
  refine wpAny_bind (wpAny_holding (PySem.W.kun_collect (s := { s with heap := h₁ }) (T := "list_iterator") (.inr (.inr (.inl rfl))) (Walks.list (A := A.in1) hh s.heap.objs.size l hlt items) (fun j u st => st.1.typeIs) (k := 1) (by omega) ⟨hit₁, hl₁⟩ (Heap.lt_size hoi) (Heap.lt_size hol) (fun h₂ tk hk => ?_) hz))
  have hrl : (items.toList.drop 1).length = items.size - 1 := by rw [List.length_drop, Array.length_toList]
  show wpAny _ _ (if (items.toList.drop 1).length < 0 then _ else _) _ _ _
  rw [if_neg (by omega)]
  show wpAny _ _ (newList ((items.toList.drop 1).take ((items.toList.drop 1).length - 0)) >>= fun d => pure (items.toList.take 1 ++ [d] ++ (items.toList.drop 1).drop ((items.toList.drop 1).length - 0))) _ _ _
  have e1 : (items.toList.drop 1).take ((items.toList.drop 1).length - 0) = items.toList.drop 1 := List.take_of_length_le (by omega)
  have e2 : (items.toList.drop 1).drop ((items.toList.drop 1).length - 0) = [] := List.drop_eq_nil_of_le (by omega)
  rw [e1, e2]
  have hk2 : ∀ b o, s.heap.get? b = some o → h₂.get? b = some o := fun b o e =>
    hk b o (Nat.ne_of_lt (Heap.lt_size e)) (hs₁.extBut b o (Nat.ne_of_lt (Heap.lt_size e)) (Heap.get?_push_of_some _ e))
  refine wpAny_bind (wpAny_newList (wpAny_pure ?_) (by rw [hrl]; omega))
  exact h h₂ tk hk2
section
variable {X : Cx}
theorem pgs_star {e : Expr} {es : List Expr} {sp : Pos} {t : TG} {u : TGs} (h1 : PG X e t) (h2 : PGs X es u)
    (hs : (assignEach (.Starred e sp :: es) X.env).map (·.2) = assign e X.env :: (assignEach es X.env).map (·.2) := by rfl) : PGs X (.Starred e sp :: es) (gCons t u) := by
  refine ⟨fun pins s σ H vs us Q I r h => ?_⟩
  obtain ⟨v, vr, e1, h⟩ := h
  subst e1
  cases r with
  | cons r rr =>
    rw [hs]
    refine assignInOrder_cons (thn (h1.run pins s σ H _ _ _ I r h) fun _ s1 ⟨σ1, H1, I1, q1⟩ => ?_)
    exact h2.run pins s1 σ1 H1 _ _ Q I1 rr q1
/-- (a, *b) = a list -/
def gHd (K : PySem.W.Frag) (t : TGs) : TG := fun v σ H Q => ∃ a x xs, v = .ref a ∧ SqL K H a (x :: xs) ∧ ∀ D, H D = none → t [x, .ref D] σ (upd H D (.lst xs)) Q
theorem pg_hd {es : List Expr} {k : Nat} {pos : Pos} {t : TGs} (hc : X.calm = true) (h : PGs X es t)
    (hn : (assignEach es X.env).length = 2 := by rfl) (hst : (assignEach es X.env).findIdx? (·.1) = some 1 := by rfl) : PG X (.Tuple es k pos) (gHd X.K t) := by
  refine ⟨fun pins s σ H v u Q I r hw => ?_⟩
  obtain ⟨a, x, xs, e1, hq, hw⟩ := hw
  subst e1
  cases r
  obtain ⟨its, rv, pl, hz⟩ := I.list hq
  cases rv with
  | @cons _ y _ ys ry rys =>
  rw [assign_Tuple]
  refine wpAny_bind (wpAny_standAt ?_)
  unfold unpack
  rw [hn, hst]
  have hsz : (y :: ys).toArray.size ≤ sizeLine := by
    rw [List.size_toArray, List.length_cons, ← rys.length, ← List.length_cons (a := x)]
    exact hz
  refine wpAny_bind (wpAny_holding (unpackStar pl.isList (I.ok.hd hc) (by simp) hsz fun h' tk hk => ?_))
  have I1 : Inv X pins σ H { s with heap := h', toks := tk } := I.kept (t' := tk) hk
  have hf : H h'.objs.size = none := I1.hok.fresh (Nat.le_refl _)
  have I2 : Inv X pins σ (upd H h'.objs.size (.lst xs)) { s with heap := h'.push { cls := .type "list", data := .seq ((y :: ys).toArray.toList.drop 1).toArray }, toks := tk } := by
    refine I1.laid (t' := tk) (fun b u e => Heap.get?_push_of_some _ e) (Nat.le_refl _) ⟨by rw [List.length_cons] at hz; omega, ys, 0, rys, ?_⟩
    exact Heap.get?_push_size _ rfl
  exact h.run pins _ σ _ [x, .ref h'.objs.size] _ Q I2 (.cons ry (.cons rfl .nil)) (hw _ hf)
end
/-! ### enumerate(a list, start=k) -/
/-- the list at a, each item in a new pair with its place, counted from k -/
def IteS (K : PySem.W.Frag) (a : Addr) (k : Int) : It :=
  ⟨fun i H => ∃ (xs : List V) (x : V), SqL K H a xs ∧ xs[i]? = some x, fun i H v H' => ∃ T x, v = .ref T ∧ H T = none ∧ H' = upd H T (.tup [.int (k + (i : Nat)), x]) ∧ ∀ xs, SqL K H a xs → xs[i]? = some x, fun i H => ∃ xs : List V, SqL K H a xs ∧ xs.length ≤ i⟩
theorem turn_enumS {P : Program} {w : World} {K : PySem.W.Frag} {elts : List Expr} {kk : Nat} {tpos : Pos} (a e it : Addr) (k : Int) (hai : a ≠ it) (hae : a ≠ e) :
    Turn P w K (.Tuple elts kk tpos) (IteS K a k) [e, it] e (fun i h => (∃ old, IsEnum h e it (k + ((i : Nat) : Int)) old) ∧ h.IsListIter it a i ∧ e ≠ it) where
  mem := by simp
  obj := fun i h st b hb => by
    obtain ⟨⟨old, he⟩, ⟨o, ho, hc, hd⟩, _⟩ := st
    have q : b = e ∨ b = it := by simpa using hb
    rcases q with rfl | rfl
    · exact ⟨_, he, fun v q => nomatch q⟩
    · exact ⟨o, ho, fun v q => by rw [hd] at q; cases q⟩
  keep := fun i h h' st k => let ⟨⟨old, he⟩, hi, hne⟩ := st; ⟨⟨old, k e (by simp) _ he⟩, hi.at fun o q => k it (by simp) o q, hne⟩
  item := by
    intro X hP hw hK hc i pins s σ H E I hf st hg
    subst hP hw hK
    obtain ⟨⟨old, he⟩, hit, hne⟩ := st
    obtain ⟨xs, x, hq, hx⟩ := hg
    obtain ⟨its, rv, p, hz⟩ := I.list hq
    obtain ⟨u, hu, ru⟩ := rv.get hx
    have hel : e < s.heap.objs.size := Heap.lt_size he
    have hil : it < s.heap.objs.size := by obtain ⟨_, q, _⟩ := hit; exact Heap.lt_size q
    have hlt : i < its.toArray.size := by rw [List.size_toArray]; exact (List.getElem?_eq_some_iff.mp hu).1
    have hh : (X.A.in1).handled = none := I.ok.hd hc
    refine wpAny_pyNext_enum_itemC (Draws.list hh it a hai its.toArray) he ⟨hit, p.isList⟩ hlt hne (by simp [hne, Ne.symm hae]) fun x' h' tk hP ho hst hT hsz hk => ?_
    have ex : x' = u := by
      have z : its.toArray[i]? = some u := by simpa using hu
      rw [z] at hP
      exact (Option.some.inj hP).symm
    subst ex
    refine ⟨_, rfl, wpAny_letOwnedTupleGo_enum (s := { s with heap := h', toks := tk + 1 }) ho fun h'' he' sb => ?_⟩
    have hT2 : h''.get? s.heap.objs.size = some { cls := .type "tuple", data := .seq #[.int (k + (i : Int)) tk, x'] } := (sb.2 _ (Nat.ne_of_gt hel)).trans hT
    have new : ObjOk X.prog X.w (upd H s.heap.objs.size (.tup [.int (k + (i : Nat)), x])) h'' s.heap.objs.size (.tup [.int (k + (i : Nat)), x]) :=
      ⟨by show 2 ≤ sizeLine; decide, [.int (k + (i : Int)) tk, x'], .cons ⟨_, rfl⟩ (.cons ru .nil), ⟨_, hT2, rfl, _, rfl⟩⟩
    have I1 : Inv X pins σ (upd H s.heap.objs.size (.tup [.int (k + (i : Nat)), x])) { s with heap := h'', toks := tk + 1 } :=
      I.turnedNew (ch := [e, it]) (fun b ob hb q => (sb.2 b (fun z => hb (by simp [z]))).trans (hk b ob (fun z => hb (by simp [z])) (fun z => hb (by simp [z])) q)) hf (Nat.le_refl _) new
    refine ⟨.ref s.heap.objs.size, _, I1, rfl, ⟨_, x, rfl, I.hok.fresh (Nat.le_refl _), rfl, fun ys hy => by rw [I.list_inj hy hq]; exact hx⟩, ⟨⟨x', ?_⟩, hst.1.at fun o q => (sb.2 it (Ne.symm hne)).trans q, hne⟩, fun b hb => ?_⟩
    · have e1 : k + ((i + 1 : Nat) : Int) = k + (i : Int) + 1 := by omega
      rw [e1]; exact he'
    · have hb' : b < s.heap.objs.size := by
        have q : b = e ∨ b = it := by simpa using hb
        rcases q with rfl | rfl
        · exact hel
        · exact hil
      rw [upd_ne (Nat.ne_of_lt hb')]
      exact (hf b hb).1
  done := by
    intro X hP hw hK hc i pins s σ H E I hf st hg
    subst hP hw hK
    obtain ⟨⟨old, he⟩, hit, hne⟩ := st
    obtain ⟨xs, hq, hx⟩ := hg
    obtain ⟨its, rv, p, hz⟩ := I.list hq
    obtain ⟨f0, f1, f2, f3, f4, f5⟩ := hf it (by simp)
    have hh : (X.A.in1).handled = none := I.ok.hd hc
    have hend : its.toArray[i]? = none := by rw [List.getElem?_toArray, List.getElem?_eq_none_iff, ← rv.length]; exact hx
    have D : Draws X.prog X.w X.A.in1 it [it, a] i (fun _ _ => False) (fun j h => j = i ∧ h.IsListIter it a i ∧ h.IsList a its.toArray) :=
      { live := fun _ _ st => let ⟨o, ho, _⟩ := st.2.1; ⟨o, ho⟩
        frame := fun _ _ _ st hk => ⟨st.1, st.2.1.at fun o e => hk it (by simp) o e, st.2.2.at fun o e => hk a (by simp) o e⟩
        item := fun j s Q E hj st hQ => absurd st.1 (Nat.ne_of_lt hj)
        done := fun s Q E st hE => wpAny_nextOf_list_end hh st.2.1 st.2.2 hend hE }
    exact wpAny_pyNext_enum_endD D he ⟨rfl, hit, p.isList⟩ fun h' eb => ⟨rfl, I.turned (t' := s.toks) (fun b o hb q => eb b o hb q) f0 f1 f3 f4 f5⟩
  self := fun A i s Q E st h => let ⟨⟨_, he⟩, _⟩ := st; wpAny_pyIter_enum he h
theorem callWith_typeKw {M : Model} {A : Around} {E : Value → Shared → Prop} {s : Shared} {env : Env} {pos : Pos} {T : String} {e : Expr} {rest : List Expr} {kws : List Keyword} {Q : Value → Shared → Prop}
    (h : wpAny M A (spliced (backTo pos (starEach (e :: rest) env))) (fun vs s₁ => wpAny M A (evalAll ((backToKw pos (keywordEach kws env)).map (·.2)))
      (fun kvs s₂ => wpAny M A (call (.type T) vs (((backToKw pos (keywordEach kws env)).filterMap (·.1)).zip kvs)) Q E s₂) E s₁) E s)
    (he : backTo pos (starEach (e :: rest) env) = (false, eval e env) :: backTo pos (starEach rest env) := by rfl)
    (hplain : (backTo pos (starEach (e :: rest) env)).any (·.1) = false := by rfl)
    (hall : (backToKw pos (keywordEach kws env)).all (·.1.isSome) = true := by rfl)
    (hkw : (backToKw pos (keywordEach kws env)).any (·.1.isNone) = false := by rfl) :
    wpAny M A (callWith pos (.type T) [] (backTo pos (starEach (e :: rest) env)) (backToKw pos (keywordEach kws env))) Q E s := by
  unfold callWith
  rw [he] at h hplain ⊢
  refine wpAny_bind (wpAny_holding (wpAny_mono (PyProof.Rows.evalArgs_kwB (f := .type T) (Q := fun a s₁ => wpAny M A (call (.type T) ([] ++ a.pos) a.kw) Q E s₁) hall h) (fun a s₁ h₁ => wpAny_bind (wpAny_standAt ?_)) fun _ _ x => x))
  simp only [hplain, hkw, Bool.or_false]
  refine wpAny_bind (wpAny_pure ?_)
  exact wpAny_bind (wpAny_mono h₁ (fun r s₂ hr => wpAny_bind (wpAny_holding (wpAny_point (wpAny_pure hr)))) fun _ _ x => x)
def iEnumS (K : PySem.W.Frag) (ta tk : TA) : TI := fun σ H R => ta σ H fun vs H1 => tk σ H1 fun zs H2 => ∃ a xs k, vs = [.ref a] ∧ zs = [.int k] ∧ SqL K H2 a xs ∧ -(2 ^ 63) ≤ k ∧ k < 2 ^ 63 ∧ R (IteS K a k) H2
theorem pi_enumS {X : Cx} {e : Expr} {ta tk : TA} {kws : List Keyword} {p pos tpos : Pos} {elts : List Expr} {kk : Nat} (hm : X.mg "enumerate" = none) (ha : PA X [e] ta) (hk : PK X kws tk) (hg : Gl X "enumerate" := by rfl)
    (he : backTo pos (starEach [e] X.env) = (false, eval e X.env) :: backTo pos (starEach [] X.env) := by rfl) (hpl : (backTo pos (starEach [e] X.env)).any (·.1) = false := by rfl)
    (hall : (backToKw pos (keywordEach kws X.env)).all (·.1.isSome) = true := by rfl) (hnone : (backToKw pos (keywordEach kws X.env)).any (·.1.isNone) = false := by rfl) (hks : (backToKw pos (keywordEach kws X.env)).filterMap (·.1) = [Str.ofString "start"] := by rfl) :
    PI X (.Tuple elts kk tpos) (.Call (.Name "enumerate" p) [e] kws pos) (iEnumS X.K ta tk) := by
  refine ⟨fun pins s σ H R I h => ?_⟩
  refine wpAny_Call_Name_kw (ld_blt I hg hm boot_enumerate ?_)
  refine callWith_typeKw (thn (ha.run pos pins s σ H _ I h) fun us s1 ⟨vs, H1, I1, r1, q1⟩ => thn (hk.run pos pins s1 σ H1 _ I1 q1) fun ws s2 ⟨zs, H2, I2, r2, q2⟩ => ?_) he hpl hall hnone
  rw [hks]
  obtain ⟨a, xs, k, ex, ez, hq, k0, k1, q⟩ := q2
  subst ex ez
  cases r1 with
  | cons r rr =>
    cases rr
    cases r
    cases r2 with
    | cons r3 rr3 =>
      cases rr3
      obtain ⟨t, rfl⟩ := r3
      obtain ⟨its, rv, p', hz⟩ := I2.list hq
      have hlt : a < s2.heap.objs.size := by obtain ⟨_, _, z, _⟩ := p'; exact Heap.lt_size z
      show wpAny _ _ (call (.type "enumerate") [.ref a] [(Str.ofString "start", .int k t)]) _ _ _
      refine enum_begins_start (begins_list a its.toArray) p'.isList k0 k1 fun h' he2 hit hsz hk2 => wpAny_pyIter_enum he2 ?_
      have I3 : Inv X pins σ H2 { s2 with heap := h' } := I2.kept (t' := s2.toks) hk2
      refine ⟨s2.heap.objs.size + 1, [s2.heap.objs.size + 1, s2.heap.objs.size], _, _, H2, rfl, I3, turn_enumS a (s2.heap.objs.size + 1) s2.heap.objs.size k (Nat.ne_of_lt hlt) (Nat.ne_of_lt (Nat.lt_succ_of_lt hlt)), ⟨⟨.none, by simpa using he2⟩, ⟨_, hit, rfl, rfl⟩, Nat.succ_ne_self _⟩, fun b hb => ?_, q⟩
      have q : b = s2.heap.objs.size + 1 ∨ b = s2.heap.objs.size := by simpa using hb
      have hle : s2.heap.objs.size ≤ b := by
        rcases q with z | z
        · rw [z]; exact Nat.le_succ _
        · rw [z]; exact Nat.le_refl _
      exact I2.fpOk hle (I2.hok.fresh hle)
/-- the loop over it, by an invariant -/
theorem for_enumS {K : PySem.W.Frag} {a : Addr} {k : Int} {xs : List V} {g : TG} {tb : TS} {D : Ends} {σ : L2.St} {H : Hp} (Pv : Nat → L2.St → Hp → Prop) (h0 : Pv 0 σ H) (hl : ∀ i σ H, i ≤ xs.length → Pv i σ H → SqL K H a xs)
    (hs : ∀ i x σ H T, xs[i]? = some x → Pv i σ H → H T = none → g (.ref T) σ (upd H T (.tup [.int (k + (i : Nat)), x])) fun σ2 H2 => tb { D with nx := Pv (i + 1), ct := Pv (i + 1), bk := D.nx } σ2 H2) (hd : ∀ σ H, Pv xs.length σ H → D.nx σ H) :
    ∃ W : Nat → Nat → L2.St → Hp → Prop, (∃ m, W 0 m σ H) ∧ ∀ i m σ H, W i m σ H →
      ((IteS K a k).stop i H ∧ D.nx σ H) ∨ ((IteS K a k).go i H ∧ ∃ N : L2.St → Hp → Prop, (∀ σ' H', N σ' H' → ∃ m', m' < m ∧ W (i + 1) m' σ' H') ∧ ∀ x H', (IteS K a k).yld i H x H' → g x σ H' fun σ2 H2 => tb { D with nx := N, ct := N, bk := D.nx } σ2 H2) := by
  refine ⟨fun i m σ H => m = xs.length - i ∧ i ≤ xs.length ∧ Pv i σ H, ⟨xs.length, by simp, Nat.zero_le _, h0⟩, ?_⟩
  rintro i m σ H ⟨rfl, hi, p⟩
  have q := hl i σ H hi p
  by_cases hlt : i < xs.length
  · refine .inr ⟨⟨xs, xs[i], q, by simp [hlt]⟩, Pv (i + 1), fun σ' H' p' => ⟨xs.length - (i + 1), by omega, rfl, hlt, p'⟩, fun v H' y => ?_⟩
    obtain ⟨T, x, rfl, hT, rfl, hx⟩ := y
    exact hs i x σ H T (hx xs q) p hT
  · have e : i = xs.length := by omega
    subst e
    exact .inl ⟨⟨xs, q, Nat.le_refl _⟩, hd σ H p⟩
/-! ### d.get(k), d a written dict -/
def tKGet (K : PySem.W.Frag) (d : Addr) (ty : TE) : TE := fun σ H Q => ty σ H fun y H2 => ∃ z, y = .str z ∧ ((PySem.W.nsIn K d z = some none ∧ Q .non H2) ∨ ∃ u0 v0, PySem.W.nsIn K d z = some (some u0) ∧ RelV v0 u0 ∧ Q v0 H2)
theorem pe_kget {X : Cx} {d : Addr} {es : Array DictEntry} {n : Nat} {o e : Expr} {ty : TE} {apos cpos : Pos} (D : KDict X.K X.w d es n) (ho : PE X o (tC (.ref d))) (he : PE X e ty) (m : M1 X o "get" apos e cpos) : PE X (.Call (.Attribute o "get" apos) [e] [] cpos) (tKGet X.K d ty) := by
  refine ⟨fun pins s σ H Q I h => ?_⟩
  refine wpAny_Call_method m.base m.few m.line PySem.F.plainAttrs_dict PySem.F.slot_dict_get PySem.F.type_dict_get (thn (ho.run pins s σ H (fun x H1 => x = .ref d ∧ H1 = H) I ⟨rfl, rfl⟩) fun u s1 ⟨x, H1, I1, rx, ex, eh⟩ => ?_)
  subst ex eh
  obtain rfl : u = Value.ref d := rx
  refine ⟨kd_type D I1, fun b q => ?_, ?_⟩
  · cases q
    exact ⟨_, I1.kIn _ _ D.at_, rfl⟩
  rw [m.trees]
  refine Calls.callWith_builtin rfl (Calls.evalArgs_plain (Calls.spliced_cons (thn (he.run pins s1 σ _ _ I1 h) fun iv s2 ⟨y, H2, I2, ry, z, ez, q2⟩ => Calls.spliced_nil ?_)))
  subst ez
  obtain ⟨t, rfl⟩ := ry
  have hm := PySem.W.mapOf_K (prog := X.prog) (w := X.w) I2.kIn D.at_ D.lit
  refine call_meetsIn PySem.F.slot_dict_get (kd_type D I2) PySem.F.entry_dict_get (PySem.F.args_dict_get_2 _ _) (meets_dict_get (PySem.strKind X.prog X.w) d (PySem.strKind_is X.prog X.w z t) D.low) ⟨_, hm, ?_⟩
  rcases q2 with ⟨e, q⟩ | ⟨u0, v0, e, r0, q⟩
  · rw [PySem.W.find_K D.at_ e]
    exact ⟨.non, H2, I2.tok _, rfl, q⟩
  · rw [PySem.W.find_K D.at_ e]
    exact ⟨v0, H2, I2.tok _, r0, q⟩
end CA
/-! [te for v in a list], each te's answer known by a relation that stays. -/
namespace CA
open PySem L2
theorem none_ofS {H H' : Hp} {p : Addr} (s : Same H H') (h : H' p = none) : H p = none := by
  cases e : H p with
  | none => rfl
  | some o => rw [s _ _ e] at h; cases h
theorem lcr_list {K : PySem.W.Frag} {tl : TE} {j : Nat} {te : TE} {vs : List Nat} {σ : L2.St} {H : Hp} {Q : VK} {xs : List V} (P : Nat → V → Hp → Prop) (hP : ∀ i v H1 H2, P i v H1 → Gr H1 H2 → P i v H2)
    (ha : ∀ R : VK, (∀ a H1, Same H H1 → H1 a = some (.lst xs) → R (.ref a) H1) → tl σ H R)
    (hj : ∀ x, wipe ((wipe σ vs).set j (some x)) vs = wipe σ vs) (hz : xs.length ≤ 1000)
    (he : ∀ (i : Nat) (x : V) (H' : Hp) (Q' : VK), xs[i]? = some x → Same H H' → (∀ v H'', Same H' H'' → P i v H'' → Q' v H'') → te ((wipe σ vs).set j (some x)) H' Q')
    (hQ : ∀ p H' rs, Same H H' → H p = none → H' p = some (.lst rs) → rs.length = xs.length → (∀ i v, rs[i]? = some v → P i v H') → Q (.ref p) H') : tLc (iList K tl) (gName j) tYes te vs σ H Q := by
  refine ha _ fun a H1 s1 h1 => ⟨a, rfl, ⟨xs, SqL.of h1⟩, fun D hD => ?_⟩
  have hDH : H D = none := none_ofS s1 hD
  refine walk_list (K := K) (a := a) (xs := xs) (fun i H' => Same H1 H' ∧ ∃ rs : List V, H' D = some (.lst rs) ∧ rs.length = i ∧ ∀ k v, rs[k]? = some v → P k v H') ⟨same_new hD _, [], upd_same, rfl, fun k v e => by simp at e⟩ (fun i H' _ p => SqL.of (p.1 _ _ h1)) (fun i x H' hx p => ?_) (fun H' p => ?_)
  · obtain ⟨sm, rs, hr, hl, hall⟩ := p
    have hi := (List.getElem?_eq_some_iff.mp hx).1
    unfold gName
    refine ⟨hj x, ?_⟩
    unfold tYes
    refine iteT ?_
    refine he i x H' _ hx (fun b o e => sm _ _ (s1 _ _ e)) fun v H'' s2 pv => ?_
    refine ⟨_, s2 _ _ hr, ?_, ?_, rs ++ [v], upd_same, by rw [List.length_append, hl]; rfl, fun k u e => ?_⟩
    · exact Nat.lt_of_le_of_lt (show _ ≤ 1000 by omega) (by decide)
    · intro b o e
      have hb : b ≠ D := fun z => by rw [z, hD] at e; cases e
      rw [upd_ne hb]
      exact s2 _ _ (sm _ _ e)
    · have g1 : Gr H'' (upd H'' D (.lst (rs ++ [v]))) := Gr.keep (m := D) Keep.upd ⟨_, s2 _ _ hr⟩ ⟨_, upd_same⟩
      rw [List.getElem?_append] at e
      by_cases hk : k < rs.length
      · rw [if_pos hk] at e
        exact hP _ _ _ _ (hP _ _ _ _ (hall k u e) (Gr.of s2)) g1
      · rw [if_neg hk] at e
        have ek : k - rs.length = 0 := by
          cases hn : k - rs.length with
          | zero => rfl
          | succ n => rw [hn] at e; simp at e
        rw [ek] at e
        injection e with e
        have e2 : k = i := by omega
        rw [e2, ← e]
        exact hP _ _ _ _ pv g1
  · obtain ⟨sm, rs, hr, hl, hall⟩ := p
    exact hQ D H' rs (fun b o e => sm _ _ (s1 _ _ e)) hDH hr hl hall
end CA
namespace CA
open PySem L2
theorem rs_eq {α : Type} {rs : List V} {ss : List α} {f : α → V} (hl : rs.length = ss.length) (h : ∀ (i : Nat) (v : V), rs[i]? = some v → ∀ (s : α), ss[i]? = some s → v = f s) : rs = ss.map f := by
  refine List.ext_getElem? fun i => ?_
  rw [List.getElem?_map]
  by_cases hi : i < rs.length
  · have hi2 : i < ss.length := by omega
    rw [List.getElem?_eq_getElem hi, List.getElem?_eq_getElem hi2]
    exact congrArg some (h i _ (List.getElem?_eq_getElem hi) _ (List.getElem?_eq_getElem hi2))
  · rw [List.getElem?_eq_none (by omega), List.getElem?_eq_none (by omega)]
    rfl
def linesT (ss : List Str) : Str := Txt.join ("" : Str) (ss.map fun s => s ++ nlS)
def lineT (e : List Str) : Str := Txt.join spS e
def evT (e : List Str) : Tr := .tup (e.map tx)
theorem sum_le {l : List Nat} {b : Nat} (h : ∀ a ∈ l, a ≤ b) : l.sum ≤ l.length * b := by
  induction l with
  | nil => simp
  | cons a l ih =>
    rw [List.sum_cons, List.length_cons, Nat.succ_mul]
    have h1 := h a (List.mem_cons_self ..)
    have h2 := ih fun c hc => h c (List.mem_cons_of_mem _ hc)
    omega
theorem app_len (a b : Str) : (a ++ b).length = a.length + b.length := by
  rw [str_len, str_app, List.length_append, ← str_len, ← str_len]
theorem nl_len : nlS.length = 1 := by decide +kernel
theorem sp_len : spS.length = 1 := by decide +kernel
theorem join_room {a : Str} {ys : List Str} {m b : Nat} (hm : ys.length ≤ m) (hb : ∀ s ∈ ys, s.length ≤ b) (ha : a.length ≤ 1) (h : m * b + m ≤ 16777216) : (ys.map (·.length)).sum + ys.length * a.length ≤ 16777216 := by
  have h1 : (ys.map (·.length)).sum ≤ ys.length * b := by
    have := sum_le (l := ys.map (·.length)) (b := b) fun c hc => by
      obtain ⟨s, hs, rfl⟩ := List.mem_map.mp hc
      exact hb s hs
    rwa [List.length_map] at this
  have h2 : ys.length * b ≤ m * b := Nat.mul_le_mul_right b hm
  have h3 : ys.length * a.length ≤ m * 1 := Nat.mul_le_mul hm ha
  omega
def tJn (K : PySem.W.Frag) (to te : TE) : TE := tM1 (fun x xs H Q => ∃ a p, ∃ ys : List Str, x = .str a ∧ xs = [.ref p] ∧ (SqL K H p (ys.map V.str) ∨ SqT K H p (ys.map V.str)) ∧ (ys.map (·.length)).sum + ys.length * a.length ≤ 16777216 ∧ Q (.str (Txt.join a ys)) H) to te
theorem pe_jn {X : Cx} {o e : Expr} {to te : TE} {apos pos : Pos} (ho : PE X o to) (he : PE X e te) (hs : starEach [e] X.env = [(false, eval e X.env)] := by rfl) (hbase : attributeBase o "join" X.env (eval o X.env) = eval o X.env := by rfl) (hline : (apos.endLine == pos.line) = true := by rfl) :
    PE X (.Call (.Attribute o "join" apos) [e] [] pos) (tJn X.K to te) := pe_join ho he hs hbase hline
def spJoined : Sp := fun vs H Q _ => ∃ (a : Addr) (ss : List Str), vs = [.ref a] ∧ H a = some (.lst (ss.map V.str)) ∧ ss.length ≤ 100 ∧ (∀ s ∈ ss, s.length ≤ 1000) ∧ ∀ H', Same H H' → Q (.str (linesT ss)) H'
def spFormat : Sp := fun vs H Q _ => ∃ (a : Addr) (rs : List V) (es : List (List Str)), vs = [.ref a] ∧ H a = some (.lst rs) ∧ TwL H rs (es.map evT) ∧ es.length ≤ 100 ∧ (∀ e ∈ es, e.length ≤ 10 ∧ ∀ s ∈ e, s.length ≤ 90) ∧ ∀ H', Same H H' → Q (.str (linesT (es.map lineT))) H'
structure TxtV (K : PySem.W.Frag) (mg : Str → Option Value) (CE CC fI fj fl fn aE : Addr) : Prop where
  oex : OexC K CE
  xd : ExcD K CE
  xf : XfC K CE
  noP : PySem.W.findIn K (.ref CE) "line" = some none
  iC : PySem.W.findIn K (.ref CE) "__init__" = some (some (.ref fI))
  tI : PySem.W.typeIn K (.ref fI) = some (.type "function")
  te : PySem.W.exmOne K (.ref CE) (.ref CE) = some true
  isC : PySem.W.kitOne K (.ref CE) (.ref CC) = some true
  gE : mg "InvalidText" = some (.ref CE)
  gC : mg "CalledError" = some (.ref CC)
  g_joined : mg "joined" = some (.ref fj)
  k_joined : PySem.W.keepIn K (.ref fj) = true
  g_lines_in : mg "lines_in" = some (.ref fl)
  k_lines_in : PySem.W.keepIn K (.ref fl) = true
  g_is_name : mg "is_name" = some (.ref fn)
  k_is_name : PySem.W.keepIn K (.ref fn) = true
  g_EVENT_NAMES : mg "EVENT_NAMES" = some (.ref aE)
  noE : ∀ z, evN z = none → PySem.W.nsIn K aE z = some none
  yesE : ∀ z n, evN z = some n → ∃ tk, PySem.W.nsIn K aE z = some (some (.int (n : Nat) tk))
section
variable {P : Program} {w : World} {K : PySem.W.Frag} {mg : Str → Option Value} {base : Heap} {CE CC fI fj fl fn aE : Addr}
abbrev s_InvalidText_init : Stmt := inClass (topS 4) 0
theorem sc_InvalidText_init : FnScope ["self", "line"] ["self", "line"] (defScope s_InvalidText_init) := ⟨rfl, rfl, rfl, by decide +kernel, rfl, by decide +kernel, by decide +kernel⟩
theorem ok_InvalidText_init {fd : FuncData} (F : Fun K "__init__" "InvalidText.__init__" s_InvalidText_init fI fd) (T : TxtV K mg CE CC fI fj fl fn aE) : FnOk P w K mg base CX0 1 fI fd ["self", "line"] (spErr K CE "line") := by
  refine F.ok sc_InvalidText_init (fun vs H Q E h => ?_) (fun cdv A outer s H vs Q E hr h => ?_)
  · obtain ⟨a, v, rfl, _⟩ := h
    rfl
  obtain ⟨a, v, rfl, ha, q⟩ := h
  refine ⟨_, pss_one (ps_ost (pv 0) (pv 1)), ?_⟩
  exact ⟨_, rfl, _, rfl, a, CE, rfl, T.oex, T.noP, .inl ⟨ha, fun dx hdx hne => q dx hdx hne⟩⟩
abbrev s_joined : Stmt := topS 7
theorem sc_joined : FnScope ["lines", "line"] ["lines"] (defScope s_joined) := ⟨rfl, rfl, rfl, by decide +kernel, rfl, by decide +kernel, by decide +kernel⟩
/-- [line + '\n' for line in lines], joined -/
theorem join_run {j : Nat} {vs : List Nat} {tl : TE} {σ : L2.St} {H : Hp} {Q : VK} {ss : List Str} (ha : ∀ R : VK, (∀ a H1, Same H H1 → H1 a = some (.lst (ss.map V.str)) → R (.ref a) H1) → tl σ H R)
    (hj : ∀ x, wipe ((wipe σ vs).set j (some x)) vs = wipe σ vs) (hg : ∀ x, ((wipe σ vs).set j (some x))[j]? = some (some x)) (hl : ss.length ≤ 100) (hs : ∀ s ∈ ss, s.length ≤ 1000) (q : ∀ H', Same H H' → Q (.str (linesT ss)) H') :
    tJn K
      (tC (.str ("" : Str))) (tLc (iList K tl) (gName j) tYes (tOp (fun x y H Q => ∃ i j, x = .str i ∧ y = .str j ∧ i.length + j.length ≤ sizeLine ∧ Q (.str (i ++ j)) H) (tVar j) (tC (.str nlS))) vs) σ H Q := by
  refine ⟨⟨_, rfl⟩, ?_⟩
  refine lcr_list (K := K) (xs := ss.map V.str) (fun i v _ => ∀ s, ss[i]? = some s → v = .str (s ++ nlS)) (fun _ _ _ _ h _ => h) ha hj (by rw [List.length_map]; omega) (fun i x H' Q' hx sm k => ?_) (fun p H' rs sm hp hr hlr hall => ?_)
  · rw [List.getElem?_map] at hx
    cases es : ss[i]? with
    | none => rw [es] at hx; cases hx
    | some s =>
      rw [es] at hx
      injection hx with hx
      subst hx
      have hb := hs s (List.mem_of_getElem? es)
      refine ⟨_, hg _, s, nlS, rfl, rfl, ?_, ?_⟩
      · rw [nl_len]
        exact Nat.le_trans (show _ ≤ 1001 by omega) (by decide)
      · exact k _ H' (fun _ _ e => e) fun s2 e2 => by rw [es] at e2; injection e2 with e2; rw [e2]
  · have er : rs = (ss.map fun s => s ++ nlS).map V.str := by
      rw [List.map_map]
      refine rs_eq (by rw [hlr, List.length_map]) fun i v hv s es => ?_
      exact hall i v hv s es
    refine ⟨("" : Str), p, ss.map fun s => s ++ nlS, rfl, rfl, .inl (SqL.of (by rw [hr, er])), ?_, ?_⟩
    · refine join_room (m := 100) (b := 1001) (by rw [List.length_map]; exact hl) (fun s h => ?_) (by decide) (by decide)
      obtain ⟨u, hu, rfl⟩ := List.mem_map.mp h
      rw [app_len, nl_len]
      have := hs u hu
      omega
    · exact q H' sm
theorem ok_joined {fd : FuncData} (F : Fun K "joined" "joined" s_joined fj fd) (T : TxtV K mg CE CC fI fj fl fn aE) : FnOk P w K mg base CX0 1 fj fd ["lines"] spJoined := by
  refine F.ok sc_joined (fun vs H Q E h => ?_) (fun cdv A outer s H vs Q E hr h => ?_)
  · obtain ⟨a, ss, rfl, _⟩ := h
    rfl
  obtain ⟨a, ss, rfl, ha, hl, hs, q⟩ := h
  refine ⟨_, (pss_one (ps_ret (pe_jn pe_str (pe_lc (own := [("line", 1)]) (g := gName 1) (tt := tYes) rfl sc_joined.nd (pi_list (pv 0)) (blkOk_by (own := [("line", 1)]) (N := ["lines", "line"]) (sc := defScope s_joined) (by decide +kernel))
    (fun s H C cl fp => pg_name (i := 1) sc_joined.nd rfl (Or.inl rfl)) (fun s H C cl fp => pts_nil) (fun s H C cl fp => pe_op op_add_str (pv 1) pe_str))))), ?_⟩
  exact join_run (K := K) (j := 1) (vs := [1]) (ss := ss) (fun R h => ⟨_, rfl, h a H (fun _ _ e => e) ha⟩) (fun _ => rfl) (fun _ => rfl) hl hs q
abbrev s_format_events : Stmt := topS 9
theorem sc_format_events : FnScope ["events", "event"] ["events"] (defScope s_format_events) := ⟨rfl, rfl, rfl, by decide +kernel, rfl, by decide +kernel, by decide +kernel⟩
theorem joinL_len (S : List Nat) : ∀ ps : List (List Nat), (TL.joinL S ps).length ≤ (ps.map (·.length)).sum + ps.length * S.length
  | [] => Nat.zero_le _
  | [p] => by
    show p.length ≤ p.length + 0 + 1 * S.length
    omega
  | p :: q :: r => by
    have ih := joinL_len S (q :: r)
    show (p ++ (S ++ TL.joinL S (q :: r))).length ≤ p.length + ((q :: r).map (·.length)).sum + ((q :: r).length + 1) * S.length
    rw [List.length_append, List.length_append, Nat.succ_mul]
    omega
theorem join_len (y : Str) (ps : List Str) : (Txt.join y ps).length ≤ (ps.map (·.length)).sum + ps.length * y.length := by
  have h := joinL_len (TL.tl y) (ps.map TL.tl)
  rw [← TL.tl_join, ← TL.join_eq, ← TL.len_tl, List.length_map, ← TL.len_tl, List.map_map] at h
  have e : (fun p : List Nat => p.length) ∘ TL.tl = fun s : Str => s.length := by
    funext s
    exact (TL.len_tl s).symm
  rw [e] at h
  exact h
theorem line_len {e : List Str} (h : e.length ≤ 10 ∧ ∀ s ∈ e, s.length ≤ 90) : (lineT e).length ≤ 1000 := by
  have h1 := join_len spS e
  have h2 := sum_le (l := e.map (·.length)) (b := 90) fun c hc => by
    obtain ⟨s, hs, rfl⟩ := List.mem_map.mp hc
    exact h.2 s hs
  rw [List.length_map] at h2
  rw [sp_len] at h1
  unfold lineT
  have h3 := h.1
  omega
theorem ok_format_events {f : Addr} {fd fdj : FuncData} (F : Fun K "format_events" "format_events" s_format_events f fd) (T : TxtV K mg CE CC fI fj fl fn aE) (Gj : FnOk P w K mg base CX0 1 fj fdj ["lines"] spJoined) (bj : Binds K fdj ["lines"] []) :
    FnOk P w K mg base CX0 2 f fd ["events"] spFormat := by
  refine F.ok sc_format_events (fun vs H Q E h => ?_) (fun cdv A outer s H vs Q E hr h => ?_)
  · obtain ⟨a, rs, es, rfl, _⟩ := h
    rfl
  obtain ⟨a, rs, es, rfl, ha, hw, hl, hs, q⟩ := h
  refine ⟨_, (pss_one (ps_ret (pe_call Gj hr rfl T.g_joined T.k_joined bj .nil pass0 (pa_cons (pe_lc (own := [("event", 1)]) (g := gName 1) (tt := tYes) rfl sc_format_events.nd (pi_list (pv 0)) (blkOk_by (own := [("event", 1)]) (N := ["events", "event"]) (sc := defScope s_format_events) (by decide +kernel))
    (fun s H C cl fp => pg_name (i := 1) sc_format_events.nd rfl (Or.inl rfl)) (fun s H C cl fp => pts_nil) (te := tJn K (tC (.str spS)) (tVar 1)) (fun s H C cl fp => by exact pe_jn pe_str (pv 1))) pa_nil)))), ?_⟩
  have hl2 : rs.length = es.length := by rw [hw.len, List.length_map]
  dsimp only [tRet, tCall, tCons, tNil]
  refine lcr_list (K := K) (xs := rs) (fun i v _ => ∀ e, es[i]? = some e → v = .str (lineT e)) (fun _ _ _ _ h _ => h) (fun R h => ⟨_, rfl, h a H (fun _ _ e => e) ha⟩) (fun _ => rfl) (by omega) (fun i x H' Q' hx sm k => ?_) (fun p H' rs2 sm hp hr2 hlr hall => ?_)
  · obtain ⟨t, ht, wx⟩ := hw.get hx
    rw [List.getElem?_map] at ht
    cases ee : es[i]? with
    | none => rw [ee] at ht; cases ht
    | some e =>
      rw [ee] at ht
      injection ht with ht
      subst ht
      cases wx with
      | @tup b us _ hb hus hbd =>
      have eu := hus.to_txs
      obtain ⟨h1, h2⟩ := hs e (List.mem_of_getElem? ee)
      refine ⟨⟨_, rfl⟩, _, rfl, spS, b, e, rfl, rfl, .inr (SqT.of (by rw [sm _ _ hb, eu])), ?_, ?_⟩
      · exact join_room (m := 10) (b := 90) h1 h2 (by rw [sp_len]; decide) (by decide)
      · exact k _ H' (fun _ _ e => e) fun e2 z => by rw [ee] at z; injection z with z; rw [← z]; rfl
  · have er : rs2 = (es.map lineT).map V.str := by
      rw [List.map_map]
      exact rs_eq (by omega) fun i v hv e ee => hall i v hv e ee
    refine ⟨p, es.map lineT, rfl, by rw [hr2, er], by rw [List.length_map]; exact hl, fun s h => ?_, fun H2 s2 => q H2 fun b o e => s2 _ _ (sm _ _ e)⟩
    obtain ⟨e, he, rfl⟩ := List.mem_map.mp h
    exact line_len (hs e he)
end
end CA
namespace CA
open PySem L2
theorem take_snoc {α : Type} {l : List α} {i : Nat} {x : α} (h : l[i]? = some x) : l.take (i + 1) = l.take i ++ [x] := by
  rw [List.take_add_one, h]; rfl
theorem cut_last (xs : List V) : cutV xs none (some (-1)) = xs.dropLast := by
  unfold cutV
  have e : HT.sIx xs.length xs.length (some (-1)) = xs.length - 1 := by
    show (if (-1 : Int) < 0 then ((-1 : Int) + (xs.length : Int)).toNat else min (-1 : Int).toNat xs.length) = _
    rw [if_pos (by decide)]
    omega
  rw [e]
  show (xs.drop 0).take (xs.length - 1 - 0) = _
  rw [List.drop_zero, Nat.sub_zero, List.dropLast_eq_take]
def rLenQ (K : PySem.W.Frag) : List V → Hp → VK → Prop := fun xs H Q => ∃ p ys, xs = [.ref p] ∧ (SqL K H p ys ∨ SqT K H p ys) ∧ Q (.int ys.length) H
def spLinesIn (CE : Addr) : Sp := fun vs H Q E => ∃ t : Str, vs = [.str t] ∧ t.length ≤ 1000 ∧
  (endsNl t = true → ∀ p H', H p = none → Same H H' → H' p = some (.lst ((Txt.split (cutNl t) nlS).map V.str)) → Q (.ref p) H') ∧
  (endsNl t = false → ∀ d H', H d = none → H' = upd H d (.xd [("line", .int 0)]) → E (.ref CE) (some d) H')
/-- the events of a text, or the number of the line that is none -/
def spParse (CE : Addr) : Sp := fun vs H Q E => ∃ t : Str, vs = [.str t] ∧ t.length ≤ 900 ∧
  (∀ es, dueS t = .inr es → ∀ p H' rs, Same H H' → H' p = some (.lst rs) → TwL H' rs (es.map evT) → Q (.ref p) H') ∧
  (∀ n, dueS t = .inl n → ∀ d H', Same H H' → H' d = some (.xd [("line", .int (n : Nat))]) → E (.ref CE) (some d) H')
section
variable {P : Program} {w : World} {K : PySem.W.Frag} {mg : Str → Option Value} {base : Heap} {CE CC fI fj fl fn aE : Addr}
abbrev s_lines_in : Stmt := topS 8
theorem sc_lines_in : FnScope ["text"] ["text"] (defScope s_lines_in) := ⟨rfl, rfl, rfl, by decide +kernel, rfl, by decide +kernel, by decide +kernel⟩
theorem ok_lines_in {fd fdI : FuncData} (F : Fun K "lines_in" "lines_in" s_lines_in fl fd) (T : TxtV K mg CE CC fI fj fl fn aE) (GI : FnOk P w K mg base CX0 1 fI fdI ["self", "line"] (spErr K CE "line")) (bI : Binds K fdI ["self", "line"] []) :
    FnOk P w K mg base (L2.CX P w) 3 fl fd ["text"] (spLinesIn CE) := by
  refine F.okX sc_lines_in (fun vs H Q E h => ?_) (fun cdv A outer s H vs Q E hr h => ?_)
  · obtain ⟨t, rfl, _⟩ := h
    rfl
  obtain ⟨t, rfl, ht, qy, qn⟩ := h
  refine ⟨_, (pss_cons (ps_if (pt_not (pt_val (pe_m1 PySem.F.slot_str_endswith PySem.F.type_str_endswith mt_endswith (pv 0) pe_str)))
    (pss_one (ps_raise rfl (takes_of rfl rfl rfl rfl) (pmk_oex T.oex T.iC T.tI GI hr bI .nil pass0 rfl T.gE (pa_cons pe_int pa_nil))))
    pss_nil)
  (pss_one (ps_ret (pe_slice sl_list (pe_split (pv 0) pe_str) po_none (po_some (pe_un un_neg pe_int)))))), ?_⟩
  refine ⟨_, rfl, ⟨_, rfl⟩, t, nlS, rfl, rfl, _, rfl, ?_⟩
  rw [ends_is]
  cases he : endsNl t with
  | false =>
    refine iteT ?_
    exact mkO_of (te := tC (.int 0)) (fun d hd => qn he d _ hd rfl) (fun _ _ g h => g _ _ h)
  | true =>
    refine iteF ?_
    refine ⟨_, rfl, ⟨_, rfl⟩, t, nlS, rfl, rfl, by decide +kernel, Nat.le_trans (show _ ≤ 1002 by omega) (by decide), fun p hp => ?_⟩
    refine ⟨_, rfl, _, rfl, p, _, rfl, SqL.of upd_same, fun p2 hp2 => ?_⟩
    have s1 := same_new hp (.lst ((Txt.split t nlS).map V.str))
    refine qy he p2 _ (none_ofS s1 hp2) (fun b o e => same_new hp2 _ _ _ (s1 _ _ e)) ?_
    rw [upd_same, cut_last, ← List.map_dropLast, split_drop he]
abbrev s_parse_events : Stmt := topS 10
theorem sc_parse_events : FnScope ["text", "events", "number", "line", "kind", "names", "name"] ["text"] (defScope s_parse_events) := ⟨rfl, rfl, rfl, by decide +kernel, rfl, by decide +kernel, by decide +kernel⟩
theorem ok_parse_events {f : Addr} {es : Array DictEntry} {n : Nat} {fd fdI fdl fdn : FuncData} (F : Fun K "parse_events" "parse_events" s_parse_events f fd) (B : Blt mg) (T : TxtV K mg CE CC fI fj fl fn aE) (DE : KDict K w aE es n)
    (GI : FnOk P w K mg base CX0 1 fI fdI ["self", "line"] (spErr K CE "line")) (bI : Binds K fdI ["self", "line"] [])
    (Gl : FnOk P w K mg base (L2.CX P w) 3 fl fdl ["text"] (spLinesIn CE)) (bl : Binds K fdl ["text"] [])
    (Gn : FnOk P w K mg base CX0 1 fn fdn ["value"] spName) (bn : Binds K fdn ["value"] []) :
    FnOk P w K mg base (L2.CX P w) 4 f fd ["text"] (spParse CE) := by
  refine F.okX sc_parse_events (fun vs H Q E h => ?_) (fun cdv A outer s H vs Q E hr h => ?_)
  · obtain ⟨t, rfl, _⟩ := h
    rfl
  obtain ⟨t, rfl, ht, qy, qn⟩ := h
  have hr1 : Room 1 _ := hr.mono (by decide)
  have hr2 : Room 2 _ := hr.mono (by decide)
  refine ⟨_, (pss_cons (ps_if (pt_cmpR op_eq (pv 0) pe_str (nomark _))
    (pss_one (ps_ret (pe_lst pa_nil)))
    pss_nil)
  (pss_cons (ps_set (i := 1) sc_parse_events.nd rfl (Or.inl rfl) (pe_lst pa_nil))
  (pss_cons (ps_for (passes_of rfl) rfl (pi_enumS B.enumerate (pa_cons (pe_call Gl hr rfl T.g_lines_in T.k_lines_in bl .nil (passes_call (takes_of rfl rfl rfl rfl) (fun _ _ _ _ h => h)) (pa_cons (pv 0) pa_nil)) pa_nil) (pk_cons pe_int pk_nil)) (pg_tup rfl (pgs_cons (pg_name (i := 2) sc_parse_events.nd rfl (Or.inl rfl)) (pgs_cons (pg_name (i := 3) sc_parse_events.nd rfl (Or.inl rfl)) pgs_nil)))
    (pss_cons (ps_asg (pe_split (pv 3) pe_str) (pg_hd rfl (pgs_cons (pg_name (i := 4) sc_parse_events.nd rfl (Or.inl rfl)) (pgs_star (pg_name (i := 5) sc_parse_events.nd rfl (Or.inl rfl)) pgs_nil))))
      (pss_cons (ps_if (PW.pt (pw_or (pt_cmpR op_ne (pe_kget DE (pe_gr T.g_EVENT_NAMES) (pv 4) ⟨rfl, rfl, rfl, rfl⟩) (pe_callB call_len_seq (by rfl) B.len (by decide +kernel) (pa_cons (pv 5) pa_nil)) (nomark _)) (pw_or1 (pt_not (pt_val (pe_callB (cr_all rfl) (by rfl) B.all (by decide +kernel) (pa_cons (pe_lc (own := [("name", 6)]) (g := gName 6) (tt := tYes) (te := tCall spName [] E0 (tCons (tVar 6) tNil)) rfl sc_parse_events.nd (pi_list (pv 5)) (blkOk_by (own := [("name", 6)]) (N := ["text", "events", "number", "line", "kind", "names", "name"]) (sc := defScope s_parse_events) (by decide +kernel))
            (fun s H C cl fp => pg_name (i := 6) sc_parse_events.nd rfl (Or.inl rfl)) (fun s H C cl fp => pts_nil) (fun s H C cl fp => by exact pe_call Gn hr1 rfl T.g_is_name T.k_is_name bn .nil pass0 (pa_cons (pv 6) pa_nil))) pa_nil)))))))
        (pss_one (ps_raise rfl (takes_of rfl rfl rfl rfl) (pmk_oex T.oex T.iC T.tI GI hr2 bI .nil pass0 rfl T.gE (pa_cons (pv 2) pa_nil))))
        pss_nil)
      (pss_one (ps_expr (pe_bm PySem.F.plainAttrs_list PySem.F.slot_list_append PySem.F.type_list_append mt_append (pv 1) (pa_cons (pe_tup (pa_cons (pv 4) (StX.pa_star (pv 5) pa_nil))) pa_nil)))))))
  (pss_one (ps_ret (pv 1)))))), ?_⟩
  have z0 : (0 : Nat) ≤ sizeLine := by decide
  refine ⟨_, rfl, rfl, _, rfl, ite2 (fun c => ?_) (fun c => ?_)⟩
  · have e : t = "" := V.str.inj (of_decide_eq_true c)
    refine ⟨z0, fun p hp => qy [] (by unfold dueS; rw [if_pos e]) p _ [] (same_new hp _) upd_same .nil⟩
  have e0 : t ≠ "" := fun e => c (decide_eq_true (by rw [e]))
  refine ⟨z0, fun p1 hp1 => ?_⟩
  have s1 := same_new hp1 (.lst [])
  refine ⟨_, rfl, t, rfl, by omega, fun he pl H1 npl sm hpl => ?_, fun he d H1 hd hH1 => ?_⟩
  case refine_2 =>
    refine qn 0 (by unfold dueS; rw [if_neg e0, if_neg (by rw [he]; decide)]) d H1 (fun b o e => ?_) (by rw [hH1, upd_same]; rfl)
    rw [hH1, upd_ne (ne_of_none (s1 _ _ e) hd)]
    exact s1 _ _ e
  have hdue : dueS t = resOf (Txt.split (cutNl t) nlS) := by unfold dueS; rw [if_neg e0, if_pos he]
  have hl1 : ∀ l ∈ Txt.split (cutNl t) nlS, l.length ≤ 900 := fun l h => by
    have h1 := split_each (by rw [nl_len]; exact Nat.le_refl 1) h
    have h2 := cut_len t
    omega
  have hl2 : (Txt.split (cutNl t) nlS).length ≤ 901 := by
    have h1 := split_many (x := cutNl t) (y := nlS) (by rw [nl_len]; exact Nat.le_refl 1)
    have h2 := cut_len t
    omega
  generalize Txt.split (cutNl t) nlS = ls at hpl hdue hl1 hl2
  have sH1 : Same H H1 := fun b o e => sm _ _ (s1 _ _ e)
  have h1p : H1 p1 = some (.lst []) := sm _ _ upd_same
  refine ⟨pl, _, 1, rfl, rfl, SqL.of hpl, by decide, by decide, ?_⟩
  refine for_enumS (K := K) (a := pl) (k := 1) (xs := ls.map V.str) (fun i σ H' => ∃ x2 x3 x4 x5 x6 rs, σ = [some (.str t), some (.ref p1), x2, x3, x4, x5, x6] ∧ Same H H' ∧ H' pl = some (.lst (ls.map V.str)) ∧ pl ≠ p1 ∧ H' p1 = some (.lst rs) ∧ TwL H' rs ((ls.take i).map fun l => evT (itemsOf l)) ∧ ∀ j m, j < i → ls[j]? = some m → lineOk m = true)
    ⟨none, none, none, none, none, [], rfl, sH1, hpl, ?_, h1p, .nil, fun j m h => absurd h (Nat.not_lt_zero _)⟩ (fun i σ H' _ pv => ?_) (fun i x σ H' T1 hx pv hT => ?_) (fun σ H' pv => ?_)
  · intro z
    rw [z, upd_same] at npl
    cases npl
  · obtain ⟨_, _, _, _, _, _, _, _, h, _⟩ := pv
    exact SqL.of h
  · obtain ⟨x2, x3, x4, x5, x6, rs, rfl, sH, hpl', npl, hp1', hw, hall⟩ := pv
    rw [List.getElem?_map] at hx
    cases el : ls[i]? with
    | none => rw [el] at hx; cases hx
    | some l =>
    rw [el] at hx
    injection hx with hx
    subst hx
    have hll := hl1 l (List.mem_of_getElem? el)
    obtain ⟨k, ns, ekn⟩ := items_ne l
    have hlk : ∀ s ∈ itemsOf l, s.length ≤ 900 := fun s hs => Nat.le_trans (split_each (by rw [sp_len]; exact Nat.le_refl 1) hs) hll
    have hnl : (itemsOf l).length ≤ 901 := Nat.le_trans (split_many (by rw [sp_len]; exact Nat.le_refl 1)) (by omega)
    rw [ekn] at hlk hnl
    rw [List.length_cons] at hnl
    refine ⟨T1, _, rfl, SqT.of upd_same, rfl, _, _, rfl, _, _, rfl, rfl, ?_⟩
    refine ⟨_, rfl, ⟨_, rfl⟩, l, spS, rfl, rfl, by decide +kernel, Nat.le_trans (show _ ≤ 902 by omega) (by decide), fun q hq => ?_⟩
    have sT := same_new hT (.tup [.int (1 + (i : Nat)), .str l])
    have sq := same_new hq (.lst ((Txt.split l spS).map V.str))
    have hqe : (upd (upd H' T1 (.tup [.int (1 + (i : Nat)), .str l])) q (.lst ((Txt.split l spS).map V.str))) q = some (.lst (V.str k :: ns.map V.str)) := by
      rw [upd_same]
      have e : Txt.split l spS = k :: ns := ekn
      rw [e]
      rfl
    refine ⟨q, _, _, rfl, SqL.of hqe, fun D hD => ⟨_, _, rfl, _, _, rfl, rfl, ?_⟩⟩
    have sD := same_new hD (.lst (ns.map V.str))
    have S4 : Same H' (upd (upd (upd H' T1 (.tup [.int (1 + (i : Nat)), .str l])) q (.lst ((Txt.split l spS).map V.str))) D (.lst (ns.map V.str))) := fun b o e => sD _ _ (sq _ _ (sT _ _ e))
    have hDe := upd_same (H := upd (upd H' T1 (.tup [.int (1 + (i : Nat)), .str l])) q (.lst ((Txt.split l spS).map V.str))) (a := D) (o := .lst (ns.map V.str))
    generalize (upd (upd (upd H' T1 (.tup [.int (1 + (i : Nat)), .str l])) q (.lst ((Txt.split l spS).map V.str))) D (.lst (ns.map V.str))) = H4 at S4 hDe
    have SH4 : Same H H4 := fun b o e => S4 _ _ (sH _ _ e)
    have hl4 := S4 _ _ hpl'
    have hp4 := S4 _ _ hp1'
    have hw4 := TwL.gr (Gr.of S4) _ _ hw
    -- what is raised
    have bad : lineOk l = false → ∀ H5, Same H4 H5 → ∀ d, H5 d = none → E (.ref CE) (some d) (upd H5 d (.xd [("line", .int (1 + (i : Nat)))])) := fun hb H5 s5 d hd => by
      refine qn (i + 1) (by rw [hdue]; exact res_bad el hb hall) d _ (fun b o e => same_new hd _ _ _ (s5 _ _ (SH4 _ _ e))) ?_
      rw [upd_same, show (1 : Int) + ((i : Nat) : Int) = ((i + 1 : Nat) : Int) by omega]
    have hok : lineOk l = (decide (evN k = some ns.length) && ns.all nmS) := by
      unfold lineOk
      rw [ekn]
      rfl
    -- the number of names
    have cnt : ∀ R : VK, (R (.bl (!decide (evN k = some ns.length))) H4) → tOp rNe (tKGet K aE (tVar 4)) (tCB (rLenQ K) (tCons (tVar 5) tNil)) [some (.str t), some (.ref p1), some (.int (1 + (i : Nat))), some (.str l), some (.str k), some (.ref D), x6] H4 R := fun R hR => by
      cases e : evN k with
      | none =>
        refine ⟨_, rfl, k, rfl, .inl ⟨T.noE k e, _, rfl, D, _, rfl, .inl (SqL.of hDe), rfl, ?_⟩⟩
        rw [e, decide_eq_false (fun z : (none : Option Nat) = some ns.length => by cases z)] at hR
        rw [decide_eq_false (fun z => by cases z)]
        exact hR
      | some m =>
        obtain ⟨tk, htk⟩ := T.yesE k m e
        refine ⟨_, rfl, k, rfl, .inr ⟨_, .int (m : Nat), htk, ⟨tk, rfl⟩, _, rfl, D, _, rfl, .inl (SqL.of hDe), rfl, ?_⟩⟩
        rw [e] at hR
        have e2 : decide (V.int (m : Nat) = V.int ((ns.map V.str).length : Nat)) = decide (some m = some ns.length) := by
          rw [List.length_map]
          refine decide_eq_decide.mpr ⟨fun z => ?_, fun z => ?_⟩
          · injection z with z
            rw [Int.ofNat.inj z]
          · injection z with z
            rw [z]
        rw [e2]
        exact hR
    refine cnt _ ⟨_, rfl, ?_⟩
    cases ec : decide (evN k = some ns.length) with
    | false =>
      refine iteT (iteT ?_)
      refine mkO_of (te := tVar 2) ⟨_, rfl, fun d hd => bad (by rw [hok, ec]; rfl) H4 (fun _ _ e => e) d hd⟩ (fun _ _ g h => let ⟨v, e, q⟩ := h; ⟨v, e, g _ _ q⟩)
    | true =>
      refine iteF ?_
      dsimp only [tNot, tB, tCB, tCons, tNil]
      refine lcr_list (K := K) (xs := ns.map V.str) (fun i v _ => ∀ z, ns[i]? = some z → v = .bl (nmS z)) (fun _ _ _ _ h _ => h) (fun R h => ⟨_, rfl, h D H4 (fun _ _ e => e) hDe⟩) (fun _ => rfl) (by rw [List.length_map]; omega) (fun i x H' Q' hx sm k => ?_) (fun p H5 bs s5 hp hr5 hlr hall5 => ?_)
      · rw [List.getElem?_map] at hx
        cases ez : ns[i]? with
        | none => rw [ez] at hx; cases hx
        | some z =>
        rw [ez] at hx
        injection hx with hx
        subst hx
        have hz := hlk z (List.mem_cons_of_mem _ (List.mem_of_getElem? ez))
        exact ⟨_, rfl, _, tx z, rfl, .at (.flat rfl (show z.length ≤ 1000 by omega)), fun H'' s2 => k _ H'' s2 fun z2 e2 => by rw [ez] at e2; injection e2 with e2; rw [← e2]; rfl⟩
      have eb : bs = (ns.map nmS).map V.bl := by
        rw [List.map_map]
        exact rs_eq (by rw [hlr, List.length_map]) fun i v hv z ez => hall5 i v hv z ez
      have SH5 : Same H H5 := fun b o e => s5 _ _ (SH4 _ _ e)
      have hD5 := s5 _ _ hDe
      have hl5 := s5 _ _ hl4
      have hp5 := s5 _ _ hp4
      have hw5 := TwL.gr (Gr.of s5) _ _ hw4
      refine ⟨p, ns.map nmS, rfl, SqL.of (by rw [hr5, eb]), _, rfl, ?_⟩
      have ea : (ns.map nmS).all id = ns.all nmS := by
        rw [List.all_map]
        rfl
      rw [ea]
      cases en : ns.all nmS with
      | false =>
        refine iteT ?_
        exact mkO_of (te := tVar 2) ⟨_, rfl, fun d hd => bad (by rw [hok, ec, en]; rfl) H5 s5 d hd⟩ (fun _ _ g h => let ⟨v, e, q⟩ := h; ⟨v, e, g _ _ q⟩)
      | true =>
        refine iteF ?_
        have hok2 : lineOk l = true := by rw [hok, ec, en]; rfl
        have hrl : rs.length ≤ 901 := by
          rw [hw.len, List.length_map, List.length_take]
          omega
        refine ⟨_, rfl, .inl ⟨rfl, _, SqL.of hp5⟩, _, rfl, _, rfl, D, _, rfl, .inr (SqL.of hD5), ?_, fun q2 hq2 => ?_⟩
        · rw [List.append_nil, List.length_cons, List.length_map]
          exact Nat.le_trans (show _ ≤ 902 by omega) (by decide)
        have sQ := same_new hq2 (.tup (V.str k :: (ns.map V.str ++ [])))
        refine ⟨p1, rs, _, rfl, rfl, sQ _ _ hp5, small1000 (by omega), ?_⟩
        have hq1 : q2 ≠ p1 := fun z => by rw [z, hp5] at hq2; cases hq2
        have gK : Gr (upd H5 q2 (.tup (V.str k :: (ns.map V.str ++ [])))) (upd (upd H5 q2 (.tup (V.str k :: (ns.map V.str ++ [])))) p1 (.lst (rs ++ [.ref q2]))) := Gr.keep (m := p1) Keep.upd ⟨_, sQ _ _ hp5⟩ ⟨_, upd_same⟩
        refine ⟨_, _, _, _, _, _, rfl, fun b o e => ?_, ?_, npl, upd_same, ?_, fun j m hj hm => ?_⟩
        · have hb : b ≠ p1 := fun z => by rw [z, hp1] at e; cases e
          rw [upd_ne hb]
          exact sQ _ _ (SH5 _ _ e)
        · rw [upd_ne npl]
          exact sQ _ _ hl5
        · rw [take_snoc el, List.map_append]
          refine TwL.app (TwL.gr gK _ _ (TwL.gr (Gr.of sQ) _ _ hw5)) (.cons ?_ .nil)
          show Tw _ (.ref q2) (.tup ((itemsOf l).map tx))
          rw [ekn]
          refine .tup (vs := (k :: ns).map V.str) (by rw [upd_ne hq1, upd_same, List.append_nil]; rfl) (TwL.txs _ fun s hs => Nat.le_trans (hlk s hs) (by decide)) ?_
          rw [List.length_map, List.length_cons]
          omega
        · by_cases hji : j < i
          · exact hall j m hji hm
          · have e : j = i := by omega
            rw [e, el] at hm
            injection hm with hm
            rw [← hm]
            exact hok2
  · obtain ⟨x2, x3, x4, x5, x6, rs, rfl, sH, hpl', npl, hp1', hw, hall⟩ := pv
    rw [List.length_map, List.take_length] at hw
    refine ⟨_, rfl, ?_⟩
    refine qy (ls.map itemsOf) ?_ p1 H' rs sH hp1' (by rw [List.map_map]; exact hw)
    rw [hdue]
    refine res_good fun j m h => hall j m ?_ h
    rw [List.length_map]
    exact (List.getElem?_eq_some_iff.mp h).1
end
end CA
namespace CA
open PySem L2
theorem for_str {x : Str} {g : TG} {tb : TS} {D : Ends} {σ : L2.St} {H : Hp} (Pv : Nat → L2.St → Hp → Prop) (h0 : Pv 0 σ H)
    (hs : ∀ i c σ H, x.cps[i]? = some c → Pv i σ H → g (.str ⟨#[c]⟩) σ H fun σ2 H2 => tb { D with nx := Pv (i + 1), ct := Pv (i + 1), bk := D.nx } σ2 H2) (hd : ∀ σ H, Pv x.cps.size σ H → D.nx σ H) :
    ∃ W : Nat → Nat → L2.St → Hp → Prop, (∃ m, W 0 m σ H) ∧ ∀ i m σ H, W i m σ H →
      ((Its x).stop i H ∧ D.nx σ H) ∨ ((Its x).go i H ∧ ∃ N : L2.St → Hp → Prop, (∀ σ' H', N σ' H' → ∃ m', m' < m ∧ W (i + 1) m' σ' H') ∧ ∀ x1 H', (Its x).yld i H x1 H' → g x1 σ H' fun σ2 H2 => tb { D with nx := N, ct := N, bk := D.nx } σ2 H2) := by
  refine ⟨fun i m σ H => m = x.cps.size - i ∧ i ≤ x.cps.size ∧ Pv i σ H, ⟨_, rfl, Nat.zero_le _, h0⟩, ?_⟩
  rintro i m σ H ⟨rfl, hi, p⟩
  by_cases hlt : i < x.cps.size
  · refine .inr ⟨hlt, Pv (i + 1), fun σ' H' p' => ⟨x.cps.size - (i + 1), by omega, rfl, hlt, p'⟩, fun v H' y => ?_⟩
    obtain ⟨e, c, hc, ev⟩ := y
    subst e ev
    exact hs i c σ _ hc p
  · have e : i = x.cps.size := by omega
    subst e
    exact .inl ⟨Nat.le_refl _, hd σ H p⟩
def spIsName : Sp := fun vs H Q _ => ∃ z : Str, vs = [.str z] ∧ z.length ≤ 1000 ∧ Q (.bl (nmS z)) H
def spLineEv : Sp := fun vs H Q _ => ∃ l : Str, vs = [.str l] ∧ l.length ≤ 900 ∧ (lineOk l = false → ∀ H', Same H H' → Q .non H') ∧ (lineOk l = true → ∀ p H', Same H H' → H' p = some (.tup ((itemsOf l).map V.str)) → Q (.ref p) H')
def spDue : Sp := fun vs H Q _ => ∃ t : Str, vs = [.str t] ∧ t.length ≤ 900 ∧
  (∀ es, dueS t = .inr es → ∀ p H' rs, Same H H' → H' p = some (.lst rs) → TwL H' rs (es.map evT) → Q (.ref p) H') ∧
  (∀ n, dueS t = .inl n → ∀ H', Same H H' → Q (.int (n : Nat)) H')
structure TxtW (K : PySem.W.Frag) (mg : Str → Option Value) (fn fe : Addr) : Prop where
  g__law_is_name : mg "_law_is_name" = some (.ref fn)
  k__law_is_name : PySem.W.keepIn K (.ref fn) = true
  g__law_line_event : mg "_law_line_event" = some (.ref fe)
  k__law_line_event : PySem.W.keepIn K (.ref fe) = true
  range : mg "range" = none
theorem okSign_let (c : Nat) : okSign c = decide (c ∈ letS.cps.toList) := by
  have e1 : (Str.ofString "a").cps.toList = [97] := by decide +kernel
  have e2 : (Str.ofString "z").cps.toList = [122] := by decide +kernel
  have a1 : ([c] < [97]) ↔ c < 97 := by
    rw [List.cons_lt_cons_iff]
    exact ⟨fun z => z.elim id fun z => absurd z.2 (List.lt_irrefl _), .inl⟩
  have a2 : ([122] < [c]) ↔ 122 < c := by
    rw [List.cons_lt_cons_iff]
    exact ⟨fun z => z.elim id fun z => absurd z.2 (List.lt_irrefl _), .inl⟩
  have a3 : c ∈ letS.cps.toList ↔ 97 ≤ c ∧ c ≤ 122 := by
    refine ⟨let_mem, fun h => ?_⟩
    rw [let_list]
    exact List.mem_map.mpr ⟨c - 97, List.mem_range.mpr (by omega), by show 97 + (c - 97) = c; omega⟩
  unfold okSign
  rw [e1, e2, decide_eq_decide.mpr a1, decide_eq_decide.mpr a2, decide_eq_decide.mpr a3]
  by_cases h1 : c < 97
  · rw [decide_eq_true h1, decide_eq_false (show ¬ (97 ≤ c ∧ c ≤ 122) by omega)]
    rfl
  · rw [decide_eq_false h1]
    by_cases h2 : 122 < c
    · rw [decide_eq_true h2, decide_eq_false (show ¬ (97 ≤ c ∧ c ≤ 122) by omega)]
      rfl
    · rw [decide_eq_false h2, decide_eq_true (show 97 ≤ c ∧ c ≤ 122 by omega)]
      rfl
theorem cut_tail (x : V) (xs : List V) : cutV (x :: xs) (some 1) none = xs := by
  unfold cutV
  have e1 : HT.sIx (x :: xs).length 0 (some 1) = 1 := by
    show (if (1 : Int) < 0 then ((1 : Int) + ((x :: xs).length : Int)).toNat else min (1 : Int).toNat (x :: xs).length) = 1
    rw [if_neg (by decide), List.length_cons]
    show min 1 (xs.length + 1) = 1
    omega
  have e2 : HT.sIx (x :: xs).length (x :: xs).length none = (x :: xs).length := rfl
  rw [e1, e2]
  show (xs.drop 0).take _ = _
  rw [List.drop_zero]
  exact List.take_of_length_le (by rw [List.length_cons]; omega)
def evKs : List Str := ["press", "tick", "hand"]
theorem mem_ev (k : Str) : memT (.str k) evKs = (evN k).isSome := by
  have e : ∀ z : Str, decide (V.str z = V.str k) = decide (k = z) := fun z => decide_eq_decide.mpr ⟨fun h => (V.str.inj h).symm, fun h => by rw [h]⟩
  show (decide (V.str "press" = V.str k) || (decide (V.str "tick" = V.str k) || (decide (V.str "hand" = V.str k) || false))) = _
  rw [e, e, e]
  unfold evN
  by_cases h1 : k = "press"
  · rw [if_pos h1, decide_eq_true h1]; rfl
  · rw [if_neg h1, decide_eq_false h1]
    by_cases h2 : k = "tick"
    · rw [if_pos h2, decide_eq_true h2]; rfl
    · rw [if_neg h2, decide_eq_false h2]
      by_cases h3 : k = "hand"
      · rw [if_pos h3, decide_eq_true h3]; rfl
      · rw [if_neg h3, decide_eq_false h3]; rfl
def evD : List (Key × V) := [(.inr "press", .int 2), (.inr "tick", .int 1), (.inr "hand", .int 3)]
theorem ev_val {k : Str} {n : Nat} (h : evN k = some n) : valV (mergeK [] evD) (.inr k) = some (.int ((n + 1 : Nat) : Int)) := by
  unfold evN at h
  by_cases h1 : k = "press"
  · rw [if_pos h1] at h
    injection h with h
    subst h1 h
    decide +kernel
  · rw [if_neg h1] at h
    by_cases h2 : k = "tick"
    · rw [if_pos h2] at h
      injection h with h
      subst h2 h
      decide +kernel
    · rw [if_neg h2] at h
      by_cases h3 : k = "hand"
      · rw [if_pos h3] at h
        injection h with h
        subst h3 h
        decide +kernel
      · rw [if_neg h3] at h
        cases h
section
variable {P : Program} {w : World} {K : PySem.W.Frag} {mg : Str → Option Value} {base : Heap} {fn fe : Addr}
abbrev s__law_is_name : Stmt := topS 18
theorem sc__law_is_name : FnScope ["_law_value", "_law_letter"] ["_law_value"] (defScope s__law_is_name) := ⟨rfl, rfl, rfl, by decide +kernel, rfl, by decide +kernel, by decide +kernel⟩
theorem ok__law_is_name {fd : FuncData} (F : Fun K "_law_is_name" "_law_is_name" s__law_is_name fn fd) (B : Blt mg) : FnOk P w K mg base CX0 1 fn fd ["_law_value"] spIsName := by
  refine F.ok sc__law_is_name (fun vs H Q E h => ?_) (fun cdv A outer s H vs Q E hr h => ?_)
  · obtain ⟨z, rfl, _⟩ := h
    rfl
  obtain ⟨z, rfl, hz, q⟩ := h
  refine ⟨_, (pss_cons (ps_if (PW.pt (pw_or (pt_not (pt_val (pe_callB call_isi (by rfl) B.isinstance (by decide +kernel) (pa_cons (pv 0) (pa_cons (pe_bltn (v := .ty "str") (by rfl) B.str (by decide +kernel) rfl) pa_nil))))) (pw_or1 (pt_not (pt_chain op_le op_le pe_int (pe_callB call_len_str (by rfl) B.len (by decide +kernel) (pa_cons (pv 0) pa_nil)) pe_int)))))
    (pss_one (ps_ret pe_bl))
    pss_nil)
  (pss_cons (ps_for PassesOwn.never rfl (pi_str (pv 0)) (pg_name (i := 1) sc__law_is_name.nd rfl (Or.inl rfl))
    (pss_one (ps_if (pt_cmpR op_notIn_sign (pv 1) pe_str (by rfl))
        (pss_one (ps_ret pe_bl))
        pss_nil)))
  (pss_one (ps_ret pe_bl)))), ?_⟩
  have fin : ∀ b : Bool, nmS z = b → Q (.bl b) H := fun b e => by rw [← e]; exact q
  have wt : Tw H (.str z) (tx z) := .at (.flat rfl hz)
  have hz2 : z.length ≤ sizeLine := Nat.le_trans hz (by decide)
  refine tisi_str (K := K) (v := .str z) rfl wt ⟨_, rfl, iteF ?_⟩
  refine ⟨_, rfl, z, rfl, hz2, _, _, rfl, rfl, _, rfl, ite2 (fun c1 => ?_) (fun c1 => ?_)⟩
  · have d1 : decide (1 ≤ (z.length : Int)) = true := c1
    refine ⟨_, _, rfl, rfl, _, rfl, ite2 (fun c2 => ?_) (fun c2 => ?_)⟩
    · have d2 : decide ((z.length : Int) ≤ 8) = false := by
        cases hd : decide ((z.length : Int) ≤ 8) with
        | false => rfl
        | true => rw [hd] at c2; cases c2
      refine fin false ?_
      unfold nmS
      rw [d1, d2]
      rfl
    · have d2 : decide ((z.length : Int) ≤ 8) = true := by
        cases hd : decide ((z.length : Int) ≤ 8) with
        | true => rfl
        | false => rw [hd] at c2; exact absurd rfl c2
      have en : nmS z = (z.cps.toList.map okSign).all id := by
        unfold nmS
        rw [d1, d2]
        rfl
      refine ⟨_, rfl, z, rfl, for_str (x := z) (fun i σ H' => (∃ x1, σ = [some (.str z), x1]) ∧ H' = H ∧ ∀ j c, j < i → z.cps[j]? = some c → okSign c = true) ⟨⟨none, rfl⟩, rfl, fun j c h => absurd h (Nat.not_lt_zero _)⟩ (fun i c σ H' hx pv => ?_) (fun σ H' pv => ?_)⟩
      · obtain ⟨⟨x1, rfl⟩, rfl, hall⟩ := pv
        refine ⟨_, rfl, c, letS, rfl, rfl, _, rfl, ?_⟩
        rw [← okSign_let]
        cases hc : okSign c with
        | false =>
          refine iteT ?_
          refine fin false ?_
          rw [en, List.all_eq_false]
          exact ⟨false, List.mem_map.mpr ⟨c, List.mem_of_getElem? (by rw [Array.getElem?_toList]; exact hx), hc⟩, by decide⟩
        | true =>
          refine iteF ⟨⟨_, rfl⟩, rfl, fun j d hj hd => ?_⟩
          by_cases hji : j < i
          · exact hall j d hji hd
          · have e : j = i := by omega
            rw [e, hx] at hd
            injection hd with hd
            rw [← hd]
            exact hc
      · obtain ⟨⟨x1, rfl⟩, rfl, hall⟩ := pv
        refine fin true ?_
        rw [en, List.all_eq_true]
        intro b hb
        obtain ⟨c, hc, rfl⟩ := List.mem_map.mp hb
        obtain ⟨j, hj⟩ := List.getElem?_of_mem hc
        have hj2 := (List.getElem?_eq_some_iff.mp hj).1
        rw [Array.length_toList] at hj2
        rw [Array.getElem?_toList] at hj
        exact hall j c hj2 hj
  · have d1 : decide (1 ≤ (z.length : Int)) = false := Bool.eq_false_iff.mpr c1
    refine ⟨_, rfl, iteT ?_⟩
    refine fin false ?_
    unfold nmS
    rw [d1]
    rfl
end
end CA
namespace CA
open PySem L2
theorem same_two {H : Hp} {p : Addr} (h : H p = none) (o u : HO) : Same H (upd (upd H p o) p u) := fun b z q => by rw [upd_ne (ne_of_none q h), upd_ne (ne_of_none q h)]; exact q
section
variable {P : Program} {w : World} {K : PySem.W.Frag} {mg : Str → Option Value} {base : Heap} {fn fe : Addr}
abbrev s__law_line_event : Stmt := topS 19
theorem sc__law_line_event : FnScope ["_law_line", "_law_items", "_law_item"] ["_law_line"] (defScope s__law_line_event) := ⟨rfl, rfl, rfl, by decide +kernel, rfl, by decide +kernel, by decide +kernel⟩
theorem ok__law_line_event {fd fdn : FuncData} (F : Fun K "_law_line_event" "_law_line_event" s__law_line_event fe fd) (B : Blt mg) (T : TxtW K mg fn fe) (Gn : FnOk P w K mg base CX0 1 fn fdn ["_law_value"] spIsName) (bn : Binds K fdn ["_law_value"] []) :
    FnOk P w K mg base CX0 2 fe fd ["_law_line"] spLineEv := by
  refine F.ok sc__law_line_event (fun vs H Q E h => ?_) (fun cdv A outer s H vs Q E hr h => ?_)
  · obtain ⟨l, rfl, _⟩ := h
    rfl
  obtain ⟨l, rfl, hll, qn, qy⟩ := h
  have hu := hu_of hr
  refine ⟨_, (pss_cons (ps_set (i := 1) sc__law_line_event.nd rfl (Or.inl rfl) (pe_split (pv 0) pe_str))
  (pss_cons (ps_if (pt_cmpR (op_notInT hu) (pe_ix ix_list (pv 1) pe_int (fun _ _ => rfl)) (pe_tup (pa_cons pe_str (pa_cons pe_str (pa_cons pe_str pa_nil)))) (by rfl))
    (pss_one (ps_ret pe_non))
    pss_nil)
  (pss_cons (ps_if (pt_cmpR op_ne (pe_callB call_len_seq (by rfl) B.len (by decide +kernel) (pa_cons (pv 1) pa_nil)) (pe_dget hu (pe_disp (pps_cons pe_str pe_int (pps_cons pe_str pe_int (pps_cons pe_str pe_int pps_nil))) (by rfl) (by rfl) (fun z => by cases z) (by decide)) (pe_ix ix_list (pv 1) pe_int (fun _ _ => rfl)) (fun _ _ => rfl)) (nomark _))
    (pss_one (ps_ret pe_non))
    pss_nil)
  (pss_cons (ps_for PassesOwn.never rfl (pi_list (pe_slice sl_list (pv 1) (po_some pe_int) po_none)) (pg_name (i := 2) sc__law_line_event.nd rfl (Or.inl rfl))
    (pss_one (ps_if (pt_not (pt_val (pe_call Gn hr rfl T.g__law_is_name T.k__law_is_name bn .nil pass0 (pa_cons (pv 2) pa_nil))))
        (pss_one (ps_ret pe_non))
        pss_nil)))
  (pss_one (ps_ret (pe_callTy call_tuple_of (by rfl) B.tuple (by decide +kernel) (pa_cons (pv 1) pa_nil)))))))), ?_⟩
  obtain ⟨k, ns, ekn⟩ := items_ne l
  have hlk : ∀ s ∈ itemsOf l, s.length ≤ 900 := fun s hs => Nat.le_trans (split_each (by rw [sp_len]; exact Nat.le_refl 1) hs) hll
  have hnl : (itemsOf l).length ≤ 901 := Nat.le_trans (split_many (by rw [sp_len]; exact Nat.le_refl 1)) (by omega)
  have hok : lineOk l = (decide (evN k = some ns.length) && ns.all nmS) := by
    unfold lineOk
    rw [ekn]
    rfl
  rw [ekn] at hlk hnl qy
  rw [List.length_cons] at hnl
  refine ⟨_, rfl, ⟨_, rfl⟩, l, spS, rfl, rfl, by decide +kernel, Nat.le_trans (show _ ≤ 902 by omega) (by decide), fun p hp => ?_⟩
  have e : Txt.split l spS = k :: ns := ekn
  rw [e]
  have s1 := same_new hp (.lst ((k :: ns).map V.str))
  have h1 := upd_same (H := H) (a := p) (o := .lst ((k :: ns).map V.str))
  generalize upd H p (.lst ((k :: ns).map V.str)) = H1 at s1 h1
  have at0 : atI ((k :: ns).map V.str) 0 = some (.str k) := at_of (j := 0) rfl rfl
  refine ⟨_, rfl, p, _, _, _, rfl, rfl, SqL.of h1, at0, (by show 3 ≤ sizeLine; decide), fun q hq => ?_⟩
  have s2 := same_new hq (.tup [.str "press", .str "tick", .str "hand"])
  have h2 := s2 _ _ h1
  refine ⟨q, evKs, rfl, .inr (SqT.of upd_same), .flat rfl, _, rfl, ?_⟩
  generalize upd H1 q (.tup [.str "press", .str "tick", .str "hand"]) = H2 at s2 h2
  have S2 : Same H H2 := fun b o z => s2 _ _ (s1 _ _ z)
  show if (if true then !memT (.str k) evKs else memT (.str k) evKs) = true then _ else _
  rw [if_pos rfl, mem_ev]
  cases hev : evN k with
  | none =>
    refine iteT ?_
    exact qn (by rw [hok, hev]; rfl) H2 S2
  | some n =>
    refine iteF ?_
    have hn2 := ev_lt hev
    refine ⟨_, rfl, p, _, rfl, .inl (SqL.of h2), fun pd hpd => ⟨upd_same, evD, rfl, by decide, ?_⟩⟩
    have s3 := same_two hpd (.dK []) (.dK (mergeK [] evD))
    have h3 := s3 _ _ h2
    have hd3 := upd_same (H := upd H2 pd (.dK [])) (a := pd) (o := .dK (mergeK [] evD))
    generalize upd (upd H2 pd (.dK [])) pd (.dK (mergeK [] evD)) = H3 at s3 h3 hd3
    have S3 : Same H H3 := fun b o z => s3 _ _ (S2 _ _ z)
    refine ⟨_, rfl, p, _, _, _, rfl, rfl, SqL.of h3, at0, pd, _, rfl, (by have g := DGet.k (k := .inr k) hd3; rw [ev_val hev] at g; exact g), rfl, _, rfl, ?_⟩
    have ec : (!decide (V.int (((k :: ns).map V.str).length : Nat) = V.int ((n + 1 : Nat) : Int))) = !decide (evN k = some ns.length) := by
      rw [hev, List.length_map, List.length_cons]
      refine congrArg _ (decide_eq_decide.mpr ⟨fun z => ?_, fun z => ?_⟩)
      · injection z with z
        have : ns.length = n := by omega
        rw [this]
      · injection z with z
        rw [z]
    rw [ec]
    cases hc : decide (evN k = some ns.length) with
    | false =>
      refine iteT ?_
      exact qn (by rw [hok, hc]; rfl) H3 S3
    | true =>
      refine iteF ?_
      refine ⟨_, rfl, 1, rfl, p, _, rfl, SqL.of h3, fun p4 hp4 => ?_⟩
      rw [List.map_cons, cut_tail]
      have s4 := same_new hp4 (.lst (ns.map V.str))
      have h4 := s4 _ _ h3
      have h44 := upd_same (H := H3) (a := p4) (o := .lst (ns.map V.str))
      generalize upd H3 p4 (.lst (ns.map V.str)) = H4 at s4 h4 h44
      have S4 : Same H H4 := fun b o z => s4 _ _ (S3 _ _ z)
      refine ⟨p4, rfl, ⟨_, SqL.of h44⟩, for_list (K := K) (a := p4) (xs := ns.map V.str) (fun i σ H' => (∃ x2, σ = [some (.str l), some (.ref p), x2]) ∧ H' = H4 ∧ ∀ j z, j < i → ns[j]? = some z → nmS z = true)
        ⟨⟨none, rfl⟩, rfl, fun j z h => absurd h (Nat.not_lt_zero _)⟩ (fun i σ H' _ pv => by rw [pv.2.1]; exact SqL.of h44) (fun i x σ H' hx pv => ?_) (fun σ H' pv => ?_)⟩
      · obtain ⟨⟨x2, rfl⟩, rfl, hall⟩ := pv
        rw [List.getElem?_map] at hx
        cases ez : ns[i]? with
        | none => rw [ez] at hx; cases hx
        | some z =>
        rw [ez] at hx
        injection hx with hx
        subst hx
        have hz := hlk z (List.mem_cons_of_mem _ (List.mem_of_getElem? ez))
        refine ⟨_, rfl, z, rfl, by omega, _, rfl, ?_⟩
        cases hnm : nmS z with
        | false =>
          refine iteT ?_
          refine qn ?_ _ S4
          rw [hok, hc, Bool.true_and, List.all_eq_false]
          exact ⟨z, List.mem_of_getElem? ez, by rw [hnm]; decide⟩
        | true =>
          refine iteF ⟨⟨_, rfl⟩, rfl, fun j y hj hy => ?_⟩
          by_cases hji : j < i
          · exact hall j y hji hy
          · have e : j = i := by omega
            rw [e, ez] at hy
            injection hy with hy
            rw [← hy]
            exact hnm
      · obtain ⟨⟨x2, rfl⟩, rfl, hall⟩ := pv
        refine ⟨_, rfl, p, _, rfl, .inl ⟨SqL.of h4, fun p5 hp5 => ?_⟩⟩
        refine qy ?_ p5 _ (fun b o z => same_new hp5 _ _ _ (S4 _ _ z)) upd_same
        rw [hok, hc, Bool.true_and, List.all_eq_true]
        intro z hz
        obtain ⟨j, hj⟩ := List.getElem?_of_mem hz
        have hj2 := (List.getElem?_eq_some_iff.mp hj).1
        refine hall j z ?_ hj
        rw [List.length_map]
        exact hj2
end
end CA
namespace CA
open PySem L2
def tph : List Str := ["tick", "press", "hand"]
def spDrawn : Sp := fun vs H Q _ => ∃ st scr : Addr, vs = [.ref st] ∧ StAt H st scr ∧ ∀ (p : Addr) (H' : Hp) (rs : List V) (es : List (List Str)), H p = none → Keep [st] H H' → StAt H' st scr → H' p = some (.lst rs) → TwL H' rs (es.map evT) → es.length ≤ 6 →
  (∀ e ∈ es, e.length ≤ 3 ∧ ∀ s ∈ e, nmS s = true) → Q (.ref p) H'
structure TxtE (K : PySem.W.Frag) (mg : Str → Option Value) (ft fp fm : Addr) : Prop where
  g__law_take : mg "_law_take" = some (.ref ft)
  k__law_take : PySem.W.keepIn K (.ref ft) = true
  g__law_pick : mg "_law_pick" = some (.ref fp)
  k__law_pick : PySem.W.keepIn K (.ref fp) = true
  g__law_names : mg "_law_names" = some (.ref fm)
  k__law_names : PySem.W.keepIn K (.ref fm) = true
theorem nmS_len {s : Str} (h : nmS s = true) : s.length ≤ 8 := by
  unfold nmS at h
  rw [Bool.and_eq_true, Bool.and_eq_true] at h
  have := of_decide_eq_true h.1.2
  omega
section
variable {P : Program} {w : World} {K : PySem.W.Frag} {mg : Str → Option Value} {base : Heap} {fn fe ft fp fm : Addr}
abbrev s__law_due : Stmt := topS 20
theorem sc__law_due : FnScope ["_law_text", "_law_events", "_law_lines", "_law_k", "_law_event"] ["_law_text"] (defScope s__law_due) := ⟨rfl, rfl, rfl, by decide +kernel, rfl, by decide +kernel, by decide +kernel⟩
theorem ok__law_due {f : Addr} {fd fde : FuncData} (F : Fun K "_law_due" "_law_due" s__law_due f fd) (B : Blt mg) (T : TxtW K mg fn fe) (Ge : FnOk P w K mg base CX0 2 fe fde ["_law_line"] spLineEv) (be : Binds K fde ["_law_line"] []) :
    FnOk P w K mg base CX0 3 f fd ["_law_text"] spDue := by
  refine F.ok sc__law_due (fun vs H Q E h => ?_) (fun cdv A outer s H vs Q E hr h => ?_)
  · obtain ⟨l, rfl, _⟩ := h
    rfl
  obtain ⟨t, rfl, ht, qy, qn⟩ := h
  refine ⟨_, (pss_cons (ps_if (pt_cmpR op_eq (pv 0) pe_str (nomark _))
    (pss_one (ps_ret (pe_lst pa_nil)))
    pss_nil)
  (pss_cons (ps_if (pt_cmpR op_ne (pe_ix ix_str (pv 0) (pe_un un_neg pe_int) (fun _ _ => rfl)) pe_str (nomark _))
    (pss_one (ps_ret pe_int))
    pss_nil)
  (pss_cons (ps_set (i := 1) sc__law_due.nd rfl (Or.inl rfl) (pe_lst pa_nil))
  (pss_cons (ps_set (i := 2) sc__law_due.nd rfl (Or.inl rfl) (pe_split (pe_slice sl_str (pv 0) po_none (po_some (pe_un un_neg pe_int))) pe_str))
  (pss_cons (ps_for PassesOwn.never rfl (pi_range1 rfl T.range (pa_cons (pe_callB call_len_seq (by rfl) B.len (by decide +kernel) (pa_cons (pv 2) pa_nil)) pa_nil)) (pg_name (i := 3) sc__law_due.nd rfl (Or.inl rfl))
    (pss_cons (ps_set (i := 4) sc__law_due.nd rfl (Or.inl rfl) (pe_call Ge hr rfl T.g__law_line_event T.k__law_line_event be .nil pass0 (pa_cons (pe_ix ix_list (pv 2) (pv 3) (fun _ _ => rfl)) pa_nil)))
      (pss_cons (ps_if (pt_cmpR op_isN (pv 4) pe_non (nomark _))
        (pss_one (ps_ret (pe_op op_add (pv 3) pe_int)))
        pss_nil)
      (pss_one (ps_expr (pe_bm PySem.F.plainAttrs_list PySem.F.slot_list_append PySem.F.type_list_append mt_append (pv 1) (pa_cons (pv 4) pa_nil)))))))
  (pss_one (ps_ret (pv 1)))))))), ?_⟩
  have z0 : (0 : Nat) ≤ sizeLine := by decide
  refine ⟨_, rfl, rfl, _, rfl, ite2 (fun c => ?_) (fun c => ?_)⟩
  · have e : t = "" := V.str.inj (of_decide_eq_true c)
    refine ⟨z0, fun p hp => qy [] (by unfold dueS; rw [if_pos e]) p _ [] (same_new hp _) upd_same .nil⟩
  have e0 : t ≠ "" := fun e => c (decide_eq_true (by rw [e]))
  have ne0 : TL.tl t ≠ [] := fun e => e0 (TL.ext_tl (by rw [e]; rfl))
  obtain ⟨M, x, hM⟩ : ∃ M x, TL.tl t = M ++ [x] := ⟨_, _, (List.dropLast_concat_getLast ne0).symm⟩
  have hat : atI t.cps.toList (-1) = some x := by
    show atI (TL.tl t) (-1) = some x
    rw [hM]
    unfold atI ixN
    rw [if_neg (by decide)]
    have e1 : (M ++ [x]).length = M.length + 1 := by simp
    rw [e1]
    rw [if_pos (by omega)]
    show (M ++ [x])[((-1 : Int) + ((M.length + 1 : Nat) : Int)).toNat]? = some x
    have e2 : ((-1 : Int) + ((M.length + 1 : Nat) : Int)).toNat = M.length := by omega
    rw [e2]
    simp
  have hen : endsNl t = decide (x = 10) := by
    unfold endsNl
    refine decide_eq_decide.mpr ⟨fun h => ?_, fun h => ⟨ne0, ?_⟩⟩
    · have h2 := h.2
      rw [hM, List.dropLast_concat] at h2
      have h3 := List.append_cancel_left h2
      injection h3
    · rw [hM, List.dropLast_concat, h]
  refine ⟨_, rfl, _, rfl, t, _, x, rfl, rfl, Nat.le_trans ht (by decide), hat, rfl, _, rfl, ?_⟩
  have ex : (!decide (V.str ⟨#[x]⟩ = V.str nlS)) = !endsNl t := by
    rw [hen]
    refine congrArg _ (decide_eq_decide.mpr ⟨fun h => ?_, fun h => by rw [h]; rfl⟩)
    have h1 := congrArg TL.tl (V.str.inj h)
    rw [tl_nl] at h1
    injection h1
  rw [ex]
  cases he : endsNl t with
  | false =>
    refine iteT ?_
    exact qn 0 (by unfold dueS; rw [if_neg e0, if_neg (by rw [he]; decide)]) H (fun _ _ e => e)
  | true =>
    refine iteF ?_
    have hdue : dueS t = resOf (Txt.split (cutNl t) nlS) := by unfold dueS; rw [if_neg e0, if_pos he]
    have hl1 : ∀ l ∈ Txt.split (cutNl t) nlS, l.length ≤ 900 := fun l h => by
      have h1 := split_each (by rw [nl_len]; exact Nat.le_refl 1) h
      have h2 := cut_len t
      omega
    have hl2 : (Txt.split (cutNl t) nlS).length ≤ 901 := by
      have h1 := split_many (x := cutNl t) (y := nlS) (by rw [nl_len]; exact Nat.le_refl 1)
      have h2 := cut_len t
      omega
    have hc9 := cut_len t
    refine ⟨z0, fun p1 hp1 => ?_⟩
    have s1 := same_new hp1 (.lst [])
    refine ⟨_, rfl, _, rfl, _, rfl, t, rfl, Nat.le_trans ht (by decide), ⟨_, rfl⟩, cutNl t, nlS, rfl, rfl, by decide +kernel, Nat.le_trans (show (cutNl t).length + 2 ≤ 902 by omega) (by decide), fun pl hpl => ?_⟩
    generalize Txt.split (cutNl t) nlS = ls at hdue hl1 hl2
    have npl : pl ≠ p1 := fun z => by rw [z, upd_same] at hpl; cases hpl
    have s2 := same_new hpl (.lst (ls.map V.str))
    have h2 := upd_same (H := upd H p1 (.lst [])) (a := pl) (o := .lst (ls.map V.str))
    have h1p := s2 _ _ (upd_same (H := H) (a := p1) (o := .lst []))
    generalize upd (upd H p1 (.lst [])) pl (.lst (ls.map V.str)) = H2 at s2 h2 h1p
    have S2 : Same H H2 := fun b o z => s2 _ _ (s1 _ _ z)
    refine ⟨_, rfl, pl, _, rfl, .inl (SqL.of h2), ((ls.map V.str).length : Nat), rfl, by omega, by rw [List.length_map]; omega, ?_⟩
    refine for_range (lo := 0) (n := (ls.map V.str).length) (fun i σ H' => ∃ x3 x4 rs, σ = [some (.str t), some (.ref p1), some (.ref pl), x3, x4] ∧ Same H H' ∧ H' pl = some (.lst (ls.map V.str)) ∧ H' p1 = some (.lst rs) ∧ TwL H' rs ((ls.take i).map fun l => evT (itemsOf l)) ∧ ∀ j m, j < i → ls[j]? = some m → lineOk m = true)
      ⟨none, none, [], rfl, S2, h2, h1p, .nil, fun j m h => absurd h (Nat.not_lt_zero _)⟩ (fun i σ H' hi pv => ?_) (fun σ H' pv => ?_)
    · obtain ⟨x3, x4, rs, rfl, sH, hpl', hp1', hw, hall⟩ := pv
      rw [List.length_map] at hi
      have el : ls[i]? = some ls[i] := List.getElem?_eq_getElem hi
      generalize ls[i] = l at el
      have hll := hl1 l (List.mem_of_getElem? el)
      have ei : (0 : Int) + (i : Int) = (i : Int) := by omega
      have hrl : rs.length ≤ 901 := by
        rw [hw.len, List.length_map, List.length_take]
        omega
      refine ⟨_, rfl, _, rfl, pl, _, _, .str l, rfl, rfl, SqL.of hpl', at_of (j := i) ei (by rw [List.getElem?_map, el]; rfl), l, rfl, hll, fun hb H5 s5 => ?_, fun hg p5 H5 s5 hp5 => ?_⟩
      · refine ⟨_, rfl, rfl, _, rfl, iteT ?_⟩
        refine ⟨_, rfl, _, _, rfl, rfl, ?_⟩
        show Q (.int (0 + (i : Int) + 1)) H5
        rw [show (0 : Int) + (i : Int) + 1 = ((i + 1 : Nat) : Int) by omega]
        exact qn (i + 1) (by rw [hdue]; exact res_bad el hb hall) H5 fun b o z => s5 _ _ (sH _ _ z)
      · refine ⟨_, rfl, rfl, _, rfl, iteF ?_⟩
        have hp15 := s5 _ _ hp1'
        refine ⟨_, rfl, .inl ⟨rfl, _, SqL.of hp15⟩, _, rfl, p1, rs, _, rfl, rfl, hp15, small1000 (by omega), ?_⟩
        have gK : Gr H5 (upd H5 p1 (.lst (rs ++ [.ref p5]))) := Gr.keep (m := p1) Keep.upd ⟨_, hp15⟩ ⟨_, upd_same⟩
        have n5 : p5 ≠ p1 := ne_of hp5 hp15 (by intro z; cases z)
        refine ⟨_, _, _, rfl, fun b o e => ?_, ?_, upd_same, ?_, fun j m hj hm => ?_⟩
        · have hb : b ≠ p1 := fun z => by rw [z, hp1] at e; cases e
          rw [upd_ne hb]
          exact s5 _ _ (sH _ _ e)
        · rw [upd_ne npl]
          exact s5 _ _ hpl'
        · rw [take_snoc el, List.map_append]
          refine TwL.app (TwL.gr gK _ _ (TwL.gr (Gr.of s5) _ _ hw)) (.cons ?_ .nil)
          show Tw _ (.ref p5) (.tup ((itemsOf l).map tx))
          have hlk : ∀ s ∈ itemsOf l, s.length ≤ 900 := fun s hs => Nat.le_trans (split_each (by rw [sp_len]; exact Nat.le_refl 1) hs) hll
          have hnl : (itemsOf l).length ≤ 901 := Nat.le_trans (split_many (by rw [sp_len]; exact Nat.le_refl 1)) (by omega)
          refine .tup (vs := (itemsOf l).map V.str) (by rw [upd_ne n5]; exact hp5) (TwL.txs _ fun s hs => Nat.le_trans (hlk s hs) (by decide)) ?_
          rw [List.length_map]
          omega
        · by_cases hji : j < i
          · exact hall j m hji hm
          · have e : j = i := by omega
            rw [e, el] at hm
            injection hm with hm
            rw [← hm]
            exact hg
    · obtain ⟨x3, x4, rs, rfl, sH, hpl', hp1', hw, hall⟩ := pv
      rw [List.length_map, List.take_length] at hw
      refine ⟨_, rfl, ?_⟩
      refine qy (ls.map itemsOf) ?_ p1 H' rs sH hp1' (by rw [List.map_map]; exact hw)
      rw [hdue]
      refine res_good fun j m h => hall j m ?_ h
      rw [List.length_map]
      exact (List.getElem?_eq_some_iff.mp h).1
abbrev s__law_drawn_events : Stmt := topS 21
theorem sc__law_drawn_events : FnScope ["_law_state", "_law_names_here", "_law_events", "_law_k", "_law_kind", "_law_one", "_law_two"] ["_law_state"] (defScope s__law_drawn_events) := ⟨rfl, rfl, rfl, by decide +kernel, rfl, by decide +kernel, by decide +kernel⟩
theorem ok__law_drawn_events {f : Addr} {fd fdt fdp fdm : FuncData} (F : Fun K "_law_drawn_events" "_law_drawn_events" s__law_drawn_events f fd) (T : TxtE K mg ft fp fm) (hrg : mg "range" = none) (Gt : FnOk P w K mg base CX0 2 ft fdt ["_law_state", "_law_size"] spTake) (bt : Binds K fdt ["_law_state", "_law_size"] [])
    (Gp : FnOk P w K mg base CX0 3 fp fdp ["_law_state", "_law_names_here"] (spPick K)) (bp : Binds K fdp ["_law_state", "_law_names_here"] [])
    (Gm : FnOk P w K mg base CX0 4 fm fdm ["_law_state", "_law_many"] spLNames) (bm : Binds K fdm ["_law_state", "_law_many"] []) :
    FnOk P w K mg base CX0 5 f fd ["_law_state"] spDrawn := by
  refine F.ok sc__law_drawn_events (fun vs H Q E h => ?_) (fun cdv A outer s H vs Q E hr h => ?_)
  · obtain ⟨st, scr, rfl, _⟩ := h
    rfl
  obtain ⟨st, scr, rfl, S, q⟩ := h
  have hr2 : Room 2 _ := hr.mono (by decide)
  have hr3 : Room 3 _ := hr.mono (by decide)
  refine ⟨_, (pss_cons (ps_set (i := 1) sc__law_drawn_events.nd rfl (Or.inl rfl) (pe_op op_cat (pe_call Gm hr rfl T.g__law_names T.k__law_names bm .nil pass0 (pa_cons (pv 0) (pa_cons pe_int pa_nil))) (pe_lst (pa_cons pe_str (pa_cons pe_str (pa_cons pe_str pa_nil))))))
  (pss_cons (ps_set (i := 2) sc__law_drawn_events.nd rfl (Or.inl rfl) (pe_lst pa_nil))
  (pss_cons (ps_for PassesOwn.never rfl (pi_range1 rfl hrg (pa_cons (pe_call Gt hr2 rfl T.g__law_take T.k__law_take bt .nil pass0 (pa_cons (pv 0) (pa_cons pe_int pa_nil))) pa_nil)) (pg_name (i := 3) sc__law_drawn_events.nd rfl (Or.inl rfl))
    (pss_cons (ps_set (i := 4) sc__law_drawn_events.nd rfl (Or.inl rfl) (pe_call Gt hr2 rfl T.g__law_take T.k__law_take bt .nil pass0 (pa_cons (pv 0) (pa_cons pe_int pa_nil))))
      (pss_cons (ps_set (i := 5) sc__law_drawn_events.nd rfl (Or.inl rfl) (pe_call Gp hr3 rfl T.g__law_pick T.k__law_pick bp .nil pass0 (pa_cons (pv 0) (pa_cons (pv 1) pa_nil))))
      (pss_cons (ps_set (i := 6) sc__law_drawn_events.nd rfl (Or.inl rfl) (pe_call Gp hr3 rfl T.g__law_pick T.k__law_pick bp .nil pass0 (pa_cons (pv 0) (pa_cons (pv 1) pa_nil))))
      (pss_one (ps_expr (pe_bm PySem.F.plainAttrs_list PySem.F.slot_list_append PySem.F.type_list_append mt_append (pv 2) (pa_cons (pe_ix ix_list (pe_lst (pa_cons (pe_tup (pa_cons pe_str (pa_cons (pv 5) pa_nil))) (pa_cons (pe_tup (pa_cons pe_str pa_nil)) (pa_cons (pe_tup (pa_cons pe_str (pa_cons (pv 5) (pa_cons (pv 6) pa_nil)))) pa_nil)))) (pv 4) (fun _ _ => rfl)) pa_nil))))))))
  (pss_one (ps_ret (pv 2)))))), ?_⟩
  have z0 : (0 : Nat) ≤ sizeLine := by decide
  have z1 : (1 : Nat) ≤ sizeLine := by decide
  have z2 : (2 : Nat) ≤ sizeLine := by decide
  have z3 : (3 : Nat) ≤ sizeLine := by decide
  refine ⟨_, rfl, st, scr, 4, rfl, S, by decide, fun p1 H1 ns np1 k1 S1 h1 hl1 hn1 _ => ?_⟩
  refine ⟨z3, fun p2 hp2 => ?_⟩
  have s2 := same_new hp2 (.lst [.str "tick", .str "press", .str "hand"])
  refine ⟨p1, p2, _, _, rfl, rfl, s2 _ _ h1, upd_same, by rw [List.length_map, hl1]; decide, fun pn hpn => ?_⟩
  have s3 := same_new hpn (.lst (ns.map V.str ++ [.str "tick", .str "press", .str "hand"]))
  have hw9 : (ns.map V.str ++ [.str "tick", .str "press", .str "hand"]) = (ns ++ tph).map V.str := by rw [List.map_append]; rfl
  have h3 := upd_same (H := upd H1 p2 (.lst [.str "tick", .str "press", .str "hand"])) (a := pn) (o := .lst (ns.map V.str ++ [.str "tick", .str "press", .str "hand"]))
  have S3 : Same H1 _ := fun b o e => s3 _ _ (s2 _ _ e)
  generalize upd (upd H1 p2 (.lst [.str "tick", .str "press", .str "hand"])) pn (.lst (ns.map V.str ++ [.str "tick", .str "press", .str "hand"])) = H3 at s3 h3 S3
  rw [hw9] at h3
  have hws : ∀ s ∈ ns ++ tph, nmS s = true := fun s hs => by
    rcases List.mem_append.mp hs with hs | hs
    · exact hn1 s hs
    · unfold tph at hs
      simp only [List.mem_cons, List.not_mem_nil, or_false] at hs
      rcases hs with rfl | rfl | rfl <;> decide +kernel
  have hwl : (ns ++ tph).length = 7 := by rw [List.length_append, hl1]; rfl
  generalize ns ++ tph = ws at h3 hws hwl
  have nst : ∀ {H' : Hp} {p : Addr}, StAt H' st scr → H' p = none → p ≠ st := fun S' h e => by
    obtain ⟨L, hL⟩ := S'.isL
    rw [e, hL] at h
    cases h
  have npn : pn ≠ st := nst (S1.keep s2) hpn
  refine ⟨z0, fun pl hpl => ?_⟩
  have s4 := same_new hpl (.lst [])
  have S4s := (S1.keep S3).keep s4
  have npl : pl ≠ st := nst (S1.keep S3) hpl
  have nplpn : pl ≠ pn := fun e => by rw [e, h3] at hpl; cases hpl
  have K3 : Keep [st] H H3 := k1.trans (Keep.of S3)
  have hplH : H pl = none := K3.fresh (S1.keep S3) hpl
  have K4 : Keep [st] H (upd H3 pl (.lst [])) := K3.trans (Keep.of s4)
  have h34 := s4 _ _ h3
  have h4 := upd_same (H := H3) (a := pl) (o := .lst [])
  generalize upd H3 pl (.lst []) = H4 at s4 S4s K4 h34 h4
  refine ⟨_, rfl, st, scr, 7, rfl, S4s, by decide, by decide, fun m H5 m0 m1 k5 S5 => ⟨m, rfl, by omega, by omega, ?_⟩⟩
  have em : m = ((m.toNat : Nat) : Int) := (Int.toNat_of_nonneg m0).symm
  refine for_range (lo := 0) (n := m.toNat) (fun i σ H' => ∃ x3 x4 x5 x6 rs es, σ = [some (.ref st), some (.ref pn), some (.ref pl), x3, x4, x5, x6] ∧ Keep [st] H H' ∧ StAt H' st scr ∧ H' pn = some (.lst (ws.map V.str)) ∧ H' pl = some (.lst rs) ∧ TwL H' rs (es.map evT) ∧ es.length = i ∧ ∀ e ∈ es, e.length ≤ 3 ∧ ∀ s ∈ e, nmS s = true)
    ⟨none, none, none, none, [], [], rfl, K4.trans k5, S5, k5.one h34 npn, k5.one h4 npl, .nil, rfl, fun _ h => by cases h⟩ (fun i σ H' hi pv => ?_) (fun σ H' pv => ?_)
  · obtain ⟨x3, x4, x5, x6, rs, es, rfl, kH, S6, hpn6, hpl6, hw6, hle, hall⟩ := pv
    refine ⟨_, rfl, st, scr, 3, rfl, S6, by decide, by decide, fun kd H7 kd0 kd1 k7 S7 => ?_⟩
    have hpn7 := k7.one hpn6 npn
    refine ⟨_, rfl, _, rfl, st, scr, _, rfl, S7, .inl ⟨pn, ws, rfl, npn, .inl ⟨SqL.of hpn7, fun H9 k9 => SqL.of (k9.one hpn7 npn)⟩, by omega, by omega, fun o ho H8 k8 S8 => ?_⟩⟩
    have hpn8 := k8.one hpn7 npn
    refine ⟨_, rfl, _, rfl, st, scr, _, rfl, S8, .inl ⟨pn, ws, rfl, npn, .inl ⟨SqL.of hpn8, fun H9 k9 => SqL.of (k9.one hpn8 npn)⟩, by omega, by omega, fun u hu H9 k9 S9 => ?_⟩⟩
    have k69 : Keep [st] H' H9 := k7.trans (k8.trans k9)
    have hpl9 := k69.one hpl6 npl
    have hpn9 := k69.one hpn6 npn
    have hw9 := TwL.gr (S6.gr S9 k69) _ _ hw6
    have hrl : rs.length ≤ 6 := by
      rw [hw6.len, List.length_map]
      omega
    have hol := hws o ho
    have hul := hws u hu
    refine ⟨_, rfl, .inl ⟨rfl, _, SqL.of hpl9⟩, _, rfl, z2, fun a1 ha1 => ⟨z1, fun a2 ha2 => ⟨_, rfl, _, rfl, z3, fun a3 ha3 => ⟨z3, fun aL haL => ?_⟩⟩⟩⟩
    have t1 := same_new ha1 (.tup [.str "press", .str o])
    have t2 := same_new ha2 (.tup [.str "tick"])
    have t3 := same_new ha3 (.tup [.str "hand", .str o, .str u])
    have tL := same_new haL (.lst [.ref a1, .ref a2, .ref a3])
    have g1 := tL _ _ (t3 _ _ (t2 _ _ (upd_same (H := H9) (a := a1) (o := .tup [.str "press", .str o]))))
    have g2 := tL _ _ (t3 _ _ (upd_same (H := upd H9 a1 (.tup [.str "press", .str o])) (a := a2) (o := .tup [.str "tick"])))
    have g3 := tL _ _ (upd_same (H := upd (upd H9 a1 (.tup [.str "press", .str o])) a2 (.tup [.str "tick"])) (a := a3) (o := .tup [.str "hand", .str o, .str u]))
    have gL := upd_same (H := upd (upd (upd H9 a1 (.tup [.str "press", .str o])) a2 (.tup [.str "tick"])) a3 (.tup [.str "hand", .str o, .str u])) (a := aL) (o := .lst [.ref a1, .ref a2, .ref a3])
    have SA : Same H9 _ := fun b o e => tL _ _ (t3 _ _ (t2 _ _ (t1 _ _ e)))
    generalize upd (upd (upd (upd H9 a1 (.tup [.str "press", .str o])) a2 (.tup [.str "tick"])) a3 (.tup [.str "hand", .str o, .str u])) aL (.lst [.ref a1, .ref a2, .ref a3]) = HA at tL g1 g2 g3 gL SA
    obtain ⟨a, e, hat, haA, he3, he8⟩ : ∃ (a : Addr) (e : List Str), atI [V.ref a1, .ref a2, .ref a3] kd = some (.ref a) ∧ HA a = some (.tup (e.map V.str)) ∧ e.length ≤ 3 ∧ ∀ s ∈ e, nmS s = true := by
      have hk : kd = 0 ∨ kd = 1 ∨ kd = 2 := by omega
      rcases hk with rfl | rfl | rfl
      · refine ⟨a1, ["press", o], at_of (j := 0) rfl rfl, g1, (by show 2 ≤ 3; decide), fun s hs => ?_⟩
        rcases List.mem_cons.mp hs with rfl | hs
        · decide +kernel
        · rw [List.mem_singleton] at hs
          rw [hs]
          exact hol
      · refine ⟨a2, ["tick"], at_of (j := 1) rfl rfl, g2, (by show 1 ≤ 3; decide), fun s hs => ?_⟩
        rw [List.mem_singleton] at hs
        rw [hs]
        decide +kernel
      · refine ⟨a3, ["hand", o, u], at_of (j := 2) rfl rfl, g3, (by show 3 ≤ 3; decide), fun s hs => ?_⟩
        rcases List.mem_cons.mp hs with rfl | hs
        · decide +kernel
        · rcases List.mem_cons.mp hs with rfl | hs
          · exact hol
          · rw [List.mem_singleton] at hs
            rw [hs]
            exact hul
    have hplA := SA _ _ hpl9
    have hwA := TwL.gr (Gr.of SA) _ _ hw9
    refine ⟨_, rfl, aL, _, kd, _, rfl, rfl, SqL.of gL, hat, pl, rs, _, rfl, rfl, hplA, small1000 (by omega), ?_⟩
    have gK : Gr HA (upd HA pl (.lst (rs ++ [.ref a]))) := Gr.keep (m := pl) Keep.upd ⟨_, hplA⟩ ⟨_, upd_same⟩
    have na : a ≠ pl := ne_of haA hplA (by intro z; cases z)
    have SAs := S9.keep SA
    refine ⟨_, _, _, _, _, es ++ [e], rfl, fun b o e hb => ?_, S.updn hplH SAs, ?_, upd_same, ?_, ?_, fun e2 h2 => ?_⟩
    · have hb2 : b ≠ pl := fun z => by rw [z, hplH] at e; cases e
      rw [upd_ne hb2]
      exact SA _ _ (k69 _ _ (kH _ _ e hb) hb)
    · rw [upd_ne (Ne.symm nplpn)]
      exact SA _ _ hpn9
    · rw [List.map_append]
      refine TwL.app (TwL.gr gK _ _ hwA) (.cons ?_ .nil)
      refine .tup (vs := e.map V.str) (by rw [upd_ne na]; exact haA) (TwL.txs _ fun s hs => Nat.le_trans (nmS_len (he8 s hs)) (by decide)) ?_
      rw [List.length_map]
      omega
    · rw [List.length_append, hle]
      rfl
    · rcases List.mem_append.mp h2 with h2 | h2
      · exact hall e2 h2
      · rw [List.mem_singleton] at h2
        rw [h2]
        exact ⟨he3, he8⟩
  · obtain ⟨x3, x4, x5, x6, rs, es, rfl, kH, S6, hpn6, hpl6, hw6, hle, hall⟩ := pv
    exact ⟨_, rfl, q pl H' rs es hplH kH S6 hpl6 hw6 (by omega) hall⟩
end
end CA
namespace CA
open PySem L2
def spLaw (K : PySem.W.Frag) : Sp := fun vs H Q _ => ∃ (a : Addr) (ns : List Int), vs = [.ref a] ∧ SqL K H a (ns.map V.int) ∧ ns.length ≤ 63 ∧ ∀ H', Q (.bl true) H'
structure TxtL (K : PySem.W.Frag) (mg : Str → Option Value) (fs fd ff fp fu ft fm : Addr) : Prop where
  g__law_start : mg "_law_start" = some (.ref fs)
  k__law_start : PySem.W.keepIn K (.ref fs) = true
  g__law_drawn_events : mg "_law_drawn_events" = some (.ref fd)
  k__law_drawn_events : PySem.W.keepIn K (.ref fd) = true
  g_format_events : mg "format_events" = some (.ref ff)
  k_format_events : PySem.W.keepIn K (.ref ff) = true
  g_parse_events : mg "parse_events" = some (.ref fp)
  k_parse_events : PySem.W.keepIn K (.ref fp) = true
  g__law_due : mg "_law_due" = some (.ref fu)
  k__law_due : PySem.W.keepIn K (.ref fu) = true
  g__law_take : mg "_law_take" = some (.ref ft)
  k__law_take : PySem.W.keepIn K (.ref ft) = true
  range : mg "range" = none
theorem strOk_nm {s : Str} (h : nmS s = true) : PyData.strOk s = true := by
  have h : (_ && _ && _) = true := h
  simp only [Bool.and_eq_true] at h
  show s.cps.all (· < 0x110000) = true
  rw [Array.all_eq_true']
  intro c hc
  have z := List.all_eq_true.mp h.2 (okSign c) (List.mem_map.mpr ⟨c, Array.mem_toList_iff.mpr hc, rfl⟩)
  have z : okSign c = true := z
  unfold okSign at z
  simp only [Bool.and_eq_true, Bool.not_eq_true', decide_eq_false_iff_not] at z
  have e2 : (Str.ofString "z").cps.toList = [122] := by decide +kernel
  rw [e2] at z
  refine decide_eq_true (Nat.lt_of_not_le fun q => z.2 ?_)
  rw [List.cons_lt_cons_iff]
  exact .inl (by omega)
/-! ### events as data -/
def evP (e : List Str) : PyData := .tuple (e.map PyData.str)
theorem dp_strs {K : PySem.W.Frag} {H : Hp} : ∀ e : List Str, DpAll K H (e.map V.str) (e.map PyData.str)
  | [] => .nil
  | x :: e => .cons (.str x) (dp_strs e)
theorem dp_evs {K : PySem.W.Frag} {H : Hp} : ∀ {rs : List V} {es : List (List Str)}, TwL H rs (es.map evT) → DpAll K H rs (es.map evP)
  | _, [], .nil => .nil
  | _, e :: es, .cons w l => by
    cases w with
    | @tup a us _ ha hus _ =>
      refine .cons (.tup (xs := us) (SqT.of ha) ?_) (dp_evs l)
      rw [hus.to_txs]
      exact dp_strs e
theorem lay_strs : ∀ e : List Str, (∀ s ∈ e, nmS s = true) → PyData.canLayAll0 (e.map PyData.str) = true
  | [], _ => by simp [PyData.canLayAll0]
  | x :: e, h => by
    rw [List.map_cons, PyData.canLayAll0, lay_strs e fun s hs => h s (List.mem_cons_of_mem _ hs), PyData.canLay0, strOk_nm (h x (List.mem_cons_self ..))]
    rfl
theorem depth_strs : ∀ e : List Str, PyData.depthAll (e.map PyData.str) = 0
  | [] => by simp [PyData.depthAll]
  | x :: e => by
    rw [List.map_cons, PyData.depthAll, depth_strs e, PyData.depth]
    rfl
theorem lay_evs : ∀ es : List (List Str), (∀ e ∈ es, ∀ s ∈ e, nmS s = true) → PyData.canLayAll0 (es.map evP) = true
  | [], _ => by simp [PyData.canLayAll0]
  | e :: es, h => by
    rw [List.map_cons, PyData.canLayAll0, lay_evs es fun s hs => h s (List.mem_cons_of_mem _ hs)]
    unfold evP
    rw [PyData.canLay0, lay_strs e (h e (List.mem_cons_self ..))]
    rfl
theorem depth_evs : ∀ es : List (List Str), PyData.depthAll (es.map evP) ≤ 1
  | [] => by simp [PyData.depthAll]
  | e :: es => by
    rw [List.map_cons, PyData.depthAll]
    have h := depth_evs es
    unfold evP at h ⊢
    rw [PyData.depth, depth_strs e]
    omega
theorem shaped_evs {es : List (List Str)} (h : ∀ e ∈ es, ∀ s ∈ e, nmS s = true) : SeqAt.shaped (.list (es.map evP)) = true := by
  unfold SeqAt.shaped
  rw [PyData.canLay0, lay_evs es h, PyData.depth]
  have := depth_evs es
  rw [Bool.true_and]
  exact decide_eq_true (by omega)
theorem cut_map {α : Type} (ls : List α) (f : α → V) (lo hi : Option Int) : ∃ ss : List α, cutV (ls.map f) lo hi = ss.map f ∧ (∀ s ∈ ss, s ∈ ls) ∧ ss.length ≤ ls.length := by
  unfold cutV
  refine ⟨(ls.drop (HT.sIx (ls.map f).length 0 lo)).take (HT.sIx (ls.map f).length (ls.map f).length hi - HT.sIx (ls.map f).length 0 lo), ?_, fun s h => List.mem_of_mem_drop (List.mem_of_mem_take h), ?_⟩
  · rw [List.map_take, List.map_drop]
  · rw [List.length_take, List.length_drop]
    omega
theorem lines_len {ss : List Str} {m b : Nat} (hm : ss.length ≤ m) (hb : ∀ s ∈ ss, s.length ≤ b) : (linesT ss).length ≤ m * (b + 1) := by
  have h1 := join_len ("" : Str) (ss.map fun s => s ++ nlS)
  have h2 := sum_le (l := (ss.map fun s => s ++ nlS).map (·.length)) (b := b + 1) fun c hc => by
    obtain ⟨s, hs, rfl⟩ := List.mem_map.mp hc
    obtain ⟨u, hu, rfl⟩ := List.mem_map.mp hs
    rw [app_len, nl_len]
    have := hb u hu
    omega
  rw [List.length_map, List.length_map] at h2
  have h3 : ("" : Str).length = 0 := rfl
  rw [h3, Nat.mul_zero, Nat.add_zero] at h1
  have h4 : ss.length * (b + 1) ≤ m * (b + 1) := Nat.mul_le_mul_right _ hm
  unfold linesT
  omega
theorem line_len2 {e : List Str} (h : e.length ≤ 3) (h2 : ∀ s ∈ e, nmS s = true) : (lineT e).length ≤ 27 := by
  have h1 := join_len spS e
  have h3 := sum_le (l := e.map (·.length)) (b := 8) fun c hc => by
    obtain ⟨s, hs, rfl⟩ := List.mem_map.mp hc
    exact nmS_len (h2 s hs)
  rw [List.length_map] at h3
  rw [sp_len] at h1
  unfold lineT
  omega
theorem gN_eq (i : Nat) (v : V) (σ : L2.St) (H : Hp) (Q : L2.St → Hp → Prop) : gName i v σ H Q = Q (σ.set i (some v)) H := rfl
theorem cutS_le (z : Str) (lo hi : Option Int) : (cutS z lo hi).length ≤ z.length := by
  unfold cutS
  show ((z.cps.toList.drop _).take _).toArray.size ≤ z.cps.size
  rw [List.size_toArray, List.length_take, List.length_drop, Array.length_toList]
  omega
theorem due_len {t : Str} {es : List (List Str)} (ht : t.length ≤ 900) (h : dueS t = .inr es) : es.length ≤ 901 := by
  unfold dueS at h
  split at h
  · injection h with h
    rw [← h]
    decide
  · split at h
    · unfold resOf at h
      split at h
      · cases h
      · injection h with h
        rw [← h, List.length_map]
        have h1 := split_many (x := cutNl t) (y := nlS) (by rw [nl_len]; exact Nat.le_refl 1)
        have h2 := cut_len t
        omega
    · cases h
theorem ok_evs (es : List (List Str)) : okT 3 (.tup (es.map evT)) := by
  intro t ht
  obtain ⟨e, _, rfl⟩ := List.mem_map.mp ht
  intro u hu
  obtain ⟨s, _, rfl⟩ := List.mem_map.mp hu
  trivial
def forms1 : List Str := ["tick a", "press", "press a b", "hand a", "hand a b c", "", " tick", "tick ", "Tick", "press a1"]
def forms2 : List Str := ["hand  a", "hand a abcdefghi", "hand a abcdefgh", "press A", "tick", "press tick"]
theorem forms_len : ∀ s ∈ forms1 ++ forms2, s.length ≤ 30 := by decide +kernel
/-- the suite's reading -/
def t_suite (K : PySem.W.Frag) (CE CC : Addr) (a : Addr) (cls : Value) (d : Option Addr) : TS :=
  tAsg (tIf (tB (tCB (rIsX K CE a cls d) (tCons (tVar 15) (tCons (tC (.ref CC)) tNil)))) (tXf a cls d CE "line" (tVar 15)) (tC (.str "none"))) (gName 14)
section
variable {P : Program} {w : World} {K : PySem.W.Frag} {mg : Str → Option Value} {base : Heap} {CE CC fI fj fl fn aE fs fdr ff fp fu ft fm : Addr}
abbrev s_law : Stmt := topS 22
abbrev lawN : List Str := ["_law_script", "_law_state", "_law_events", "_law_lines", "_law_text", "_law_handed", "_law_turn", "_law_kind", "_law_at", "_law_forms", "_law_form", "_law_other", "_law_spoiled", "_law_due_here", "_law_found", "e", "_law_event", "_law_line"]
theorem sc_law : FnScope ["_law_script", "_law_state", "_law_events", "_law_lines", "_law_text", "_law_handed", "_law_turn", "_law_kind", "_law_at", "_law_forms", "_law_form", "_law_other", "_law_spoiled", "_law_due_here", "_law_found", "e", "_law_event", "_law_line"] ["_law_script"] (defScope s_law) := ⟨rfl, rfl, rfl, by decide +kernel, rfl, by decide +kernel, by decide +kernel⟩
theorem ok_law {f : Addr} {fd fds fdd fdf fdp fdu fdt fdm : FuncData} (F : Fun K "law" "law" s_law f fd) (B : Blt mg) (T : TxtV K mg CE CC fI fj fl fn aE) (TL : TxtL K mg fs fdr ff fp fu ft fm) (TS' : TxtSm K mg fm)
    (Gs : FnOk P w K mg base CX0 1 fs fds ["_law_script"] (spStart K)) (bs : Binds K fds ["_law_script"] [])
    (Gd : FnOk P w K mg base CX0 5 fdr fdd ["_law_state"] spDrawn) (bd : Binds K fdd ["_law_state"] [])
    (Gf : FnOk P w K mg base CX0 2 ff fdf ["events"] spFormat) (bf : Binds K fdf ["events"] [])
    (Gp : FnOk P w K mg base (L2.CX P w) 4 fp fdp ["text"] (spParse CE)) (bp : Binds K fdp ["text"] [])
    (Gu : FnOk P w K mg base CX0 3 fu fdu ["_law_text"] spDue) (bu : Binds K fdu ["_law_text"] [])
    (Gt : FnOk P w K mg base CX0 2 ft fdt ["_law_state", "_law_size"] spTake) (bt : Binds K fdt ["_law_state", "_law_size"] [])
    (Gm : FnOk P w K mg base CX0 4 fm fdm ["_law_told", "_law_due_here"] (spSameT 3)) (bm : Binds K fdm ["_law_told", "_law_due_here"] []) :
    FnOk P w K mg base CX0 6 f fd ["_law_script"] (spLaw K) := by
  refine F.ok sc_law (fun vs H Q E h => ?_) (fun cdv A outer s H vs Q E hr h => ?_)
  · obtain ⟨a, ns, rfl, _⟩ := h
    rfl
  obtain ⟨a, ns, rfl, hS, h63, q⟩ := h
  have hu := hu_of hr
  have hr1 : Room 1 _ := hr.mono (by decide)
  have hr2 : Room 2 _ := hr.mono (by decide)
  have hr3 : Room 3 _ := hr.mono (by decide)
  have hr4 : Room 4 _ := hr.mono (by decide)
  refine ⟨_, (pss_cons (ps_set (i := 1) sc_law.nd rfl (Or.inl rfl) (pe_call Gs hr1 rfl TL.g__law_start TL.k__law_start bs .nil pass0 (pa_cons (pv 0) pa_nil)))
  (pss_cons (ps_set (i := 2) sc_law.nd rfl (Or.inl rfl) (pe_call Gd hr rfl TL.g__law_drawn_events TL.k__law_drawn_events bd .nil pass0 (pa_cons (pv 1) pa_nil)))
  (pss_cons (ps_setLc (i := 3) (own := [("_law_event", 16)]) (g := gName 16) (tt := tYes) (te := tJn K (tC (.str spS)) (tCB (fun xs H Q => ∃ p ys, xs = [.ref p] ∧ (SqL K H p ys ∨ SqT K H p ys) ∧ ∀ l, H l = none → Q (.ref l) (upd H l (.lst ys))) (tCons (tVar 16) tNil))) rfl sc_law.nd rfl rfl rfl (pi_list (pv 2)) (blkOk_by (own := [("_law_event", 16)]) (N := lawN) (sc := defScope s_law) (by decide +kernel))
    (fun s H C cl fp => pg_name (i := 16) sc_law.nd rfl (Or.inl rfl)) (fun s H C cl fp => pts_nil) (fun s H C cl fp => by exact pe_jn pe_str (pe_callTy call_list_of (by rfl) B.list (by decide +kernel) (pa_cons (pv 16) pa_nil))))
  (pss_cons (ps_set (i := 4) sc_law.nd rfl (Or.inl rfl) (pe_jn pe_str (pe_lc (own := [("_law_line", 17)]) (g := gName 17) (tt := tYes) rfl sc_law.nd (pi_list (pv 3)) (blkOk_by (own := [("_law_line", 17)]) (N := lawN) (sc := defScope s_law) (by decide +kernel))
    (fun s H C cl fp => pg_name (i := 17) sc_law.nd rfl (Or.inl rfl)) (fun s H C cl fp => pts_nil) (fun s H C cl fp => pe_op op_add_str (pv 17) pe_str))))
  (pss_cons (ps_set (i := 5) sc_law.nd rfl (Or.inl rfl) (pe_callTy call_list_of (by rfl) B.list (by decide +kernel) (pa_cons (pv 2) pa_nil)))
  (pss_cons (ps_if (PW.pt (pw_or (pt_not (pt_val (pe_call Gm hr4 rfl TS'.g__law_same TS'.k__law_same bm .nil pass0 (pa_cons (pe_call Gf hr2 rfl TL.g_format_events TL.k_format_events bf .nil pass0 (pa_cons (pv 5) pa_nil)) (pa_cons (pv 4) pa_nil))))) (pw_or1 (pt_cmpR (op_neD hr.units) (pv 5) (pv 2) (nomark _)))))
    (pss_one (ps_ret pe_bl))
    pss_nil)
  (pss_cons (ps_for PassesOwn.never rfl (pi_range1 rfl TL.range (pa_cons pe_int pa_nil)) (pg_name (i := 6) sc_law.nd rfl (Or.inl rfl))
    (pss_cons (ps_set (i := 7) sc_law.nd rfl (Or.inl rfl) (pe_call Gt hr2 rfl TL.g__law_take TL.k__law_take bt .nil pass0 (pa_cons (pv 1) (pa_cons pe_int pa_nil))))
      (pss_cons (ps_set (i := 8) sc_law.nd rfl (Or.inl rfl) (pe_call Gt hr2 rfl TL.g__law_take TL.k__law_take bt .nil pass0 (pa_cons (pv 1) (pa_cons (pe_op op_add (pe_callB call_len_seq (by rfl) B.len (by decide +kernel) (pa_cons (pv 3) pa_nil)) pe_int) pa_nil))))
      (pss_cons (ps_set (i := 9) sc_law.nd rfl (Or.inl rfl) (pe_lst (pa_cons pe_str (pa_cons pe_str (pa_cons pe_str (pa_cons pe_str (pa_cons pe_str (pa_cons pe_str (pa_cons pe_str (pa_cons pe_str (pa_cons pe_str (pa_cons pe_str pa_nil))))))))))))
      (pss_cons (ps_set (i := 9) sc_law.nd rfl (Or.inl rfl) (pe_op op_cat (pv 9) (pe_lst (pa_cons pe_str (pa_cons pe_str (pa_cons pe_str (pa_cons pe_str (pa_cons pe_str (pa_cons pe_str pa_nil)))))))))
      (pss_cons (ps_set (i := 10) sc_law.nd rfl (Or.inl rfl) (pe_ix ix_list (pv 9) (pe_call Gt hr2 rfl TL.g__law_take TL.k__law_take bt .nil pass0 (pa_cons (pv 1) (pa_cons (pe_callB call_len_seq (by rfl) B.len (by decide +kernel) (pa_cons (pv 9) pa_nil)) pa_nil))) (fun _ _ => rfl)))
      (pss_cons (ps_set (i := 11) sc_law.nd rfl (Or.inl rfl) (pe_ifExp (pt_cmpR op_gt (pv 7) pe_int (nomark _)) (pe_op op_cat (pe_op op_cat (pe_slice sl_list (pv 3) po_none (po_some (pv 8))) (pe_lst (pa_cons (pv 10) pa_nil))) (pe_slice sl_list (pv 3) (po_some (pe_op op_add (pv 8) (pe_op op_fdiv (pv 7) pe_int))) po_none)) (pv 3)))
      (pss_cons (ps_set (i := 12) sc_law.nd rfl (Or.inl rfl) (pe_jn pe_str (pe_lc (own := [("_law_line", 17)]) (g := gName 17) (tt := tYes) rfl sc_law.nd (pi_list (pv 11)) (blkOk_by (own := [("_law_line", 17)]) (N := lawN) (sc := defScope s_law) (by decide +kernel))
        (fun s H C cl fp => pg_name (i := 17) sc_law.nd rfl (Or.inl rfl)) (fun s H C cl fp => pts_nil) (fun s H C cl fp => pe_op op_add_str (pv 17) pe_str))))
      (pss_cons (ps_if (PW.pt (pw_and (pt_cmpR op_eq (pv 7) pe_int (nomark _)) (pw_and1 (pt_cmpR op_gt (pe_callB call_len_str (by rfl) B.len (by decide +kernel) (pa_cons (pv 12) pa_nil)) pe_int (nomark _)))))
        (pss_one (ps_set (i := 12) sc_law.nd rfl (Or.inl rfl) (pe_slice sl_str (pv 12) po_none (po_some (pe_op op_sub (pe_callB call_len_str (by rfl) B.len (by decide +kernel) (pa_cons (pv 12) pa_nil)) pe_int)))))
        pss_nil)
      (pss_cons (ps_set (i := 13) sc_law.nd rfl (Or.inl rfl) (pe_call Gu hr3 rfl TL.g__law_due TL.k__law_due bu .nil pass0 (pa_cons (pv 12) pa_nil)))
      (pss_cons (ps_set (i := 14) sc_law.nd rfl (Or.inl rfl) pe_non)
      (pss_cons (ps_try_as (i := 15) (tb := fun W => tAsg (tCallS (spParse CE) (WE W) (tCons (tVar 12) tNil)) (gName 14)) (ts := t_suite K CE CC) (Wout := fun _ _ _ _ => False) rfl rfl sc_law.nd rfl rfl ⟨rfl, by decide, Or.inl T.gE⟩ takes0
          (fun W pn xe tk _ => pss_one (ps_set (i := 14) sc_law.nd rfl (Or.inl rfl) (by exact (pe_callS Gp hr4 rfl TL.g_parse_events TL.k_parse_events bp (fun σ => passAt tk σ) (by exact (pa_cons (pv 12) pa_nil))))))
          (fun a oe cls d pn hz hf => pss_one (ps_set (i := 14) sc_law.nd rfl (Or.inl rfl) (pe_ifExp (pt_val (by exact pe_callB (call_isX T.xd hz hf) (by rfl) B.isinstance (by decide +kernel) (pa_cons (pv 15) (pa_cons (pe_gr T.gC) pa_nil)))) (by exact pe_xf T.xf T.noP hz hf (pv 15)) (by exact pe_str)))))
      (pss_one (ps_if (pt_val (pe_callB call_isi (by rfl) B.isinstance (by decide +kernel) (pa_cons (pv 13) (pa_cons (pe_bltn (v := .ty "list") (by rfl) B.list (by decide +kernel) rfl) pa_nil))))
        (pss_one (ps_if (PW.pt (pw_or (pt_not (pt_val (pe_callB call_isi (by rfl) B.isinstance (by decide +kernel) (pa_cons (pv 14) (pa_cons (pe_bltn (v := .ty "list") (by rfl) B.list (by decide +kernel) rfl) pa_nil))))) (pw_or1 (pt_not (pt_val (pe_call Gm hr4 rfl TS'.g__law_same TS'.k__law_same bm .nil pass0 (pa_cons (pe_callTy call_tuple_of (by rfl) B.tuple (by decide +kernel) (pa_cons (pv 14) pa_nil)) (pa_cons (pe_callTy call_tuple_of (by rfl) B.tuple (by decide +kernel) (pa_cons (pv 13) pa_nil)) pa_nil))))))))
            (pss_one (ps_ret pe_bl))
            pss_nil))
        (pss_one (ps_if (pt_not (pt_val (pe_call Gm hr4 rfl TS'.g__law_same TS'.k__law_same bm .nil pass0 (pa_cons (pv 14) (pa_cons (pv 13) pa_nil)))))
            (pss_one (ps_ret pe_bl))
            pss_nil))))))))))))))))
  (pss_one (ps_ret pe_bl))))))))), ?_⟩
  refine ⟨_, rfl, a, ns, rfl, hS, h63, fun st scr H1 hst s1 S1 => ?_⟩
  refine ⟨_, rfl, st, scr, rfl, S1, fun pe H2 rs es hpe k2 S2 h2 hw2 hle hes => ?_⟩
  have npe : pe ≠ st := fun z => by
    obtain ⟨L, hL⟩ := S1.isL
    rw [z, hL] at hpe
    cases hpe
  have hrl : rs.length = es.length := by rw [hw2.len, List.length_map]
  show gName 2 _ _ _ _
  rw [gN_eq]
  dsimp only [tSeq, tAsg]
  refine lcr_list (K := K) (xs := rs) (fun i v _ => ∀ e, es[i]? = some e → v = .str (lineT e)) (fun _ _ _ _ h _ => h) (fun R h => ⟨_, rfl, h pe H2 (fun _ _ e => e) h2⟩) (fun _ => rfl) (by omega) (fun i x H' Q' hx sm k => ?_) (fun pls H3 rs2 s3 hpls hr2 hlr hall => ?_)
  · obtain ⟨t, ht, wx⟩ := hw2.get hx
    rw [List.getElem?_map] at ht
    cases ee : es[i]? with
    | none => rw [ee] at ht; cases ht
    | some e =>
      rw [ee] at ht
      injection ht with ht
      subst ht
      cases wx with
      | @tup b us _ hb hus hbd =>
      have eu := hus.to_txs
      obtain ⟨h3, h8⟩ := hes e (List.mem_of_getElem? ee)
      refine ⟨⟨_, rfl⟩, _, rfl, b, us, rfl, .inr (SqT.of (sm _ _ hb)), fun l hl => ?_⟩
      refine ⟨spS, l, e, rfl, rfl, .inl (SqL.of (by rw [upd_same, eu])), ?_, ?_⟩
      · exact join_room (m := 10) (b := 90) (by omega) (fun s hs => Nat.le_trans (nmS_len (h8 s hs)) (by decide)) (by rw [sp_len]; decide) (by decide)
      · exact k _ _ (same_new hl _) fun e2 z => by rw [ee] at z; injection z with z; rw [← z]; rfl
  have er2 : rs2 = (es.map lineT).map V.str := by
    rw [List.map_map]
    exact rs_eq (by omega) fun i v hv e ee => hall i v hv e ee
  rw [er2] at hr2
  have hll : ∀ s ∈ es.map lineT, s.length ≤ 27 := fun s h => by
    obtain ⟨e, he, rfl⟩ := List.mem_map.mp h
    exact line_len2 (hes e he).1 (hes e he).2
  have hln : (es.map lineT).length ≤ 6 := by rw [List.length_map]; exact hle
  show gName 3 _ _ _ _
  rw [gN_eq]
  dsimp only [tSeq, tAsg]
  refine join_run (K := K) (j := 17) (vs := [17]) (ss := es.map lineT) (fun R h => ⟨_, rfl, h pls H3 (fun _ _ e => e) hr2⟩) (fun _ => rfl) (fun _ => rfl) (by omega) (fun s h => Nat.le_trans (hll s h) (by decide)) (fun H4 s4 => ?_)
  have S24 : Same H2 H4 := fun b o e => s4 _ _ (s3 _ _ e)
  have h44 := S24 _ _ h2
  refine ⟨_, rfl, pe, rs, rfl, .inl (SqL.of h44), fun ph hph => ?_⟩
  have s5 := same_new hph (.lst rs)
  have h5 := s5 _ _ h44
  have hph5 := upd_same (H := H4) (a := ph) (o := .lst rs)
  have S25 : Same H2 (upd H4 ph (.lst rs)) := fun b o e => s5 _ _ (S24 _ _ e)
  have hr5 := s5 _ _ (s4 _ _ hr2)
  generalize upd H4 ph (.lst rs) = H5 at s5 h5 hph5 S25 hr5
  have hw5 := TwL.gr (Gr.of S25) _ _ hw2
  have hlt : (linesT (es.map lineT)).length ≤ 1000 := Nat.le_trans (lines_len hln hll) (by decide)
  refine ⟨_, rfl, ph, rs, es, rfl, hph5, hw5, by omega, fun e he => ⟨by have := (hes e he).1; omega, fun s hs => Nat.le_trans (nmS_len ((hes e he).2 s hs)) (by decide)⟩, fun H6 s6 => ?_⟩
  refine ⟨_, rfl, _, _, .at (.str (linesT (es.map lineT))), rfl, .at (.flat rfl hlt), .at (.flat rfl hlt), trivial, fun H7 s7 => ⟨_, rfl, iteF ?_⟩⟩
  have S57 : Same H5 H7 := fun b o e => s7 _ _ (s6 _ _ e)
  have hw7 := TwL.gr (Gr.of S57) _ _ hw5
  have hsh := shaped_evs (es := es) fun e he => (hes e he).2
  refine ⟨_, rfl, _, rfl, .list (es.map evP), .list (es.map evP), .lst (SqL.of (S57 _ _ hph5)) (dp_evs hw7), .lst (SqL.of (S57 _ _ h5)) (dp_evs hw7), hsh, hsh, _, rfl, ?_⟩
  rw [SeqAt.eqv_refl _ (SeqAt.canLay_of_shaped hsh)]
  refine iteF ?_
  have S27 : Same H2 H7 := fun b o e => S57 _ _ (S25 _ _ e)
  have hr7 := S57 _ _ hr5
  have S7 := S2.keep S27
  have npls : pls ≠ st := fun z => by
    obtain ⟨L, hL⟩ := S2.isL
    rw [z, hL] at hpls
    cases hpls
  generalize linesT (es.map lineT) = tx0
  generalize es.map lineT = ls at hr7 hll hln
  clear hw7 hw5 S25 S57 hph5 h5 s5 h44 S24 hlt
  refine ⟨8, rfl, by decide, by decide, ?_⟩
  refine for_range (lo := 0) (n := 8) (fun i σ H' => ∃ x6 x7 x8 x9 x10 x11 x12 x13 x14, σ = [some (.ref a), some (.ref st), some (.ref pe), some (.ref pls), some (.str tx0), some (.ref ph), x6, x7, x8, x9, x10, x11, x12, x13, x14, none, none, none] ∧ StAt H' st scr ∧ H' pls = some (.lst (ls.map V.str)))
    ⟨none, none, none, none, none, none, none, none, none, rfl, S7, hr7⟩ (fun i σ H' hi pv => ?_) (fun σ H' pv => ?_)
  · obtain ⟨x6, x7, x8, x9, x10, x11, x12, x13, x14, rfl, S8, hr8⟩ := pv
    refine ⟨_, rfl, st, scr, 7, rfl, S8, by decide, by decide, fun kd H9 kd0 kd1 k9 S9 => ?_⟩
    have hr9 := k9.one hr8 npls
    have hlv : (ls.map V.str).length = ls.length := List.length_map _
    refine ⟨_, rfl, _, rfl, pls, _, rfl, .inl (SqL.of hr9), _, _, rfl, rfl, st, scr, _, rfl, S9, by omega, by omega, fun at' H10 at0 at1 k10 S10 => ?_⟩
    have hr10 := k10.one hr9 npls
    refine ⟨(by decide : (10 : Nat) ≤ sizeLine), fun f1 hf1 => ?_⟩
    have t1 := same_new hf1 (.lst [V.str "tick a", V.str "press", V.str "press a b", V.str "hand a", V.str "hand a b c", V.str "", V.str " tick", V.str "tick ", V.str "Tick", V.str "press a1"])
    refine ⟨_, rfl, (by decide : (6 : Nat) ≤ sizeLine), fun f2 hf2 => ?_⟩
    have t2 := same_new hf2 (.lst [V.str "hand  a", V.str "hand a abcdefghi", V.str "hand a abcdefgh", V.str "press A", V.str "tick", V.str "press tick"])
    refine ⟨f1, f2, [V.str "tick a", V.str "press", V.str "press a b", V.str "hand a", V.str "hand a b c", V.str "", V.str " tick", V.str "tick ", V.str "Tick", V.str "press a1"], [V.str "hand  a", V.str "hand a abcdefghi", V.str "hand a abcdefgh", V.str "press A", V.str "tick", V.str "press tick"], rfl, rfl, t2 _ _ upd_same, upd_same, by decide, fun f3 hf3 => ?_⟩
    have t3 := same_new hf3 (.lst ([V.str "tick a", V.str "press", V.str "press a b", V.str "hand a", V.str "hand a b c", V.str "", V.str " tick", V.str "tick ", V.str "Tick", V.str "press a1"] ++ [V.str "hand  a", V.str "hand a abcdefghi", V.str "hand a abcdefgh", V.str "press A", V.str "tick", V.str "press tick"]))
    have T3 : Same H10 _ := fun b o e => t3 _ _ (t2 _ _ (t1 _ _ e))
    have g3 := upd_same (H := upd (upd H10 f1 (.lst [V.str "tick a", V.str "press", V.str "press a b", V.str "hand a", V.str "hand a b c", V.str "", V.str " tick", V.str "tick ", V.str "Tick", V.str "press a1"])) f2 (.lst [V.str "hand  a", V.str "hand a abcdefghi", V.str "hand a abcdefgh", V.str "press A", V.str "tick", V.str "press tick"])) (a := f3) (o := .lst ([V.str "tick a", V.str "press", V.str "press a b", V.str "hand a", V.str "hand a b c", V.str "", V.str " tick", V.str "tick ", V.str "Tick", V.str "press a1"] ++ [V.str "hand  a", V.str "hand a abcdefghi", V.str "hand a abcdefgh", V.str "press A", V.str "tick", V.str "press tick"]))
    have nf3 : f3 ≠ st := fun z => by
      obtain ⟨L, hL⟩ := (S10.keep fun b o e => t2 _ _ (t1 _ _ e)).isL
      have z1 := hf3
      rw [z] at z1
      exact absurd (hL.symm.trans z1) (by intro z2; cases z2)
    generalize upd (upd (upd H10 f1 (.lst [V.str "tick a", V.str "press", V.str "press a b", V.str "hand a", V.str "hand a b c", V.str "", V.str " tick", V.str "tick ", V.str "Tick", V.str "press a1"])) f2 (.lst [V.str "hand  a", V.str "hand a abcdefghi", V.str "hand a abcdefgh", V.str "press A", V.str "tick", V.str "press tick"])) f3 (.lst ([V.str "tick a", V.str "press", V.str "press a b", V.str "hand a", V.str "hand a b c", V.str "", V.str " tick", V.str "tick ", V.str "Tick", V.str "press a1"] ++ [V.str "hand  a", V.str "hand a abcdefghi", V.str "hand a abcdefgh", V.str "press A", V.str "tick", V.str "press tick"])) = H11 at T3 g3
    have S11 := S10.keep T3
    have hr11 := T3 _ _ hr10
    refine ⟨_, rfl, _, rfl, _, rfl, f3, _, rfl, .inl (SqL.of g3), st, scr, 16, rfl, S11, by decide, by decide, fun r H12 r0 r1 k12 S12 => ?_⟩
    obtain ⟨v, hv, hm⟩ := at_in (xs := [V.str "tick a", V.str "press", V.str "press a b", V.str "hand a", V.str "hand a b c", V.str "", V.str " tick", V.str "tick ", V.str "Tick", V.str "press a1"] ++ [V.str "hand  a", V.str "hand a abcdefghi", V.str "hand a abcdefgh", V.str "press A", V.str "tick", V.str "press tick"]) r0 (by show r < 16; exact r1)
    have hm : v ∈ (forms1 ++ forms2).map V.str := hm
    obtain ⟨fo, hfo, rfl⟩ := List.mem_map.mp hm
    have hfl := forms_len fo hfo
    have hr12 := k12.one hr11 npls
    refine ⟨f3, _, r, _, rfl, rfl, SqL.of (k12.one g3 nf3), hv, ?_⟩
    show gName 10 _ _ _ _
    rw [gN_eq]
    dsimp only [tSeq, tAsg]
    refine (id (α := ∀ Q : VK, (∀ (po : Addr) (H' : Hp) (ss : List Str), Same H12 H' → H' po = some (.lst (ss.map V.str)) → ss.length ≤ 20 → (∀ s ∈ ss, s.length ≤ 30) → Q (.ref po) H') → tIf _ _ _ _ H12 Q) (fun Q k => ?_)) _ (fun po H13 ss s13 hpo hsl hss => ?_)
    · refine ⟨_, rfl, _, _, rfl, rfl, _, rfl, ite2 (fun c => ?_) (fun c => ?_)⟩
      · obtain ⟨s1', e1, m1, l1⟩ := cut_map ls V.str none (some at')
        obtain ⟨s2', e2, m2, l2⟩ := cut_map ls V.str (some (at' + kd / 3)) none
        refine ⟨_, rfl, _, rfl, _, rfl, pls, _, rfl, SqL.of hr12, fun p1 hp1 => ?_⟩
        rw [e1]
        have u1 := same_new hp1 (.lst (s1'.map V.str))
        refine ⟨_, rfl, (by decide : (1 : Nat) ≤ sizeLine), fun p2 hp2 => ?_⟩
        have u2 := same_new hp2 (.lst [V.str fo])
        refine ⟨p1, p2, _, _, rfl, rfl, u2 _ _ upd_same, upd_same, ?_, fun p3 hp3 => ?_⟩
        · rw [List.length_map, List.length_cons]
          exact Nat.le_trans (show s1'.length + 1 ≤ 20 by omega) (by decide)
        have u3 := same_new hp3 (.lst (s1'.map V.str ++ [V.str fo]))
        have U3 : Same H12 _ := fun b o e => u3 _ _ (u2 _ _ (u1 _ _ e))
        have w3 := upd_same (H := upd (upd H12 p1 (.lst (s1'.map V.str))) p2 (.lst [V.str fo])) (a := p3) (o := .lst (s1'.map V.str ++ [V.str fo]))
        generalize upd (upd (upd H12 p1 (.lst (s1'.map V.str))) p2 (.lst [V.str fo])) p3 (.lst (s1'.map V.str ++ [V.str fo])) = HB at U3 w3
        refine ⟨_, rfl, _, rfl, _, rfl, _, _, rfl, rfl, ⟨by decide, by decide⟩, _, _, rfl, rfl, _, rfl, pls, _, rfl, SqL.of (U3 _ _ hr12), fun p4 hp4 => ?_⟩
        rw [e2]
        have u4 := same_new hp4 (.lst (s2'.map V.str))
        refine ⟨p3, p4, _, _, rfl, rfl, u4 _ _ w3, upd_same, ?_, fun p5 hp5 => ?_⟩
        · rw [List.length_append, List.length_map, List.length_map, List.length_cons]
          exact Nat.le_trans (show s1'.length + (0 + 1) + s2'.length ≤ 20 by omega) (by decide)
        refine k p5 _ (s1' ++ [fo] ++ s2') (fun b o e => same_new hp5 _ _ _ (u4 _ _ (U3 _ _ e))) ?_ ?_ fun s hs => ?_
        · rw [upd_same, List.map_append, List.map_append]
          rfl
        · rw [List.length_append, List.length_append]
          show s1'.length + 1 + s2'.length ≤ 20
          omega
        · rcases List.mem_append.mp hs with hs | hs
          · rcases List.mem_append.mp hs with hs | hs
            · have := hll s (m1 s hs)
              omega
            · rw [List.mem_singleton] at hs
              rw [hs]
              exact hfl
          · have := hll s (m2 s hs)
            omega
      · exact ⟨_, rfl, k pls H12 ls (fun _ _ e => e) hr12 (by omega) fun s hs => by have := hll s hs; omega⟩
    · have S13 := S12.keep s13
      have hr13 := s13 _ _ hr12
      show gName 11 _ _ _ _
      rw [gN_eq]
      dsimp only [tSeq, tAsg]
      refine join_run (K := K) (j := 17) (vs := [17]) (ss := ss) (fun R h => ⟨_, rfl, h po H13 (fun _ _ e => e) hpo⟩) (fun _ => rfl) (fun _ => rfl) (by omega) (fun s h => Nat.le_trans (hss s h) (by decide)) (fun H14 s14 => ?_)
      have hlt : (linesT ss).length ≤ 620 := lines_len hsl hss
      generalize linesT ss = t0 at hlt
      have S14 := S13.keep s14
      have hr14 := s14 _ _ hr13
      show gName 12 _ _ _ _
      rw [gN_eq]
      dsimp only [tSeq, tAsg]
      have hs0 : t0.length ≤ sizeLine := Nat.le_trans hlt (by decide)
      refine (id (α := ∀ D : Ends, (∀ t : Str, t.length ≤ 900 → D.nx [some (.ref a), some (.ref st), some (.ref pe), some (.ref pls), some (.str tx0), some (.ref ph), some (.int (0 + (i : Nat))), some (.int kd), some (.int at'), some (.ref f3), some (.str fo), some (.ref po), some (.str t), x13, x14, none, none, none] H14) → tIfS _ _ _ D _ H14) (fun D k => ?_)) _ (fun t ht => ?_)
      · have k0 := k t0 (by omega)
        refine ⟨_, rfl, rfl, _, rfl, ite2 (fun c => ?_) (fun c => ?_)⟩
        · refine ⟨_, rfl, t0, rfl, hs0, _, _, rfl, rfl, _, rfl, ite2 (fun c2 => ?_) (fun c2 => k0)⟩
          refine ⟨_, rfl, _, rfl, t0, rfl, hs0, _, _, rfl, rfl, _, rfl, t0, rfl, hs0, ?_⟩
          refine k _ (Nat.le_trans (cutS_le _ _ _) (by omega))
        · exact iteF k0
      · refine ⟨_, rfl, t, rfl, ht, fun es' e' pd H15 rd s15 hpd hwd => ?_, fun n e' H15 s15 => ?_⟩
        · refine ⟨_, rfl, t, rfl, ht, fun es2 e2 p2 H16 r2 s16 hp2 hw2 => ?_, fun n2 e2 => ?_⟩
          case refine_2 => rw [e'] at e2; cases e2
          rw [e'] at e2
          injection e2 with e2
          subst e2
          have hpd6 := s16 _ _ hpd
          have hwd6 := TwL.gr (Gr.of s16) _ _ hwd
          have hel := due_len ht e'
          refine ⟨_, rfl, _, _, _, _, _, rfl, .ty _, .base (.lst hpd6), kit_ty (r := true) (by decide +kernel), _, rfl, iteT ?_⟩
          refine ⟨_, rfl, _, _, _, _, _, rfl, .ty _, .base (.lst hp2), kit_ty (r := true) (by decide +kernel), _, rfl, iteF ?_⟩
          refine ⟨_, rfl, p2, _, rfl, .inl ⟨SqL.of hp2, fun q1 hq1 => ?_⟩⟩
          have v1 := same_new hq1 (.tup r2)
          refine ⟨_, rfl, pd, _, rfl, .inl ⟨SqL.of (v1 _ _ hpd6), fun q2 hq2 => ?_⟩⟩
          have v2 := same_new hq2 (.tup rd)
          have V2 : Same H16 _ := fun b o e => v2 _ _ (v1 _ _ e)
          refine ⟨_, _, .tup (es'.map evT), rfl, .tup (v2 _ _ upd_same) (TwL.gr (Gr.of V2) _ _ hw2) (by rw [List.length_map]; omega), .tup upd_same (TwL.gr (Gr.of V2) _ _ hwd6) (by rw [List.length_map]; omega), ok_evs es', fun H17 s17 => ⟨_, rfl, iteF ?_⟩⟩
          have S47 : Same H14 H17 := fun b o e => s17 _ _ (V2 _ _ (s16 _ _ (s15 _ _ e)))
          exact ⟨_, _, _, _, _, _, _, _, _, rfl, S14.keep S47, S47 _ _ hr14⟩
        · refine ⟨_, rfl, t, rfl, ht, fun es2 e2 => ?_, fun n2 e2 d H16 s16 hd => ?_⟩
          case refine_1 => rw [e'] at e2; cases e2
          rw [e'] at e2
          injection e2 with e2
          subst e2
          refine ⟨true, T.te, fun _ ea hea => ?_, fun q => nomatch q⟩
          refine ⟨_, rfl, .ref CC, .ref CC, true, d, _, rfl, rfl, rfl, hd, (fun _ h => h), T.isC, true, rfl, iteT ?_⟩
          refine ⟨_, rfl, rfl, rfl, d, _, .int (n : Nat), rfl, hd, (by simp [List.lookup]), ?_⟩
          refine ⟨_, rfl, _, _, _, _, _, rfl, .ty _, .base (.int _), kit_ty (r := false) (by decide +kernel), _, rfl, iteF ?_⟩
          refine ⟨_, rfl, _, rfl, .int (n : Nat), .int (n : Nat), .at (.int (n : Nat)), rfl, .at (.flat rfl trivial), .at (.flat rfl trivial), trivial, fun H17 s17 => ⟨_, rfl, iteF ?_⟩⟩
          have S47 : Same H14 H17 := fun b o e => s17 _ _ (s16 _ _ (s15 _ _ e))
          exact ⟨_, _, _, _, _, _, _, _, _, rfl, S14.keep S47, S47 _ _ hr14⟩
  · obtain ⟨x6, x7, x8, x9, x10, x11, x12, x13, x14, rfl, S8, hr8⟩ := pv
    exact q _
end
end CA
namespace CA
open PySem L2
/-! ### a written dict against a table -/
inductive Ents {α : Type} (R : Value → α → Prop) : List DictEntry → List (Str × α) → Prop
  | nil : Ents R [] []
  | cons {en : DictEntry} {es : List DictEntry} {x : Str} {t : Tok} {a : α} {tab : List (Str × α)} : en.key = .str x t → R en.val a → Ents R es tab → Ents R (en :: es) ((x, a) :: tab)
section
variable {α : Type} {R : Value → α → Prop}
theorem Ents.any {es : List DictEntry} {tab : List (Str × α)} (h : Ents R es tab) : es.any (·.refKey) = false := by
  induction h with
  | nil => rfl
  | @cons en es x t a tab hk hv _ ih =>
    rw [List.any_cons, ih]
    unfold DictEntry.refKey
    rw [hk]
    rfl
theorem key_is {en : DictEntry} {x : Str} {t : Tok} (hk : en.key = .str x t) (z : Str) : en.key.isStr z = decide (x = z) := by
  rw [hk]
  show (x == z) = _
  by_cases e : x = z
  · subst e
    simp
  · rw [decide_eq_false e]
    simp [e]
theorem Ents.no {es : List DictEntry} {tab : List (Str × α)} (h : Ents R es tab) {z : Str} (hz : tab.lookup z = none) : es.find? (·.key.isStr z) = none := by
  induction h with
  | nil => rfl
  | @cons en es x t a tab hk hv _ ih =>
    rw [List.lookup_cons] at hz
    by_cases e : z = x
    · rw [e] at hz
      simp at hz
    · have e1 : (z == x) = false := by simp [e]
      rw [e1] at hz
      rw [List.find?_cons, key_is hk, decide_eq_false (fun q => e q.symm)]
      exact ih hz
theorem Ents.yes {es : List DictEntry} {tab : List (Str × α)} (h : Ents R es tab) {z : Str} {a : α} (hz : tab.lookup z = some a) : ∃ en, es.find? (·.key.isStr z) = some en ∧ R en.val a := by
  induction h with
  | nil => cases hz
  | @cons en es x t b tab hk hv _ ih =>
    rw [List.lookup_cons] at hz
    by_cases e : z = x
    · rw [e] at hz
      simp at hz
      rw [List.find?_cons, key_is hk, decide_eq_true e.symm]
      exact ⟨en, rfl, hz ▸ hv⟩
    · have e1 : (z == x) = false := by simp [e]
      rw [e1] at hz
      rw [List.find?_cons, key_is hk, decide_eq_false (fun q => e q.symm)]
      exact ih hz
theorem Ents.noK {K : PySem.W.Frag} {d : Addr} {o : Option Addr} {c : Value} {es : Array DictEntry} {n : Nat} {sl : Array (Option Value)} {tab : List (Str × α)} (h : Ents R es.toList tab) (e : K.lookup d = some ⟨c, o, .dict es n, sl⟩) {z : Str} (hz : tab.lookup z = none) : PySem.W.nsIn K d z = some none := by
  unfold PySem.W.nsIn
  rw [e]
  dsimp only
  rw [h.no hz]
  dsimp only
  rw [h.any]
  rfl
theorem Ents.yesK {K : PySem.W.Frag} {d : Addr} {o : Option Addr} {c : Value} {es : Array DictEntry} {n : Nat} {sl : Array (Option Value)} {tab : List (Str × α)} (h : Ents R es.toList tab) (e : K.lookup d = some ⟨c, o, .dict es n, sl⟩) {z : Str} {a : α} (hz : tab.lookup z = some a) : ∃ v, PySem.W.nsIn K d z = some (some v) ∧ R v a := by
  obtain ⟨en, h1, h2⟩ := h.yes hz
  refine ⟨en.val, ?_, h2⟩
  unfold PySem.W.nsIn
  rw [e]
  dsimp only
  rw [h1]
end
/-- the value is a tuple of these texts -/
def isWordsV (K : PySem.W.Frag) (v : Value) (l : List Str) : Prop := ∃ p, v = .ref p ∧ ∀ H, SqT K H p (l.map V.str)
def isIntV (v : Value) (n : Nat) : Prop := ∃ tk, v = .int (n : Nat) tk
def evTable : List (Str × Nat) := [("press", 1), ("tick", 0), ("hand", 2)]
theorem ev_tab (z : Str) : evTable.lookup z = evN z := by
  unfold evN evTable
  by_cases h1 : z = "press"
  · subst h1
    rfl
  · by_cases h2 : z = "tick"
    · subst h2
      rfl
    · by_cases h3 : z = "hand"
      · subst h3
        rfl
      · have b1 : (z == ("press" : Str)) = false := by simp [h1]
        have b2 : (z == ("tick" : Str)) = false := by simp [h2]
        have b3 : (z == ("hand" : Str)) = false := by simp [h3]
        rw [if_neg h1, if_neg h2, if_neg h3, List.lookup_cons, b1, List.lookup_cons, b2, List.lookup_cons, b3]
        rfl
end CA
set_option maxHeartbeats 8000000
namespace CA
open PySem L2
theorem exm_selfE {K : PySem.W.Frag} {S : Addr} (h1 : PySem.W.subIn K (.ref S) (.type "BaseException") = some true) (h2 : PySem.W.isClsIn K S = true) (h3 : PySem.W.typeIn K (.ref S) = some (.type "type")) (h4 : PySem.W.subIn K (.ref S) (.ref S) = some true) :
    PySem.W.exmOne K (.ref S) (.ref S) = some true := by
  have e1 : (PySem.W.subIn K (.ref S) (.type "BaseException") == some true) = true := by rw [h1] <;> rfl
  have e2 : ((PySem.W.clsIn K S).isSome && PySem.W.typeIn K (.ref S) == some (.type "type")) = true := by
    have h2' : (PySem.W.clsIn K S).isSome = true := h2
    rw [h2', h3] <;> rfl
  show (if (PySem.W.subIn K (.ref S) (.type "BaseException") == some true) = true then (if ((PySem.W.clsIn K S).isSome && PySem.W.typeIn K (.ref S) == some (.type "type")) = true then PySem.W.subIn K (.ref S) (.ref S) else none) else none) = some true
  rw [if_pos e1, if_pos e2]
  exact h4
theorem all_mk {l : PySem.W.OpenLaw} {w : World} {K : PySem.W.Frag} {h : Heap} {mg : Str → Option Value} {fa : Addr} (X : K.In h) (G : h.Ns mainGlobals mg) (hfa : mg "law" = some (.ref fa))
    {f_name f_joined f_lin f_fmt f_parse f_start f_mixed f_take f_pick f_lnames f_same f_lname f_lev f_due f_drawn f_law CE CC exN f_einit a_EVENT_NAMES : Addr} {od_name an_name od_joined an_joined od_lin an_lin od_fmt an_fmt od_parse an_parse od_start an_start od_mixed an_mixed od_take an_take od_pick an_pick od_lnames an_lnames od_same an_same od_lname an_lname od_lev an_lev od_due an_due od_drawn an_drawn od_law an_law od_einit an_einit exdd : Option Addr} {sl_name sl_joined sl_lin sl_fmt sl_parse sl_start sl_mixed sl_take sl_pick sl_lnames sl_same sl_lname sl_lev sl_due sl_drawn sl_law sl_einit : Array (Option Value)} {oc_name kV_name dc_name pm_name cd_name ct_name oc_joined kV_joined dc_joined pm_joined cd_joined ct_joined oc_lin kV_lin dc_lin pm_lin cd_lin ct_lin oc_fmt kV_fmt dc_fmt pm_fmt cd_fmt ct_fmt oc_parse kV_parse dc_parse pm_parse cd_parse ct_parse oc_start kV_start dc_start pm_start cd_start ct_start oc_mixed kV_mixed dc_mixed pm_mixed cd_mixed ct_mixed oc_take kV_take dc_take pm_take cd_take ct_take oc_pick kV_pick dc_pick pm_pick cd_pick ct_pick oc_lnames kV_lnames dc_lnames pm_lnames cd_lnames ct_lnames oc_same kV_same dc_same pm_same cd_same ct_same oc_lname kV_lname dc_lname pm_lname cd_lname ct_lname oc_lev kV_lev dc_lev pm_lev cd_lev ct_lev oc_due kV_due dc_due pm_due cd_due ct_due oc_drawn kV_drawn dc_drawn pm_drawn cd_drawn ct_drawn oc_law kV_law dc_law pm_law cd_law ct_law oc_einit kV_einit dc_einit pm_einit cd_einit ct_einit : Value} {vt_EVENT_NAMES_0 vt_EVENT_NAMES_1 vt_EVENT_NAMES_2 kt_EVENT_NAMES_0 kt_EVENT_NAMES_1 kt_EVENT_NAMES_2 : Tok} {n_EVENT_NAMES : Nat} {hs_EVENT_NAMES_0 hs_EVENT_NAMES_1 hs_EVENT_NAMES_2 : Int} {exnm exq : Str} {exbs exsub : List Value} {exsn : List Str} {exab : Bool} {excol : Option Bool} {exm0 exm1 exm2 exm3 exm5 : Option Value}
    (a_name : PySem.W.nsIn K mainGlobals "is_name" = some (some (.ref f_name)))
    (l_name : K.lookup f_name = some ⟨oc_name, od_name, .func (PySem.W.fnOf "is_name" "is_name" (defArgs s_is_name) (defBody s_is_name) (defScope s_is_name) .none kV_name dc_name pm_name an_name cd_name ct_name), sl_name⟩)
    (c_name : PySem.W.codeIn K cd_name "is_name" = true)
    (k_name : PySem.W.keepIn K (.ref f_name) = true)
    (a_joined : PySem.W.nsIn K mainGlobals "joined" = some (some (.ref f_joined)))
    (l_joined : K.lookup f_joined = some ⟨oc_joined, od_joined, .func (PySem.W.fnOf "joined" "joined" (defArgs s_joined) (defBody s_joined) (defScope s_joined) .none kV_joined dc_joined pm_joined an_joined cd_joined ct_joined), sl_joined⟩)
    (c_joined : PySem.W.codeIn K cd_joined "joined" = true)
    (k_joined : PySem.W.keepIn K (.ref f_joined) = true)
    (a_lin : PySem.W.nsIn K mainGlobals "lines_in" = some (some (.ref f_lin)))
    (l_lin : K.lookup f_lin = some ⟨oc_lin, od_lin, .func (PySem.W.fnOf "lines_in" "lines_in" (defArgs s_lines_in) (defBody s_lines_in) (defScope s_lines_in) .none kV_lin dc_lin pm_lin an_lin cd_lin ct_lin), sl_lin⟩)
    (c_lin : PySem.W.codeIn K cd_lin "lines_in" = true)
    (k_lin : PySem.W.keepIn K (.ref f_lin) = true)
    (a_fmt : PySem.W.nsIn K mainGlobals "format_events" = some (some (.ref f_fmt)))
    (l_fmt : K.lookup f_fmt = some ⟨oc_fmt, od_fmt, .func (PySem.W.fnOf "format_events" "format_events" (defArgs s_format_events) (defBody s_format_events) (defScope s_format_events) .none kV_fmt dc_fmt pm_fmt an_fmt cd_fmt ct_fmt), sl_fmt⟩)
    (c_fmt : PySem.W.codeIn K cd_fmt "format_events" = true)
    (k_fmt : PySem.W.keepIn K (.ref f_fmt) = true)
    (a_parse : PySem.W.nsIn K mainGlobals "parse_events" = some (some (.ref f_parse)))
    (l_parse : K.lookup f_parse = some ⟨oc_parse, od_parse, .func (PySem.W.fnOf "parse_events" "parse_events" (defArgs s_parse_events) (defBody s_parse_events) (defScope s_parse_events) .none kV_parse dc_parse pm_parse an_parse cd_parse ct_parse), sl_parse⟩)
    (c_parse : PySem.W.codeIn K cd_parse "parse_events" = true)
    (k_parse : PySem.W.keepIn K (.ref f_parse) = true)
    (a_start : PySem.W.nsIn K mainGlobals "_law_start" = some (some (.ref f_start)))
    (l_start : K.lookup f_start = some ⟨oc_start, od_start, .func (PySem.W.fnOf "_law_start" "_law_start" (defArgs s__law_start) (defBody s__law_start) (defScope s__law_start) .none kV_start dc_start pm_start an_start cd_start ct_start), sl_start⟩)
    (c_start : PySem.W.codeIn K cd_start "_law_start" = true)
    (k_start : PySem.W.keepIn K (.ref f_start) = true)
    (a_mixed : PySem.W.nsIn K mainGlobals "_law_mixed" = some (some (.ref f_mixed)))
    (l_mixed : K.lookup f_mixed = some ⟨oc_mixed, od_mixed, .func (PySem.W.fnOf "_law_mixed" "_law_mixed" (defArgs s__law_mixed) (defBody s__law_mixed) (defScope s__law_mixed) .none kV_mixed dc_mixed pm_mixed an_mixed cd_mixed ct_mixed), sl_mixed⟩)
    (c_mixed : PySem.W.codeIn K cd_mixed "_law_mixed" = true)
    (k_mixed : PySem.W.keepIn K (.ref f_mixed) = true)
    (a_take : PySem.W.nsIn K mainGlobals "_law_take" = some (some (.ref f_take)))
    (l_take : K.lookup f_take = some ⟨oc_take, od_take, .func (PySem.W.fnOf "_law_take" "_law_take" (defArgs s__law_take) (defBody s__law_take) (defScope s__law_take) .none kV_take dc_take pm_take an_take cd_take ct_take), sl_take⟩)
    (c_take : PySem.W.codeIn K cd_take "_law_take" = true)
    (k_take : PySem.W.keepIn K (.ref f_take) = true)
    (a_pick : PySem.W.nsIn K mainGlobals "_law_pick" = some (some (.ref f_pick)))
    (l_pick : K.lookup f_pick = some ⟨oc_pick, od_pick, .func (PySem.W.fnOf "_law_pick" "_law_pick" (defArgs s__law_pick) (defBody s__law_pick) (defScope s__law_pick) .none kV_pick dc_pick pm_pick an_pick cd_pick ct_pick), sl_pick⟩)
    (c_pick : PySem.W.codeIn K cd_pick "_law_pick" = true)
    (k_pick : PySem.W.keepIn K (.ref f_pick) = true)
    (a_lnames : PySem.W.nsIn K mainGlobals "_law_names" = some (some (.ref f_lnames)))
    (l_lnames : K.lookup f_lnames = some ⟨oc_lnames, od_lnames, .func (PySem.W.fnOf "_law_names" "_law_names" (defArgs s__law_names) (defBody s__law_names) (defScope s__law_names) .none kV_lnames dc_lnames pm_lnames an_lnames cd_lnames ct_lnames), sl_lnames⟩)
    (c_lnames : PySem.W.codeIn K cd_lnames "_law_names" = true)
    (k_lnames : PySem.W.keepIn K (.ref f_lnames) = true)
    (a_same : PySem.W.nsIn K mainGlobals "_law_same" = some (some (.ref f_same)))
    (l_same : K.lookup f_same = some ⟨oc_same, od_same, .func (PySem.W.fnOf "_law_same" "_law_same" (defArgs s__law_same) (defBody s__law_same) (defScope s__law_same) .none kV_same dc_same pm_same an_same cd_same ct_same), sl_same⟩)
    (c_same : PySem.W.codeIn K cd_same "_law_same" = true)
    (k_same : PySem.W.keepIn K (.ref f_same) = true)
    (a_lname : PySem.W.nsIn K mainGlobals "_law_is_name" = some (some (.ref f_lname)))
    (l_lname : K.lookup f_lname = some ⟨oc_lname, od_lname, .func (PySem.W.fnOf "_law_is_name" "_law_is_name" (defArgs s__law_is_name) (defBody s__law_is_name) (defScope s__law_is_name) .none kV_lname dc_lname pm_lname an_lname cd_lname ct_lname), sl_lname⟩)
    (c_lname : PySem.W.codeIn K cd_lname "_law_is_name" = true)
    (k_lname : PySem.W.keepIn K (.ref f_lname) = true)
    (a_lev : PySem.W.nsIn K mainGlobals "_law_line_event" = some (some (.ref f_lev)))
    (l_lev : K.lookup f_lev = some ⟨oc_lev, od_lev, .func (PySem.W.fnOf "_law_line_event" "_law_line_event" (defArgs s__law_line_event) (defBody s__law_line_event) (defScope s__law_line_event) .none kV_lev dc_lev pm_lev an_lev cd_lev ct_lev), sl_lev⟩)
    (c_lev : PySem.W.codeIn K cd_lev "_law_line_event" = true)
    (k_lev : PySem.W.keepIn K (.ref f_lev) = true)
    (a_due : PySem.W.nsIn K mainGlobals "_law_due" = some (some (.ref f_due)))
    (l_due : K.lookup f_due = some ⟨oc_due, od_due, .func (PySem.W.fnOf "_law_due" "_law_due" (defArgs s__law_due) (defBody s__law_due) (defScope s__law_due) .none kV_due dc_due pm_due an_due cd_due ct_due), sl_due⟩)
    (c_due : PySem.W.codeIn K cd_due "_law_due" = true)
    (k_due : PySem.W.keepIn K (.ref f_due) = true)
    (a_drawn : PySem.W.nsIn K mainGlobals "_law_drawn_events" = some (some (.ref f_drawn)))
    (l_drawn : K.lookup f_drawn = some ⟨oc_drawn, od_drawn, .func (PySem.W.fnOf "_law_drawn_events" "_law_drawn_events" (defArgs s__law_drawn_events) (defBody s__law_drawn_events) (defScope s__law_drawn_events) .none kV_drawn dc_drawn pm_drawn an_drawn cd_drawn ct_drawn), sl_drawn⟩)
    (c_drawn : PySem.W.codeIn K cd_drawn "_law_drawn_events" = true)
    (k_drawn : PySem.W.keepIn K (.ref f_drawn) = true)
    (a_law : PySem.W.nsIn K mainGlobals "law" = some (some (.ref f_law)))
    (l_law : K.lookup f_law = some ⟨oc_law, od_law, .func (PySem.W.fnOf "law" "law" (defArgs s_law) (defBody s_law) (defScope s_law) .none kV_law dc_law pm_law an_law cd_law ct_law), sl_law⟩)
    (c_law : PySem.W.codeIn K cd_law "law" = true)
    (k_law : PySem.W.keepIn K (.ref f_law) = true)
    (g_CE : PySem.W.nsIn K mainGlobals "InvalidText" = some (some (.ref CE)))
    (g_CC : PySem.W.nsIn K mainGlobals "CalledError" = some (some (.ref CC)))
    (a_einit : PySem.W.findIn K (.ref CE) "__init__" = some (some (.ref f_einit)))
    (l_einit : K.lookup f_einit = some ⟨oc_einit, od_einit, .func (PySem.W.fnOf "__init__" "InvalidText.__init__" (defArgs s_InvalidText_init) (defBody s_InvalidText_init) (defScope s_InvalidText_init) .none kV_einit dc_einit pm_einit an_einit cd_einit ct_einit), sl_einit⟩)
    (c_einit : PySem.W.codeIn K cd_einit "InvalidText.__init__" = true)
    (k_einit : PySem.W.keepIn K (.ref f_einit) = true)
    (xL : K.lookup CE = some (excClassObj exnm exq CE exN exbs [.ref CC, .type "ValueError", .type "Exception", .type "BaseException", .type "object"] true exsn exsub exab excol exdd exm0 exm1 exm2 exm3 exm5 "ValueError.__new__"))
    (e_sa : PySem.W.findIn K (.ref CE) "__setattr__" = some (some (.builtin "object.__setattr__")))
    (e_ga : PySem.W.findIn K (.ref CE) "__getattribute__" = some (some (.builtin "BaseException.__getattribute__")))
    (e_gg : PySem.W.findIn K (.ref CE) "__getattr__" = some none)
    (e_no : PySem.W.findIn K (.ref CE) "line" = some none)
    (e_tI : PySem.W.typeIn K (.ref f_einit) = some (.type "function"))
    (e_kp : PySem.W.keepIn K (.ref CE) = true)
    (e_be : PySem.W.subIn K (.ref CE) (.type "BaseException") = some true)
    (e_ty : PySem.W.typeIn K (.ref CE) = some (.type "type"))
    (e_hd : PySem.W.hasDictIn K CE = true)
    (e_ic : PySem.W.isClsIn K CE = true)
    (e_ss : PySem.W.subIn K (.ref CE) (.ref CE) = some true)
    (e_cl : PySem.W.findIn K (.ref CE) "__class__" = some (some (.builtin "object.__class__")))
    (e_gt : PySem.W.specialIn K (.builtin "object.__class__") "__get__" = some (some (.builtin "getset_descriptor.__get__")))
    (e_tk : PySem.W.takesIn K (.builtin "object.__class__") = some true)
    (e_mo : PySem.W.mroIn K CE (.type "object") = some true)
    (e_is : PySem.W.kitOne K (.ref CE) (.ref CC) = some true)
    (g_EVENT_NAMES : PySem.W.nsIn K mainGlobals "EVENT_NAMES" = some (some (.ref a_EVENT_NAMES)))
    (l_EVENT_NAMES : K.lookup a_EVENT_NAMES = some ⟨.type "dict", none, .dict #[⟨hs_EVENT_NAMES_0, .str "press" kt_EVENT_NAMES_0, .int 1 vt_EVENT_NAMES_0⟩, ⟨hs_EVENT_NAMES_1, .str "tick" kt_EVENT_NAMES_1, .int 0 vt_EVENT_NAMES_1⟩, ⟨hs_EVENT_NAMES_2, .str "hand" kt_EVENT_NAMES_2, .int 2 vt_EVENT_NAMES_2⟩] n_EVENT_NAMES, #[]⟩)
    (q_EVENT_NAMES : PySem.W.KeysLit w.params [⟨hs_EVENT_NAMES_0, .str "press" kt_EVENT_NAMES_0, .int 1 vt_EVENT_NAMES_0⟩, ⟨hs_EVENT_NAMES_1, .str "tick" kt_EVENT_NAMES_1, .int 0 vt_EVENT_NAMES_1⟩, ⟨hs_EVENT_NAMES_2, .str "hand" kt_EVENT_NAMES_2, .int 2 vt_EVENT_NAMES_2⟩])
    (s_EVENT_NAMES : (a_EVENT_NAMES == sysModules) = false)
    (z_isinstance : PySem.W.nsIn K mainGlobals "isinstance" = some none)
    (z_int : PySem.W.nsIn K mainGlobals "int" = some none)
    (z_bool : PySem.W.nsIn K mainGlobals "bool" = some none)
    (z_str : PySem.W.nsIn K mainGlobals "str" = some none)
    (z_tuple : PySem.W.nsIn K mainGlobals "tuple" = some none)
    (z_len : PySem.W.nsIn K mainGlobals "len" = some none)
    (z_all : PySem.W.nsIn K mainGlobals "all" = some none)
    (z_set : PySem.W.nsIn K mainGlobals "set" = some none)
    (z_zip : PySem.W.nsIn K mainGlobals "zip" = some none)
    (z_sorted : PySem.W.nsIn K mainGlobals "sorted" = some none)
    (z_enumerate : PySem.W.nsIn K mainGlobals "enumerate" = some none)
    (z_list : PySem.W.nsIn K mainGlobals "list" = some none)
    (z_abs : PySem.W.nsIn K mainGlobals "abs" = some none)
    (z_range : PySem.W.nsIn K mainGlobals "range" = some none)
    : ∃ fd : FuncData, (∀ (s : Shared) (v : Value), BindsTo s fd ⟨[v], []⟩ [("_law_script", v)]) ∧ ∀ base : Heap, K.In base → base.Ns mainGlobals mg → FnOk l.prog w K mg base CX0 6 fa fd ["_law_script"] (spLaw K) := by
  have e := hfa.symm.trans (PySem.W.mg_of X G a_law)
  cases e
  have g := fun {x : Str} {a : Addr} (h : PySem.W.nsIn K mainGlobals x = some (some (.ref a))) => PySem.W.mg_of X G h
  have gi := fun {x : Str} {v : Value} (h : PySem.W.nsIn K mainGlobals x = some (some v)) => PySem.W.mg_of X G h
  have z := fun {x : Str} (h : PySem.W.nsIn K mainGlobals x = some none) => PySem.W.mg_none_of X G h
  have B : Blt mg := ⟨z z_isinstance, z z_int, z z_bool, z z_str, z z_tuple, z z_len, z z_all, z z_set, z z_zip, z z_sorted, z z_enumerate, z z_list⟩
  have EEVENT_NAMES : Ents isIntV (#[⟨hs_EVENT_NAMES_0, .str "press" kt_EVENT_NAMES_0, .int 1 vt_EVENT_NAMES_0⟩, ⟨hs_EVENT_NAMES_1, .str "tick" kt_EVENT_NAMES_1, .int 0 vt_EVENT_NAMES_1⟩, ⟨hs_EVENT_NAMES_2, .str "hand" kt_EVENT_NAMES_2, .int 2 vt_EVENT_NAMES_2⟩] : Array DictEntry).toList evTable := .cons rfl ⟨_, rfl⟩ (.cons rfl ⟨_, rfl⟩ (.cons rfl ⟨_, rfl⟩ (.nil)))
  have DE : KDict K w a_EVENT_NAMES _ _ := ⟨l_EVENT_NAMES, q_EVENT_NAMES, s_EVENT_NAMES⟩
  have T : TxtV K mg CE CC f_einit f_joined f_lin f_name a_EVENT_NAMES := ⟨⟨⟨exnm, exq, exN, exbs, _, exsn, exsub, exab, excol, exdd, exm0, exm1, exm2, exm3, exm5, xL, by show PySem.HandSPX.refsVE PySem.HandSPX.veTail = true; decide +kernel⟩, e_sa, e_be, e_ty, e_kp⟩, ⟨e_ic, e_ga, e_gg, e_be, e_cl, e_gt, e_tk, e_mo⟩, ⟨e_ga, e_gg, e_be, e_hd⟩, e_no, a_einit, e_tI, exm_selfE e_be e_ic e_ty e_ss, e_is, g g_CE, g g_CC, g a_joined, k_joined, g a_lin, k_lin, g a_name, k_name, g g_EVENT_NAMES,
    fun y hy => EEVENT_NAMES.noK l_EVENT_NAMES (by rw [ev_tab]; exact hy),
    fun y n hy => by
      obtain ⟨v, h1, tk, rfl⟩ := EEVENT_NAMES.yesK l_EVENT_NAMES (z := y) (a := n) (by rw [ev_tab]; exact hy)
      exact ⟨tk, h1⟩⟩
  have TD : TxtD K mg f_mixed := ⟨z z_int, z z_len, z z_abs, g a_mixed, k_mixed⟩
  have TPk : TxtPk K mg f_take f_pick := ⟨z z_len, z z_range, z z_tuple, g a_take, k_take, g a_pick, k_pick⟩
  have TSm : TxtSm K mg f_same := ⟨z z_range, g a_same, k_same⟩
  have TW : TxtW K mg f_lname f_lev := ⟨g a_lname, k_lname, g a_lev, k_lev, z z_range⟩
  have TE : TxtE K mg f_take f_pick f_lnames := ⟨g a_take, k_take, g a_pick, k_pick, g a_lnames, k_lnames⟩
  have TL : TxtL K mg f_start f_drawn f_fmt f_parse f_due f_take f_same := ⟨g a_start, k_start, g a_drawn, k_drawn, g a_fmt, k_fmt, g a_parse, k_parse, g a_due, k_due, g a_take, k_take, z z_range⟩
  have F_name := fun_mk (st := s_is_name) l_name c_name k_name
  have F_joined := fun_mk (st := s_joined) l_joined c_joined k_joined
  have F_lin := fun_mk (st := s_lines_in) l_lin c_lin k_lin
  have F_fmt := fun_mk (st := s_format_events) l_fmt c_fmt k_fmt
  have F_parse := fun_mk (st := s_parse_events) l_parse c_parse k_parse
  have F_start := fun_mk (st := s__law_start) l_start c_start k_start
  have F_mixed := fun_mk (st := s__law_mixed) l_mixed c_mixed k_mixed
  have F_take := fun_mk (st := s__law_take) l_take c_take k_take
  have F_pick := fun_mk (st := s__law_pick) l_pick c_pick k_pick
  have F_lnames := fun_mk (st := s__law_names) l_lnames c_lnames k_lnames
  have F_same := fun_mk (st := s__law_same) l_same c_same k_same
  have F_lname := fun_mk (st := s__law_is_name) l_lname c_lname k_lname
  have F_lev := fun_mk (st := s__law_line_event) l_lev c_lev k_lev
  have F_due := fun_mk (st := s__law_due) l_due c_due k_due
  have F_drawn := fun_mk (st := s__law_drawn_events) l_drawn c_drawn k_drawn
  have F_law := fun_mk (st := s_law) l_law c_law k_law
  have F_einit := fun_mk (st := s_InvalidText_init) l_einit c_einit k_einit
  have b_name := F_name.binds (ps := ["value"]) fun _ _ _ _ _ _ us hl => match us, hl with | [_], _ => rfl
  have b_joined := F_joined.binds (ps := ["lines"]) fun _ _ _ _ _ _ us hl => match us, hl with | [_], _ => rfl
  have b_lin := F_lin.binds (ps := ["text"]) fun _ _ _ _ _ _ us hl => match us, hl with | [_], _ => rfl
  have b_fmt := F_fmt.binds (ps := ["events"]) fun _ _ _ _ _ _ us hl => match us, hl with | [_], _ => rfl
  have b_parse := F_parse.binds (ps := ["text"]) fun _ _ _ _ _ _ us hl => match us, hl with | [_], _ => rfl
  have b_start := F_start.binds (ps := ["_law_script"]) fun _ _ _ _ _ _ us hl => match us, hl with | [_], _ => rfl
  have b_mixed := F_mixed.binds (ps := ["_law_cell", "_law_count", "_law_size"]) fun _ _ _ _ _ _ us hl => match us, hl with | [_, _, _], _ => rfl
  have b_take := F_take.binds (ps := ["_law_state", "_law_size"]) fun _ _ _ _ _ _ us hl => match us, hl with | [_, _], _ => rfl
  have b_pick := F_pick.binds (ps := ["_law_state", "_law_names_here"]) fun _ _ _ _ _ _ us hl => match us, hl with | [_, _], _ => rfl
  have b_lnames := F_lnames.binds (ps := ["_law_state", "_law_many"]) fun _ _ _ _ _ _ us hl => match us, hl with | [_, _], _ => rfl
  have b_same := F_same.binds (ps := ["_law_told", "_law_due_here"]) fun _ _ _ _ _ _ us hl => match us, hl with | [_, _], _ => rfl
  have b_lname := F_lname.binds (ps := ["_law_value"]) fun _ _ _ _ _ _ us hl => match us, hl with | [_], _ => rfl
  have b_lev := F_lev.binds (ps := ["_law_line"]) fun _ _ _ _ _ _ us hl => match us, hl with | [_], _ => rfl
  have b_due := F_due.binds (ps := ["_law_text"]) fun _ _ _ _ _ _ us hl => match us, hl with | [_], _ => rfl
  have b_drawn := F_drawn.binds (ps := ["_law_state"]) fun _ _ _ _ _ _ us hl => match us, hl with | [_], _ => rfl
  have b_law := F_law.binds (ps := ["_law_script"]) fun _ _ _ _ _ _ us hl => match us, hl with | [_], _ => rfl
  have b_einit := F_einit.binds (ps := ["self", "line"]) fun _ _ _ _ _ _ us hl => match us, hl with | [_, _], _ => rfl
  refine ⟨PySem.W.fnOf "law" "law" (defArgs s_law) (defBody s_law) (defScope s_law) .none kV_law dc_law pm_law an_law cd_law ct_law, fun s v => .of_eq rfl, fun base _ _ => ?_⟩
  have Gname := ok_is_name (P := l.prog) (w := w) (mg := mg) (base := base) F_name B
  have Ge := ok_InvalidText_init (P := l.prog) (w := w) (mg := mg) (base := base) F_einit T
  have Gj := ok_joined (P := l.prog) (w := w) (mg := mg) (base := base) F_joined T
  have Gl := ok_lines_in (P := l.prog) (w := w) (mg := mg) (base := base) F_lin T Ge b_einit
  have Gf := ok_format_events (P := l.prog) (w := w) (mg := mg) (base := base) F_fmt T Gj b_joined
  have Gp := ok_parse_events (P := l.prog) (w := w) (mg := mg) (base := base) F_parse B T DE Ge b_einit Gl b_lin Gname b_name
  have Gstart := ok__law_start (P := l.prog) (w := w) (mg := mg) (base := base) F_start TD
  have Gmixed := ok__law_mixed (P := l.prog) (w := w) (mg := mg) (base := base) F_mixed TD
  have Gtake := ok__law_take (P := l.prog) (w := w) (mg := mg) (base := base) F_take TD Gmixed b_mixed
  have Gpick := ok__law_pick (P := l.prog) (w := w) (mg := mg) (base := base) F_pick TPk Gtake b_take
  have Glnames := ok__law_names (P := l.prog) (w := w) (mg := mg) (base := base) F_lnames TPk Gtake b_take Gpick b_pick
  have Gsame := ok__law_same (P := l.prog) (w := w) (mg := mg) (base := base) F_same B TSm b_same 3
  have Glname := ok__law_is_name (P := l.prog) (w := w) (mg := mg) (base := base) F_lname B
  have Glev := ok__law_line_event (P := l.prog) (w := w) (mg := mg) (base := base) F_lev B TW Glname b_lname
  have Gdue := ok__law_due (P := l.prog) (w := w) (mg := mg) (base := base) F_due B TW Glev b_lev
  have Gdrawn := ok__law_drawn_events (P := l.prog) (w := w) (mg := mg) (base := base) F_drawn TE (z z_range) Gtake b_take Gpick b_pick Glnames b_lnames
  exact ok_law F_law B T TL TSm Gstart b_start Gdrawn b_drawn Gf b_fmt Gp b_parse Gdue b_due Gtake b_take Gsame b_same
theorem walk {l : PySem.W.OpenLaw} {q : Program} {loose : List Str} {XP : (Str → Option Value) → Heap → Prop} {YP : World → Heap → Prop} {d : DefRec} {K : Params → PySem.W.Frag} (hn : l.most = some 63) (hdf : d.params.defaults = [])
    (hY : ∀ (w : World) (h : Heap), YP w h → (K w.params).In h)
    (F : ∀ (w : World) (mg : Str → Option Value) (fa : Addr) (h : Heap), (K w.params).In h → h.Ns mainGlobals mg → mg d.name = some (.ref fa) →
      ∃ fd : FuncData, (∀ (s : Shared) (u : Value), BindsTo s fd ⟨[u], []⟩ [("_law_script", u)]) ∧ ∀ base : Heap, (K w.params).In base → base.Ns mainGlobals mg → FnOk l.prog w (K w.params) mg base CX0 6 fa fd ["_law_script"] (spLaw (K w.params))) :
    PySem.W.WalkO q loose XP YP l.row.toRowW d [] (fun f vs => PySem.call f vs) :=
  L2.walk_of (n := 63) (k := 6) (x := "_law_script") (CX := fun _ => CX0) (sp := fun w => spLaw (K w.params)) hn (by decide) hdf ⟨rfl, by decide, by decide⟩ hY F (fun _ _ a ns hl _ hS => ⟨a, ns, rfl, hS, hl, fun _ => rfl⟩) fun _ _ _ _ _ z => z
end CA
open PySem PySem.W PyProof.Rows
set_option maxRecDepth 100000 in
set_option maxHeartbeats 0 in
theorem PySem.Challenge.cw_calledanew_k41_event_texts_holds : PySem.Challenge.rw_calledanew_k41_event_texts.Holds := by
  w_on; o_law; k_head; (case hw => w_witness2)
  k_fill
  refine CA.walk (l := PySem.Challenge.rw_calledanew_k41_event_texts) rfl rfl (fun w h Y => PySem.W.kIn_of Y) ?F
  case F =>
    intro w mg fa h KX G hmg
    refine' CA.all_mk KX G hmg ?a_name ?l_name ?c_name ?k_name ?a_joined ?l_joined ?c_joined ?k_joined ?a_lin ?l_lin ?c_lin ?k_lin ?a_fmt ?l_fmt ?c_fmt ?k_fmt ?a_parse ?l_parse ?c_parse ?k_parse ?a_start ?l_start ?c_start ?k_start ?a_mixed ?l_mixed ?c_mixed ?k_mixed ?a_take ?l_take ?c_take ?k_take ?a_pick ?l_pick ?c_pick ?k_pick ?a_lnames ?l_lnames ?c_lnames ?k_lnames ?a_same ?l_same ?c_same ?k_same ?a_lname ?l_lname ?c_lname ?k_lname ?a_lev ?l_lev ?c_lev ?k_lev ?a_due ?l_due ?c_due ?k_due ?a_drawn ?l_drawn ?c_drawn ?k_drawn ?a_law ?l_law ?c_law ?k_law ?g_CE ?g_CC ?a_einit ?l_einit ?c_einit ?k_einit ?xL ?e_sa ?e_ga ?e_gg ?e_no ?e_tI ?e_kp ?e_be ?e_ty ?e_hd ?e_ic ?e_ss ?e_cl ?e_gt ?e_tk ?e_mo ?e_is ?g_EVENT_NAMES ?l_EVENT_NAMES ?q_EVENT_NAMES ?s_EVENT_NAMES ?z_isinstance ?z_int ?z_bool ?z_str ?z_tuple ?z_len ?z_all ?z_set ?z_zip ?z_sorted ?z_enumerate ?z_list ?z_abs ?z_range
    (case a_name => k_is)
    (case l_name => k_is)
    (case c_name => k_is)
    (case k_name => k_is)
    (case a_joined => k_is)
    (case l_joined => k_is)
    (case c_joined => k_is)
    (case k_joined => k_is)
    (case a_lin => k_is)
    (case l_lin => k_is)
    (case c_lin => k_is)
    (case k_lin => k_is)
    (case a_fmt => k_is)
    (case l_fmt => k_is)
    (case c_fmt => k_is)
    (case k_fmt => k_is)
    (case a_parse => k_is)
    (case l_parse => k_is)
    (case c_parse => k_is)
    (case k_parse => k_is)
    (case a_start => k_is)
    (case l_start => k_is)
    (case c_start => k_is)
    (case k_start => k_is)
    (case a_mixed => k_is)
    (case l_mixed => k_is)
    (case c_mixed => k_is)
    (case k_mixed => k_is)
    (case a_take => k_is)
    (case l_take => k_is)
    (case c_take => k_is)
    (case k_take => k_is)
    (case a_pick => k_is)
    (case l_pick => k_is)
    (case c_pick => k_is)
    (case k_pick => k_is)
    (case a_lnames => k_is)
    (case l_lnames => k_is)
    (case c_lnames => k_is)
    (case k_lnames => k_is)
    (case a_same => k_is)
    (case l_same => k_is)
    (case c_same => k_is)
    (case k_same => k_is)
    (case a_lname => k_is)
    (case l_lname => k_is)
    (case c_lname => k_is)
    (case k_lname => k_is)
    (case a_lev => k_is)
    (case l_lev => k_is)
    (case c_lev => k_is)
    (case k_lev => k_is)
    (case a_due => k_is)
    (case l_due => k_is)
    (case c_due => k_is)
    (case k_due => k_is)
    (case a_drawn => k_is)
    (case l_drawn => k_is)
    (case c_drawn => k_is)
    (case k_drawn => k_is)
    (case a_law => k_is)
    (case l_law => k_is)
    (case c_law => k_is)
    (case k_law => k_is)
    (case g_CE => k_is)
    (case g_CC => k_is)
    (case a_einit => k_is)
    (case l_einit => k_is)
    (case c_einit => k_is)
    (case k_einit => k_is)
    (case xL => k_is)
    (case e_sa => k_is)
    (case e_ga => k_is)
    (case e_gg => k_is)
    (case e_no => k_is)
    (case e_tI => k_is)
    (case e_kp => k_is)
    (case e_be => k_is)
    (case e_ty => k_is)
    (case e_hd => k_is)
    (case e_ic => k_is)
    (case e_ss => k_is)
    (case e_cl => k_is)
    (case e_gt => k_is)
    (case e_tk => k_is)
    (case e_mo => k_is)
    (case e_is => kit_is)
    (case g_EVENT_NAMES => k_is)
    (case l_EVENT_NAMES => k_is)
    (case q_EVENT_NAMES => exact ⟨⟨_, _, rfl, rfl⟩, ⟨_, _, rfl, rfl⟩, ⟨_, _, rfl, rfl⟩, trivial⟩)
    (case s_EVENT_NAMES => rfl)
    (case z_isinstance => k_is)
    (case z_int => k_is)
    (case z_bool => k_is)
    (case z_str => k_is)
    (case z_tuple => k_is)
    (case z_len => k_is)
    (case z_all => k_is)
    (case z_set => k_is)
    (case z_zip => k_is)
    (case z_sorted => k_is)
    (case z_enumerate => k_is)
    (case z_list => k_is)
    (case z_abs => k_is)
    (case z_range => k_is)
