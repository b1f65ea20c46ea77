import PyProof.Rows.All
import Wide.All
import OpenK.AllK
import Wide.FinOn
import HandS.ForMost
import HandS.Exc
import HandS.TryOnly
import HandS.ExcOwn
import HandS.WordsExc
import HandS.Wide
import HandS.IsInst
import PyProof.FactsAll.dict
import KE.KExcIs
import HandS.ExcInit
import HandS.ExcField
import HandS.OwnEq
import HandS.Set
import HandS.SetBool
import HandS.SetTxt0
import HandS.Strs
import HandS.Sort
import HandS.Comp
import HandS.DictComp
import HandS.List
import HandS.Iter
import HandS.DictTup
import KE.KDictWalk
import HandS.SetFor
import KE.GoesEnum
import HandS.Zip
import HandS.Text
import HandS.AnyAll
import PySem.Challenge.RW_calledanew_k11_whole_held_slots_by_all_w
import HandS.TupAny
import PyProof.Rows.StrMeet
set_option Elab.async false
set_option linter.all false
set_option maxRecDepth 100000
set_option maxHeartbeats 4000000
/-! Own layer: what all laws of this project share. -/
namespace CA
open PySem L2
/-! ### heaps -/
/-- what was tracked is as it was, but at the addresses of ms -/
def Keep (ms : List Addr) (H H' : Hp) : Prop := ∀ b o, H b = some o → b ∉ ms → H' b = some o
theorem Keep.refl {ms : List Addr} (H : Hp) : Keep ms H H := fun _ _ h _ => h
theorem Keep.trans {ms : List Addr} {H H1 H2 : Hp} (a : Keep ms H H1) (b : Keep ms H1 H2) : Keep ms H H2 := fun c o h n => b c o (a c o h n) n
theorem Keep.of {ms : List Addr} {H H' : Hp} (s : Same H H') : Keep ms H H' := fun b o h _ => s b o h
theorem same_new {H : Hp} {p : Addr} (h : H p = none) (o : HO) : Same H (upd H p o) := fun b u q => by rw [upd_ne (ne_of_none q h)]; exact q
theorem Keep.upd {a : Addr} {H : Hp} {o : HO} : Keep [a] H (upd H a o) := fun b u q n => by rw [upd_ne (fun z => n (by rw [z]; exact List.mem_singleton.mpr rfl))]; exact q
theorem Keep.one {a : Addr} {H H' : Hp} (k : Keep [a] H H') {b : Addr} {o : HO} (h : H b = some o) (n : b ≠ a) : H' b = some o := k b o h (fun z => n (List.mem_singleton.mp z))
/-! ### pow of a wide base -/
def CPowW (i j : Int) : Prop := 0 ≤ j ∧ (Builtin.Int.intBits i : Int) * j ≤ 2 ^ 27
section
variable {X : Cx}
theorem op_powW : OpR X (binaryOp .Pow) (rI CPowW fun i j => .int (i ^ j.toNat)) := opI fun _ _ _ _ _ _ _ hc q => PyProof.Rows.pow_int hc.1 hc.2 q
end
/-- a module's object, by its name -/
theorem pe_gref {X : Cx} {x : Str} {a : Addr} {pos : Pos} (hg : Gl X x) (hm : X.mg x = some (.ref a)) (hd : (x == ("__debug__" : Str)) = false := by decide) : PE X (.Name x pos) (tC (.ref a)) := pe_glob hg hm rfl hd
theorem pe_gr {X : Cx} {x : Str} {a : Addr} {pos : Pos} (hm : X.mg x = some (.ref a)) (hg : Gl X x := by rfl) (hd : (x == ("__debug__" : Str)) = false := by decide) : PE X (.Name x pos) (tC (.ref a)) := pe_glob hg hm rfl hd
/-! ### the draws' state -/
/-- the five places of the draws' state -/
def stL (scr : Addr) (i d seed c : Int) : HO := .lst [.ref scr, .int i, .int d, .int seed, .int c]
structure StAt (H : Hp) (st scr : Addr) : Prop where
  ex : ∃ (ns : List Int) (i d seed c : Int), H st = some (stL scr i d seed c) ∧ H scr = some (.lst (ns.map V.int)) ∧ scr ≠ st ∧ ns.length ≤ 63 ∧ 0 ≤ i ∧ 0 ≤ d ∧ 0 ≤ seed ∧ seed < 2147483629
theorem StAt.keep {H H' : Hp} {st scr : Addr} (S : StAt H st scr) (k : Same H H') : StAt H' st scr := by
  obtain ⟨ns, i, d, seed, c, h1, h2, r⟩ := S.ex
  exact ⟨ns, i, d, seed, c, k _ _ h1, k _ _ h2, r⟩
/-! ### promises of the draws -/
def spStart (K : PySem.W.Frag) : Sp := fun vs H Q _ => ∃ (a : Addr) (ns : List Int), vs = [.ref a] ∧ SqL K H a (ns.map V.int) ∧ ns.length ≤ 63 ∧
  ∀ (st scr : Addr) (H' : Hp), H st = none → Same H H' → StAt H' st scr → Q (.ref st) H'
def spMixed : Sp := fun vs H Q _ => ∃ (a b n : Int), vs = [.int a, .int b, .int n] ∧ 0 < n ∧ ∀ r : Int, 0 ≤ r → r < n → Q (.int r) H
/-- a draw: some number below the size; the state alone is changed -/
def spTake : Sp := fun vs H Q _ => ∃ (st scr : Addr) (n : Int), vs = [.ref st, .int n] ∧ StAt H st scr ∧ 0 < n ∧ n < 1000000 ∧
  ∀ (r : Int) (H' : Hp), 0 ≤ r → r < n → Keep [st] H H' → StAt H' st scr → Q (.int r) H'
theorem mod_mul_ok {x m : Int} (hm : 0 < m) (h : m ≤ 4294967296) : CMul (x % m) ((x % m) / 1009 + 40692) := by
  refine Or.inl ⟨?_, ?_⟩
  · have := Int.emod_nonneg x (by omega : m ≠ 0); omega
  · have := Int.emod_lt_of_pos x hm; omega
end CA
namespace CA
open PySem L2 PySem.SeqAt PySem.MeetsSeq
open AutoSeq1 (wpAny_loadPart')
/-! ### a text is no dict -/
theorem dict_eq_declines_str (l : Addr) (es : Array DictEntry) (ep : Nat) (dd : Option Addr) (sl : Array (Option Value)) (b : Str) (u : Tok) :
    Meets (Builtin.«dict.__eq__» ⟨[.ref l, .str b u], []⟩) (fun _ R s => s.heap.get? l = some { cls := .type "dict", dict := dd, data := .dict es ep, slots := sl } ∧ R (.ok (.ret .notImplemented)) s) :=
  .of_wp fun prog w A R s h => by obtain ⟨hp, g, d, tk, os⟩ := s; obtain ⟨hl, h⟩ := h; have f1 := F.sub_str_dict; wp_walk using wpAny_loadPart' hl; exact ⟨_, rfl, h⟩
theorem str_eq_declines_dict (b : Str) (u : Tok) (l : Addr) (c : Value) (es : Array DictEntry) (ep : Nat) (dd : Option Addr) (sl : Array (Option Value)) :
    Meets (Builtin.«str.__eq__» ⟨[.str b u, .ref l], []⟩) (fun _ R s => s.heap.get? l = some { cls := c, dict := dd, data := .dict es ep, slots := sl } ∧ R (.ok (.ret .notImplemented)) s) :=
  .of_wp fun prog w A R s h => by obtain ⟨hp, g, d, tk, os⟩ := s; obtain ⟨hl, h⟩ := h; wp_walk using wpAny_loadPart' hl, wpAny_load hl; exact ⟨_, rfl, h⟩
section
variable {A : Around} {s : Shared}
theorem rcAt_str_dict {l : Addr} {o : Obj} {es : Array DictEntry} {ep : Nat} (b : Str) (u : Tok) (ho : s.heap.get? l = some o) (hc : o.cls = .type "dict") (hd : o.data = .dict es ep) (hu : A.units < cLine) : RcAt A s (.str b u) (.ref l) false := fun prog w E Q h => by
  obtain ⟨cls, dd, data, sl⟩ := o
  simp only at hc hd
  subst hc hd
  exact rc_eq_decline_or (k := false) (typeIs_str s b u) ⟨_, ho, rfl⟩ (by decide) F.sub_dict_str F.slot_str_eq F.slot_dict_eq_refl
    (fun _ hq => call_meets F.slot_str_eq (typeIs_str s b u) F.entry_str_eq (F.args_str_eq_2 _ _) (str_eq_declines_dict b u l (.type "dict") es ep dd sl) ⟨ho, hq⟩)
    (fun _ hq => call_meets F.slot_dict_eq_refl ⟨_, ho, rfl⟩ F.entry_dict_eq (F.args_dict_eq_2 _ _) (dict_eq_declines_str l es ep dd sl b u) ⟨ho, hq⟩)
    (fun _ hq => wpAny_of_eq (rfl : isSame (.str b u) (.ref l) = pure false) hq) (.inr hu) h
theorem eqAt_str_dict {l : Addr} {o : Obj} {es : Array DictEntry} {ep : Nat} (b : Str) (u : Tok) (ho : s.heap.get? l = some o) (hc : o.cls = .type "dict") (hd : o.data = .dict es ep) (hu : A.units < cLine) : EqAt A s (.str b u) (.ref l) false := fun prog w E Q h => by
  unfold eqBool
  refine wpAny_holding ?_
  refine wpAny_ite_split (fun hab => absurd (eq_of_beq hab) nofun) (fun _ => ?_)
  exact wpAny_bind (rcAt_str_dict b u ho hc hd hu prog w E _ (wpAny_truthy_bool h))
end
/-! ### values of a known kind -/
inductive Kd (H : Hp) : V → Prop where
  | flat {v : V} (h : flatV v = true) : Kd H v
  | tup {a : Addr} {xs : List V} (h : H a = some (.tup xs)) : Kd H (.ref a)
  | lst {a : Addr} {xs : List V} (h : H a = some (.lst xs)) : Kd H (.ref a)
  | dct {a : Addr} {kvs : List (Key × V)} (h : H a = some (.dK kvs)) : Kd H (.ref a)
theorem Kd.same {H H' : Hp} {v : V} (k : Kd H v) (s : Same H H') : Kd H' v := by
  cases k with
  | flat h => exact .flat h
  | tup h => exact .tup (s _ _ h)
  | lst h => exact .lst (s _ _ h)
  | dct h => exact .dct (s _ _ h)
/-- x stands among these texts -/
def memT (x : V) (ss : List Str) : Bool := ss.any fun z => decide (V.str z = x)
/-- a text's answer to == x, read off the value -/
def eqT (x : V) (u : Value) : Bool := match u with
  | .str z _ => decide (V.str z = x)
  | _ => false
section
variable {X : Cx}
theorem eqAt_txt {pins : List (Addr × Obj)} {σ : L2.St} {H : Hp} {s : Shared} {A : Around} {x : V} {u : Value} (I : Inv X pins σ H s) (k : Kd H x) (r : RelV x u) (hu : A.units < cLine) (z : Str) (t : Tok) : EqAt A s (.str z t) u (decide (V.str z = x)) := by
  cases k with
  | flat h =>
    have e : decide (V.str z = x) = eqV (.str z) x := by
      cases x with
      | str y =>
        show decide (V.str z = V.str y) = (z == y)
        by_cases h : z = y
        · subst h; simp
        · have : ¬ V.str z = V.str y := fun q => h (V.str.inj q)
          rw [decide_eq_false this]; exact (beq_eq_false_iff_ne.mpr h).symm
      | non => rfl
      | bl b => rfl
      | int i => rfl
      | _ => exact absurd (show false = true from h) Bool.false_ne_true
    rw [e]
    exact eqAt_V (y := .str z) ⟨t, rfl⟩ r rfl h
  | tup h =>
    cases r
    obtain ⟨_, its, _, p⟩ := I.hok _ _ h
    exact EqAt.str_tuple z t p hu
  | lst h =>
    cases r
    obtain ⟨_, its, n, _, e⟩ := I.hok _ _ h
    exact EqAt.str_list z t ⟨_, e, rfl, n, rfl⟩ hu
  | dct h =>
    cases r
    obtain ⟨_, _, vs, _, o, es, ep, h1, h2, h3, _⟩ := I.hok _ _ h
    exact eqAt_str_dict z t h1 h2.1 h3 hu
theorem any_eqT {x : V} : ∀ {ss : List Str} {us : List Value}, Vals (ss.map V.str) us → us.any (eqT x) = memT x ss
  | [], _, .nil => rfl
  | z :: ss, u :: us, .cons r t => by
    obtain ⟨tk, rfl⟩ := r
    rw [List.any_cons, any_eqT t]
    rfl
theorem mem_txts : ∀ {ss : List Str} {us : List Value}, Vals (ss.map V.str) us → ∀ u ∈ us, ∃ z t, u = .str z t
  | [], _, .nil => fun u hu => by cases hu
  | z :: ss, u :: us, .cons r t => fun u' hu => by
    rcases List.mem_cons.mp hu with rfl | hu
    · obtain ⟨tk, rfl⟩ := r; exact ⟨_, _, rfl⟩
    · exact mem_txts t u' hu
/-- x in a tuple (or list) of texts, x a value of a known kind -/
def rInT (K : PySem.W.Frag) (neg : Bool) : R2 := fun x y H Q => ∃ p ss, y = .ref p ∧ (SqL K H p (ss.map V.str) ∨ SqT K H p (ss.map V.str)) ∧ Kd H x ∧ Q (.bl (if neg then !memT x ss else memT x ss)) H
theorem op_inT (hu : X.A.units + 1 < cLine) : OpR X (compareOp .In) (rInT X.K false) := by
  intro pins s σ H x y v u Q I rx ry h
  obtain ⟨p, ss, rfl, hq, kx, q⟩ := h
  cases ry
  have hA : X.A.in1.units < cLine := hu
  rcases hq with hq | hq
  · obtain ⟨its, r, pl, hz⟩ := I.list hq
    refine in_listAt (eqT x) pl.isList (fun w hw => ?_) ⟨.bl _, H, I, rfl, ?_⟩
    · obtain ⟨z, t, rfl⟩ := mem_txts r w (by simpa using hw)
      exact eqAt_txt I kx rx hA z t
    · rw [show its.toArray.any (eqT x) = its.any (eqT x) by simp, any_eqT r]
      exact q
  · obtain ⟨its, r, pl, hz⟩ := I.tuple hq
    refine in_tupleAt (eqT x) pl (fun w hw => ?_) ⟨.bl _, H, I, rfl, ?_⟩
    · obtain ⟨z, t, rfl⟩ := mem_txts r w (by simpa using hw)
      exact eqAt_txt I kx rx hA z t
    · rw [show its.toArray.any (eqT x) = its.any (eqT x) by simp, any_eqT r]
      exact q
theorem op_notInT (hu : X.A.units + 1 < cLine) : OpR X (compareOp .NotIn) (rInT X.K true) := by
  intro pins s σ H x y v u Q I rx ry h
  obtain ⟨p, ss, rfl, hq, kx, q⟩ := h
  cases ry
  have hA : X.A.in1.units < cLine := hu
  rcases hq with hq | hq
  · obtain ⟨its, r, pl, hz⟩ := I.list hq
    refine notIn_listAt (eqT x) pl.isList (fun w hw => ?_) ⟨.bl _, H, I, rfl, ?_⟩
    · obtain ⟨z, t, rfl⟩ := mem_txts r w (by simpa using hw)
      exact eqAt_txt I kx rx hA z t
    · rw [show its.toArray.any (eqT x) = its.any (eqT x) by simp, any_eqT r]
      exact q
  · obtain ⟨its, r, pl, hz⟩ := I.tuple hq
    refine notIn_tupleAt (eqT x) pl (fun w hw => ?_) ⟨.bl _, H, I, rfl, ?_⟩
    · obtain ⟨z, t, rfl⟩ := mem_txts r w (by simpa using hw)
      exact eqAt_txt I kx rx hA z t
    · rw [show its.toArray.any (eqT x) = its.any (eqT x) by simp, any_eqT r]
      exact q
end
end CA
namespace CA
open PySem L2 PySem.Spec PyProof.Rows
/-! ### C(e, ..) where what __init__ raises is wished for at the caller's slots -/
section
variable {X : Cx} {CX : CXT} {k : Nat} {f C : Addr} {fd : FuncData} {ps : List Str} {sp : Sp} {dvs : List V} {ds : List Value} {E : L2.St → XK} {x : Str} {p pos : Pos} {e : Expr} {es : List Expr} {t : TA}
def tMakeS (C : Addr) (sp : Sp) (E : L2.St → XK) (t : TA) : TE := fun σ H Q => t σ H fun vs H1 => ∀ x dx, H1 x = none → H1 dx = none → dx ≠ x → sp (.ref x :: vs) (upd (upd H1 dx (.own x)) x (.ins C dx [])) (fun v H2 => v = .non ∧ Q (.ref x) H2) (E σ)
theorem run_makeS {pins : List (Addr × Obj)} {σ : L2.St} {H : Hp} {s : Shared} {Q : VK} {us : List Value} {vs : List V} (M : Mk X.K C f) (F : FnOk X.prog X.w X.K X.mg X.base CX k f fd ps sp) (hr : Room (k + 1) X.A) (hb : Binds X.K fd ps [])
    (hx : PassesAt CX X σ (E σ)) (I : Inv X pins σ H s) (r : Vals vs us)
    (h : ∀ x dx, H x = none → H dx = none → dx ≠ x → sp (.ref x :: vs) (upd (upd H dx (.own x)) x (.ins C dx [])) (fun v H2 => v = .non ∧ Q (.ref x) H2) (E σ)) :
    wpAny (model X.prog X.w) X.A (call (.ref C) us) (EP X pins σ Q) X.xe s := by
  have hq := h (s.heap.objs.size + 1) s.heap.objs.size (I.hok.fresh (Nat.le_succ _)) (I.hok.fresh (Nat.le_refl _)) (Nat.ne_of_lt (Nat.lt_succ_self _))
  have I2 := Inv.made (C := C) I
  have r2 : Vals (V.ref (s.heap.objs.size + 1) :: vs) (Value.ref (s.heap.objs.size + 1) :: us) := .cons rfl r
  have hl : (Value.ref (s.heap.objs.size + 1) :: us).length = ps.length := by
    have e := r2.length
    rw [F.len _ _ _ _ hq] at e
    exact e.symm
  have bb := hb _ (Value.ref (s.heap.objs.size + 1) :: us) I2.kIn (by rw [List.append_nil]; exact hl)
  rw [List.append_nil] at bb
  refine wpAny_call (make_map (f := f) I.kIn M.makes M.init (beq_iff_eq.mp M.fn) (codeAny_mono (F.run _ X.stack _ _ ⟨Value.ref (s.heap.objs.size + 1) :: us, []⟩ (Value.ref (s.heap.objs.size + 1) :: us) _ _ (E σ) (hr.make C us [])
    (I2.env0.make C us []) bb r2 hq) fun r s' hq' => ?_))
  cases r with
  | error e => exact hx pins _ _ e s' I2 hq'
  | ok fl =>
    cases fl with
    | ret u =>
      obtain ⟨v, H', I3, rv, ev, q3⟩ := I2.after hq'
      subst ev
      exact ⟨rv, ⟨V.ref (s.heap.objs.size + 1), H', I3, rfl, q3⟩⟩
    | next => exact False.elim hq'
    | brk => exact False.elim hq'
    | cont => exact False.elim hq'
theorem pe_makeS (M : Mk X.K C f) (F : FnOk X.prog X.w X.K X.mg X.base CX k f fd ps sp) (hr : Room (k + 1) X.A) (hg : Gl X x) (hm : X.mg x = some (.ref C)) (hb : Binds X.K fd ps []) (hx : ∀ σ, PassesAt CX X σ (E σ))
    (ha : PA X (e :: es) t) (hdb : (x == ("__debug__" : Str)) = false := by decide) (he : starEach (e :: es) X.env = (false, eval e X.env) :: starEach es X.env := by rfl) (hpl : (backTo pos (starEach es X.env)).any (·.1) = false := by rfl) :
    PE X (.Call (.Name x p) (e :: es) [] pos) (tMakeS C sp E t) := by
  refine ⟨fun pins s σ H Q I h => ?_⟩
  refine wpAny_Call_Name_kw (ld_glob I hg hm ?_ hdb)
  refine PySem.W.callWith_K (h₀ := X.base) I.ok.mod.kin M.kp (thn (ha.run pos pins s σ H _ I h) fun us s1 ⟨vs, H1, I1, r, q⟩ => ⟨I1.kIn, ?_⟩) he hpl
  exact run_makeS M F hr hb (hx σ) I1 r q
end
/-! ### isinstance of the exception that a suite holds, one with a dict -/
structure ExcD (K : PySem.W.Frag) (D : Addr) : Prop where
  hcl : (PySem.W.clsIn K D).isSome = true
  hg : PySem.W.findIn K (.ref D) "__getattribute__" = some (some (.builtin "BaseException.__getattribute__"))
  hk : PySem.W.findIn K (.ref D) "__getattr__" = some none
  hs : PySem.W.subIn K (.ref D) (.type "BaseException") = some true
  ha : PySem.W.findIn K (.ref D) "__class__" = some (some (.builtin "object.__class__"))
  hn : PySem.W.specialIn K (.builtin "object.__class__") "__get__" = some (some (.builtin "getset_descriptor.__get__"))
  ht : PySem.W.takesIn K (.builtin "object.__class__") = some true
  hm : PySem.W.mroIn K D (.type "object") = some true
def rIsX (K : PySem.W.Frag) (D a : Addr) (cls : Value) (d : Option Addr) : List V → Hp → VK → Prop := fun xs H Q => ∃ (c : V) (cv : Value) (b : Bool) (dd : Addr) (fs : List (Str × V)), xs = [.ref a, c] ∧ cls = .ref D ∧ d = some dd ∧ H dd = some (.xd fs) ∧ (∀ u, RelV c u → u = cv) ∧ PySem.W.kitOne K (.ref D) cv = some b ∧ Q (.bl b) H
theorem call_isX {X : Cx} {a D : Addr} {oe : Obj} {cls : Value} {d : Option Addr} {pn : List (Addr × Obj)} (C : ExcD X.K D) (hz : Zc cls d oe) (hf : ∃ vs, oe.data = .fields vs) : CallR (X.suite a ((a, oe) :: pn)) (.builtin "isinstance") (rIsX X.K D a cls d) := by
  intro pins s σ H xs us Q I r h
  obtain ⟨c, cv, b, dd, fs, rfl, ec, ed, hd, hcv, e, q⟩ := h
  subst ec
  subst ed
  cases r with
  | cons rx rr =>
    cases rr with
    | cons rt rr =>
      cases rr
      cases rx
      have ec := hcv _ rt
      subst ec
      obtain ⟨hget, _⟩ := I.pin (a, oe) (List.mem_append.mpr (.inl List.mem_cons_self))
      obtain ⟨vs, hv⟩ := hf
      obtain ⟨mA, ⟨od, es, ep, ho, _⟩, _⟩ := I.hok dd _ hd
      have J : PySem.W.InstAt s.heap a oe D (some od) := ⟨hget, hz.1, by unfold PySem.W.notCls; rw [hv] <;> rfl, by rw [hz.2]; exact ho⟩
      exact PySem.W.kia_one (PySem.W.kitx_exc C.hcl C.hg C.hk C.hs C.ha C.hn C.ht C.hm) I.kIn J e (fun z => nomatch z) fun tk => ⟨.bl b, H, I.kept (t' := tk) fun _ _ z => z, rfl, q⟩
/-! ### own errors with one field -/
/-- the promise of def __init__(self, f): self.f = f -/
def spErr (K : PySem.W.Frag) (C : Addr) (f : Str) : Sp := fun vs H Q _ => ∃ (a : Addr) (v : V), vs = [.ref a, v] ∧ H a = some (exo a C none) ∧ ∀ dx, H dx = none → dx ≠ a → Q .non (upd (upd H dx (exd dx [(f, v)])) a (exo a C (some dx)))
/-- what the heap is behind the making of such an error -/
theorem err_heap {H : Hp} {a d : Addr} {o1 o2 o3 o4 : HO} (ha : H a = none) (hda : d ≠ a) : upd (L2.del (upd (upd (upd H a o1) d o2) a o3) a) d o4 = upd H d o4 := by
  funext b
  by_cases hb : b = d
  · subst hb; rw [upd_same, upd_same]
  · rw [upd_ne hb, upd_ne hb]
    by_cases hba : b = a
    · subst hba; rw [L2.del_same, ha]
    · rw [L2.del_ne hba, upd_ne hba, upd_ne hb, upd_ne hba]
/-- X(e), X an own error with one field, to be raised: its dict d is new -/
theorem mkO_of {K : PySem.W.Frag} {C : Addr} {f : Str} {te : TE} {σ : L2.St} {H : Hp} {W : XK} (h : te σ H fun v H1 => ∀ d, H1 d = none → W (.ref C) (some d) (upd H1 d (.xd [(f, v)]))) (mono : ∀ (Q Q' : VK), (∀ v H', Q v H' → Q' v H') → te σ H Q → te σ H Q') :
    tMkO C (spErr K C f) [] (tCons te tNil) σ H W := by
  refine mono _ _ (fun v H1 q => ?_) h
  refine ⟨by show 1 ≤ 1000; decide, fun a ha => ⟨a, v, rfl, upd_same, fun dx hdx hne => ⟨rfl, dx, [(f, v)], upd_same, by rw [upd_ne hne]; exact upd_same, ?_, ?_⟩⟩⟩
  · rw [upd_ne hne] at hdx; exact hdx
  · rw [err_heap ha hne]
    exact q dx (by rw [upd_ne hne] at hdx; exact hdx)
/-! ### == of two instances by their own __eq__ -/
section
variable {X : Cx} {CX : CXT} {k : Nat} {f C : Addr} {fd : FuncData} {ps : List Str} {sp : Sp}
def rEqOwn (C : Addr) (sp : Sp) : R2 := fun x y H Q => ∃ a b dx dy fs gs, x = .ref a ∧ y = .ref b ∧ H a = some (.ins C dx fs) ∧ H b = some (.ins C dy gs) ∧ sp [.ref a, .ref b] H (fun v H' => ∃ c, v = .bl c ∧ Q (.bl c) H') E0
theorem op_eqOwn (F : FnOk X.prog X.w X.K X.mg X.base CX k f fd ps sp) (hs : PySem.W.findIn X.K (.ref C) "__eq__" = some (some (.ref f))) (hf : PySem.W.isFn X.K (.ref f) = true) (hb : Binds X.K fd ps []) (hx : Passes CX X E0) (hr : Room k X.A) : OpR X (compareOp .Eq) (rEqOwn C sp) := by
  intro pins s σ H x y u v Q I rx ry h
  obtain ⟨a, b, dx, dy, fs, gs, rfl, rfl, ha, hb', hsp⟩ := h
  cases rx
  cases ry
  obtain ⟨mA, J, _⟩ := ins_get I.hok ha
  obtain ⟨mB, J', _⟩ := ins_get I.hok hb'
  obtain ⟨od, J, _⟩ := J.look
  obtain ⟨od', J', _⟩ := J'.look
  obtain ⟨m, hF⟩ := I.fr
  show wpAny (model X.prog X.w) X.A (richCompare .Eq (.ref a) (.ref b)) (EP X pins σ Q) X.xe s
  refine PySem.W.cmp_K (op := .Eq) (tb := .ref C) hr.units0 hF I.ok.mod.kin J J'.type (by simp [PySem.W.notFirst]) hs hf ?_
  have hl := F.len _ _ _ _ hsp
  have r2 : Vals [V.ref a, V.ref b] [Value.ref a, Value.ref b] := .cons rfl (.cons rfl .nil)
  refine wpAny_call (codeAny_mono (F.run X.A X.stack s H ⟨[.ref a, .ref b], []⟩ [.ref a, .ref b] [.ref a, .ref b] _ E0 hr I.env0 (by
    have := hb s [.ref a, .ref b] I.kIn (by simpa using hl)
    simpa using this) r2 hsp) fun r s' hq => ?_)
  cases r with
  | error e => exact hx pins σ H s e s' I hq
  | ok fl =>
    cases fl with
    | ret w =>
      obtain ⟨z, H', I', rz, c, ez, q⟩ := I.after hq
      subst ez
      cases rz
      exact ⟨.bl c, H', I', rfl, q⟩
    | next => exact False.elim hq
    | brk => exact False.elim hq
    | cont => exact False.elim hq
end
end CA
namespace CA
open PySem L2
/-! ### walks, for comprehensions of any depth -/
theorem walk_tup {K : PySem.W.Frag} {a : Addr} {xs : List V} {H0 : Hp} {Body : V → Hp → (Hp → Prop) → Prop} {Qd : Hp → Prop} (Pv : Nat → Hp → Prop) (h0 : Pv 0 H0) (hl : ∀ i H, i ≤ xs.length → Pv i H → SqT K H a xs)
    (hs : ∀ i x H, xs[i]? = some x → Pv i H → Body x H (Pv (i + 1))) (hd : ∀ H, Pv xs.length H → Qd H) :
    ∃ W : Nat → Nat → Hp → Prop, (∃ m, W 0 m H0) ∧ ∀ i m H, W i m H →
      ((Itt K a).stop i H ∧ Qd H) ∨ ((Itt K a).go i H ∧ ∃ Nx : Hp → Prop, (∀ H', Nx H' → ∃ m', m' < m ∧ W (i + 1) m' H') ∧ ∀ x H', (Itt K a).yld i H x H' → Body x H' Nx) := by
  refine ⟨fun i m H => m = xs.length - i ∧ i ≤ xs.length ∧ Pv i H, ⟨xs.length, by simp, Nat.zero_le _, h0⟩, ?_⟩
  rintro i m H ⟨rfl, hi, p⟩
  have q := hl i H hi p
  by_cases hlt : i < xs.length
  · refine .inr ⟨⟨xs, xs[i], q, by simp [hlt]⟩, Pv (i + 1), fun H' p' => ⟨xs.length - (i + 1), by omega, rfl, hlt, p'⟩, fun x H' y => ?_⟩
    obtain ⟨e, y⟩ := y
    subst e
    exact hs i x _ (y xs q) p
  · have e : i = xs.length := by omega
    subst e
    exact .inl ⟨⟨xs, q, Nat.le_refl _⟩, hd H p⟩
theorem walk_list {K : PySem.W.Frag} {a : Addr} {xs : List V} {H0 : Hp} {Body : V → Hp → (Hp → Prop) → Prop} {Qd : Hp → Prop} (Pv : Nat → Hp → Prop) (h0 : Pv 0 H0) (hl : ∀ i H, i ≤ xs.length → Pv i H → SqL K H a xs)
    (hs : ∀ i x H, xs[i]? = some x → Pv i H → Body x H (Pv (i + 1))) (hd : ∀ H, Pv xs.length H → Qd H) :
    ∃ W : Nat → Nat → Hp → Prop, (∃ m, W 0 m H0) ∧ ∀ i m H, W i m H →
      ((Itl K a).stop i H ∧ Qd H) ∨ ((Itl K a).go i H ∧ ∃ Nx : Hp → Prop, (∀ H', Nx H' → ∃ m', m' < m ∧ W (i + 1) m' H') ∧ ∀ x H', (Itl K a).yld i H x H' → Body x H' Nx) := by
  refine ⟨fun i m H => m = xs.length - i ∧ i ≤ xs.length ∧ Pv i H, ⟨xs.length, by simp, Nat.zero_le _, h0⟩, ?_⟩
  rintro i m H ⟨rfl, hi, p⟩
  have q := hl i H hi p
  by_cases hlt : i < xs.length
  · refine .inr ⟨⟨xs, xs[i], q, by simp [hlt]⟩, Pv (i + 1), fun H' p' => ⟨xs.length - (i + 1), by omega, rfl, hlt, p'⟩, fun x H' y => ?_⟩
    obtain ⟨e, y⟩ := y
    subst e
    exact hs i x _ (y xs q) p
  · have e : i = xs.length := by omega
    subst e
    exact .inl ⟨⟨xs, q, Nat.le_refl _⟩, hd H p⟩
theorem walk_range {lo : Int} {n : Nat} {H0 : Hp} {Body : V → Hp → (Hp → Prop) → Prop} {Qd : Hp → Prop} (Pv : Nat → Hp → Prop) (h0 : Pv 0 H0)
    (hs : ∀ i H, i < n → Pv i H → Body (.int (lo + i)) H (Pv (i + 1))) (hd : ∀ H, Pv n H → Qd H) :
    ∃ W : Nat → Nat → Hp → Prop, (∃ m, W 0 m H0) ∧ ∀ i m H, W i m H →
      ((Itr lo n).stop i H ∧ Qd H) ∨ ((Itr lo n).go i H ∧ ∃ Nx : Hp → Prop, (∀ H', Nx H' → ∃ m', m' < m ∧ W (i + 1) m' H') ∧ ∀ x H', (Itr lo n).yld i H x H' → Body x H' Nx) := by
  refine ⟨fun i m H => m = n - i ∧ i ≤ n ∧ Pv i H, ⟨n, by simp, Nat.zero_le _, h0⟩, ?_⟩
  rintro i m H ⟨rfl, hi, p⟩
  by_cases hlt : i < n
  · refine .inr ⟨hlt, Pv (i + 1), fun H' p' => ⟨n - (i + 1), by omega, rfl, hlt, p'⟩, fun x H' y => ?_⟩
    obtain ⟨e, y⟩ := y
    subst e y
    exact hs i _ hlt p
  · have e : i = n := by omega
    subst e
    exact .inl ⟨Nat.le_refl _, hd H p⟩
end CA
/-! Sets of texts: what one is, add, in, sorted, the comprehension, set() of a tuple or a list of texts. -/
namespace CA
open PySem PySem.Spec PyProof.Rows L2 PySem.Froz

/-- an entry of the table -/
def ent (w : World) (p : PySem.Str × Tok) : Int × Value := (hashStr w p.1, .str p.1 p.2)
structure SetD (P : Program) (w : World) (D : SD) (l : List PySem.Str) : Prop where
  ok : TxOk P w D l
  pm : ∃ ps : List (PySem.Str × Tok), D.1.toList.Perm (ps.map (ent w)) ∧ ps.map (·.1) = l
  nd : l.Nodup
  ris : Ris D.2.2.place.toList
  led : w.params.followText "set-order" = true ∨ D.2.2.led = true
/-- the set of the texts l at a -/
def SetS (P : Program) (w : World) (h : Heap) (a : Addr) (l : List PySem.Str) : Prop := ∃ D, h.get? a = some (sObj "set" D) ∧ SetD P w D l
def addL (k : PySem.Str) (l : List PySem.Str) : List PySem.Str := if k ∈ l then l else k :: l

section
variable {P : Program} {w : World} {h h' : Heap} {a : Addr} {l : List PySem.Str}
theorem SetS.at (R : SetS P w h a l) (k : ∀ o, h.get? a = some o → h'.get? a = some o) : SetS P w h' a l := by
  obtain ⟨D, ho, r⟩ := R
  exact ⟨D, k _ ho, r⟩
theorem SetS.lt (R : SetS P w h a l) : a < h.objs.size := by
  obtain ⟨D, ho, r⟩ := R
  exact Heap.lt_size ho

theorem tail_perm (ep : Nat) (es1 : Array (Int × Value)) (t2 : SetTable) (d : Bool) : (tailTx ep es1 t2 d).1.toList.Perm es1.toList := by
  unfold tailTx
  split
  · exact relayAll_perm _ _ _
  · exact List.Perm.refl _
theorem tail_ris (ep : Nat) (es1 : Array (Int × Value)) (t2 : SetTable) (d : Bool) (r : Ris t2.place.toList) : Ris (tailTx ep es1 t2 d).2.2.place.toList := by
  unfold tailTx
  split
  · exact relayAll_ris _ _ _
  · exact r
theorem tail_led (ep : Nat) (es1 : Array (Int × Value)) (t2 : SetTable) (d : Bool) : (tailTx ep es1 t2 d).2.2.led = t2.led := by
  unfold tailTx
  split
  · exact relayAll_led _ _ _
  · rfl
theorem SetD.more {D : SD} (F : SetD P w D l) {k : PySem.Str} (u : Tok) (hk : k ∉ l) : SetD P w (addTx (hashStr w k) (.str k u) D) (k :: l) := by
  obtain ⟨ok, ⟨ps, pm, pl⟩, nd, ris, led⟩ := F
  have p1 := layNew_perm D.2.2 D.1 (hashStr w k) (.str k u)
  have r1 := layNew_ris D.2.2 D.1 (hashStr w k) (.str k u) ris
  have l1 := layNew_led D.2.2 D.1 (hashStr w k) (.str k u)
  rw [Array.toList_push] at p1
  have p2 : (layNew D.2.2 D.1 (hashStr w k) (.str k u)).1.toList.Perm (((k, u) :: ps).map (ent w)) :=
    (p1.trans (List.perm_append_singleton _ _)).trans (List.Perm.cons _ pm)
  refine ⟨add_ok u ok, ⟨(k, u) :: ps, (tail_perm _ _ _ _).trans p2, by rw [List.map_cons, pl]⟩, List.nodup_cons.mpr ⟨hk, nd⟩, tail_ris _ _ _ _ ?_, led.imp id fun z => (tail_led _ _ _ _).trans ?_⟩
  · split
    · exact r1
    · exact r1
  · split
    · exact l1.trans z
    · exact l1.trans z
theorem SetS.setOf (R : SetS P w h a l) (hb : l.length < scanBound) : h.SetOf (PySem.strKind P w) a (fun k => decide (k ∈ l)) l.length := by
  obtain ⟨D, ho, r⟩ := R
  have e : D.1.size = l.length := r.ok.sz
  exact ⟨_, D.1, D.2.1, D.2.2, ho, ⟨rfl, rfl, rfl⟩, rfl, r.ok.el, fun k => by rw [decide_eq_true_eq]; exact r.ok.mem k, by rw [e]; exact hb, r.ok.fit, e⟩
theorem setS_fresh {h : Heap} (P : Program) (w : World) : SetS P w (h.push { cls := .type "set", dict := none, data := .set #[] 0 (.fresh 0 0 (!w.params.followText "set-order")) }) h.objs.size [] :=
  ⟨(#[], 0, .fresh 0 0 (!w.params.followText "set-order")), Heap.get?_push_size _ rfl, TxOk.nil rfl, ⟨[], List.Perm.refl _, rfl⟩, List.nodup_nil, List.Pairwise.nil, by
    show _ ∨ (!w.params.followText "set-order") = true
    cases w.params.followText "set-order"
    · exact .inr rfl
    · exact .inl rfl⟩
end

section
variable {P : Program} {w : World} {A : Around} {E : Value → Shared → Prop} {s : Shared} {a : Addr} {l : List PySem.Str}
theorem has_hashed {k : PySem.Str} {u : Tok} {Q : Bool → Shared → Prop} (R : SetS P w s.heap a l) (hb : l.length < scanBound) (hk : k ∈ l) (hQ : Q false s) :
    wpAny (model P w) A (setAddHashed a (.str k u) (hashStr w k)) Q E s := by
  obtain ⟨⟨es, ep, t⟩, ho, F, -, -, -, -⟩ := R
  have hd : (sObj "set" (es, ep, t)).data = .set es ep t := rfl
  have hel : ElemsOf (PySem.strKind P w) es.toList := F.el
  have hsz : es.size = l.length := F.sz
  have hf : t.fits es.size = true := F.fit
  have hkey : (PySem.strKind P w).is k (.str k u) = true := is_str k u
  obtain ⟨e, he, hq⟩ := (F.mem k).mp hk
  unfold setAddHashed setAddHashedIn
  refine wpAny_holding (wpAny_bind (wpAny_setState_of ho hd hf ?_))
  dsimp only
  rw [byScan_of rfl (by omega) hel]
  simp only [↓reduceIte]
  unfold setAddByScan
  refine wpAny_bind (wpAny_bind (wpAny_rule (wpAny_bind (wpAny_setScan_of hkey ho hd hf hel ?_))))
  cases hfi : List.findIdx? (fun e => (PySem.strKind P w).is k e.2) es.toList with
  | some j => exact wpAny_pure (wpAny_pure hQ)
  | none =>
    have c := List.findIdx?_eq_none_iff.mp hfi e he
    rw [hq] at c
    cases c
theorem setS_hashed {k : PySem.Str} {u : Tok} {Q : Bool → Shared → Prop} (R : SetS P w s.heap a l) (hb : l.length + 1 < scanBound)
    (hQ : ∀ b h', Heap.SameBut a s.heap h' → SetS P w h' a (addL k l) → Q b { s with heap := h' }) :
    wpAny (model P w) A (setAddHashed a (.str k u) (hashStr w k)) Q E s := by
  unfold addL at hQ
  by_cases hk : k ∈ l
  · rw [if_pos hk] at hQ
    exact has_hashed R (by omega) hk (hQ false s.heap (Heap.SameBut.refl a s.heap) R)
  · rw [if_neg hk] at hQ
    obtain ⟨D, ho, F⟩ := R
    refine add_x ho F.ok hk hb (hQ true _ (Heap.SameBut.update s.heap a _) ⟨_, get_upd _ ho rfl, F.more u hk⟩)
/-- found.add(k) -/
theorem setS_add {k : PySem.Str} {u : Tok} {Q : Value → Shared → Prop} (R : SetS P w s.heap a l) (hb : l.length + 1 < scanBound)
    (hQ : ∀ h', Heap.SameBut a s.heap h' → SetS P w h' a (addL k l) → Q .none { s with heap := h', toks := s.toks + 1 }) :
    wpAny (model P w) A (call (.builtin "set.add") [.ref a, .str k u]) Q E s := by
  have hS := R.setOf (by omega)
  refine wpAny_call_entry PySem.F.slot_set_add hS.typeIs PySem.F.entry_set_add ?_ (PySem.F.args_set_add_2 _ _)
  unfold Builtin.«set.add» Builtin.Frozenset.oneOther
  simp only [List.isEmpty_nil, bind_assoc]
  unfold Builtin.Frozenset.addrOf setAdd
  refine wpAny_bind (wpAny_pure ?_)
  try dsimp only
  refine wpAny_bind (wpAny_pure ?_)
  try dsimp only
  refine wpAny_bind (wpAny_holding (wpAny_bind ((PySem.strKind P w).pyHash (is_str k u) ?_)))
  refine setS_hashed (s := { s with toks := s.toks + 1 }) R hb fun b h' sb r => ?_
  show wpAny _ _ (ret Value.none) _ _ _
  exact wpAny_pure ⟨_, rfl, hQ h' sb r⟩
end
end CA
/-! Comprehensions of any kind and depth: the turn's last step (the leaf) is a parameter. -/
namespace CA
open PySem PySem.Spec L2
open PyProof.Rows hiding St

abbrev Leaf := Value → Env → Sem Unit
/-- a turn of the k-th clause of cx, whose last step is the leaf -/
def turnOf (cx : Expr) (k : Nat) (t0 iter : Expr) (ifs : List Expr) (leaf : Leaf) (it acc : Value) (env : Env) : Sem PySem.Fin := do
  standAt iter.pos
  match ← pyNext it with
  | none => pure (.done .next)
  | some v =>
    letOwnedTupleGo t0 it v
    assign t0 env v
    let mut ok := true
    for c in ifs do
      if ok then ok ← isTrue c env (eval c env)
    if ok then
      leaf acc env
    again (.compLoop cx k it acc env)

/-- the k-th clause's loop runs such turns -/
structure IsTurn (prog : Program) (w : World) (cx : Expr) (k : Nat) (t0 iter : Expr) (ifs : List Expr) (leaf : Leaf) : Prop where
  q : ∀ (it : Value) (D : Addr) (env : Env), (Code.compLoop cx k it (.ref D) env).quiet = true
  u : ∀ (A : Around) (it : Value) (D : Addr) (env : Env), A.under (Code.compLoop cx k it (.ref D) env) = A
  d : ∀ (it : Value) (D : Addr) (env : Env), (model prog w).den (.compLoop cx k it (.ref D) env) = (turnOf cx k t0 iter ifs leaf it (.ref D) env).onRaise (fun x => do noteFrame x env; theTreesLotGoes x)
theorem loopG {prog : Program} {w : World} {A : Around} {R : Result → Shared → Prop} {s : Shared} {cx : Expr} {k : Nat} {t0 iter : Expr} {ifs : List Expr} {leaf : Leaf} {it : Value} {D : Addr} {env : Env}
    (hT : IsTurn prog w cx k t0 iter ifs leaf) (I : Nat → Shared → Prop)
    (turn : ∀ n s, I n s → wpAny (model prog w) A (pyNext it) (fun r s₁ => match r with
      | none => R (.ok .next) s₁
      | some v => wpAny (model prog w) A (letOwnedTupleGo t0 it v) (fun _ s₁' => wpAny (model prog w) A (assign t0 env v) (fun _ s₂ =>
          wpAny (model prog w) A (forIn ifs true fun c r => if r = true then do let ok ← isTrue c env (eval c env); pure (ForInStep.yield ok) else pure (ForInStep.yield r)) (fun ok s₃ =>
            if ok = true then wpAny (model prog w) A (leaf (.ref D) env) (fun _ s₄ => ∃ m, m < n ∧ I m s₄) (fun _ _ => False) s₃
            else ∃ m, m < n ∧ I m s₃) (fun _ _ => False) s₂) (fun _ _ => False) s₁') (fun _ _ => False) s₁) (fun _ _ => False) s)
    (n : Nat) (h : I n s) : codeAny (model prog w) A (.compLoop cx k it (.ref D) env) R s := by
  refine codeAny_loop (hT.q _ _ _) I (fun n s hI => ?_) n h
  rw [hT.u, hT.d]
  refine wpAny_noted ?_
  unfold turnOf
  refine wpAny_bind (wpAny_standAt (wpAny_bind (thnF (turn n s hI) fun r s₁ h₁ => ?_)))
  cases r with
  | none => exact wpAny_pure h₁
  | some v =>
    refine wpAny_bind (thnF h₁ fun _ s₁' h₁' => ?_)
    refine wpAny_bind (thnF h₁' fun _ s₂ h₂ => wpAny_bind (thnF h₂ fun ok s₃ h₃ => ?_))
    cases ok with
    | false => exact wpAny_pure ⟨rfl, h₃⟩
    | true => exact wpAny_bind (thnF h₃ fun _ s₄ h₄ => wpAny_pure ⟨rfl, h₄⟩)

/-- σ' knows what σ knows, but for the slots vs -/
def KeepS (vs : List Nat) (σ σ' : St) : Prop := σ'.length = σ.length ∧ ∀ (i : Nat) v, i ∉ vs → σ[i]? = some (some v) → σ'[i]? = some (some v)
theorem KeepS.refl (vs : List Nat) (σ : St) : KeepS vs σ σ := ⟨rfl, fun _ _ _ e => e⟩
/-- the turn's last step, in the block Y: D what is gathered -/
structure PLf (Y : Cx) (leaf : Leaf) (vs : List Nat) (tl : Addr → St → Hp → (Hp → Prop) → Prop) : Prop where
  run : ∀ (pins : List (Addr × Obj)) (s : Shared) (σ : St) (H : Hp) (D : Addr) (Nx : Hp → Prop), Inv Y pins σ H s → tl D σ H Nx →
    wpAny (model Y.prog Y.w) Y.A (leaf (.ref D) Y.env) (fun _ s' => ∃ σ' H', Inv Y pins σ' H' s' ∧ KeepS vs σ σ' ∧ Nx H') (fun _ _ => False) s
abbrev TL := Addr → St → Hp → (Hp → Prop) → Prop
/-- what the loop of one clause is asked: from H3 to Qd -/
def tLoop (J : It) (g : TG) (tt : TT) (tl : TL) (vs : List Nat) (D : Addr) (σ : St) (H3 : Hp) (Qd : Hp → Prop) : Prop :=
  ∃ W : Nat → Nat → Hp → Prop, (∃ m, W 0 m H3) ∧ ∀ i m H, W i m H →
    (J.stop i H ∧ Qd H) ∨ (J.go i H ∧ ∃ Nx : Hp → Prop, (∀ H', Nx H' → ∃ m', m' < m ∧ W (i + 1) m' H') ∧ ∀ x H', J.yld i H x H' → g x (wipe σ vs) H' fun σ2 H2 => wipe σ2 vs = wipe σ vs ∧ tt σ2 H2 fun b H3 =>
      if b = true then tl D σ2 H3 Nx else Nx H3)
section
variable {Y : Cx}
theorem blk_loop {cx : Expr} {k : Nat} {t0 iter : Expr} {ifs : List Expr} {leaf : Leaf} {it D : Addr} {g : TG} {tt : TT} {tl : TL} {vs vl : List Nat} {p : List (Addr × Obj)} {σ : St} {H3 : Hp} {s : Shared} {fp : List Addr} {J : It} {tn : Nat → Heap → Prop} {Qd : Hp → Prop} {R : Result → Shared → Prop}
    (hc : Y.calm = true) (hx : Y.xe = fun _ _ => False) (hT : IsTurn Y.prog Y.w cx k t0 iter ifs leaf) (hv : ∀ i ∈ vl, i ∈ vs)
    (pg : PG Y t0 g) (pt : PTs Y ifs tt) (pl : PLf Y leaf vl tl) (I : Inv Y p (wipe σ vs) H3 s) (T : Turn Y.prog Y.w Y.K t0 J fp it tn) (st0 : tn 0 s.heap) (hf : ∀ b ∈ fp, FpOk Y p H3 b)
    (h : tLoop J g tt tl vs D σ H3 Qd) (hR : ∀ s' H', Inv Y p (wipe σ vs) H' s' → Qd H' → R (.ok .next) s') :
    codeAny (model Y.prog Y.w) Y.A (.compLoop cx k (.ref it) (.ref D) Y.env) R s := by
  obtain ⟨W, ⟨m0, w0⟩, turn⟩ := h
  have stat : ∀ {H' : Hp}, (∀ b ∈ fp, H' b = none) → ∀ b ∈ fp, FpOk Y p H' b := fun hn b hb => ⟨hn b hb, (hf b hb).2⟩
  refine loopG hT (fun n s' => ∃ i H', Inv Y p (wipe σ vs) H' s' ∧ tn i s'.heap ∧ (∀ b ∈ fp, H' b = none) ∧ W i n H') ?_ m0 ⟨0, H3, I, st0, fun b hb => (hf b hb).1, w0⟩
  rintro n s5 ⟨i, H5, I5, st5, n5, w5⟩
  rcases turn i n H5 w5 with ⟨stop, qq⟩ | ⟨go, Nx, hNx, step⟩
  · refine wpAny_mono (T.done Y rfl rfl rfl hc i p s5 _ H5 (fun _ _ => False) I5 (stat n5) st5 stop) (fun r s6 ⟨hr, I6⟩ => ?_) fun _ _ z => z
    subst hr
    exact hR s6 H5 I6 qq
  · refine wpAny_mono (T.item Y rfl rfl rfl hc i p s5 _ H5 (fun _ _ => False) I5 (stat n5) st5 go) (fun r s6 ⟨u, hr, h6⟩ => ?_) fun _ _ z => z
    subst hr
    refine wpAny_mono h6 (fun _ s7 ⟨x, H7, I7, r7, y7, st7, n7⟩ => ?_) fun _ _ z => z
    have I7' := I7.pinned (stat n7) (T.obj _ _ st7)
    have z1 := pg.run _ s7 _ H7 x u _ I7' r7 (step x H7 y7)
    rw [hx] at z1
    refine wpAny_mono z1 (fun _ s8 ⟨σ8, H8, I8, hw8, q8⟩ => ?_) fun _ _ z => z
    have z2 := pt.run _ s8 σ8 H8 _ I8 q8
    rw [hx] at z2
    refine wpAny_mono z2 (fun b s9 ⟨H9, I9, q9⟩ => ?_) fun _ _ z => z
    have fin : ∀ {σ' : St} {s' : Shared} {H' : Hp}, Inv Y (p ++ pinsAt fp s7.heap) σ' H' s' → KeepS vl σ8 σ' → Nx H' → ∃ m, m < n ∧ ∃ i H', Inv Y p (wipe σ vs) H' s' ∧ tn i s'.heap ∧ (∀ b ∈ fp, H' b = none) ∧ W i m H' := fun {σ' s' H'} I' ks nx => by
      obtain ⟨m', hm, w'⟩ := hNx H' nx
      have pin' : ∀ b ∈ fp, ∀ o, s7.heap.get? b = some o → s'.heap.get? b = some o ∧ H' b = none := fun b hb o e =>
        let z := I'.pin (b, o) (List.mem_append_right _ (List.mem_append_right _ (mem_pinsAt hb e)))
        ⟨z.1, z.2.1⟩
      have hl : (wipe σ vs).length = σ'.length := by rw [ks.1, ← hw8, wipe_length]
      refine ⟨m', hm, i + 1, H', I'.unpinned.weak hl (fun j v e => ?_), T.keep _ _ _ st7 fun b hb o e => (pin' b hb o e).1, fun b hb => ?_, w'⟩
      · rw [← hw8] at e
        obtain ⟨e1, e2⟩ := wipe_some e
        exact ks.2 j v (fun z => e2 (hv j z)) e1
      · obtain ⟨o, e, _⟩ := T.obj _ _ st7 b hb
        exact (pin' b hb o e).2
    cases b with
    | false =>
      simp only [Bool.false_eq_true, if_false] at q9 ⊢
      exact fin I9 (KeepS.refl _ _) q9
    | true =>
      simp only [if_true] at q9 ⊢
      exact wpAny_mono (pl.run _ s9 σ8 H9 D Nx I9 q9) (fun _ s10 ⟨σ', H', I', ks, nx⟩ => fin I' ks nx) fun _ _ z => z
/-- the leaf that is a clause of its own -/
def leafIn (cx : Expr) (k : Nat) (iter : Expr) : Leaf := fun acc env => do
  let x ← eval iter env
  standAt iter.pos
  let x ← foldedSetIterable iter env x
  let _ ← runOwn (.compStart cx k (← holding [x] (pyIter x)) acc env) env
def tIn (wi : TI) (g : TG) (tt : TT) (tl : TL) (vs : List Nat) : TL := fun D σ H Nx => wi σ H fun J H1 => tLoop J g tt tl vs D σ H1 Nx
theorem pl_in {cx : Expr} {k : Nat} {t0 iter : Expr} {ifs : List Expr} {leaf : Leaf} {wi : TI} {g : TG} {tt : TT} {tl : TL} {vs vl : List Nat} (hc : Y.calm = true) (hx : Y.xe = fun _ _ => False) (hT : IsTurn Y.prog Y.w cx k t0 iter ifs leaf) (hv : ∀ i ∈ vl, i ∈ vs)
    (hS : ∀ (R : Result → Shared → Prop) (s : Shared) (it : Value) (D : Addr) (env : Env), codeAny (model Y.prog Y.w) Y.A (.compLoop cx k it (.ref D) env) R s → wpAny (model Y.prog Y.w) Y.A (pyIter it) (fun it' s' => codeAny (model Y.prog Y.w) Y.A (.compLoop cx k it' (.ref D) env) R s')
      (notedBy (model Y.prog Y.w) Y.A env fun x s' => R (.error x) s') s → codeAny (model Y.prog Y.w) Y.A (.compStart cx k it (.ref D) env) R s)
    (hi : PI Y t0 iter wi) (hs : ∀ env x, foldedSetIterable iter env x = pure x) (pg : PG Y t0 g) (pt : PTs Y ifs tt) (pl : PLf Y leaf vl tl) : PLf Y (leafIn cx k iter) vs (tIn wi g tt tl vs) := by
  refine ⟨fun p s σ H D Nx I h => ?_⟩
  unfold leafIn
  have z1 := hi.run p s σ H _ I h
  rw [hx] at z1
  refine wpAny_bind (wpAny_mono z1 (fun xv s1 h1 => ?_) fun _ _ z => z)
  refine wpAny_bind (wpAny_standAt (wpAny_bind (wpAny_of_eq (hs _ xv) ?_)))
  refine wpAny_bind (wpAny_holding (wpAny_mono h1 (fun itv s2 h2 => ?_) fun _ _ z => z))
  obtain ⟨it, fp, tn, J, H2, e, I2, T, st2, f2, q⟩ := h2
  subst e
  refine wpAny_bind (wpAny_runOwn ?_)
  rw [Around.mark_none]
  have loop : codeAny (model Y.prog Y.w) Y.A (.compLoop cx k (.ref it) (.ref D) Y.env) (fun r s' => match r with
      | .ok _ => ∃ H', Inv Y p (wipe σ vs) H' s' ∧ Nx H'
      | .error _ => False) s2 := blk_loop hc hx hT hv pg pt pl (I2.weak (wipe_length _ _) (fun j v e => (wipe_some e).1)) T st2 f2 q fun s' H' I' q' => ⟨H', I', q'⟩
  refine codeAny_mono (hS _ _ _ _ _ loop (T.self Y.A 0 _ _ _ st2 loop)) fun r s' hr => ?_
  cases r with
  | ok f =>
    obtain ⟨H', I', nx⟩ := hr
    first
      | exact wpAny_pure ⟨_, H', I', ⟨wipe_length _ _, fun i v hi e => by rw [wipe_out hi]; exact e⟩, nx⟩
      | exact wpAny_bind (wpAny_pure (wpAny_pure ⟨_, H', I', ⟨wipe_length _ _, fun i v hi e => by rw [wipe_out hi]; exact e⟩, nx⟩))
  | error e => exact hr.elim
end
section
variable {X : Cx}
/-- a comprehension's value: ho what is new at D -/
def tGc (wi : TI) (g : TG) (tt : TT) (tl : TL) (vs : List Nat) (ho : Addr → HO) : TE := fun σ H Q => wi σ H fun J H1 => ∀ D, H1 D = none → tLoop J g tt tl vs D σ (upd H1 D (ho D)) fun H' => Q (.ref D) H'
theorem gc_core {cx : Expr} {gs : List Comprehension} {tg iter : Expr} {ifs : List Expr} {leaf : Leaf} {scope : Scope} {own : List (PySem.Str × Nat)} {vl : List Nat} {pos' : Pos} {newAcc : Sem Value} {o : Obj} {ho : Addr → HO} {wi : TI} {g : TG} {tt : TT} {tl : TL} {use : Option (Value → Sem Unit)} {Qf : Value → Shared → Prop}
    {pins : List (Addr × Obj)} {s : Shared} {σ : L2.St} {H : Hp} {Q : VK}
    (hcl : clausesOf cx = ⟨tg, iter, ifs, 0⟩ :: gs) (hT : IsTurn X.prog X.w cx 0 tg iter ifs leaf)
    (hS : ∀ (R : Result → Shared → Prop) (s : Shared) (it : Value) (D : Addr) (env : Env), codeAny (model X.prog X.w) X.A (.compLoop cx 0 it (.ref D) env) R s → wpAny (model X.prog X.w) X.A (pyIter it) (fun it' s' => codeAny (model X.prog X.w) X.A (.compLoop cx 0 it' (.ref D) env) R s')
      (notedBy (model X.prog X.w) X.A env fun x s' => R (.error x) s') s → codeAny (model X.prog X.w) X.A (.compStart cx 0 it (.ref D) env) R s)
    (hnew : ∀ (E : Value → Shared → Prop) (s : Shared) (Q' : Value → Shared → Prop), Q' (.ref s.heap.objs.size) { s with heap := s.heap.push o } → wpAny (model X.prog X.w) X.A newAcc Q' E s)
    (hok : ∀ (H : Hp) (h : Heap), sysModules < h.objs.size → ObjOk X.prog X.w H (h.push o) h.objs.size (ho h.objs.size))
    (hc : X.calm = true) (hN : X.N.Nodup) (I : Inv X pins σ H s) (hi : PI X tg iter wi) (ok : BlkOk X.N X.env.scope scope own) (hv : ∀ i ∈ vl, i ∈ own.map (·.2))
    (hg : ∀ (s : Shared) (H : Hp) (C : Addr) (cl : List (PySem.Str × Addr)) (fp : List Addr), PG (X.blk s H scope (compEnvC scope cl C X.env) fp) tg g)
    (ht : ∀ (s : Shared) (H : Hp) (C : Addr) (cl : List (PySem.Str × Addr)) (fp : List Addr), PTs (X.blk s H scope (compEnvC scope cl C X.env) fp) ifs tt)
    (hl : ∀ (s : Shared) (H : Hp) (C : Addr) (cl : List (PySem.Str × Addr)) (fp : List Addr), PLf (X.blk s H scope (compEnvC scope cl C X.env) fp) leaf vl tl)
    (hs : ∀ x, foldedSetIterable iter X.env x = pure x) (h : tGc wi g tt tl (own.map (·.2)) ho σ H Q)
    (hRR : ∀ D C s' m H', Inv X pins σ H' s' → Q (.ref D) H' → s'.heap.Ns C m → FpOk X pins H' C → compPost (model X.prog X.w) X.A X.xe use Qf (.ref D) C (.ok .next) s') :
    wpAny (model X.prog X.w) X.A (comprehension cx scope X.env pos' newAcc false (eval iter X.env) use) Qf X.xe s := by
  have hfree : ∀ y ∈ scope.names, y.2 = .free → ∃ c, X.env.cells.lookup y.1 = some c := fun y hy e => (ok.free y hy e).elim (fun k => I.ok.has _ (.inl k)) fun k => I.ok.has _ (.inr k)
  refine wpAny_comprehension_free (use := use) hcl hs (closure_ok hfree) ok.kind (fun y hy e => by rw [ok.uniq y hy, e])
    (thn (hi.run pins s σ H _ I h) fun xv s1 hx => thn hx fun itv s2 h2 => ?_)
  obtain ⟨it, fp, tn, J, H2, e, I2, T, st2, f2, q⟩ := h2
  subst e
  refine hnew _ _ _ (newEnv_comp ?_)
  generalize hD : s2.heap.objs.size = D
  have hDn : H2 D = none := I2.hok.fresh (Nat.le_of_eq hD)
  have q := q D hDn
  generalize hs3 : ({ s2 with heap := s2.heap.push o } : Shared) = s3
  have h3 : s3.heap = s2.heap.push o := by rw [← hs3]
  have I3 : Inv X pins σ (upd H2 D (ho D)) s3 := by
    rw [← hs3]
    refine I2.laid (t' := s2.toks) (fun b o e => Heap.get?_push_of_some _ e) (Nat.le_of_eq hD) ?_
    rw [← hD]
    exact hok _ _ I2.big
  have f3 : ∀ b ∈ fp, FpOk X pins (upd H2 D (ho D)) b ∧ b < s3.heap.objs.size := fun b hb => by
    obtain ⟨ob, e, _⟩ := T.obj _ _ st2 b hb
    have hlt := Heap.lt_size e
    refine ⟨⟨?_, (f2 b hb).2⟩, by rw [h3, Heap.size_push]; exact Nat.lt_succ_of_lt hlt⟩
    rw [upd_ne (by rw [← hD]; exact Nat.ne_of_lt hlt)]
    exact (f2 b hb).1
  have st3 : tn 0 s3.heap := T.keep _ _ _ st2 fun b _ o e => by rw [h3]; exact Heap.get?_push_of_some _ e
  have I4 := block_start I3 ok hN f3
  have pg := hg s3 (upd H2 D (ho D)) s3.heap.objs.size (cellsFrom (s3.heap.objs.size + 1) scope.names (cloFrom X.env.cells scope.names [])) fp
  have pt := ht s3 (upd H2 D (ho D)) s3.heap.objs.size (cellsFrom (s3.heap.objs.size + 1) scope.names (cloFrom X.env.cells scope.names [])) fp
  have pl := hl s3 (upd H2 D (ho D)) s3.heap.objs.size (cellsFrom (s3.heap.objs.size + 1) scope.names (cloFrom X.env.cells scope.names [])) fp
  show codeAny _ _ (.compStart cx 0 (.ref it) (.ref D) (compEnvC scope (cellsFrom (s3.heap.objs.size + 1) scope.names (cloFrom X.env.cells scope.names [])) s3.heap.objs.size X.env)) (compPost (model X.prog X.w) X.A X.xe use Qf (.ref D) s3.heap.objs.size) { s3 with heap := pushCells (s3.heap.push { cls := .type "dict", data := .dict #[] }) scope.names }
  generalize hce : compEnvC scope (cellsFrom (s3.heap.objs.size + 1) scope.names (cloFrom X.env.cells scope.names [])) s3.heap.objs.size X.env = ce at I4 pg pt pl ⊢
  have cL : ce.locals = s3.heap.objs.size := by subst hce; rfl
  generalize hs4 : ({ s3 with heap := pushCells (s3.heap.push { cls := .type "dict", data := .dict #[] }) scope.names } : Shared) = s4 at I4 ⊢
  have st4 : tn 0 s4.heap := T.keep _ _ _ st3 fun b _ o e => by rw [← hs4]; exact pushCells_keeps _ _ _ _ (Heap.get?_push_of_some _ e)
  have f4 : ∀ b ∈ fp, FpOk (X.blk s3 (upd H2 D (ho D)) scope ce fp) [] (upd H2 D (ho D)) b := fun b hb =>
    ⟨(f3 b hb).1.1, (I4.ok.exf b hb).1, I4.ok.exfs b hb, .inl hb, fun x c e => (I4.ok.exf b hb).2 x c e, fun p hp => absurd (show p ∈ ([] : List (Addr × Obj)) ++ [] from hp) (by simp)⟩
  have loop : codeAny (model X.prog X.w) X.A (.compLoop cx 0 (.ref it) (.ref D) ce) (compPost (model X.prog X.w) X.A X.xe use Qf (.ref D) s3.heap.objs.size) s4 := by
    refine blk_loop (Y := X.blk s3 (upd H2 D (ho D)) scope ce fp) hc rfl hT hv pg pt pl I4 T st4 f4 q fun s6 H5 I6 qq => ?_
    have I7 : Inv X pins σ H5 s6 := I3.call' (ch := fp) I6.os I6.base I6.hok I6.bare fun b hb => ⟨(f3 b hb).1.2.2.2.1, (f3 b hb).1.2.1, (f3 b hb).1.2.2.2.2.1, (f3 b hb).1.2.2.2.2.2⟩
    have nC : H5 s3.heap.objs.size = none := by
      have z : H5 ce.locals = none := I6.free
      rw [cL] at z
      exact z
    obtain ⟨m, hn, _⟩ := I6.loc
    have hn : s6.heap.Ns ce.locals m := hn
    rw [cL] at hn
    exact hRR D s3.heap.objs.size s6 m H5 I7 qq hn (I3.fpOk (Nat.le_refl _) nC)
  exact hS _ _ _ _ _ loop (T.self X.A 0 _ _ _ st4 loop)
end
end CA
/-! Comprehensions of sets of texts, one clause and two, and of dicts whose keys are tuples. -/
namespace CA
open PySem PySem.Spec L2 PySem.Froz
open PyProof.Rows hiding St

/-! ### the tracked set -/
def SetSO (P : Program) (w : World) (a : Addr) (l : List PySem.Str) : HO := .ext fun h => SetS P w h a l
theorem setSO_new {w : World} {P : Program} {H : Hp} {h : Heap} {a : Addr} {l : List PySem.Str} (R : SetS P w h a l) : ObjOk P w H h a (SetSO P w a l) := by
  have ⟨D, ho, _⟩ := R
  exact ⟨R, ⟨_, ho⟩, fun h1 h2 p k => SetS.at p k⟩
section
variable {X : Cx}
theorem setSO_get {pins : List (Addr × Obj)} {σ : L2.St} {H : Hp} {s : Shared} {a : Addr} {l : List PySem.Str} (I : Inv X pins σ H s) (ha : H a = some (SetSO X.prog X.w a l)) : SetS X.prog X.w s.heap a l := (I.hok a _ ha).1
theorem addS_ok {pins : List (Addr × Obj)} {σ : L2.St} {H : Hp} {s : Shared} {E : Value → Shared → Prop} {D : Addr} {l : List PySem.Str} {k : PySem.Str} {u : Tok} {Q : Value → Shared → Prop} (I : Inv X pins σ H s) (hD : H D = some (SetSO X.prog X.w D l)) (room : l.length + 1 < scanBound)
    (h : ∀ s', Inv X pins σ (upd H D (SetSO X.prog X.w D (addL k l))) s' → Q .none s') : wpAny (model X.prog X.w) X.A (call (.builtin "set.add") [.ref D, .str k u]) Q E s := by
  have R := setSO_get I hD
  refine setS_add R room fun h' sb new => ?_
  have he : ∃ u, h'.get? D = some u := by
    have ⟨D', ho, _⟩ := new
    exact ⟨_, ho⟩
  exact h _ (I.write (e := D) (t' := s.toks + 1) (by rw [hD]; trivial) (.inl rfl) (fun b u hb hu => (sb.2 b hb).trans hu) he (setSO_new new))
/-! ### the leaf -/
def leafSet (elt : Expr) : Leaf := fun acc env => do
  let v ← eval elt env
  standAt elt.pos
  let _ ← call (.builtin "set.add") [acc, v]
def tlSet (P : Program) (w : World) (te : TE) : TL := fun D σ H Nx => te σ H fun y H4 => ∃ (k : PySem.Str) (l : List PySem.Str), y = .str k ∧ H4 D = some (SetSO P w D l) ∧ l.length + 1 < scanBound ∧ Nx (upd H4 D (SetSO P w D (addL k l)))
theorem pl_set {elt : Expr} {te : TE} {vs : List Nat} (hx : X.xe = fun _ _ => False) (he : PE X elt te) : PLf X (leafSet elt) vs (tlSet X.prog X.w te) := by
  refine ⟨fun p s σ H D Nx I h => ?_⟩
  unfold leafSet
  have z := he.run p s σ H _ I h
  rw [hx] at z
  refine wpAny_bind (wpAny_mono z (fun v s1 ⟨y, H1, I1, r1, k, l, ey, hD, room, nx⟩ => ?_) fun _ _ q => q)
  subst ey
  obtain ⟨t, ev⟩ := (show ∃ t, v = Value.str k t from r1)
  subst ev
  refine wpAny_bind (wpAny_standAt (wpAny_bind (addS_ok I1 hD room fun s' I' => ?_)))
  exact wpAny_pure ⟨σ, _, I', KeepS.refl _ _, nx⟩
/-! ### one clause -/
theorem turn_set1 {prog : Program} {w : World} {elt tg iter : Expr} {ifs : List Expr} {scope : Scope} {pos : Pos} : IsTurn prog w (.SetComp elt [⟨tg, iter, ifs, 0⟩] scope pos) 0 tg iter ifs (leafSet elt) :=
  ⟨fun _ _ _ => rfl, fun _ _ _ _ => rfl, fun _ _ _ => rfl⟩
theorem turn2_out (elt t0 i0 t1 i1 : Expr) (ifs0 ifs1 : List Expr) (scope : Scope) (pos : Pos) (it acc : Value) (env : Env) :
    compTurn (.SetComp elt [⟨t0, i0, ifs0, 0⟩, ⟨t1, i1, ifs1, 0⟩] scope pos) 0 it acc env = (do
      standAt i0.pos
      match ← pyNext it with
      | none => pure (.done .next)
      | some v =>
        letOwnedTupleGo t0 it v
        assign t0 env v
        let mut ok := true
        for c in ifs0 do
          if ok then ok ← isTrue c env (eval c env)
        if ok then
          let x ← eval i1 env
          standAt i1.pos
          let x ← foldedSetIterable i1 env x
          let _ ← runOwn (.compStart (.SetComp elt [⟨t0, i0, ifs0, 0⟩, ⟨t1, i1, ifs1, 0⟩] scope pos) 1 (← holding [x] (pyIter x)) acc env) env
        again (.compLoop (.SetComp elt [⟨t0, i0, ifs0, 0⟩, ⟨t1, i1, ifs1, 0⟩] scope pos) 0 it acc env)) := by rfl
theorem turn_set2o {prog : Program} {w : World} {elt tg iter tg1 iter1 : Expr} {ifs ifs1 : List Expr} {scope : Scope} {pos : Pos} :
    IsTurn prog w (.SetComp elt [⟨tg, iter, ifs, 0⟩, ⟨tg1, iter1, ifs1, 0⟩] scope pos) 0 tg iter ifs (leafIn (.SetComp elt [⟨tg, iter, ifs, 0⟩, ⟨tg1, iter1, ifs1, 0⟩] scope pos) 1 iter1) := by
  refine ⟨fun _ _ _ => rfl, fun _ _ _ _ => rfl, fun it D env => ?_⟩
  show (compTurn (.SetComp elt [⟨tg, iter, ifs, 0⟩, ⟨tg1, iter1, ifs1, 0⟩] scope pos) 0 it (.ref D) env).onRaise _ = _
  refine congrArg (fun z => Sem.onRaise z _) ?_
  rw [turn2_out]
  unfold turnOf
  refine bind_congr fun _ => bind_congr fun r => ?_
  cases r with
  | none => rfl
  | some v =>
    refine bind_congr fun _ => bind_congr fun _ => bind_congr fun ok => ?_
    cases ok with
    | false => rfl
    | true =>
      simp only [leafIn, bind_assoc, pure_bind, if_true]
theorem turn_set2i {prog : Program} {w : World} {elt tg iter tg1 iter1 : Expr} {ifs ifs1 : List Expr} {scope : Scope} {pos : Pos} :
    IsTurn prog w (.SetComp elt [⟨tg, iter, ifs, 0⟩, ⟨tg1, iter1, ifs1, 0⟩] scope pos) 1 tg1 iter1 ifs1 (leafSet elt) :=
  ⟨fun _ _ _ => rfl, fun _ _ _ _ => rfl, fun _ _ _ => rfl⟩
theorem start_set1 {prog : Program} {w : World} {A : Around} {R : Result → Shared → Prop} {s : Shared} {elt t0 i0 t1 i1 : Expr} {ifs0 ifs1 : List Expr} {scope : Scope} {pos : Pos} {it acc : Value} {env : Env}
    (h0 : codeAny (model prog w) A (.compLoop (.SetComp elt [⟨t0, i0, ifs0, 0⟩, ⟨t1, i1, ifs1, 0⟩] scope pos) 1 it acc env) R s)
    (h : wpAny (model prog w) A (pyIter it) (fun it' s' => codeAny (model prog w) A (.compLoop (.SetComp elt [⟨t0, i0, ifs0, 0⟩, ⟨t1, i1, ifs1, 0⟩] scope pos) 1 it' acc env) R s')
      (notedBy (model prog w) A env fun x s' => R (.error x) s') s) :
    codeAny (model prog w) A (.compStart (.SetComp elt [⟨t0, i0, ifs0, 0⟩, ⟨t1, i1, ifs1, 0⟩] scope pos) 1 it acc env) R s := by
  refine codeAny_of_tree ?_
  show wpAny _ _ ((compStart (.SetComp elt [⟨t0, i0, ifs0, 0⟩, ⟨t1, i1, ifs1, 0⟩] scope pos) 1 it acc env).onRaise (fun x => do noteFrame x env; standAt theWindowsPlace)) _ _ s
  refine wpAny_notedAt ?_
  unfold compStart
  show wpAny _ _ (ask >>= _) _ _ s
  refine wpAny_bind (wpAny_askSetting (wpAny_ite ?_))
  split
  · first
      | exact wpAny_bind (wpAny_pure (wpAny_pure (And.intro rfl h0)))
      | exact wpAny_pure (And.intro rfl h0)
  · refine wpAny_bind (wpAny_rule ?_)
    first
      | exact wpAny_bind (wpAny_standAt (wpAny_bind (wpAny_mono h (fun it' s' h' => wpAny_pure (And.intro rfl h')) fun _ _ x => x)))
      | (show wpAny _ _ (standAt i1.pos >>= _) _ _ s; exact wpAny_bind (wpAny_standAt (wpAny_bind (wpAny_mono h (fun it' s' h' => wpAny_pure (And.intro rfl h')) fun _ _ x => x))))
abbrev newSetObj (w : World) : Obj := { cls := .type "set", dict := none, data := .set #[] 0 (.fresh 0 0 (!w.params.followText "set-order")) }
/-- {elt for tg in iter if ..} of texts -/
theorem pe_set1 {elt tg iter : Expr} {ifs : List Expr} {scope : Scope} {own : List (PySem.Str × Nat)} {pos : Pos} {wi : TI} {g : TG} {tt : TT} {te : TE} (hc : X.calm = true) (hN : X.N.Nodup) (hi : PI X tg iter wi) (ok : BlkOk X.N X.env.scope scope own)
    (hg : ∀ (s : Shared) (H : Hp) (C : Addr) (cl : List (PySem.Str × Addr)) (fp : List Addr), PG (X.blk s H scope (compEnvC scope cl C X.env) fp) tg g) (ht : ∀ (s : Shared) (H : Hp) (C : Addr) (cl : List (PySem.Str × Addr)) (fp : List Addr), PTs (X.blk s H scope (compEnvC scope cl C X.env) fp) ifs tt)
    (he : ∀ (s : Shared) (H : Hp) (C : Addr) (cl : List (PySem.Str × Addr)) (fp : List Addr), PE (X.blk s H scope (compEnvC scope cl C X.env) fp) elt te) (hs : ∀ x, foldedSetIterable iter X.env x = pure x := by intro _; rfl) :
    PE X (.SetComp elt [⟨tg, iter, ifs, 0⟩] scope pos) (tGc wi g tt (tlSet X.prog X.w te) (own.map (·.2)) fun D => SetSO X.prog X.w D []) := by
  refine ⟨fun pins s σ H Q I h => ?_⟩
  rw [PpSet.eval_SetComp]
  refine gc_core (cx := .SetComp elt [⟨tg, iter, ifs, 0⟩] scope pos) (gs := []) (leaf := leafSet elt) (o := newSetObj X.w) (ho := fun D => SetSO X.prog X.w D []) (vl := []) (use := none) rfl turn_set1 (fun R s it D env h0 h1 => PpSet.codeAny_compStart_set h0 h1)
    (fun E s Q' q => PpSet.newSet_ok q) (fun H h _ => setSO_new (setS_fresh X.prog X.w)) hc hN I hi ok (fun _ z => nomatch z) hg ht (fun s H C cl fp => pl_set rfl (he s H C cl fp)) hs h fun D C s' m H' I' q hn f => ⟨m, hn, fun h'' sb => ?_⟩
  obtain ⟨f0, f1, f2, f3, f4, f5⟩ := f
  exact ⟨.ref D, H', I'.turned (t' := s'.toks) (fun b o hb e => (sb.2 b hb).trans e) f0 f1 f3 f4 f5, rfl, q⟩
/-- {elt for tg in iter if .. for tg1 in iter1 if ..} of texts -/
theorem pe_set2 {elt tg iter tg1 iter1 : Expr} {ifs ifs1 : List Expr} {scope : Scope} {own : List (PySem.Str × Nat)} {vs1 : List Nat} {pos : Pos} {wi wi1 : TI} {g g1 : TG} {tt tt1 : TT} {te : TE} (hc : X.calm = true) (hN : X.N.Nodup) (hi : PI X tg iter wi) (ok : BlkOk X.N X.env.scope scope own) (hv : ∀ i ∈ vs1, i ∈ own.map (·.2))
    (hg : ∀ (s : Shared) (H : Hp) (C : Addr) (cl : List (PySem.Str × Addr)) (fp : List Addr), PG (X.blk s H scope (compEnvC scope cl C X.env) fp) tg g) (ht : ∀ (s : Shared) (H : Hp) (C : Addr) (cl : List (PySem.Str × Addr)) (fp : List Addr), PTs (X.blk s H scope (compEnvC scope cl C X.env) fp) ifs tt)
    (hi1 : ∀ (s : Shared) (H : Hp) (C : Addr) (cl : List (PySem.Str × Addr)) (fp : List Addr), PI (X.blk s H scope (compEnvC scope cl C X.env) fp) tg1 iter1 wi1)
    (hg1 : ∀ (s : Shared) (H : Hp) (C : Addr) (cl : List (PySem.Str × Addr)) (fp : List Addr), PG (X.blk s H scope (compEnvC scope cl C X.env) fp) tg1 g1) (ht1 : ∀ (s : Shared) (H : Hp) (C : Addr) (cl : List (PySem.Str × Addr)) (fp : List Addr), PTs (X.blk s H scope (compEnvC scope cl C X.env) fp) ifs1 tt1)
    (he : ∀ (s : Shared) (H : Hp) (C : Addr) (cl : List (PySem.Str × Addr)) (fp : List Addr), PE (X.blk s H scope (compEnvC scope cl C X.env) fp) elt te) (hs : ∀ x, foldedSetIterable iter X.env x = pure x := by intro _; rfl) (hs1 : ∀ env x, foldedSetIterable iter1 env x = pure x := by intro _ _; rfl) :
    PE X (.SetComp elt [⟨tg, iter, ifs, 0⟩, ⟨tg1, iter1, ifs1, 0⟩] scope pos) (tGc wi g tt (tIn wi1 g1 tt1 (tlSet X.prog X.w te) vs1) (own.map (·.2)) fun D => SetSO X.prog X.w D []) := by
  refine ⟨fun pins s σ H Q I h => ?_⟩
  rw [PpSet.eval_SetComp]
  refine gc_core (cx := .SetComp elt [⟨tg, iter, ifs, 0⟩, ⟨tg1, iter1, ifs1, 0⟩] scope pos) (gs := [⟨tg1, iter1, ifs1, 0⟩]) (leaf := leafIn (.SetComp elt [⟨tg, iter, ifs, 0⟩, ⟨tg1, iter1, ifs1, 0⟩] scope pos) 1 iter1) (o := newSetObj X.w) (ho := fun D => SetSO X.prog X.w D []) (vl := vs1) (use := none) rfl turn_set2o
    (fun R s it D env h0 h1 => PpSet.codeAny_compStart_set h0 h1) (fun E s Q' q => PpSet.newSet_ok q) (fun H h _ => setSO_new (setS_fresh X.prog X.w)) hc hN I hi ok hv hg ht
    (fun s H C cl fp => pl_in (vl := []) hc rfl turn_set2i (fun _ z => nomatch z) (fun R s it D env h0 h1 => start_set1 h0 h1) (hi1 s H C cl fp) hs1 (hg1 s H C cl fp) (ht1 s H C cl fp) (pl_set rfl (he s H C cl fp))) hs h fun D C s' m H' I' q hn f => ⟨m, hn, fun h'' sb => ?_⟩
  obtain ⟨f0, f1, f2, f3, f4, f5⟩ := f
  exact ⟨.ref D, H', I'.turned (t' := s'.toks) (fun b o hb e => (sb.2 b hb).trans e) f0 f1 f3 f4 f5, rfl, q⟩
end
end CA
/-! sorted() of a set of texts. -/
namespace CA
open PySem PySem.Spec L2 PySem.Froz
open PyProof.Rows hiding St

section
variable {P : Program} {w : World} {A : Around} {E : Value → Shared → Prop} {s : Shared} {a : Addr} {l : List PySem.Str}
theorem sorted_setS {Q : Value → Shared → Prop} (R : SetS P w s.heap a l) (hh : A.handled = none) (h64 : l.length < 64)
    (hQ : ∀ s' p (out : Array Value) (c : Nat) (ys : List PySem.Str), (∀ b o, s.heap.get? b = some o → s'.heap.get? b = some o) → s'.gens = s.gens → s'.os = s.os → s.heap.objs.size ≤ p →
      s'.heap.get? p = some (seqObj "list" out c) → StrsAre out.toList ys → ys.Perm l → sortedS ys = true → Q (.ref p) s') :
    wpAny (model P w) A (call (.builtin "sorted") [.ref a]) Q E s := by
  obtain ⟨⟨es, ep, t⟩, ho, F⟩ := R
  obtain ⟨ps, pm, pl⟩ := F.pm
  have hsz : es.size = l.length := F.ok.sz
  refine Calls.call_function_entry kind_sorted plain_sorted entry_sorted (args_sorted1 _) ?_
  unfold Builtin.«sorted»
  refine wpAny_bind (m := checkCount "sorted" 1 1 _) (wpAny_pure ?_)
  refine wpAny_bind (collect_set (A := A.in1) hh ⟨_, ho, rfl, rfl⟩ F.ok.fit (by show es.size < scanBound; unfold scanBound; omega) F.ris F.led fun s1 vs k1 hz g1 o1 pv => ?_)
  have pv2 : vs.Perm (ps.map fun p => Value.str p.1 p.2) := by
    have z := pm.map (·.2)
    rw [List.map_map] at z
    exact pv.trans z
  have hvl : vs.length = l.length := by rw [pv2.length_eq, List.length_map, ← pl, List.length_map]
  have hS : StrsAre vs (vs.map strOf) := strsAre_map vs fun v hv => by
    obtain ⟨p, _, e⟩ := List.mem_map.mp (pv2.mem_iff.mp hv)
    exact ⟨p.1, p.2, e.symm⟩
  have pk : (vs.map strOf).Perm l := by
    have z := pv2.map strOf
    rw [List.map_map] at z
    rw [← pl]
    exact z
  refine wpAny_bind (wpAny_newList ?_ (by rw [hvl, sizeLine_eq]; omega))
  have hoL : (s1.heap.push (seqObj "list" vs.toArray 0)).get? s1.heap.objs.size = some (seqObj "list" vs.toArray 0) := Heap.get?_push_size _ rfl
  refine wpAny_bind (wpAny_holding (wpAny_call_entry slot_list_sort ⟨_, hoL, rfl⟩ entry_list_sort (list_sort_treeK strKind_oneLt hoL hS.keysOf (fun v₁ v₂ rest e => keyKind_strs (by rw [← e]; exact hS)) (by rw [hvl]; exact h64) fun st' hp hs => ⟨_, rfl, ?_⟩) (args_list_sort _)))
  obtain ⟨ys, y1, y2, y3⟩ := sorted_out_str hS hp hs
  obtain ⟨c, hc⟩ := sortedHeap_at (vs := vs) (out := (arrOf st').map (·.2)) hoL
  refine wpAny_pure ⟨_, rfl, hQ _ s1.heap.objs.size _ c ys (fun b u e => ?_) g1 o1 hz hc y1 (y2.trans pk) y3⟩
  have q := k1 b u e
  have hlt := Heap.lt_size q
  show (sortedHeap (s1.heap.push (seqObj "list" vs.toArray 0)) s1.heap.objs.size vs ((arrOf st').map (·.2))).get? b = some u
  rw [sortedHeap_old (Nat.ne_of_lt hlt) (by rw [size_push']; exact Nat.lt_succ_of_lt hlt)]
  exact Heap.get?_push_of_some _ q
end
/-- sorted(found), fewer than 64 texts -/
def rSortSetS (P : Program) (w : World) : List V → Hp → VK → Prop := fun vs H Q => ∃ (a : Addr) (l : List PySem.Str), vs = [V.ref a] ∧ H a = some (SetSO P w a l) ∧ l.length < 64 ∧
  ∀ (ys : List PySem.Str) (p : Addr), ys.Perm l → sortedS ys = true → H p = none → Q (.ref p) (upd H p (.lst (ys.map V.str)))
theorem cr_sortSetS {X : Cx} (hc : X.calm = true) : CallR X (.builtin "sorted") (rSortSetS X.prog X.w) := by
  intro pins s σ H vs us Q I r h
  obtain ⟨a, l, rfl, ha, h64, q⟩ := h
  have R := setSO_get I ha
  rw [Vals.ref1 r]
  refine sorted_setS R (I.ok.hd hc) h64 fun s' p out c ys k g o hp hg hi hm hs => ?_
  have hlen : (ys.map V.str).length ≤ sizeLine := by rw [List.length_map, hm.length_eq, sizeLine_eq]; omega
  have hn : H p = none := I.hok.fresh hp
  have J : Inv X pins σ (upd H p (.lst (ys.map V.str))) { s with heap := s'.heap, gens := s'.gens, drawn := s'.drawn, toks := s'.toks } :=
    I.call (ch := []) (Un.laid k hp hn) (I.hok.laid k hp ⟨hlen, out.toList, c, vals_of_strs hi, hg⟩) (by rw [g]; exact I.bare) (fun _ z => nomatch z)
  have e : s' = { s with heap := s'.heap, gens := s'.gens, drawn := s'.drawn, toks := s'.toks } := by
    cases s'
    cases s
    cases o
    rfl
  rw [e]
  exact ⟨.ref p, _, J, rfl, q ys p hm hs hn⟩
end CA
/-! d.items(), d.values() of a dict whose keys are tuples. -/
namespace CA
open PySem PySem.Spec L2
open PyProof.Rows hiding St

section
variable {X : Cx} {pins : List (Addr × Obj)} {σ : L2.St} {H : Hp} {s : Shared} {d : Addr} {o : Obj}
theorem frzT2 {kvs : List (List Key × V)} (I : Inv X pins σ H s) (h : H d = some (.frz o (.dT kvs))) :
    (d == sysModules) = false ∧ s.heap.get? d = some o ∧ o.ExactDict ∧ ∃ (es : Array DictEntry) (ep : Nat), o.data = .dict es ep ∧ es.size = kvs.length ∧
      ∀ (i : Nat) (k : List Key) (v : V), kvs[i]? = some (k, v) → ∃ (en : DictEntry) (q : Addr), es[i]? = some en ∧ en.key = .ref q ∧ H q = some (.tup (k.map kV)) ∧ RelV v en.val := by
  obtain ⟨hd, z, hs, xs, pr, o', es, ep, ho, hx, hdt, he, _⟩ := I.hok d _ h
  rw [hd] at ho
  cases ho
  refine ⟨hs, hd, hx, es, ep, hdt, ?_, fun i k v e => ?_⟩
  · have l1 : es.size = xs.length := size_of_entries he
    have l2 : kvs.length = xs.length := Paired.length pr
    omega
  · obtain ⟨b, hb, e1, e2, e3⟩ := paired_get pr e
    have q := entry_at he i
    rw [hb] at q
    exact ⟨_, b.2.1, q, rfl, e2, e3⟩
end
/-- the values, the pairs (each a new tuple) -/
def ItdT (d : Addr) (o : Obj) (kvs : List (List Key × V)) : It :=
  ⟨fun i H => H d = some (.frz o (.dT kvs)) ∧ i < kvs.length, fun i H x H' => H' = H ∧ ∃ k, kvs[i]? = some (k, x), fun i H => H d = some (.frz o (.dT kvs)) ∧ kvs.length ≤ i⟩
def ItiT (d : Addr) (o : Obj) (kvs : List (List Key × V)) : It :=
  ⟨fun i H => H d = some (.frz o (.dT kvs)) ∧ i < kvs.length, fun i H x H' => ∃ T k v q, kvs[i]? = some (k, v) ∧ x = .ref T ∧ H T = none ∧ H q = some (.tup (k.map kV)) ∧ H' = upd H T (.tup [.ref q, v]), fun i H => H d = some (.frz o (.dT kvs)) ∧ kvs.length ≤ i⟩
section
variable {P : Program} {w : World} {K : PySem.W.Frag} {d : Addr} {o : Obj} {es : Array DictEntry} {ep : Nat}
theorem raw_of {h : Heap} (h1 : h.get? d = some o) (h2 : o.ExactDict) (h3 : o.data = .dict es ep) : h.DictRaw d es ep := ⟨o, h1, h2, h3⟩
theorem turn_valsT {kvs : List (List Key × V)} {tg : Expr} (it : Addr) (hod : o.data = .dict es ep) : Turn P w K tg (ItdT d o kvs) [it] it (fun i h => h.IsValIter it d i kvs.length ep) where
  mem := by simp
  obj := fun i h st b hb => by
    have e : b = it := by simpa using hb
    subst e
    obtain ⟨oi, e, c, dd⟩ := st
    exact ⟨oi, e, fun v z => by rw [dd] at z; cases z⟩
  keep := fun i h h' st k => st.at fun oi e => k it (by simp) oi e
  item := by
    intro X hP hw hK hc i pins s σ H E I hf st hg
    subst hP hw hK
    obtain ⟨hd, hi⟩ := hg
    obtain ⟨f0, f1, f2, f3, f4, f5⟩ := hf it (by simp)
    obtain ⟨hs, hgd, hx, es', ep', hdt, hsz, ent⟩ := frzT2 I hd
    obtain ⟨rfl, rfl⟩ := dict_ep hod hdt
    obtain ⟨⟨k, v⟩, hkv⟩ : ∃ p, kvs[i]? = some p := ⟨kvs[i], List.getElem?_eq_getElem hi⟩
    obtain ⟨en, q, hen, hkey, hq, rv⟩ := ent i k v hkv
    have hlt : i < es'.size := by rw [hsz]; exact hi
    have ee : es'[i] = en := by
      rw [Array.getElem?_eq_getElem hlt] at hen
      exact Option.some.inj hen
    rw [← hsz] at st
    refine wpAny_pyNext_values_item_raw st (raw_of hgd hx hdt) hlt fun h' st' sb => ?_
    have I1 : Inv X pins σ H { s with heap := h' } := I.turned (t' := s.toks) (fun b ob hb e => (sb.2 b hb).trans e) f0 f1 f3 f4 f5
    obtain ⟨oi, e, c, dd⟩ := id st'
    rw [hsz] at st'
    rw [ee]
    exact ⟨en.val, rfl, go_of (s := { s with heap := h' }) e c dd (by decide) ⟨v, H, I1, rv, ⟨rfl, k, hkv⟩, st', fun b hb => (hf b hb).1⟩⟩
  done := by
    intro X hP hw hK hc i pins s σ H E I hf st hg
    subst hP hw hK
    obtain ⟨hd, hi⟩ := hg
    obtain ⟨f0, f1, f2, f3, f4, f5⟩ := hf it (by simp)
    obtain ⟨hs, hgd, hx, es', ep', hdt, hsz, ent⟩ := frzT2 I hd
    obtain ⟨rfl, rfl⟩ := dict_ep hod hdt
    rw [← hsz] at st hi
    exact wpAny_pyNext_values_end_raw (I.ok.hd hc) st (raw_of hgd hx hdt) hi fun h' eb => ⟨rfl, I.turned (t' := s.toks) (fun b ob hb e => eb b ob hb e) f0 f1 f3 f4 f5⟩
  self := fun A i s Q E st h => wpAny_pyIter_valiter st h
theorem turn_itemsT {kvs : List (List Key × V)} {elts : List Expr} {kk : Nat} {tpos : Pos} (it : Addr) (hod : o.data = .dict es ep) :
    Turn P w K (.Tuple elts kk tpos) (ItiT d o kvs) [it] it (fun i h => ∃ ok ov, IsItemIter h it d i kvs.length ep ok ov) where
  mem := by simp
  obj := fun i h st b hb => by
    have e : b = it := by simpa using hb
    subst e
    obtain ⟨ok, ov, e⟩ := st
    exact ⟨_, e, fun v z => nomatch z⟩
  keep := fun i h h' st k => let ⟨ok, ov, e⟩ := st; ⟨ok, ov, k it (by simp) _ e⟩
  item := by
    intro X hP hw hK hc i pins s σ H E I hf st hg
    subst hP hw hK
    obtain ⟨hd, hi⟩ := hg
    obtain ⟨hs, hgd, hx, es', ep', hdt, hsz, ent⟩ := frzT2 I hd
    obtain ⟨rfl, rfl⟩ := dict_ep hod hdt
    obtain ⟨⟨k, v⟩, hkv⟩ : ∃ p, kvs[i]? = some p := ⟨kvs[i], List.getElem?_eq_getElem hi⟩
    obtain ⟨en, q, hen, hkey, hq, rv⟩ := ent i k v hkv
    have hlt' : i < es'.size := by rw [hsz]; exact hi
    have ee : es'[i] = en := by
      rw [Array.getElem?_eq_getElem hlt'] at hen
      exact Option.some.inj hen
    obtain ⟨ok, ov, he⟩ := st
    rw [← hsz] at he
    have hlt : it < s.heap.objs.size := Heap.lt_size he
    refine wpAny_pyNext_items_item_raw he (raw_of hgd hx hdt) hlt' fun h' ho hT hz hk => ?_
    rw [ee] at ho hT
    refine ⟨_, rfl, wpAny_letOwnedTupleGo_items (s := { s with heap := h' }) ho fun h'' he' sb => ?_⟩
    have hT2 : h''.get? s.heap.objs.size = some { cls := .type "tuple", data := .seq #[en.key, en.val] } := (sb.2 _ (Nat.ne_of_gt hlt)).trans hT
    have new : ObjOk X.prog X.w (upd H s.heap.objs.size (.tup [.ref q, v])) h'' s.heap.objs.size (.tup [.ref q, v]) :=
      ⟨by show 2 ≤ sizeLine; decide, [en.key, en.val], .cons hkey (.cons rv .nil), ⟨_, hT2, rfl, _, rfl⟩⟩
    have I1 : Inv X pins σ (upd H s.heap.objs.size (.tup [.ref q, v])) { s with heap := h'' } :=
      I.turnedNew (t' := s.toks) (ch := [it]) (fun b ob hb e => (sb.2 b (by simpa using hb)).trans (hk b ob (by simpa using hb) e)) hf (Nat.le_refl _) new
    refine ⟨.ref s.heap.objs.size, _, I1, rfl, ⟨_, k, v, q, hkv, rfl, I.hok.fresh (Nat.le_refl _), hq, rfl⟩, ⟨en.key, en.val, ?_⟩, fun b hb => ?_⟩
    · rw [← hsz]; exact he'
    · have e : b = it := by simpa using hb
      rw [e, upd_ne (Nat.ne_of_lt hlt)]
      exact (hf it (by simp)).1
  done := by
    intro X hP hw hK hc i pins s σ H E I hf st hg
    subst hP hw hK
    obtain ⟨hd, hi⟩ := hg
    obtain ⟨f0, f1, f2, f3, f4, f5⟩ := hf it (by simp)
    obtain ⟨hs, hgd, hx, es', ep', hdt, hsz, ent⟩ := frzT2 I hd
    obtain ⟨rfl, rfl⟩ := dict_ep hod hdt
    obtain ⟨ok, ov, he⟩ := st
    rw [← hsz] at he hi
    exact wpAny_pyNext_items_end_raw (I.ok.hd hc) he (raw_of hgd hx hdt) hi fun h' eb => ⟨rfl, I.turned (t' := s.toks) (fun b ob hb e => eb b ob hb e) f0 f1 f3 f4 f5⟩
  self := fun A i s Q E st h => let ⟨_, _, e⟩ := st; PySem.W.kcp_self e h
end
def iValsT (td : TE) : TI := fun σ H R => td σ H fun x H1 => ∃ d o kvs, x = .ref d ∧ H1 d = some (.frz o (.dT kvs)) ∧ R (ItdT d o kvs) H1
def iItemsT (td : TE) : TI := fun σ H R => td σ H fun x H1 => ∃ d o kvs, x = .ref d ∧ H1 d = some (.frz o (.dT kvs)) ∧ R (ItiT d o kvs) H1
section
variable {X : Cx} {tg e : Expr} {td : TE} {apos cpos : Pos}
theorem pi_valuesT (he : PE X e td) (hbase : attributeBase e "values" X.env (eval e X.env) = eval e X.env := by rfl) (hline : (apos.endLine == cpos.line) = true := by rfl) : PI X tg (.Call (.Attribute e "values" apos) [] [] cpos) (iValsT td) := by
  refine ⟨fun pins s σ H R I h => ?_⟩
  refine wpAny_Call_method (T := "dict") (id := "dict.values") hbase rfl hline PySem.F.plainAttrs_dict PySem.F.slot_dict_values PySem.F.type_dict_values (thn (he.run pins s σ H _ I h) fun u s1 ⟨x, H1, I1, rx, d, o, kvs, ex, hd, q⟩ => ?_)
  subst ex
  obtain rfl : u = Value.ref d := rx
  obtain ⟨hs, hgd, hx, es, ep, hdt, hsz, ent⟩ := frzT2 I1 hd
  have hT : s1.TypeIs (.ref d) "dict" := ⟨o, hgd, hx.1⟩
  refine ⟨hT, fun a e => by cases e; exact ⟨o, hgd, hx.2.1⟩, ?_⟩
  have I2 : Inv X pins σ H1 { s1 with heap := s1.heap.push { cls := .type "dict_values", data := .fields #[.ref d] } } := I1.kept (t' := s1.toks) fun b ob q => Heap.get?_push_of_some _ q
  have fin : wpAny (model X.prog X.w) X.A (pyIter (.ref s1.heap.objs.size)) (PIE X pins σ tg R) X.xe { s1 with heap := s1.heap.push { cls := .type "dict_values", data := .fields #[.ref d] } } := by
    refine wpAny_pyIter_values_raw (d := d) (es := es) (ep := ep) ⟨_, Heap.get?_push_size _ rfl, rfl, rfl⟩ (raw_of (Heap.get?_push_of_some _ hgd) hx hdt) (pi_one (tk := s1.toks) I2 _ (turn_valsT _ hdt) ⟨_, Heap.get?_push_size _ rfl, rfl, ?_⟩ q)
    rw [hsz] <;> rfl
  show wpAny _ _ (callWith cpos (.builtin "dict.values") [.ref d] [] []) _ X.xe s1
  exact method_meetsIn PySem.F.slot_dict_values PySem.F.entry_dict_values rfl (PySem.evalArgs_none ⟨rfl, hT, PySem.F.args_dict_values_1 _, _, meets_dict_values_raw d hs, ⟨es, ep, raw_of hgd hx hdt⟩, fin⟩)
theorem pi_itemsT {elts : List Expr} {kk : Nat} {tpos : Pos} (he : PE X e td) (hbase : attributeBase e "items" X.env (eval e X.env) = eval e X.env := by rfl) (hline : (apos.endLine == cpos.line) = true := by rfl) :
    PI X (.Tuple elts kk tpos) (.Call (.Attribute e "items" apos) [] [] cpos) (iItemsT td) := by
  refine ⟨fun pins s σ H R I h => ?_⟩
  refine wpAny_Call_method (T := "dict") (id := "dict.items") hbase rfl hline PySem.F.plainAttrs_dict PySem.F.slot_dict_items PySem.F.type_dict_items (thn (he.run pins s σ H _ I h) fun u s1 ⟨x, H1, I1, rx, d, o, kvs, ex, hd, q⟩ => ?_)
  subst ex
  obtain rfl : u = Value.ref d := rx
  obtain ⟨hs, hgd, hx, es, ep, hdt, hsz, ent⟩ := frzT2 I1 hd
  have hT : s1.TypeIs (.ref d) "dict" := ⟨o, hgd, hx.1⟩
  refine ⟨hT, fun a e => by cases e; exact ⟨o, hgd, hx.2.1⟩, ?_⟩
  have I2 : Inv X pins σ H1 { s1 with heap := s1.heap.push { cls := .type "dict_items", data := .fields #[.ref d] } } := I1.kept (t' := s1.toks) fun b ob q => Heap.get?_push_of_some _ q
  have fin : wpAny (model X.prog X.w) X.A (pyIter (.ref s1.heap.objs.size)) (PIE X pins σ (.Tuple elts kk tpos) R) X.xe { s1 with heap := s1.heap.push { cls := .type "dict_items", data := .fields #[.ref d] } } := by
    refine wpAny_pyIter_items_raw (d := d) (es := es) (ep := ep) ⟨_, Heap.get?_push_size _ rfl, rfl, rfl⟩ (raw_of (Heap.get?_push_of_some _ hgd) hx hdt) (pi_one (tk := s1.toks) I2 _ (turn_itemsT _ hdt) ⟨.none, .none, ?_⟩ q)
    rw [← hsz]
    exact Heap.get?_push_size _ rfl
  show wpAny _ _ (callWith cpos (.builtin "dict.items") [.ref d] [] []) _ X.xe s1
  exact method_meetsIn PySem.F.slot_dict_items PySem.F.entry_dict_items rfl (PySem.evalArgs_none ⟨rfl, hT, PySem.F.args_dict_items_1 _, _, meets_dict_items_raw d hs, ⟨es, ep, raw_of hgd hx hdt⟩, fin⟩)
end
end CA
/-! Dict comprehensions whose keys are tuples. -/
namespace CA
open PySem PySem.Spec L2
open PyProof.Rows hiding St

section
variable {X : Cx}
/-- d[k] = v by a comprehension, k a tuple -/
theorem t_dictSet {pins : List (Addr × Obj)} {σ : L2.St} {H : Hp} {s : Shared} {E : Value → Shared → Prop} {D b : Addr} {kvs : List (List Key × V)} {k : List Key} {v : V} {r : Value} {Q : Unit → Shared → Prop} (hu : X.A.units + 1 < cLine) (I : Inv X pins σ H s) (hD : H D = some (.dT kvs)) (hz : kvs.length < sizeLine)
    (eb : H b = some (.tup (k.map kV))) (rv : RelV v r) (h : ∀ s', Inv X pins σ (upd H D (.dT (putK kvs k v))) s' → Q () s') : wpAny (model X.prog X.w) X.A (dictSet D (.ref b) r) Q E s := by
  obtain ⟨z, hd, xs, rel, dd⟩ := dt_of I.hok hD
  have hzx : xs.length ≤ sizeLine := by rw [← Paired.length rel]; exact z
  have hl : (putK kvs k v).length ≤ sizeLine := by have := length_putK kvs k v; omega
  refine wpAny_dictSet_heap (knd := tupleKind (mixKind X.prog X.w)) (hsz := hzx) (Nat.lt_of_succ_lt hu) (key_of I.hok eb) dd fun h' dd' hs => h _ ?_
  obtain ⟨q, es, ep, hq, h2, h3, h4, _, h5⟩ := dd'
  refine d_write I (by rw [hD]; exact True.intro) hs ⟨q, hq⟩ ⟨hl, hd, _, (rel.put k eb rv).keeps fun c ys ec => ?_, q, es, ep, hq, h2, h3, h4, h5⟩
  rw [upd_ne (ne_of ec hD (fun z => nomatch z))]
  exact ec
def leafDict (kx vx : Expr) : Leaf := fun acc env => match acc with
  | .ref D => do
    let kv ← eval kx env
    let vv ← holding [kv] (eval vx env)
    standAt { kx.pos with endLine := vx.pos.endLine, endCol := vx.pos.endCol }
    holding [kv, vv] (dictSet D kv vv)
  | _ => pure ()
def tlDict (tk tv : TE) : TL := fun D σ H Nx => tk σ H fun y H4 => tv σ H4 fun z H5 => ∃ (kvs : List (List Key × V)) (k : List Key) (b : Addr), y = .ref b ∧ H5 b = some (.tup (k.map kV)) ∧ H5 D = some (.dT kvs) ∧ kvs.length < sizeLine ∧ Nx (upd H5 D (.dT (putK kvs k z)))
theorem pl_dict {kx vx : Expr} {tk tv : TE} {vs : List Nat} (hu : X.A.units + 1 < cLine) (hx : X.xe = fun _ _ => False) (hk : PE X kx tk) (he : PE X vx tv) : PLf X (leafDict kx vx) vs (tlDict tk tv) := by
  refine ⟨fun p s σ H D Nx I h => ?_⟩
  unfold leafDict
  have z := hk.run p s σ H _ I h
  rw [hx] at z
  refine wpAny_bind (wpAny_mono z (fun v s1 ⟨y, H1, I1, r1, q1⟩ => ?_) fun _ _ q => q)
  have z := he.run p s1 σ H1 _ I1 q1
  rw [hx] at z
  refine wpAny_bind (wpAny_holding (wpAny_mono z (fun v2 s2 ⟨y2, H2, I2, r2, kvs, k, b, ey, eb, eD, hl, nx⟩ => ?_) fun _ _ q => q))
  subst ey
  cases (show v = Value.ref b from r1)
  refine wpAny_bind (wpAny_standAt (wpAny_holding (t_dictSet hu I2 eD hl eb r2 fun s' I' => ?_)))
  exact ⟨σ, _, I', KeepS.refl _ _, nx⟩
theorem turn_dict1 {prog : Program} {w : World} {kx vx tg iter : Expr} {ifs : List Expr} {scope : Scope} {pos : Pos} : IsTurn prog w (.DictComp kx vx [⟨tg, iter, ifs, 0⟩] scope pos) 0 tg iter ifs (leafDict kx vx) :=
  ⟨fun _ _ _ => rfl, fun _ _ _ _ => rfl, fun it D env => by
    show (compTurn (.DictComp kx vx [⟨tg, iter, ifs, 0⟩] scope pos) 0 it (.ref D) env).onRaise _ = _
    rw [compTurn_dict]
    rfl⟩
abbrev newDictObj : Obj := { cls := .type "dict", data := .dict #[] }
/-- {kx: vx for tg in iter if ..}, the keys tuples -/
theorem pe_dictT {kx vx tg iter : Expr} {ifs : List Expr} {scope : Scope} {own : List (PySem.Str × Nat)} {pos : Pos} {wi : TI} {g : TG} {tt : TT} {tk tv : TE} (hu : X.A.units + 1 < cLine) (hc : X.calm = true) (hN : X.N.Nodup) (hi : PI X tg iter wi) (ok : BlkOk X.N X.env.scope scope own)
    (hg : ∀ (s : Shared) (H : Hp) (C : Addr) (cl : List (PySem.Str × Addr)) (fp : List Addr), PG (X.blk s H scope (compEnvC scope cl C X.env) fp) tg g) (ht : ∀ (s : Shared) (H : Hp) (C : Addr) (cl : List (PySem.Str × Addr)) (fp : List Addr), PTs (X.blk s H scope (compEnvC scope cl C X.env) fp) ifs tt)
    (hk : ∀ (s : Shared) (H : Hp) (C : Addr) (cl : List (PySem.Str × Addr)) (fp : List Addr), PE (X.blk s H scope (compEnvC scope cl C X.env) fp) kx tk)
    (he : ∀ (s : Shared) (H : Hp) (C : Addr) (cl : List (PySem.Str × Addr)) (fp : List Addr), PE (X.blk s H scope (compEnvC scope cl C X.env) fp) vx tv) (hs : ∀ x, foldedSetIterable iter X.env x = pure x := by intro _; rfl) :
    PE X (.DictComp kx vx [⟨tg, iter, ifs, 0⟩] scope pos) (tGc wi g tt (tlDict tk tv) (own.map (·.2)) fun _ => .dT []) := by
  refine ⟨fun pins s σ H Q I h => ?_⟩
  rw [arm_eval_DictComp]
  refine gc_core (cx := .DictComp kx vx [⟨tg, iter, ifs, 0⟩] scope pos) (gs := []) (leaf := leafDict kx vx) (o := newDictObj) (ho := fun _ => .dT []) (vl := []) (use := none) rfl turn_dict1 (fun R s it D env h0 h1 => codeAny_compStart_dict h0 h1)
    (fun E s Q' q => wpAny_newObj_type q) (fun H h b => dt_empty h b) hc hN I hi ok (fun _ z => nomatch z) hg ht (fun s H C cl fp => pl_dict hu rfl (hk s H C cl fp) (he s H C cl fp)) hs h fun D C s' m H' I' q hn f => ⟨m, hn, fun h'' sb => ?_⟩
  obtain ⟨f0, f1, f2, f3, f4, f5⟩ := f
  exact ⟨.ref D, H', I'.turned (t' := s'.toks) (fun b o hb e => (sb.2 b hb).trans e) f0 f1 f3 f4 f5, rfl, q⟩
/-- name = {..} on one line, the name a local -/
theorem ps_setDictT {i : Nat} {y : PySem.Str} {py : Pos} {kx vx tg iter : Expr} {ifs : List Expr} {scope : Scope} {own : List (PySem.Str × Nat)} {pos spos : Pos} {wi : TI} {g : TG} {tt : TT} {tk tv : TE} (hu : X.A.units + 1 < cLine) (hc : X.calm = true) (hN : X.N.Nodup) (hy : X.N[i]? = some y) (hyl : X.env.scope.names.lookup y = some .local)
    (hsw : swapsWith (.DictComp kx vx [⟨tg, iter, ifs, 0⟩] scope pos) (some (.Name y py)) spos.line X.env = pure true) (hi : PI X tg iter wi) (ok : BlkOk X.N X.env.scope scope own)
    (hg : ∀ (s : Shared) (H : Hp) (C : Addr) (cl : List (PySem.Str × Addr)) (fp : List Addr), PG (X.blk s H scope (compEnvC scope cl C X.env) fp) tg g) (ht : ∀ (s : Shared) (H : Hp) (C : Addr) (cl : List (PySem.Str × Addr)) (fp : List Addr), PTs (X.blk s H scope (compEnvC scope cl C X.env) fp) ifs tt)
    (hk : ∀ (s : Shared) (H : Hp) (C : Addr) (cl : List (PySem.Str × Addr)) (fp : List Addr), PE (X.blk s H scope (compEnvC scope cl C X.env) fp) kx tk)
    (he : ∀ (s : Shared) (H : Hp) (C : Addr) (cl : List (PySem.Str × Addr)) (fp : List Addr), PE (X.blk s H scope (compEnvC scope cl C X.env) fp) vx tv) (hs : ∀ x, foldedSetIterable iter X.env x = pure x := by intro _; rfl) :
    PS X (.Assign [.Name y py] (.DictComp kx vx [⟨tg, iter, ifs, 0⟩] scope pos) spos) (tAsg (tGc wi g tt (tlDict tk tv) (own.map (·.2)) fun _ => .dT []) (gName i)) := by
  refine ⟨fun pins s σ H D I h => ?_⟩
  rw [exec_Assign_Name_used _ _ _ _ hsw]
  refine wpAny_bind (wpAny_standAt (wpAny_bind ?_))
  show wpAny _ X.A (do let _ ← comprehension (.DictComp kx vx [⟨tg, iter, ifs, 0⟩] scope pos) scope X.env (firstIterPos [⟨tg, iter, ifs, 0⟩] pos) newDict false (eval iter X.env) (some (assign (.Name y py) X.env))) _ _ s
  have h : tGc wi g tt (tlDict tk tv) (own.map (·.2)) (fun _ => .dT []) σ H (fun x H1 => gName i x σ H1 D.nx) := h
  refine wpAny_bind (thn (gc_core (Qf := fun _ s' => SP X pins D .next s') (cx := .DictComp kx vx [⟨tg, iter, ifs, 0⟩] scope pos) (gs := []) (leaf := leafDict kx vx) (o := newDictObj) (ho := fun _ => .dT []) (vl := []) rfl turn_dict1 (fun R s it D env h0 h1 => codeAny_compStart_dict h0 h1)
    (fun E s Q' q => wpAny_newObj_type q) (fun H h b => dt_empty h b) hc hN I hi ok (fun _ z => nomatch z) hg ht (fun s H C cl fp => pl_dict hu rfl (hk s H C cl fp) (he s H C cl fp)) hs h fun L C s' m H' I' q hn f => ?_) fun _ s' hq => wpAny_pure (wpAny_pure hq))
  show wpAny _ _ (assign (.Name y py) X.env (.ref L)) _ _ _
  refine wpAny_assign_Name (store_ok2 (v := V.ref L) I' hN hy (.inl hyl) rfl (fun s2 I2 ⟨a, sb, ha⟩ => ?_) (.inr hyl))
  obtain ⟨f0, f1, f2, f3, f4, f5⟩ := f
  have haC : C ≠ a := by
    rcases ha with z | z
    · rw [z]; exact f1
    · exact fun e => f4 y a z e.symm
  refine ⟨m, hn.sameBut sb haC, fun h3 sb3 => ?_⟩
  exact ⟨_, H', I2.turned (t' := s2.toks) (fun b o hb e => (sb3.2 b hb).trans e) f0 f1 f3 f4 f5, q⟩
/-! ### setdefault -/
def tTSetd (td ty tx : TE) : TE := fun σ H Q => td σ H fun x H1 => ∃ a, x = .ref a ∧ IsD H1 a ∧ ty σ H1 fun y H2 => tx σ H2 fun z H3 => ∃ (kvs : List (List Key × V)) (k : List Key) (b : Addr), H3 a = some (.dT kvs) ∧ y = .ref b ∧ H3 b = some (.tup (k.map kV)) ∧ kvs.length < sizeLine ∧
  (∀ v, valV kvs k = some v → Q v H3) ∧ (valV kvs k = none → Q z (upd H3 a (.dT (putK kvs k z))))
theorem t_setd {pins : List (Addr × Obj)} {σ : L2.St} {H : Hp} {s : Shared} {E : Value → Shared → Prop} {a b : Addr} {r : Value} {d : V} {kvs : List (List Key × V)} {k : List Key} {Q : Value → Shared → Prop} (hu : X.A.units + 1 < cLine) (I : Inv X pins σ H s) (e : H a = some (.dT kvs)) (eb : H b = some (.tup (k.map kV))) (rd : RelV d r) (hl : kvs.length < sizeLine)
    (h1 : ∀ v, valV kvs k = some v → ∀ (w' : Value) (s' : Shared), Inv X pins σ H s' → RelV v w' → Q w' s') (h2 : valV kvs k = none → ∀ (w' : Value) (s' : Shared), Inv X pins σ (upd H a (.dT (putK kvs k d))) s' → RelV d w' → Q w' s') :
    wpAny (model X.prog X.w) X.A (call (.builtin "dict.setdefault") [.ref a, .ref b, r]) Q E s := by
  obtain ⟨z, hd, xs, rel, dd⟩ := dt_of I.hok e
  have hz : xs.length ≤ sizeLine := by rw [← Paired.length rel]; exact z
  refine call_setdefault_heap (knd := tupleKind (mixKind X.prog X.w)) (hsz := hz) (tupleKind_room_in1 hu) (key_of I.hok eb) hd dd (fun p hp => ?_) fun hn h' dd' hs => ?_
  · have q := rel.val k
    rw [hp] at q
    cases q0 : valV kvs k with
    | none =>
      rw [q0] at q
      exact (show False from q).elim
    | some v0 =>
      rw [q0] at q
      exact h1 v0 q0 _ _ (I.tok _) q
  · have q := rel.val k
    rw [hn] at q
    cases q0 : valV kvs k with
    | some v0 =>
      rw [q0] at q
      exact (show False from q).elim
    | none =>
      have hl2 : (putK kvs k d).length ≤ sizeLine := by have := length_putK kvs k d; omega
      obtain ⟨o, es, ep, hq, y2, y3, y4, _, y5⟩ := dd'
      refine h2 q0 _ _ (d_write I (by rw [e]; exact True.intro) hs ⟨o, hq⟩ ⟨hl2, hd, _, (rel.put k eb rd).keeps fun c ys ec => ?_, o, es, ep, hq, y2, y3, y4, y5⟩) rd
      rw [upd_ne (ne_of ec e (fun z => nomatch z))]
      exact ec
theorem pe_tsetd {o e f : Expr} {td ty tx : TE} {apos cpos : Pos} (hu : X.A.units + 1 < cLine) (ho : PE X o td) (he : PE X e ty) (hf : PE X f tx) (m : M2 X o "setdefault" apos e f cpos) : PE X (.Call (.Attribute o "setdefault" apos) [e, f] [] cpos) (tTSetd td ty tx) := by
  refine ⟨fun pins s σ H Q I h => ?_⟩
  refine wpAny_Call_method m.base m.few m.line PySem.F.plainAttrs_dict PySem.F.slot_dict_setdefault PySem.F.type_dict_setdefault (thn (ho.run pins s σ H _ I h) fun u s1 ⟨x, H1, I1, rx, a, ex, d, q1⟩ => ?_)
  subst ex
  obtain rfl : u = Value.ref a := rx
  obtain ⟨t1, t2, _⟩ := isD_at I1 d
  refine ⟨t1, t2, ?_⟩
  rw [m.trees]
  refine Calls.callWith_builtin rfl (Calls.evalArgs_plain (Calls.spliced_cons (thn (he.run pins s1 σ H1 _ I1 q1) fun iv s2 ⟨y, H2, I2, ry, q2⟩ =>
    Calls.spliced_cons (thn (hf.run pins s2 σ H2 _ I2 q2) fun fv s3 ⟨z, H3, I3, rz, kvs, k, b, ea, ey, eb, hl, q3, q4⟩ => Calls.spliced_nil ?_))))
  subst ey
  cases (show iv = Value.ref b from ry)
  exact t_setd hu I3 ea eb rz hl (fun v hv w' s4 I4 rw' => ⟨v, _, I4, rw', q3 v hv⟩) fun hn w' s4 I4 rw' => ⟨z, _, I4, rw', q4 hn⟩
end
end CA
/-! set() of a tuple of texts and of a list of texts, its len. -/
namespace CA
open PySem PySem.Spec L2
open PyProof.Rows hiding St
def addAll (l : List PySem.Str) (xs : List PySem.Str) : List PySem.Str := xs.foldl (fun l x => addL x l) l
theorem addL_len (x : PySem.Str) (l : List PySem.Str) : (addL x l).length ≤ l.length + 1 := by
  unfold addL
  split <;> simp
theorem addAll_take (l xs : List PySem.Str) (i : Nat) (x : PySem.Str) (h : xs[i]? = some x) : addAll l (xs.take (i + 1)) = addL x (addAll l (xs.take i)) := by
  unfold addAll
  rw [List.take_add_one, h, List.foldl_append]
  rfl
theorem addAll_len (l : List PySem.Str) : ∀ xs : List PySem.Str, (addAll l xs).length ≤ l.length + xs.length := by
  intro xs
  induction xs generalizing l with
  | nil => simp [addAll]
  | cons x xs ih =>
    have h := ih (addL x l)
    have h2 := addL_len x l
    show (addAll (addL x l) xs).length ≤ _
    rw [List.length_cons]
    omega
section
variable {P : Program} {w : World} {A : Around} {E : Value → Shared → Prop} {s : Shared}
theorem set_update_texts {I : Addr} {fp wr : List Addr} {G : Array GenState → Array GenState → Prop} {n : Nat} {Pv : Nat → Value → Prop} {St : Nat → Shared → Prop} {R : Result → Shared → Prop}
    (W : WalksS P w A.in1 I fp wr G n Pv St) (S : Addr) (hSf : S ∉ fp) (xs : List PySem.Str) (hn : n = xs.length) (hb : xs.length + 1 < scanBound) (hval : ∀ i v, Pv i v → ∃ k t, xs[i]? = some k ∧ v = .str k t) :
    ∀ (k i : Nat) (s : Shared), n - i = k → i ≤ n → St i s → SetS P w s.heap S (addAll [] (xs.take i)) →
      (∀ s', Moved (S :: wr) G s s' → SetS P w s'.heap S (addAll [] xs) → R (.ok (.ret .none)) s') →
      codeAny (model P w) A (.builtin "set.update.loop" ⟨[.ref S, .ref I], []⟩) R s := by
  have hSw : S ∉ wr := fun h => hSf (W.sub _ h)
  have hsub : ∀ b ∈ wr, b ∈ S :: wr := fun b hb => List.mem_cons_of_mem _ hb
  intro k
  induction k with
  | zero =>
    intro i s hk' hi hst hS hR
    have hin : i = n := by omega
    subst hin
    refine codeAny_builtin PyProof.Rows.F.entry_set_update_loop ?_
    rw [Around.under_plainId PyProof.Rows.F.plain_set_update_loop _]
    show wpAny _ A.in1 (pyNext (.ref I) >>= _) _ _ s
    refine wpAny_bind (W.done s _ _ hst fun s' hm => ?_)
    show wpAny _ A.in1 (ret Value.none) _ _ s'
    have e : xs.take i = xs := List.take_of_length_le (by omega)
    rw [e] at hS
    exact wpAny_pure (hR s' (hm.mono hsub) (hS.at fun o e => hm.heap S o hSw e))
  | succ k ih =>
    intro i s hk' hi hst hS hR
    have hlt : i < n := by omega
    refine codeAny_builtin PyProof.Rows.F.entry_set_update_loop ?_
    rw [Around.under_plainId PyProof.Rows.F.plain_set_update_loop _]
    show wpAny _ A.in1 (pyNext (.ref I) >>= _) _ _ s
    refine wpAny_bind (W.item i s _ _ hlt hst fun v s' hP hst' hm => ?_)
    obtain ⟨z, t, hz, rfl⟩ := hval i v hP
    have hS' : SetS P w s'.heap S (addAll [] (xs.take i)) := hS.at fun o e => hm.heap S o hSw e
    have hroom : (addAll [] (xs.take i)).length + 1 < scanBound := by
      have q := addAll_len [] (xs.take i)
      rw [List.length_take] at q
      simp only [List.length_nil] at q
      omega
    show wpAny _ A.in1 (holding [Value.str z t] (setAdd S (.str z t)) >>= _) _ _ s'
    refine wpAny_bind (wpAny_holding ?_)
    unfold setAdd
    refine wpAny_holding ?_
    refine wpAny_bind ((PySem.strKind P w).pyHash (k := z) (PySem.Froz.is_str z t) ?_)
    refine setS_hashed (s := { s' with toks := s'.toks + 1 }) hS' hroom fun b h' hsb hS2 => ?_
    rw [← addAll_take [] xs i z hz] at hS2
    refine wpAny_pure ⟨plainId_quiet PyProof.Rows.F.plain_set_update_loop _, ih (i + 1) _ (by omega) hlt (W.frame _ s' _ _ hst' (Nat.le_succ _) fun b hb o e => ?_) hS2 fun s'' hm'' hS'' => ?_⟩
    · rw [hsb.2 b (fun h : b = S => hSf (by rw [← h]; exact hb))]; exact e
    · refine hR s'' (Moved.trans W.gtrans ((hm.mono hsub).then_heap (Nat.le_succ _) fun b o hb e => ?_) hm'') hS''
      rw [hsb.2 b (fun h : b = S => hb (by rw [h]; exact List.mem_cons_self))]; exact e

/-- set() of a tuple of texts -/
theorem set_tuple {l : Addr} {items : Array Value} (xs : List PySem.Str) {Q : Value → Shared → Prop} (hh : A.handled = none) (hl : s.heap.IsTuple l items) (hit : StrsAre items.toList xs) (hb : xs.length + 1 < scanBound)
    (h : ∀ (h' : Heap) (tk : Nat), SetS P w h' s.heap.objs.size (addAll [] xs) → (∀ b o, s.heap.get? b = some o → h'.get? b = some o) → Q (.ref s.heap.objs.size) { s with heap := h', toks := tk }) :
    wpAny (model P w) A (call (.type "set") [.ref l]) Q E s := by
  have hisz : items.size = xs.length := by
    have q := hit.length
    rw [Array.length_toList] at q
    exact q
  obtain ⟨c, tl, hmro⟩ := PySem.F.called_set.mro
  have hmade := PySem.F.called_set.made
  have hsub := PySem.F.called_set.sub
  refine wpAny_call (codeAny_of_tree ?_)
  show wpAny _ _ (callAny (.type "set") _) _ _ _
  refine wpAny_pure ⟨Code.quiet_builtin _ (by decide +kernel), codeAny_builtin PySem.F.entry_type_call ?_⟩
  rw [Around.under_plain (weight_type_call_type "set" [.ref l] []) rfl]
  have h1 := PySem.F.called_set.notType
  have h2 := PySem.F.called_set.canCreate
  have hct := PySem.F.typeCall_set_1 (.ref l)
  repeat (any_goals (first | assumption | wp_step))

  refine codeAny_mono (code_set_led1 (.ref l) (E := E) (Q₁ := fun obj s₁ => obj = .ref s.heap.objs.size ∧ s₁ = { s with heap := s.heap.push (newSetObj w) }) ⟨rfl, rfl⟩) fun r s₁ hr => ?_
  cases r with
  | error e => exact hr
  | ok fl =>
    cases fl with
    | ret obj =>
      obtain ⟨rfl, rfl⟩ := hr
      have hS : (s.heap.push (newSetObj w)).get? s.heap.objs.size = some (newSetObj w) := Heap.get?_push_size _ rfl
      have hT : Shared.TypeIs { s with heap := s.heap.push (newSetObj w) } (.ref s.heap.objs.size) "set" := ⟨_, hS, rfl⟩
      have hli := PySem.F.called_set.init.lookup
      have hbi := PySem.F.called_set.init.bind (.ref s.heap.objs.size)
      repeat (any_goals (first | assumption | wp_step))

      refine codeAny_mono (codeAny_call_builtin (R := wants (fun r s₂ => r = .none ∧ ∃ h' tk, s₂ = { s with heap := h', toks := tk } ∧ SetS P w h' s.heap.objs.size (addAll [] xs) ∧
          (∀ b o, s.heap.get? b = some o → h'.get? b = some o)) E) PySem.F.called_set.init.plain PySem.F.entry_set_init (check_set_init_1 hT ?_)) fun r₂ s₂ hr₂ => ?_
      · obtain ⟨ol, hol, hcl, nl, hdl⟩ := hl
        obtain ⟨ocls, odict, odata, oslots⟩ := ol
        simp only at hcl hdl
        subst hcl; subst hdl
        have hol' : (s.heap.push (newSetObj w)).get? l = some { cls := .type "tuple", dict := odict, data := .seq items nl, slots := oslots } := Heap.get?_push_of_some _ hol
        have hsls := PySem.F.sub_tuple_set
        have hslf := PySem.F.sub_tuple_frozenset
        have hne : (Value.type "tuple" == Value.type "dict") = false := by decide
        have hl1 : (s.heap.push (newSetObj w)).IsTuple l items := ⟨_, hol', rfl, nl, rfl⟩
        unfold Builtin.«set.__init__» noKeywords Builtin.Frozenset.updateFrom
        generalize hPI : pyIter = PI
        wp_walk
        subst hPI

        refine wpAny_pyIter_tuple hl1 ?_
        refine wpAny_bind (wpAny_runValue ?_)
        have hlS : l < s.heap.objs.size := Heap.lt_size hol
        have hh3 : A.in1.in1.in1.handled = none := by simp [hh]
        have hneI : l ≠ (s.heap.push (newSetObj w)).objs.size := by
          rw [Heap.size_push]; exact Nat.ne_of_lt (Nat.lt_succ_of_lt hlS)
        have hSf : s.heap.objs.size ∉ [(s.heap.push (newSetObj w)).objs.size, l] := by
          rw [Heap.size_push]; simp only [List.mem_cons, List.mem_singleton, List.not_mem_nil, or_false, not_or]
          exact ⟨Nat.ne_of_lt (Nat.lt_succ_self _), Nat.ne_of_gt hlS⟩
        have hval : ∀ (i : Nat) (v : Value), items[i]? = some v → ∃ k t, xs[i]? = some k ∧ v = .str k t := fun i v hv => by
          have hi : i < xs.length := by rw [← hisz]; exact (Array.getElem?_eq_some_iff.mp hv).1
          obtain ⟨t, e⟩ := SS.strs_at hit i v (by rw [Array.getElem?_toList]; exact hv)
          refine ⟨xs[i], t, List.getElem?_eq_getElem hi, ?_⟩
          rw [e, List.getD_eq_getElem?_getD, List.getElem?_eq_getElem hi] <;> rfl
        refine set_update_texts ((Walks.tuple hh3 _ l hneI items).toS) s.heap.objs.size
          hSf xs hisz hb hval (items.size - 0) 0 _ (by omega) (Nat.zero_le _)
          ⟨⟨_, Heap.get?_push_size _ rfl, rfl, rfl⟩, (hl1.push _)⟩ ?hS0 ?hR
        case hS0 => exact (setS_fresh P w).at fun o e => Heap.get?_push_of_some _ e
        case hR =>
          intro s' hm hS'
          obtain ⟨h', g2, d', tk', os'⟩ := s'
          have eg : g2 = s.gens := hm.gens
          have ed : d' = s.drawn := hm.drawn
          have eo : os' = s.os := hm.os
          subst eg; subst ed; subst eo
          show wpAny _ _ _ _ _ _
          refine wpAny_pure ?_
          show wpAny _ _ (ret Value.none) _ _ _
          refine wpAny_pure ⟨rfl, h', tk', rfl, hS', fun b o e => ?_⟩
          have hb0 : b < s.heap.objs.size := Heap.lt_size e
          have hb2 : b ≠ (s.heap.push (newSetObj w)).objs.size := by
            rw [Heap.size_push]; exact Nat.ne_of_lt (Nat.lt_succ_of_lt hb0)
          exact hm.heap b o (by simp only [List.mem_cons, List.mem_singleton, List.not_mem_nil, or_false, not_or]; exact ⟨Nat.ne_of_lt hb0, hb2⟩) (Heap.get?_push_of_some _ (Heap.get?_push_of_some _ e))
      · cases r₂ with
        | error e => exact hr₂
        | ok fl₂ =>
          cases fl₂ with
          | ret r =>
            obtain ⟨rfl, h', tk, rfl, hS', hk'⟩ := hr₂
            repeat (any_goals (first | assumption | wp_step))
            exact h _ _ hS' hk'
          | _ => exact hr₂.elim
    | _ => exact hr.elim

/-- set() of a list of texts -/
theorem set_list {l : Addr} {items : Array Value} (xs : List PySem.Str) {Q : Value → Shared → Prop} (hh : A.handled = none) (hl : s.heap.IsList l items) (hit : StrsAre items.toList xs) (hb : xs.length + 1 < scanBound)
    (h : ∀ (h' : Heap) (tk : Nat), SetS P w h' s.heap.objs.size (addAll [] xs) → (∀ b o, s.heap.get? b = some o → h'.get? b = some o) → Q (.ref s.heap.objs.size) { s with heap := h', toks := tk }) :
    wpAny (model P w) A (call (.type "set") [.ref l]) Q E s := by
  have hisz : items.size = xs.length := by
    have q := hit.length
    rw [Array.length_toList] at q
    exact q
  obtain ⟨c, tl, hmro⟩ := PySem.F.called_set.mro
  have hmade := PySem.F.called_set.made
  have hsub := PySem.F.called_set.sub
  refine wpAny_call (codeAny_of_tree ?_)
  show wpAny _ _ (callAny (.type "set") _) _ _ _
  refine wpAny_pure ⟨Code.quiet_builtin _ (by decide +kernel), codeAny_builtin PySem.F.entry_type_call ?_⟩
  rw [Around.under_plain (weight_type_call_type "set" [.ref l] []) rfl]
  have h1 := PySem.F.called_set.notType
  have h2 := PySem.F.called_set.canCreate
  have hct := PySem.F.typeCall_set_1 (.ref l)
  repeat (any_goals (first | assumption | wp_step))

  refine codeAny_mono (code_set_led1 (.ref l) (E := E) (Q₁ := fun obj s₁ => obj = .ref s.heap.objs.size ∧ s₁ = { s with heap := s.heap.push (newSetObj w) }) ⟨rfl, rfl⟩) fun r s₁ hr => ?_
  cases r with
  | error e => exact hr
  | ok fl =>
    cases fl with
    | ret obj =>
      obtain ⟨rfl, rfl⟩ := hr
      have hS : (s.heap.push (newSetObj w)).get? s.heap.objs.size = some (newSetObj w) := Heap.get?_push_size _ rfl
      have hT : Shared.TypeIs { s with heap := s.heap.push (newSetObj w) } (.ref s.heap.objs.size) "set" := ⟨_, hS, rfl⟩
      have hli := PySem.F.called_set.init.lookup
      have hbi := PySem.F.called_set.init.bind (.ref s.heap.objs.size)
      repeat (any_goals (first | assumption | wp_step))

      refine codeAny_mono (codeAny_call_builtin (R := wants (fun r s₂ => r = .none ∧ ∃ h' tk, s₂ = { s with heap := h', toks := tk } ∧ SetS P w h' s.heap.objs.size (addAll [] xs) ∧
          (∀ b o, s.heap.get? b = some o → h'.get? b = some o)) E) PySem.F.called_set.init.plain PySem.F.entry_set_init (check_set_init_1 hT ?_)) fun r₂ s₂ hr₂ => ?_
      · obtain ⟨ol, hol, hcl, nl, hdl⟩ := hl
        obtain ⟨ocls, odict, odata, oslots⟩ := ol
        simp only at hcl hdl
        subst hcl; subst hdl
        have hol' : (s.heap.push (newSetObj w)).get? l = some { cls := .type "list", dict := odict, data := .seq items nl, slots := oslots } := Heap.get?_push_of_some _ hol
        have hsls := PySem.F.sub_list_set
        have hslf := PySem.F.sub_list_frozenset
        have hne : (Value.type "list" == Value.type "dict") = false := by decide
        have hl1 : (s.heap.push (newSetObj w)).IsList l items := ⟨_, hol', rfl, nl, rfl⟩
        unfold Builtin.«set.__init__» noKeywords Builtin.Frozenset.updateFrom
        generalize hPI : pyIter = PI
        wp_walk
        subst hPI

        refine wpAny_pyIter_list hl1 ?_
        refine wpAny_bind (wpAny_runValue ?_)
        have hlS : l < s.heap.objs.size := Heap.lt_size hol
        have hh3 : A.in1.in1.in1.handled = none := by simp [hh]
        have hneI : l ≠ (s.heap.push (newSetObj w)).objs.size := by
          rw [Heap.size_push]; exact Nat.ne_of_lt (Nat.lt_succ_of_lt hlS)
        have hSf : s.heap.objs.size ∉ [(s.heap.push (newSetObj w)).objs.size, l] := by
          rw [Heap.size_push]; simp only [List.mem_cons, List.mem_singleton, List.not_mem_nil, or_false, not_or]
          exact ⟨Nat.ne_of_lt (Nat.lt_succ_self _), Nat.ne_of_gt hlS⟩
        have hval : ∀ (i : Nat) (v : Value), items[i]? = some v → ∃ k t, xs[i]? = some k ∧ v = .str k t := fun i v hv => by
          have hi : i < xs.length := by rw [← hisz]; exact (Array.getElem?_eq_some_iff.mp hv).1
          obtain ⟨t, e⟩ := SS.strs_at hit i v (by rw [Array.getElem?_toList]; exact hv)
          refine ⟨xs[i], t, List.getElem?_eq_getElem hi, ?_⟩
          rw [e, List.getD_eq_getElem?_getD, List.getElem?_eq_getElem hi] <;> rfl
        refine set_update_texts ((Walks.list hh3 _ l hneI items).toS) s.heap.objs.size
          hSf xs hisz hb hval (items.size - 0) 0 _ (by omega) (Nat.zero_le _)
          ⟨⟨_, Heap.get?_push_size _ rfl, rfl, rfl⟩, (hl1.push _)⟩ ?hS0 ?hR
        case hS0 => exact (setS_fresh P w).at fun o e => Heap.get?_push_of_some _ e
        case hR =>
          intro s' hm hS'
          obtain ⟨h', g2, d', tk', os'⟩ := s'
          have eg : g2 = s.gens := hm.gens
          have ed : d' = s.drawn := hm.drawn
          have eo : os' = s.os := hm.os
          subst eg; subst ed; subst eo
          show wpAny _ _ _ _ _ _
          refine wpAny_pure ?_
          show wpAny _ _ (ret Value.none) _ _ _
          refine wpAny_pure ⟨rfl, h', tk', rfl, hS', fun b o e => ?_⟩
          have hb0 : b < s.heap.objs.size := Heap.lt_size e
          have hb2 : b ≠ (s.heap.push (newSetObj w)).objs.size := by
            rw [Heap.size_push]; exact Nat.ne_of_lt (Nat.lt_succ_of_lt hb0)
          exact hm.heap b o (by simp only [List.mem_cons, List.mem_singleton, List.not_mem_nil, or_false, not_or]; exact ⟨Nat.ne_of_lt hb0, hb2⟩) (Heap.get?_push_of_some _ (Heap.get?_push_of_some _ e))
      · cases r₂ with
        | error e => exact hr₂
        | ok fl₂ =>
          cases fl₂ with
          | ret r =>
            obtain ⟨rfl, h', tk, rfl, hS', hk'⟩ := hr₂
            repeat (any_goals (first | assumption | wp_step))
            exact h _ _ hS' hk'
          | _ => exact hr₂.elim
    | _ => exact hr.elim
end
end CA
/-! set(texts), len(set), x in set: as calls. -/
namespace CA
open PySem PySem.Spec L2
open PyProof.Rows hiding St
section
variable {X : Cx}
def rSetTx (P : Program) (w : World) (K : PySem.W.Frag) : List V → Hp → VK → Prop := fun vs H Q => ∃ (p : Addr) (xs : List PySem.Str), vs = [.ref p] ∧ (SqT K H p (xs.map V.str) ∨ SqL K H p (xs.map V.str)) ∧ xs.length < 4000 ∧
  ∀ q, H q = none → Q (.ref q) (upd H q (SetSO P w q (addAll [] xs)))
theorem cr_setTx (hc : X.calm = true) : CallR X (.type "set") (rSetTx X.prog X.w X.K) := by
  intro pins s σ H vs us Q I r h
  obtain ⟨p, xs, rfl, hq, hl, q⟩ := h
  rw [Vals.ref1 r]
  have hn : H s.heap.objs.size = none := I.hok.fresh (Nat.le_refl _)
  have fin : ∀ (h' : Heap) (tk : Nat), SetS X.prog X.w h' s.heap.objs.size (addAll [] xs) → (∀ b o, s.heap.get? b = some o → h'.get? b = some o) → EP X pins σ Q (.ref s.heap.objs.size) { s with heap := h', toks := tk } := fun h' tk R k =>
    ⟨.ref s.heap.objs.size, _, I.laid (t' := tk) k (Nat.le_refl _) (setSO_new R), rfl, q _ hn⟩
  rcases hq with hq | hq
  · obtain ⟨its, rv, pt, hz⟩ := I.tuple hq
    exact set_tuple xs (I.ok.hd hc) (show s.heap.IsTuple p its.toArray from pt) (by simpa using strsAre_of rv) (by unfold scanBound; omega) fin
  · obtain ⟨its, rv, pl, hz⟩ := I.list hq
    exact set_list xs (I.ok.hd hc) pl.isList (by simpa using strsAre_of rv) (by unfold scanBound; omega) fin
def rLenS (P : Program) (w : World) : List V → Hp → VK → Prop := fun vs H Q => ∃ (a : Addr) (l : List PySem.Str), vs = [.ref a] ∧ H a = some (SetSO P w a l) ∧ l.length < 4000 ∧ Q (.int l.length) H
theorem cr_lenS : CallR X (.builtin "len") (rLenS X.prog X.w) := by
  intro pins s σ H vs us Q I r h
  obtain ⟨a, l, rfl, ha, hl, q⟩ := h
  rw [Vals.ref1 r]
  obtain ⟨D, ho, F⟩ := setSO_get I ha
  have e : D.1.size = l.length := F.ok.sz
  exact call_len_set ho ⟨rfl, rfl, rfl⟩ rfl F.ok.fit (by rw [e]; omega) ⟨.int l.length, H, I.tok _, ⟨_, by rw [e]⟩, q⟩
/-- k in found, k not in found -/
def rInS (P : Program) (w : World) (neg : Bool) : V → V → Hp → VK → Prop := fun x y H Q => ∃ (k : PySem.Str) (a : Addr) (l : List PySem.Str), x = .str k ∧ y = .ref a ∧ H a = some (SetSO P w a l) ∧ l.length < scanBound ∧ Q (.bl (if neg then !decide (k ∈ l) else decide (k ∈ l))) H
theorem or_inS : OpR X (compareOp .In) (rInS X.prog X.w false) := by
  intro pins s σ H x y v u Q I rx ry h
  obtain ⟨k, a, l, rfl, rfl, ha, hl, q⟩ := h
  obtain ⟨tk, rfl⟩ := (show ∃ t, v = Value.str k t from rx)
  cases (show u = Value.ref a from ry)
  exact wpAny_inSet_of (PySem.Froz.is_str _ _) rfl ((setSO_get I ha).setOf hl) ⟨.bl (decide (k ∈ l)), H, I.tok _, rfl, q⟩
theorem or_notinS : OpR X (compareOp .NotIn) (rInS X.prog X.w true) := by
  intro pins s σ H x y v u Q I rx ry h
  obtain ⟨k, a, l, rfl, rfl, ha, hl, q⟩ := h
  obtain ⟨tk, rfl⟩ := (show ∃ t, v = Value.str k t from rx)
  cases (show u = Value.ref a from ry)
  exact wpAny_notInSet_of (PySem.Froz.is_str _ _) rfl ((setSO_get I ha).setOf hl) ⟨.bl (!decide (k ∈ l)), H, I.tok _, rfl, q⟩
end
/-! ### lists told apart -/
theorem addL_mem {x k : PySem.Str} {l : List PySem.Str} : x ∈ addL k l ↔ x = k ∨ x ∈ l := by
  unfold addL
  split
  · rename_i h
    exact ⟨.inr, fun z => z.elim (fun e => e ▸ h) id⟩
  · exact List.mem_cons
theorem addL_nodup {k : PySem.Str} {l : List PySem.Str} (h : l.Nodup) : (addL k l).Nodup := by
  unfold addL
  split
  · exact h
  · rename_i hk
    exact List.nodup_cons.mpr ⟨hk, h⟩
theorem addAll_mem {x : PySem.Str} : ∀ {xs l : List PySem.Str}, x ∈ addAll l xs ↔ x ∈ l ∨ x ∈ xs := by
  intro xs
  induction xs with
  | nil => intro l; simp [addAll]
  | cons y ys ih =>
    intro l
    show x ∈ addAll (addL y l) ys ↔ _
    rw [ih, addL_mem, List.mem_cons]
    constructor
    · rintro ((h | h) | h)
      · exact .inr (.inl h)
      · exact .inl h
      · exact .inr (.inr h)
    · rintro (h | h | h)
      · exact .inl (.inr h)
      · exact .inl (.inl h)
      · exact .inr h
theorem addAll_nodup : ∀ {xs l : List PySem.Str}, l.Nodup → (addAll l xs).Nodup := by
  intro xs
  induction xs with
  | nil => intro l h; exact h
  | cons y ys ih => intro l h; exact ih (addL_nodup h)
/-- the set of xs has as many members as xs exactly if xs has none twice -/
theorem addAll_full : ∀ {xs l : List PySem.Str}, ((addAll l xs).length = l.length + xs.length ↔ xs.Nodup ∧ ∀ x ∈ xs, x ∉ l) := by
  intro xs
  induction xs with
  | nil => intro l; simp [addAll]
  | cons y ys ih =>
    intro l
    show (addAll (addL y l) ys).length = _ ↔ _
    by_cases hy : y ∈ l
    · have e : addL y l = l := by unfold addL; rw [if_pos hy]
      rw [e]
      have q := addAll_len l ys
      constructor
      · intro h
        rw [List.length_cons] at h
        omega
      · intro h
        exact absurd hy (h.2 y (List.mem_cons_self ..))
    · have e : addL y l = y :: l := by unfold addL; rw [if_neg hy]
      rw [e]
      have q := ih (l := y :: l)
      rw [List.length_cons] at q
      have r : (addAll (y :: l) ys).length = l.length + (y :: ys).length ↔ (addAll (y :: l) ys).length = l.length + 1 + ys.length := by rw [List.length_cons]; omega
      rw [r, q, List.nodup_cons]
      constructor
      · rintro ⟨h1, h2⟩
        refine ⟨⟨fun z => h2 y z (List.mem_cons_self ..), h1⟩, fun x hx => ?_⟩
        rcases List.mem_cons.mp hx with z | z
        · rw [z]; exact hy
        · exact fun w => h2 x z (List.mem_cons_of_mem _ w)
      · rintro ⟨⟨h1, h2⟩, h3⟩
        refine ⟨h2, fun x hx z => ?_⟩
        rcases List.mem_cons.mp z with w | w
        · rw [w] at hx; exact h1 hx
        · exact h3 x (List.mem_cons_of_mem _ hx) w
/-- two sorted lists of the same texts, none twice, are the same -/
theorem ltCps_as {a b : List Nat} (h1 : ltCps a b = false) (h2 : ltCps b a = false) : a = b := by
  rw [ltCps_eq] at h1 h2
  simp only [decide_eq_false_iff_not] at h1 h2
  exact List.le_antisymm (List.not_lt.mp h2) (List.not_lt.mp h1)
end CA
namespace CA
open PySem L2 PySem.Spec PyProof.Rows
/-! ### xs.extend(t), t a tuple -/
open MeetsSeq in
open AutoSeq1 (wpAny_loadPart' idx_int) in
theorem meets_extendT (l b : Addr) (as bs : Array Value) (n m : Nat) (dd : Option Addr) (sl : Array (Option Value)) (hs : as.size + bs.size ≤ sizeLine) (hlong : ¬ (!as.isEmpty && Builtin.List.listTooLong (as.size + bs.size)) = true) :
    Meets (Builtin.«list.extend» ⟨[.ref l, .ref b], []⟩) (fun _ R s => s.heap.get? l = some { cls := .type "list", data := .seq as n } ∧ s.heap.get? b = some { cls := .type "tuple", dict := dd, data := .seq bs m, slots := sl } ∧
      R (.ok (.ret Value.none)) { s with heap := s.heap.update l (Obj.mapSeq fun x => x ++ bs) }) :=
  .of_wp fun prog w A R s h => by
    obtain ⟨hp, g, d, tk, os⟩ := s
    obtain ⟨ha, hb, h⟩ := h
    have f1 := idx_int
    have f2 := AutoSeq1.sub_tuple_tuple
    have f3 := AutoSeq1.sub_list_list
    have f4 := AutoSeq1.sub_tuple_list
    have f5 := AutoSeq1.sub_list_tuple
    have hz1 : as.size ≤ sizeLine := by omega
    have hz2 : (as ++ bs).size ≤ sizeLine + 1 := by rw [Array.size_append]; omega
    wp_walk using (wpAny_updateSeq ha rfl (hz := hz1) (_hz' := hz2)), wpAny_loadPart' ha, wpAny_loadPart' hb
    exact ⟨_, rfl, h⟩
section
variable {X : Cx}
def rExtendT (K : PySem.W.Frag) : V → List V → Hp → VK → Prop := fun x vs H Q => ∃ l b xs zs, x = .ref l ∧ vs = [.ref b] ∧ H l = some (.lst xs) ∧ SqT K H b zs ∧ xs.length + zs.length ≤ sizeLine ∧ Q .non (upd H l (.lst (xs ++ zs)))
theorem mt_extendT : MtM X "list.extend" (rExtendT X.K) := by
  intro pins s σ H x vs v us Q I rx rv h
  obtain ⟨l, b, xs, zs, rfl, rfl, hH, hB, hz, q⟩ := h
  cases rx
  obtain ⟨u, rfl, ru⟩ := rv.one
  cases ru
  obtain ⟨_, its, n, r, hl, e⟩ := I.lstM hH
  obtain ⟨its2, r2, ⟨o2, ho2, hc2, n2, hd2⟩, _⟩ := I.tuple hB
  obtain ⟨c2, dd2, data2, sl2⟩ := o2
  simp only at hc2 hd2
  subst hc2 hd2
  have hsz : its.toArray.size + its2.toArray.size ≤ sizeLine := by rw [List.size_toArray, List.size_toArray, ← r.length, ← r2.length]; exact hz
  have hlong : ¬ (!its.toArray.isEmpty && Builtin.List.listTooLong (its.toArray.size + its2.toArray.size)) = true := by
    rw [notLongL hsz, Bool.and_false]
    exact Bool.false_ne_true
  refine call_meets F.slot_list_extend ⟨_, e, rfl⟩ F.entry_list_extend (F.args_list_extend_2 _ _) (meets_extendT l b its.toArray its2.toArray n n2 dd2 sl2 hsz hlong) ⟨e, ho2, ?_⟩
  refine ⟨.non, _, I.lset (its' := its ++ its2) hH e (by simp) (r.append r2) ?_, rfl, q⟩
  rw [List.length_append]
  exact hz
end
/-! ### for i, x in enumerate(t), t a tuple -/
open MeetsSeq in
theorem meets_enumT {v : Value} {o : Obj} {G : Heap → Prop} (B : Begins v o G) :
    Meets (Builtin.«enumerate.__new__» ⟨[.type "enumerate", v], []⟩) (fun _ R s => G s.heap ∧
      R (.ok (.ret (.ref (s.heap.push o).objs.size))) { s with heap := (s.heap.push o).push { cls := .type "enumerate", data := .fields #[.none, .bool false, .ref s.heap.objs.size, rawInt 0, .none, .none] } }) :=
  .of_wp fun prog w A R s h => by
    obtain ⟨hp, g, d, tk, os⟩ := s
    obtain ⟨h1, h⟩ := h
    have hsub := sub_enumerate
    have step : ∀ {A' : Around} {E : Value → Shared → Prop} {Q : Value → Shared → Prop}, Q (.ref hp.objs.size) ⟨hp.push o, g, d, tk, os⟩ → wpAny (model prog w) A' (pyIter v) Q E ⟨hp, g, d, tk, os⟩ :=
      fun q => B.iter prog w _ _ ⟨hp, g, d, tk, os⟩ _ h1 q
    wp_walk using step
    refine wpAny_stack_any fun st => wpAny_pure ?_
    split
    · rename_i c _ _ _ _ _
      cases (c == Value.type "enumerate") <;> (wp_walk using step; exact ⟨_, rfl, h⟩)
    · wp_walk using step
      exact ⟨_, rfl, h⟩
theorem call_enumT {prog : Program} {w : World} {A : Around} {E : Value → Shared → Prop} {s : Shared} {v : Value} {o : Obj} {G : Heap → Prop} {Q : Value → Shared → Prop} (B : Begins v o G) (h1 : G s.heap)
    (h : ∀ h', IsEnum h' (s.heap.objs.size + 1) s.heap.objs.size 0 .none → h'.get? s.heap.objs.size = some o → (∀ b o, s.heap.get? b = some o → h'.get? b = some o) → Q (.ref (s.heap.objs.size + 1)) { s with heap := h' }) :
    wpAny (model prog w) A (call (.type "enumerate") [v]) Q E s := by
  refine callType_new F.called_enumerate (by decide) (F.typeCall_enumerate_1 _) (F.newCall_enumerate_1 _) (fun obj => F.args_object_init_2 obj _) F.entry_enumerate_new (meets_enumT B) ⟨h1, ?_⟩
  have hz : (s.heap.push o).objs.size = s.heap.objs.size + 1 := Heap.size_push ..
  show _ ∧ _
  rw [hz]
  have he : ((s.heap.push o).push { cls := .type "enumerate", data := .fields #[.none, .bool false, .ref s.heap.objs.size, rawInt 0, .none, .none] }).get? (s.heap.objs.size + 1) = some { cls := .type "enumerate", data := .fields #[.none, .bool false, .ref s.heap.objs.size, rawInt 0, .none, .none] } := by
    rw [← hz]; exact Heap.get?_push_size _ rfl
  exact ⟨⟨_, he, rfl⟩, h _ he (Heap.get?_push_of_some _ (Heap.get?_push_size _ B.free)) fun b o' x => Heap.get?_push_of_some _ (Heap.get?_push_of_some _ x)⟩
/-- the tuple at a, each item in a new pair with its place -/
def IteT (K : PySem.W.Frag) (a : Addr) : It :=
  ⟨fun i H => ∃ (xs : List V) (x : V), SqT K H a xs ∧ xs[i]? = some x, fun i H v H' => ∃ T x, v = .ref T ∧ H T = none ∧ H' = upd H T (.tup [.int (i : Nat), x]) ∧ ∀ xs, SqT K H a xs → xs[i]? = some x, fun i H => ∃ xs : List V, SqT K H a xs ∧ xs.length ≤ i⟩
theorem turn_enumT {P : Program} {w : World} {K : PySem.W.Frag} {elts : List Expr} {kk : Nat} {tpos : Pos} (a e it : Addr) (hai : a ≠ it) (hae : a ≠ e) :
    Turn P w K (.Tuple elts kk tpos) (IteT K a) [e, it] e (fun i h => (∃ old, IsEnum h e it ((i : Nat) : Int) old) ∧ h.IsTupleIter it a i ∧ e ≠ it) where
  mem := by simp
  obj := fun i h st b hb => by
    obtain ⟨⟨old, he⟩, ⟨o, ho, hc, hd⟩, _⟩ := st
    have q : b = e ∨ b = it := by simpa using hb
    rcases q with rfl | rfl
    · exact ⟨_, he, fun v q => nomatch q⟩
    · exact ⟨o, ho, fun v q => by rw [hd] at q; cases q⟩
  keep := fun i h h' st k => let ⟨⟨old, he⟩, hi, hne⟩ := st; ⟨⟨old, k e (by simp) _ he⟩, hi.at fun o q => k it (by simp) o q, hne⟩
  item := by
    intro X hP hw hK hc i pins s σ H E I hf st hg
    subst hP hw hK
    obtain ⟨⟨old, he⟩, hit, hne⟩ := st
    obtain ⟨xs, x, hq, hx⟩ := hg
    obtain ⟨its, rv, p, hz⟩ := I.tuple hq
    obtain ⟨u, hu, ru⟩ := rv.get hx
    have hel : e < s.heap.objs.size := Heap.lt_size he
    have hil : it < s.heap.objs.size := by obtain ⟨_, q, _⟩ := hit; exact Heap.lt_size q
    have hlt : i < its.toArray.size := by rw [List.size_toArray]; exact (List.getElem?_eq_some_iff.mp hu).1
    have hh : (X.A.in1).handled = none := I.ok.hd hc
    refine wpAny_pyNext_enum_itemC (Draws.tuple hh it a hai its.toArray) he ⟨hit, p⟩ hlt hne (by simp [hne, Ne.symm hae]) fun x' h' tk hP ho hst hT hsz hk => ?_
    have ex : x' = u := by
      have z : its.toArray[i]? = some u := by simpa using hu
      rw [z] at hP
      exact (Option.some.inj hP).symm
    subst ex
    refine ⟨_, rfl, wpAny_letOwnedTupleGo_enum (s := { s with heap := h', toks := tk + 1 }) ho fun h'' he' sb => ?_⟩
    have hT2 : h''.get? s.heap.objs.size = some { cls := .type "tuple", data := .seq #[.int i tk, x'] } := (sb.2 _ (Nat.ne_of_gt hel)).trans hT
    have new : ObjOk X.prog X.w (upd H s.heap.objs.size (.tup [.int (i : Nat), x])) h'' s.heap.objs.size (.tup [.int (i : Nat), x]) :=
      ⟨by show 2 ≤ sizeLine; decide, [.int i tk, x'], .cons ⟨_, rfl⟩ (.cons ru .nil), ⟨_, hT2, rfl, _, rfl⟩⟩
    have I1 : Inv X pins σ (upd H s.heap.objs.size (.tup [.int (i : Nat), x])) { s with heap := h'', toks := tk + 1 } :=
      I.turnedNew (ch := [e, it]) (fun b ob hb q => (sb.2 b (fun z => hb (by simp [z]))).trans (hk b ob (fun z => hb (by simp [z])) (fun z => hb (by simp [z])) q)) hf (Nat.le_refl _) new
    refine ⟨.ref s.heap.objs.size, _, I1, rfl, ⟨_, x, rfl, I.hok.fresh (Nat.le_refl _), rfl, fun ys hy => by rw [I.tuple_inj hy hq]; exact hx⟩, ⟨⟨x', ?_⟩, hst.1.at fun o q => (sb.2 it (Ne.symm hne)).trans q, hne⟩, fun b hb => ?_⟩
    · have e1 : ((i + 1 : Nat) : Int) = (i : Int) + 1 := by omega
      rw [e1]; exact he'
    · have hb' : b < s.heap.objs.size := by
        have q : b = e ∨ b = it := by simpa using hb
        rcases q with rfl | rfl
        · exact hel
        · exact hil
      rw [upd_ne (Nat.ne_of_lt hb')]
      exact (hf b hb).1
  done := by
    intro X hP hw hK hc i pins s σ H E I hf st hg
    subst hP hw hK
    obtain ⟨⟨old, he⟩, hit, hne⟩ := st
    obtain ⟨xs, hq, hx⟩ := hg
    obtain ⟨its, rv, p, hz⟩ := I.tuple hq
    obtain ⟨f0, f1, f2, f3, f4, f5⟩ := hf it (by simp)
    have hh : (X.A.in1).handled = none := I.ok.hd hc
    have hend : its.toArray[i]? = none := by rw [List.getElem?_toArray, List.getElem?_eq_none_iff, ← rv.length]; exact hx
    have D : Draws X.prog X.w X.A.in1 it [it, a] i (fun _ _ => False) (fun j h => j = i ∧ h.IsTupleIter it a i ∧ h.IsTuple a its.toArray) :=
      { live := fun _ _ st => let ⟨o, ho, _⟩ := st.2.1; ⟨o, ho⟩
        frame := fun _ _ _ st hk => ⟨st.1, st.2.1.at fun o e => hk it (by simp) o e, st.2.2.at fun o e => hk a (by simp) o e⟩
        item := fun j s Q E hj st hQ => absurd st.1 (Nat.ne_of_lt hj)
        done := fun s Q E st hE => wpAny_nextOf_tuple_end hh st.2.1 st.2.2 hend hE }
    exact wpAny_pyNext_enum_endD D he ⟨rfl, hit, p⟩ fun h' eb => ⟨rfl, I.turned (t' := s.toks) (fun b o hb q => eb b o hb q) f0 f1 f3 f4 f5⟩
  self := fun A i s Q E st h => let ⟨⟨_, he⟩, _⟩ := st; wpAny_pyIter_enum he h
def iEnumT (K : PySem.W.Frag) (ta : TA) : TI := fun σ H R => ta σ H fun vs H1 => ∃ a xs, vs = [.ref a] ∧ SqT K H1 a xs ∧ R (IteT K a) H1
theorem pi_enumT {X : Cx} {e : Expr} {ta : TA} {p pos tpos : Pos} {elts : List Expr} {kk : Nat} (hm : X.mg "enumerate" = none) (ha : PA X [e] ta) (hg : Gl X "enumerate" := by rfl) (hs : starEach [e] X.env = [(false, eval e X.env)] := by rfl) :
    PI X (.Tuple elts kk tpos) (.Call (.Name "enumerate" p) [e] [] pos) (iEnumT X.K ta) := by
  refine ⟨fun pins s σ H R I h => ?_⟩
  refine Call_ (ld_blt I hg hm boot_enumerate (PyProof.Rows.callWith_type1 (thn (ha.run pos pins s σ H _ I h) fun us s1 ⟨vs, H1, I1, r1, a, xs, ex, hq, q⟩ => ?_) hs rfl))
  subst ex
  cases r1 with
  | cons r rr =>
    cases rr
    cases r
    obtain ⟨its, rv, p', hz⟩ := I1.tuple hq
    have hlt : a < s1.heap.objs.size := by obtain ⟨_, z, _⟩ := p'; exact Heap.lt_size z
    refine call_enumT (begins_tuple a its.toArray) p' fun h' he hit hk => wpAny_pyIter_enum he ?_
    have I2 : Inv X pins σ H1 { s1 with heap := h' } := I1.kept (t' := s1.toks) hk
    refine ⟨s1.heap.objs.size + 1, [s1.heap.objs.size + 1, s1.heap.objs.size], _, _, H1, rfl, I2, turn_enumT a (s1.heap.objs.size + 1) s1.heap.objs.size (Nat.ne_of_lt hlt) (Nat.ne_of_lt (Nat.lt_succ_of_lt hlt)), ⟨⟨.none, he⟩, ⟨_, hit, rfl, rfl⟩, Nat.succ_ne_self _⟩, fun b hb => ?_, q⟩
    have q : b = s1.heap.objs.size + 1 ∨ b = s1.heap.objs.size := by simpa using hb
    have hle : s1.heap.objs.size ≤ b := by
      rcases q with z | z
      · rw [z]; exact Nat.le_succ _
      · rw [z]; exact Nat.le_refl _
    exact I1.fpOk hle (I1.hok.fresh hle)
/-- the loop over it, by an invariant -/
theorem for_enumT {K : PySem.W.Frag} {a : Addr} {xs : List V} {g : TG} {tb : TS} {D : Ends} {σ : L2.St} {H : Hp} (Pv : Nat → L2.St → Hp → Prop) (h0 : Pv 0 σ H) (hl : ∀ i σ H, i ≤ xs.length → Pv i σ H → SqT K H a xs)
    (hs : ∀ i x σ H T, xs[i]? = some x → Pv i σ H → H T = none → g (.ref T) σ (upd H T (.tup [.int (i : Nat), x])) fun σ2 H2 => tb { D with nx := Pv (i + 1), ct := Pv (i + 1), bk := D.nx } σ2 H2) (hd : ∀ σ H, Pv xs.length σ H → D.nx σ H) :
    ∃ W : Nat → Nat → L2.St → Hp → Prop, (∃ m, W 0 m σ H) ∧ ∀ i m σ H, W i m σ H →
      ((IteT K a).stop i H ∧ D.nx σ H) ∨ ((IteT K a).go i H ∧ ∃ N : L2.St → Hp → Prop, (∀ σ' H', N σ' H' → ∃ m', m' < m ∧ W (i + 1) m' σ' H') ∧ ∀ x H', (IteT K a).yld i H x H' → g x σ H' fun σ2 H2 => tb { D with nx := N, ct := N, bk := D.nx } σ2 H2) := by
  refine ⟨fun i m σ H => m = xs.length - i ∧ i ≤ xs.length ∧ Pv i σ H, ⟨xs.length, by simp, Nat.zero_le _, h0⟩, ?_⟩
  rintro i m σ H ⟨rfl, hi, p⟩
  have q := hl i σ H hi p
  by_cases hlt : i < xs.length
  · refine .inr ⟨⟨xs, xs[i], q, by simp [hlt]⟩, Pv (i + 1), fun σ' H' p' => ⟨xs.length - (i + 1), by omega, rfl, hlt, p'⟩, fun v H' y => ?_⟩
    obtain ⟨T, x, rfl, hT, rfl, hx⟩ := y
    exact hs i x σ H T (hx xs q) p hT
  · have e : i = xs.length := by omega
    subst e
    exact .inl ⟨⟨xs, q, Nat.le_refl _⟩, hd σ H p⟩
end CA
/-! Trees of values; comprehensions that map. -/
namespace CA
open PySem L2
/-! ### how a heap goes on when tuples stay and lists stay lists -/
structure Gr (H H' : Hp) : Prop where
  tup : ∀ a xs, H a = some (.tup xs) → H' a = some (.tup xs)
  lst : ∀ a xs, H a = some (.lst xs) → ∃ ys, H' a = some (.lst ys)
  dct : ∀ a kvs, H a = some (.dK kvs) → ∃ lvs, H' a = some (.dK lvs)
theorem Gr.refl (H : Hp) : Gr H H := ⟨fun _ _ e => e, fun _ _ e => ⟨_, e⟩, fun _ _ e => ⟨_, e⟩⟩
theorem Gr.trans {H H1 H2 : Hp} (a : Gr H H1) (b : Gr H1 H2) : Gr H H2 :=
  ⟨fun c xs e => b.tup c xs (a.tup c xs e), fun c xs e => let ⟨ys, h⟩ := a.lst c xs e; b.lst c ys h, fun c xs e => let ⟨ys, h⟩ := a.dct c xs e; b.dct c ys h⟩
theorem Gr.of {H H' : Hp} (s : Same H H') : Gr H H' := ⟨fun _ _ e => s _ _ e, fun _ _ e => ⟨_, s _ _ e⟩, fun _ _ e => ⟨_, s _ _ e⟩⟩
theorem Gr.keep {H H' : Hp} {m : Addr} (k : Keep [m] H H') (h : ∃ L, H m = some (.lst L)) (h' : ∃ L, H' m = some (.lst L)) : Gr H H' := by
  obtain ⟨L, hL⟩ := h
  refine ⟨fun a xs e => k.one e (ne_of e hL (by intro z; cases z)), fun a xs e => ?_, fun a xs e => ⟨_, k.one e (ne_of e hL (by intro z; cases z))⟩⟩
  by_cases z : a = m
  · rw [z]; exact h'
  · exact ⟨_, k.one e z⟩
theorem Same.trans' {H H1 H2 : Hp} (a : Same H H1) (b : Same H1 H2) : Same H H2 := fun c o e => b c o (a c o e)
/-! ### trees -/
/-- a tuple of trees, or any other value -/
inductive Tr where
  | at (v : V)
  | tup (ts : List Tr)
/-- a text is not too long -/
def smV : V → Prop
  | .str s => s.length ≤ 1000
  | _ => True
inductive Nt (H : Hp) : V → Prop where
  | flat {v : V} (h : flatV v = true) (hs : smV v) : Nt H v
  | lst {a : Addr} {xs : List V} (h : H a = some (.lst xs)) : Nt H (.ref a)
  | dct {a : Addr} {kvs : List (Key × V)} (h : H a = some (.dK kvs)) : Nt H (.ref a)
mutual
inductive Tw (H : Hp) : V → Tr → Prop
  | at {v : V} : Nt H v → Tw H v (.at v)
  | tup {a : Addr} {vs : List V} {ts : List Tr} : H a = some (.tup vs) → TwL H vs ts → ts.length ≤ 1000 → Tw H (.ref a) (.tup ts)
inductive TwL (H : Hp) : List V → List Tr → Prop
  | nil : TwL H [] []
  | cons {v : V} {vs : List V} {t : Tr} {ts : List Tr} : Tw H v t → TwL H vs ts → TwL H (v :: vs) (t :: ts)
end
theorem Nt.gr {H H' : Hp} {v : V} (n : Nt H v) (g : Gr H H') : Nt H' v := by
  cases n with
  | flat h hs => exact .flat h hs
  | lst h => obtain ⟨ys, e⟩ := g.lst _ _ h; exact .lst e
  | dct h => obtain ⟨ys, e⟩ := g.dct _ _ h; exact .dct e
mutual
theorem Tw.gr {H H' : Hp} (g : Gr H H') : ∀ (t : Tr) (v : V), Tw H v t → Tw H' v t
  | .at _, _, .at n => .at (n.gr g)
  | .tup ts, _, .tup h l b => .tup (g.tup _ _ h) (TwL.gr g ts _ l) b
theorem TwL.gr {H H' : Hp} (g : Gr H H') : ∀ (ts : List Tr) (vs : List V), TwL H vs ts → TwL H' vs ts
  | [], _, .nil => .nil
  | t :: ts, _, .cons h l => .cons (Tw.gr g t _ h) (TwL.gr g ts _ l)
end
theorem Tw.kd {H : Hp} {v : V} {t : Tr} (w : Tw H v t) : Kd H v := by
  cases w with
  | «at» n =>
    cases n with
    | flat h _ => exact .flat h
    | lst h => exact .lst h
    | dct h => exact .dct h
  | tup h l _ => exact .tup h
theorem TwL.len {H : Hp} : ∀ {vs : List V} {ts : List Tr}, TwL H vs ts → vs.length = ts.length
  | _, _, .nil => rfl
  | _, _, .cons _ l => by rw [List.length_cons, List.length_cons, TwL.len l]
theorem TwL.get {H : Hp} : ∀ {vs : List V} {ts : List Tr} {i : Nat} {v : V}, TwL H vs ts → vs[i]? = some v → ∃ t, ts[i]? = some t ∧ Tw H v t
  | _, _, _, _, .nil, h => by simp at h
  | _, _, 0, _, .cons w l, h => by simp at h; subst h; exact ⟨_, rfl, w⟩
  | _, _, i + 1, _, .cons w l, h => by
    obtain ⟨t, e, w'⟩ := TwL.get (i := i) l (by simpa using h)
    exact ⟨t, by simpa using e, w'⟩
theorem TwL.get' {H : Hp} : ∀ {vs : List V} {ts : List Tr} {i : Nat} {t : Tr}, TwL H vs ts → ts[i]? = some t → ∃ v, vs[i]? = some v ∧ Tw H v t
  | _, _, _, _, .nil, h => by simp at h
  | _, _, 0, _, .cons w l, h => by simp at h; subst h; exact ⟨_, rfl, w⟩
  | _, _, i + 1, _, .cons w l, h => by
    obtain ⟨t, e, w'⟩ := TwL.get' (i := i) l (by simpa using h)
    exact ⟨t, by simpa using e, w'⟩
theorem TwL.app {H : Hp} : ∀ {vs us : List V} {ts rs : List Tr}, TwL H vs ts → TwL H us rs → TwL H (vs ++ us) (ts ++ rs)
  | _, _, _, _, .nil, r => r
  | _, _, _, _, .cons w l, r => .cons w (TwL.app l r)
theorem TwL.drop {H : Hp} : ∀ {vs : List V} {ts : List Tr} (n : Nat), TwL H vs ts → TwL H (vs.drop n) (ts.drop n)
  | _, _, 0, l => l
  | _, _, _ + 1, .nil => .nil
  | _, _, n + 1, .cons _ l => TwL.drop n l
theorem TwL.take {H : Hp} : ∀ {vs : List V} {ts : List Tr} (n : Nat), TwL H vs ts → TwL H (vs.take n) (ts.take n)
  | _, _, 0, _ => .nil
  | _, _, _ + 1, .nil => .nil
  | _, _, n + 1, .cons w l => .cons w (TwL.take n l)
/-- texts as trees -/
def tx (s : Str) : Tr := .at (.str s)
theorem TwL.txs {H : Hp} : ∀ ss : List Str, (∀ s ∈ ss, s.length ≤ 1000) → TwL H (ss.map V.str) (ss.map tx)
  | [], _ => .nil
  | s :: r, h => .cons (.at (.flat rfl (h s (List.mem_cons_self ..)))) (TwL.txs r fun s hs => h s (List.mem_cons_of_mem _ hs))
theorem TwL.to_txs {H : Hp} : ∀ {vs : List V} {ss : List Str}, TwL H vs (ss.map tx) → vs = ss.map V.str
  | _, [], .nil => rfl
  | _, s :: ss, .cons w l => by
    cases w with
    | «at» n => rw [TwL.to_txs l]; rfl
/-! ### walks over texts -/
theorem walk_str {x : Str} {H0 : Hp} {Body : V → Hp → (Hp → Prop) → Prop} {Qd : Hp → Prop} (Pv : Nat → Hp → Prop) (h0 : Pv 0 H0)
    (hs : ∀ i c H, x.cps[i]? = some c → Pv i H → Body (.str ⟨#[c]⟩) H (Pv (i + 1))) (hd : ∀ H, Pv x.cps.size H → Qd H) :
    ∃ W : Nat → Nat → Hp → Prop, (∃ m, W 0 m H0) ∧ ∀ i m H, W i m H →
      ((Its x).stop i H ∧ Qd H) ∨ ((Its x).go i H ∧ ∃ Nx : Hp → Prop, (∀ H', Nx H' → ∃ m', m' < m ∧ W (i + 1) m' H') ∧ ∀ v H', (Its x).yld i H v H' → Body v H' Nx) := by
  refine ⟨fun i m H => m = x.cps.size - i ∧ i ≤ x.cps.size ∧ Pv i H, ⟨_, rfl, Nat.zero_le _, h0⟩, ?_⟩
  rintro i m H ⟨rfl, hi, p⟩
  by_cases hlt : i < x.cps.size
  · refine .inr ⟨hlt, Pv (i + 1), fun H' p' => ⟨x.cps.size - (i + 1), by omega, rfl, hlt, p'⟩, fun v H' y => ?_⟩
    obtain ⟨e, c, hc, ev⟩ := y
    subst e ev
    exact hs i c _ hc p
  · have e : i = x.cps.size := by omega
    subst e
    exact .inl ⟨Nat.le_refl _, hd H p⟩
/-! ### comprehensions that map -/
theorem rd_same {H H' : Hp} {a : Addr} {u : HO} (h : Rd H a u) (s : Same H H') : Rd H' a u := h.elim (fun e => .inl (s _ _ e)) fun ⟨o, e⟩ => .inr ⟨o, s _ _ e⟩
theorem sqT_same {K : PySem.W.Frag} {H H' : Hp} {a : Addr} {xs : List V} (h : SqT K H a xs) (s : Same H H') : SqT K H' a xs := h.elim (fun e => .inl (rd_same e s)) .inr
theorem sqL_same {K : PySem.W.Frag} {H H' : Hp} {a : Addr} {xs : List V} (h : SqL K H a xs) (s : Same H H') : SqL K H' a xs := h.elim (fun e => .inl (rd_same e s)) .inr
/-- [te for v in a tuple]: each te leaves what was there; rs the answers -/
theorem lcm_tup {K : PySem.W.Frag} {tl : TE} {j : Nat} {te : TE} {vs : List Nat} {σ : L2.St} {H : Hp} {Q : VK} {a : Addr} {xs rs : List V} (ha : ∀ R : VK, R (.ref a) H → tl σ H R) (hq : SqT K H a xs)
    (hj : ∀ x, wipe ((wipe σ vs).set j (some x)) vs = wipe σ vs) (hz : xs.length ≤ sizeLine) (hl : rs.length = xs.length)
    (he : ∀ (i : Nat) (x r : V) (H' : Hp) (Q' : VK), xs[i]? = some x → rs[i]? = some r → Same H H' → (∀ H'', Same H' H'' → Q' r H'') → te ((wipe σ vs).set j (some x)) H' Q')
    (hQ : ∀ p H', Same H H' → H p = none → H' p = some (.lst rs) → Q (.ref p) H') : tLc (iTup K tl) (gName j) tYes te vs σ H Q := by
  refine ha _ ⟨a, rfl, ⟨xs, hq⟩, fun D hD => ?_⟩
  refine walk_tup (xs := xs) (fun i H' => Same H H' ∧ H' D = some (.lst (rs.take i))) ⟨same_new hD _, upd_same⟩ (fun i H' _ p => sqT_same hq p.1) (fun i x H' hx p => ?_) (fun H' p => ?_)
  · have hi : i < rs.length := by
      obtain ⟨hi, _⟩ := List.getElem?_eq_some_iff.mp hx
      omega
    have hr : rs[i]? = some rs[i] := List.getElem?_eq_getElem hi
    unfold gName
    refine ⟨hj x, ?_⟩
    unfold tYes
    refine iteT ?_
    refine he i x rs[i] H' _ hx hr p.1 fun H'' s2 => ⟨_, s2 _ _ p.2, ?_, ?_, ?_⟩
    · rw [List.length_take]
      omega
    · intro b o e
      have hb : b ≠ D := fun z => by rw [z, hD] at e; cases e
      rw [upd_ne hb]
      exact s2 _ _ (p.1 _ _ e)
    · rw [upd_same, List.take_add_one, hr]
      rfl
  · have e : rs.take xs.length = rs := List.take_of_length_le (by omega)
    rw [e] at p
    exact hQ D H' p.1 hD p.2
/-- the same over a text's signs -/
theorem lcm_str {tl : TE} {j : Nat} {te : TE} {vs : List Nat} {σ : L2.St} {H : Hp} {Q : VK} {x : Str} {f : V → V} (ha : ∀ R : VK, R (.str x) H → tl σ H R)
    (hj : ∀ x, wipe ((wipe σ vs).set j (some x)) vs = wipe σ vs) (hz : x.cps.size ≤ sizeLine)
    (he : ∀ (i c : Nat) (H' : Hp) (Q' : VK), x.cps[i]? = some c → Same H H' → (∀ H'', Same H' H'' → Q' (f (.str ⟨#[c]⟩)) H'') → te ((wipe σ vs).set j (some (.str ⟨#[c]⟩))) H' Q')
    (hQ : ∀ p H', Same H H' → H p = none → H' p = some (.lst (x.cps.toList.map fun c => f (.str ⟨#[c]⟩))) → Q (.ref p) H') : tLc (iStr tl) (gName j) tYes te vs σ H Q := by
  refine ha _ ⟨x, rfl, fun D hD => ?_⟩
  refine walk_str (x := x) (fun i H' => Same H H' ∧ H' D = some (.lst ((x.cps.toList.map fun c => f (.str ⟨#[c]⟩)).take i))) ⟨same_new hD _, upd_same⟩ (fun i c H' hx p => ?_) (fun H' p => ?_)
  · have hx' : x.cps.toList[i]? = some c := by rw [Array.getElem?_toList]; exact hx
    unfold gName
    refine ⟨hj _, ?_⟩
    unfold tYes
    refine iteT ?_
    refine he i c H' _ hx p.1 fun H'' s2 => ⟨_, s2 _ _ p.2, ?_, ?_, ?_⟩
    · rw [List.length_take]
      obtain ⟨hi, _⟩ := Array.getElem?_eq_some_iff.mp hx
      rw [List.length_map, Array.length_toList]
      omega
    · intro b o e
      have hb : b ≠ D := fun z => by rw [z, hD] at e; cases e
      rw [upd_ne hb]
      exact s2 _ _ (p.1 _ _ e)
    · rw [upd_same, List.take_add_one, List.getElem?_map, hx']
      rfl
  · have e : (x.cps.toList.map fun c => f (.str ⟨#[c]⟩)).take x.cps.size = x.cps.toList.map fun c => f (.str ⟨#[c]⟩) := List.take_of_length_le (by rw [List.length_map, Array.length_toList]; exact Nat.le_refl _)
    rw [e] at p
    exact hQ D H' p.1 hD p.2
/-! ### zip of two tuples -/
theorem walk_zipT {K : PySem.W.Frag} {a b : Addr} {xs ys : List V} {H0 : Hp} {Body : V → Hp → (Hp → Prop) → Prop} {Qd : Hp → Prop} (hl : xs.length = ys.length) (Pv : Nat → Hp → Prop) (h0 : Pv 0 H0) (hq : ∀ i H, Pv i H → SqT K H a xs ∧ SqT K H b ys)
    (hs : ∀ (i : Nat) (x y : V) (T : Addr) (H : Hp), xs[i]? = some x → ys[i]? = some y → Pv i H → H T = none → Body (.ref T) (upd H T (.tup [x, y])) (Pv (i + 1))) (hd : ∀ H, Pv xs.length H → Qd H) :
    ∃ W : Nat → Nat → Hp → Prop, (∃ m, W 0 m H0) ∧ ∀ i m H, W i m H →
      ((RZ.ItzT K a b).stop i H ∧ Qd H) ∨ ((RZ.ItzT K a b).go i H ∧ ∃ Nx : Hp → Prop, (∀ H', Nx H' → ∃ m', m' < m ∧ W (i + 1) m' H') ∧ ∀ v H', (RZ.ItzT K a b).yld i H v H' → Body v H' Nx) := by
  refine ⟨fun i m H => m = xs.length - i ∧ i ≤ xs.length ∧ Pv i H, ⟨xs.length, rfl, Nat.zero_le _, h0⟩, ?_⟩
  rintro i m H ⟨rfl, hi, p⟩
  obtain ⟨qx, qy⟩ := hq i H p
  by_cases hlt : i < xs.length
  · have hx : xs[i]? = some xs[i] := List.getElem?_eq_getElem hlt
    have hlt2 : i < ys.length := by omega
    have hy : ys[i]? = some ys[i] := List.getElem?_eq_getElem hlt2
    refine .inr ⟨⟨xs, ys, _, _, qx, qy, hx, hy⟩, Pv (i + 1), fun H' p' => ⟨xs.length - (i + 1), by omega, rfl, hlt, p'⟩, fun v H' y => ?_⟩
    obtain ⟨T, x', y', rfl, hT, rfl, f1, f2⟩ := y
    exact hs i x' y' T H (f1 xs qx) (f2 ys qy) p hT
  · have e : i = xs.length := by omega
    subst e
    exact .inl ⟨⟨xs, ys, qx, qy, Or.inl (Nat.le_refl _)⟩, hd H p⟩
/-- [te for x, y in zip(a, b)]; b may be new -/
theorem lcm_zip {K : PySem.W.Frag} {ta : TA} {j k : Nat} {te : TE} {vs : List Nat} {σ : L2.St} {H0 : Hp} {Q : VK} {a : Addr} {xs ys rs : List V} (ha : ∀ R : List V → Hp → Prop, (∀ b H, Same H0 H → SqT K H b ys → R [.ref a, .ref b] H) → ta σ H0 R) (hqa : SqT K H0 a xs) (hxy : xs.length = ys.length)
    (hj : ∀ x y, wipe (((wipe σ vs).set j (some x)).set k (some y)) vs = wipe σ vs) (hz : xs.length ≤ sizeLine) (hl : rs.length = xs.length)
    (he : ∀ (i : Nat) (x y r : V) (H' : Hp) (Q' : VK), xs[i]? = some x → ys[i]? = some y → rs[i]? = some r → Same H0 H' → (∀ H'', Same H' H'' → Q' r H'') → te (((wipe σ vs).set j (some x)).set k (some y)) H' Q')
    (hQ : ∀ p H', Same H0 H' → H' p = some (.lst rs) → Q (.ref p) H') : tLc (RZ.iZipA K ta) (gTup K 2 (gCons (gName j) (gCons (gName k) gNil))) tYes te vs σ H0 Q := by
  refine ha _ fun b H s0 hqb => ⟨a, b, xs, ys, rfl, .inr ⟨sqT_same hqa s0, hqb, fun D hD => ?_⟩⟩
  refine walk_zipT (xs := xs) (ys := ys) hxy (fun i H' => Same H H' ∧ H' D = some (.lst (rs.take i))) ⟨same_new hD _, upd_same⟩ (fun i H' p => ⟨sqT_same (sqT_same hqa s0) p.1, sqT_same hqb p.1⟩) (fun i x y T H' hx hy p hT => ?_) (fun H' p => ?_)
  · have hi : i < rs.length := by
      obtain ⟨hi, _⟩ := List.getElem?_eq_some_iff.mp hx
      omega
    have hr : rs[i]? = some rs[i] := List.getElem?_eq_getElem hi
    have sT := same_new hT (.tup [x, y])
    refine ⟨T, [x, y], rfl, SqT.of upd_same, rfl, x, _, rfl, y, _, rfl, rfl, hj x y, ?_⟩
    unfold tYes
    refine iteT ?_
    refine he i x y rs[i] _ _ hx hy hr (fun b o e => sT _ _ (p.1 _ _ (s0 _ _ e))) fun H'' s2 => ⟨_, s2 _ _ (sT _ _ p.2), ?_, ?_, ?_⟩
    · rw [List.length_take]
      omega
    · intro b o e
      have hb : b ≠ D := fun z => by rw [z, hD] at e; cases e
      rw [upd_ne hb]
      exact s2 _ _ (sT _ _ (p.1 _ _ e))
    · rw [upd_same, List.take_add_one, hr]
      rfl
  · have e : rs.take xs.length = rs := List.take_of_length_le (by omega)
    rw [e] at p
    exact hQ D H' (fun b o e => p.1 _ _ (s0 _ _ e)) p.2
/-! ### isinstance -/
def trStr : Tr → Bool
  | .at (.str _) => true
  | _ => false
def trTup : Tr → Bool
  | .tup _ => true
  | _ => false
def trInt : Tr → Bool
  | .at (.int _) => true
  | .at (.bl _) => true
  | _ => false
def trBl : Tr → Bool
  | .at (.bl _) => true
  | _ => false
section
variable {K : PySem.W.Frag} {H : Hp} {v : V} {t : Tr} {Q : VK}
theorem isi_str (w : Tw H v t) (q : Q (.bl (trStr t)) H) : rIsi K [v, .ty "str"] H Q := by
  cases w with
  | tup h l _ => exact ⟨_, _, _, _, _, rfl, .ty _, .base (.tup h), kit_ty (r := false) (by decide +kernel), q⟩
  | «at» n =>
    cases n with
    | lst h => exact ⟨_, _, _, _, _, rfl, .ty _, .base (.lst h), kit_ty (r := false) (by decide +kernel), q⟩
    | dct h => exact ⟨_, _, _, _, _, rfl, .ty _, .base (.dK h), kit_ty (r := false) (by decide +kernel), q⟩
    | flat h =>
      cases v with
      | non => exact ⟨_, _, _, _, _, rfl, .ty _, .base .non, kit_ty (r := false) (by decide +kernel), q⟩
      | bl b => exact ⟨_, _, _, _, _, rfl, .ty _, .base (.bl _), kit_ty (r := false) (by decide +kernel), q⟩
      | int b => exact ⟨_, _, _, _, _, rfl, .ty _, .base (.int _), kit_ty (r := false) (by decide +kernel), q⟩
      | str b => exact ⟨_, _, _, _, _, rfl, .ty _, .base (.str _), kit_ty (r := true) (by decide +kernel), q⟩
      | _ => cases h
theorem isi_tup (w : Tw H v t) (q : Q (.bl (trTup t)) H) : rIsi K [v, .ty "tuple"] H Q := by
  cases w with
  | tup h l _ => exact ⟨_, _, _, _, _, rfl, .ty _, .base (.tup h), kit_ty (r := true) (by decide +kernel), q⟩
  | «at» n =>
    cases n with
    | lst h => exact ⟨_, _, _, _, _, rfl, .ty _, .base (.lst h), kit_ty (r := false) (by decide +kernel), q⟩
    | dct h => exact ⟨_, _, _, _, _, rfl, .ty _, .base (.dK h), kit_ty (r := false) (by decide +kernel), q⟩
    | flat h =>
      cases v with
      | non => exact ⟨_, _, _, _, _, rfl, .ty _, .base .non, kit_ty (r := false) (by decide +kernel), q⟩
      | bl b => exact ⟨_, _, _, _, _, rfl, .ty _, .base (.bl _), kit_ty (r := false) (by decide +kernel), q⟩
      | int b => exact ⟨_, _, _, _, _, rfl, .ty _, .base (.int _), kit_ty (r := false) (by decide +kernel), q⟩
      | str b => exact ⟨_, _, _, _, _, rfl, .ty _, .base (.str _), kit_ty (r := false) (by decide +kernel), q⟩
      | _ => cases h
theorem isi_int (w : Tw H v t) (q : Q (.bl (trInt t)) H) : rIsi K [v, .ty "int"] H Q := by
  cases w with
  | tup h l _ => exact ⟨_, _, _, _, _, rfl, .ty _, .base (.tup h), kit_ty (r := false) (by decide +kernel), q⟩
  | «at» n =>
    cases n with
    | lst h => exact ⟨_, _, _, _, _, rfl, .ty _, .base (.lst h), kit_ty (r := false) (by decide +kernel), q⟩
    | dct h => exact ⟨_, _, _, _, _, rfl, .ty _, .base (.dK h), kit_ty (r := false) (by decide +kernel), q⟩
    | flat h =>
      cases v with
      | non => exact ⟨_, _, _, _, _, rfl, .ty _, .base .non, kit_ty (r := false) (by decide +kernel), q⟩
      | bl b => exact ⟨_, _, _, _, _, rfl, .ty _, .base (.bl _), kit_ty (r := true) (by decide +kernel), q⟩
      | int b => exact ⟨_, _, _, _, _, rfl, .ty _, .base (.int _), kit_ty (r := true) (by decide +kernel), q⟩
      | str b => exact ⟨_, _, _, _, _, rfl, .ty _, .base (.str _), kit_ty (r := false) (by decide +kernel), q⟩
      | _ => cases h
theorem isi_bool (w : Tw H v t) (q : Q (.bl (trBl t)) H) : rIsi K [v, .ty "bool"] H Q := by
  cases w with
  | tup h l _ => exact ⟨_, _, _, _, _, rfl, .ty _, .base (.tup h), kit_ty (r := false) (by decide +kernel), q⟩
  | «at» n =>
    cases n with
    | lst h => exact ⟨_, _, _, _, _, rfl, .ty _, .base (.lst h), kit_ty (r := false) (by decide +kernel), q⟩
    | dct h => exact ⟨_, _, _, _, _, rfl, .ty _, .base (.dK h), kit_ty (r := false) (by decide +kernel), q⟩
    | flat h =>
      cases v with
      | non => exact ⟨_, _, _, _, _, rfl, .ty _, .base .non, kit_ty (r := false) (by decide +kernel), q⟩
      | bl b => exact ⟨_, _, _, _, _, rfl, .ty _, .base (.bl _), kit_ty (r := true) (by decide +kernel), q⟩
      | int b => exact ⟨_, _, _, _, _, rfl, .ty _, .base (.int _), kit_ty (r := false) (by decide +kernel), q⟩
      | str b => exact ⟨_, _, _, _, _, rfl, .ty _, .base (.str _), kit_ty (r := false) (by decide +kernel), q⟩
      | _ => cases h
variable {σ : L2.St} {i : Nat}
theorem tisi_str (hσ : σ[i]? = some (some v)) (w : Tw H v t) (q : Q (.bl (trStr t)) H) : tCB (rIsi K) (tCons (tVar i) (tCons (tC (.ty "str")) tNil)) σ H Q := ⟨v, hσ, isi_str (K := K) w q⟩
theorem tisi_tup (hσ : σ[i]? = some (some v)) (w : Tw H v t) (q : Q (.bl (trTup t)) H) : tCB (rIsi K) (tCons (tVar i) (tCons (tC (.ty "tuple")) tNil)) σ H Q := ⟨v, hσ, isi_tup (K := K) w q⟩
theorem tisi_int (hσ : σ[i]? = some (some v)) (w : Tw H v t) (q : Q (.bl (trInt t)) H) : tCB (rIsi K) (tCons (tVar i) (tCons (tC (.ty "int")) tNil)) σ H Q := ⟨v, hσ, isi_int (K := K) w q⟩
theorem tisi_bool (hσ : σ[i]? = some (some v)) (w : Tw H v t) (q : Q (.bl (trBl t)) H) : tCB (rIsi K) (tCons (tVar i) (tCons (tC (.ty "bool")) tNil)) σ H Q := ⟨v, hσ, isi_bool (K := K) w q⟩
end
end CA
namespace CA
open PySem L2
def topS (i : Nat) : Stmt := PySem.Challenge.pw_calledanew_k11_whole_held_slots_by_all_w.main.body.getD i (.Pass ⟨0, 0, 0, 0⟩)
/-- built-in names that are not shadowed -/
structure Blt (mg : Str → Option Value) : Prop where
  isinstance : mg "isinstance" = none
  int : mg "int" = none
  bool : mg "bool" = none
  str : mg "str" = none
  tuple : mg "tuple" = none
  len : mg "len" = none
  all : mg "all" = none
  set : mg "set" = none
  zip : mg "zip" = none
  sorted : mg "sorted" = none
  enumerate : mg "enumerate" = none
  list : mg "list" = none
/-! ### what the tests of values answer -/
def trInteger (t : Tr) : Bool := trInt t && !trBl t
def okSign (c : Nat) : Bool := !decide ([c] < (Str.ofString "a").cps.toList) && !decide ((Str.ofString "z").cps.toList < [c])
def sgV : V → V
  | .str s => .bl (!decide (s.cps.toList < (Str.ofString "a").cps.toList) && !decide ((Str.ofString "z").cps.toList < s.cps.toList))
  | v => v
def nmS (s : Str) : Bool := decide (1 ≤ (s.length : Int)) && decide ((s.length : Int) ≤ 8) && (s.cps.toList.map okSign).all id
def trName : Tr → Bool
  | .at (.str s) => nmS s
  | _ => false
def spInteger : Sp := fun vs H Q _ => ∃ v t, vs = [v] ∧ Tw H v t ∧ Q (.bl (trInteger t)) H
def spName : Sp := fun vs H Q _ => ∃ v t, vs = [v] ∧ Tw H v t ∧ ∀ H', Same H H' → Q (.bl (trName t)) H'
section
variable {P : Program} {w : World} {K : PySem.W.Frag} {mg : Str → Option Value} {base : Heap}
abbrev s_is_integer : Stmt := topS 6
theorem sc_is_integer : FnScope ["value"] ["value"] (defScope s_is_integer) := ⟨rfl, rfl, rfl, by decide +kernel, rfl, by decide +kernel, by decide +kernel⟩
theorem ok_is_integer {f : Addr} {fd : FuncData} (F : Fun K "is_integer" "is_integer" s_is_integer f fd) (B : Blt mg) : FnOk P w K mg base CX0 1 f fd ["value"] spInteger := by
  refine F.ok sc_is_integer (fun vs H Q E h => ?_) (fun cdv A outer s H vs Q E hr h => ?_)
  · obtain ⟨v, t, rfl, _⟩ := h
    rfl
  obtain ⟨v, t, rfl, wt, q⟩ := h
  refine ⟨_, (pss_one (ps_ret (pe_and (pe_callB call_isi (by rfl) B.isinstance (by decide +kernel) (pa_cons (pv 0) (pa_cons (pe_bltn (v := .ty "int") (by rfl) B.int (by decide +kernel) rfl) pa_nil)))
    (pe_one (pe_not (pe_callB call_isi (by rfl) B.isinstance (by decide +kernel) (pa_cons (pv 0) (pa_cons (pe_bltn (v := .ty "bool") (by rfl) B.bool (by decide +kernel) rfl) pa_nil)))))))), ?_⟩
  refine tisi_int (K := K) (v := v) rfl wt ⟨_, rfl, ?_⟩
  have e : trInteger t = (trInt t && !trBl t) := rfl
  cases hi : trInt t with
  | false =>
    rw [e, hi] at q
    exact iteF q
  | true =>
    rw [e, hi] at q
    refine iteT (tisi_bool (K := K) (v := v) rfl wt ⟨_, rfl, ?_⟩)
    exact q
abbrev s_is_name : Stmt := topS 7
theorem sc_is_name : FnScope ["value", "letter"] ["value"] (defScope s_is_name) := ⟨rfl, rfl, rfl, by decide +kernel, rfl, by decide +kernel, by decide +kernel⟩
theorem ok_is_name {f : Addr} {fd : FuncData} (F : Fun K "is_name" "is_name" s_is_name f fd) (B : Blt mg) : FnOk P w K mg base CX0 1 f fd ["value"] spName := by
  refine F.ok sc_is_name (fun vs H Q E h => ?_) (fun cdv A outer s H vs Q E hr h => ?_)
  · obtain ⟨v, t, rfl, _⟩ := h
    rfl
  obtain ⟨v, t, rfl, wt, q⟩ := h
  refine ⟨_, (pss_cons (ps_if (PW.pt (pw_or (pt_not (pt_val (pe_callB call_isi (by rfl) B.isinstance (by decide +kernel) (pa_cons (pv 0) (pa_cons (pe_bltn (v := .ty "str") (by rfl) B.str (by decide +kernel) rfl) pa_nil))))) (pw_or1 (pt_not (pt_chain op_le op_le pe_int (pe_callB call_len_str (by rfl) B.len (by decide +kernel) (pa_cons (pv 0) pa_nil)) pe_int)))))
    (pss_one (ps_ret pe_bl))
    pss_nil)
  (pss_one (ps_ret (pe_callB (cr_all rfl) (by rfl) B.all (by decide +kernel) (pa_cons (pe_lc (own := [("letter", 1)]) (g := gName 1) (tt := tYes) rfl sc_is_name.nd (pi_str (pv 0)) (blkOk_by (own := [("letter", 1)]) (N := ["value", "letter"]) (sc := defScope s_is_name) (by decide +kernel))
    (fun s H C cl fp => pg_name (i := 1) sc_is_name.nd rfl (Or.inl rfl)) (fun s H C cl fp => pts_nil) (fun s H C cl fp => pe_chain op_le_str op_le_str pe_str (pv 1) pe_str)) pa_nil))))), ?_⟩
  refine tisi_str (K := K) (v := v) rfl wt ⟨_, rfl, ?_⟩
  have fin : ∀ b : Bool, trName t = b → ∀ H', Same H H' → Q (.bl b) H' := fun b e H' s => by rw [← e]; exact q H' s
  cases hs : trStr t with
  | false =>
    refine iteT (iteT ?_)
    refine fin false ?_ H (fun _ _ e => e)
    cases t with
    | tup ts => rfl
    | «at» u =>
      cases u with
      | str z => cases hs
      | _ => rfl
  | true =>
    obtain ⟨z, rfl⟩ : ∃ z, t = .at (.str z) := by
      cases t with
      | tup ts => cases hs
      | «at» u =>
        cases u with
        | str z => exact ⟨z, rfl⟩
        | _ => cases hs
    have hv : v = .str z ∧ z.length ≤ 1000 := by
      cases wt with
      | «at» n =>
        cases n with
        | flat _ h => exact ⟨rfl, h⟩
    obtain ⟨rfl, hz⟩ := hv
    have hz2 : z.length ≤ sizeLine := Nat.le_trans hz (by decide)
    refine iteF ⟨_, rfl, z, rfl, hz2, _, _, rfl, rfl, _, rfl, ite2 (fun c1 => ?_) (fun c1 => ?_)⟩
    · have d1 : decide (1 ≤ (z.length : Int)) = true := c1
      refine ⟨_, _, rfl, rfl, _, rfl, ite2 (fun c2 => ?_) (fun c2 => ?_)⟩
      · have d2 : decide ((z.length : Int) ≤ 8) = false := by
          cases hd : decide ((z.length : Int) ≤ 8) with
          | false => rfl
          | true => rw [hd] at c2; cases c2
        refine fin false ?_ H (fun _ _ e => e)
        show nmS z = false
        unfold nmS
        rw [d1, d2]
        rfl
      · have d2 : decide ((z.length : Int) ≤ 8) = true := by
          cases hd : decide ((z.length : Int) ≤ 8) with
          | true => rfl
          | false => rw [hd] at c2; exact absurd rfl c2
        dsimp only [tNext, tRet, tCB, tCons, tNil]
        refine lcm_str (tl := tVar 0) (j := 1) (vs := [1]) (σ := L2.start ["value", "letter"] [V.str z]) (H := H) (x := z) (f := sgV) (fun R h => ⟨_, rfl, h⟩) (fun x => rfl) hz2 (fun i c H' Q' hx sm k => ?_) fun p H' sm hn hp => ?_
        · refine ⟨_, rfl, _, _, rfl, rfl, _, rfl, ite2 (fun c3 => ?_) (fun c3 => ?_)⟩
          · refine ⟨_, _, rfl, rfl, ?_⟩
            have e : sgV (.str ⟨#[c]⟩) = .bl (!decide ((Str.ofString "z").cps.toList < [c])) := by
              show V.bl (!decide ([c] < (Str.ofString "a").cps.toList) && _) = _
              rw [show (!decide ([c] < (Str.ofString "a").cps.toList)) = true from c3]
              rfl
            rw [e] at k
            exact k H' (fun _ _ e => e)
          · have e : sgV (.str ⟨#[c]⟩) = .bl false := by
              show V.bl (!decide ([c] < (Str.ofString "a").cps.toList) && _) = _
              rw [show (!decide ([c] < (Str.ofString "a").cps.toList)) = false from Bool.eq_false_iff.mpr c3]
              rfl
            rw [e] at k
            exact k H' (fun _ _ e => e)
        · refine ⟨p, z.cps.toList.map okSign, rfl, SqL.of (by rw [hp, List.map_map]; rfl), ?_⟩
          refine fin _ ?_ H' sm
          show nmS z = _
          unfold nmS
          rw [d1, d2]
          rfl
    · have d1 : decide (1 ≤ (z.length : Int)) = false := Bool.eq_false_iff.mpr c1
      refine ⟨_, rfl, iteT ?_⟩
      refine fin false ?_ H (fun _ _ e => e)
      show nmS z = false
      unfold nmS
      rw [d1]
      rfl
end
end CA
namespace CA
open PySem L2
def txOf' : Tr → Str
  | .at (.str s) => s
  | _ => Str.empty
def trNames (t : Tr) (a b : Int) : Bool := match t with
  | .tup ts => decide (a ≤ (ts.length : Int)) && decide ((ts.length : Int) ≤ b) && (ts.map trName).all id && decide ((addAll [] (ts.map txOf')).length = ts.length)
  | _ => false
theorem trName_tx {t : Tr} (h : trName t = true) : t = tx (txOf' t) := by
  cases t with
  | tup ts => cases h
  | «at» v =>
    cases v with
    | str s => rfl
    | _ => cases h
theorem names_txs : ∀ {ts : List Tr}, (ts.map trName).all id = true → ts = (ts.map txOf').map tx
  | [], _ => rfl
  | t :: ts, h => by
    rw [List.map_cons, List.all_cons, Bool.and_eq_true] at h
    rw [List.map_cons, List.map_cons, ← names_txs h.2, ← trName_tx h.1]
def spNames : Sp := fun vs H Q _ => ∃ v t a b, vs = [v, .int a, .int b] ∧ Tw H v t ∧ b ≤ 1000 ∧ ∀ H', Same H H' → Q (.bl (trNames t a b)) H'
structure TxtN (K : PySem.W.Frag) (mg : Str → Option Value) (fn fi : Addr) : Prop where
  g_is_name : mg "is_name" = some (.ref fn)
  k_is_name : PySem.W.keepIn K (.ref fn) = true
  g_is_integer : mg "is_integer" = some (.ref fi)
  k_is_integer : PySem.W.keepIn K (.ref fi) = true
/-- the answer of a test of each item -/
def bOf (f : Tr → Bool) : List V → List Tr → List V
  | _, ts => ts.map fun t => .bl (f t)
section
variable {P : Program} {w : World} {K : PySem.W.Frag} {mg : Str → Option Value} {base : Heap} {fn fi : Addr}
abbrev s_are_names : Stmt := topS 8
theorem sc_are_names : FnScope ["value", "fewest", "most", "item"] ["value", "fewest", "most"] (defScope s_are_names) := ⟨rfl, rfl, rfl, by decide +kernel, rfl, by decide +kernel, by decide +kernel⟩
theorem ok_are_names {f : Addr} {fd fdn : FuncData} (F : Fun K "are_names" "are_names" s_are_names f fd) (B : Blt mg) (T : TxtN K mg fn fi) (Gis_name : FnOk P w K mg base CX0 1 fn fdn ["value"] spName) (bis_name : Binds K fdn ["value"] []) : FnOk P w K mg base CX0 2 f fd ["value", "fewest", "most"] spNames := by
  refine F.ok sc_are_names (fun vs H Q E h => ?_) (fun cdv A outer s H vs Q E hr h => ?_)
  · obtain ⟨v, t, a, b, rfl, _⟩ := h
    rfl
  obtain ⟨v, t, a, b, rfl, wt, hb, q⟩ := h
  refine ⟨_, (pss_cons (ps_if (PW.pt (pw_or (pt_not (pt_val (pe_callB call_isi (by rfl) B.isinstance (by decide +kernel) (pa_cons (pv 0) (pa_cons (pe_bltn (v := .ty "tuple") (by rfl) B.tuple (by decide +kernel) rfl) pa_nil))))) (pw_or1 (pt_not (pt_chain op_le op_le (pv 1) (pe_callB call_len_seq (by rfl) B.len (by decide +kernel) (pa_cons (pv 0) pa_nil)) (pv 2))))))
    (pss_one (ps_ret pe_bl))
    pss_nil)
  (pss_one (ps_ret (pe_and (pe_callB (cr_all rfl) (by rfl) B.all (by decide +kernel) (pa_cons (pe_lc (own := [("item", 3)]) (wi := iTup K (tVar 0)) (g := gName 3) (tt := tYes) rfl sc_are_names.nd (pi_tup (pv 0)) (blkOk_by (own := [("item", 3)]) (N := ["value", "fewest", "most", "item"]) (sc := defScope s_are_names) (by decide +kernel))
    (fun s H C cl fp => pg_name (i := 3) sc_are_names.nd rfl (Or.inl rfl)) (fun s H C cl fp => pts_nil) (fun s H C cl fp => pe_call Gis_name hr rfl T.g_is_name T.k_is_name bis_name .nil pass0 (pa_cons (pv 3) pa_nil))) pa_nil))
    (pe_one (pe_cmpR op_eq (pe_callB cr_lenS (by rfl) B.len (by decide +kernel) (pa_cons (pe_callTy (cr_setTx rfl) (by rfl) B.set (by decide +kernel) (pa_cons (pv 0) pa_nil)) pa_nil)) (pe_callB call_len_seq (by rfl) B.len (by decide +kernel) (pa_cons (pv 0) pa_nil)) (nomark _))))))), ?_⟩
  refine tisi_tup (K := K) (v := v) rfl wt ⟨_, rfl, ?_⟩
  have fin : ∀ c : Bool, trNames t a b = c → ∀ H', Same H H' → Q (.bl c) H' := fun c e H' s => by rw [← e]; exact q H' s
  cases wt with
  | «at» n => exact iteT (iteT (fin false rfl H (fun _ _ e => e)))
  | @tup p vs ts hp hl hb2 =>
    have ln : vs.length = ts.length := hl.len
    refine iteF ⟨_, rfl, _, rfl, p, vs, rfl, .inr (SqT.of hp), _, _, rfl, rfl, _, rfl, ite2 (fun c1 => ?_) (fun c1 => ?_)⟩
    · have d1 : decide (a ≤ (ts.length : Int)) = true := by rw [← ln]; exact c1
      refine ⟨_, rfl, _, _, rfl, rfl, _, rfl, ite2 (fun c2 => ?_) (fun c2 => ?_)⟩
      · have d2 : decide ((ts.length : Int) ≤ b) = false := by
          rw [← ln]
          cases hd : decide ((vs.length : Int) ≤ b) with
          | false => rfl
          | true => rw [hd] at c2; cases c2
        refine fin false ?_ H (fun _ _ e => e)
        show (_ && _ && _ && _) = false
        rw [d1, d2]
        rfl
      · have d2 : decide ((ts.length : Int) ≤ b) = true := by
          rw [← ln]
          cases hd : decide ((vs.length : Int) ≤ b) with
          | true => rfl
          | false => rw [hd] at c2; exact absurd rfl c2
        have hts : ts.length ≤ 1000 := by
          have := of_decide_eq_true d2
          omega
        have fin2 : ∀ c : Bool, ((ts.map trName).all id && decide ((addAll [] (ts.map txOf')).length = ts.length)) = c → ∀ H', Same H H' → Q (.bl c) H' := fun c e H' s => by
          refine fin c ?_ H' s
          show (_ && _ && _ && _) = c
          rw [d1, d2, ← e]
          rfl
        dsimp only [tNext, tRet, tAndV, tCB, tCons, tNil]
        refine lcm_tup (tl := tVar 0) (j := 3) (vs := [3]) (σ := L2.start ["value", "fewest", "most", "item"] [.ref p, .int a, .int b]) (H := H) (a := p) (xs := vs) (rs := ts.map fun t => .bl (trName t)) (fun R h => ⟨_, rfl, h⟩) (SqT.of hp) (fun x => rfl) (by rw [ln]; exact Nat.le_trans hts (by decide)) (by rw [List.length_map, ln]) (fun i x r H' Q' hx hr sm k => ?_) fun p1 H1 sm hn hp1 => ?_
        · obtain ⟨t, ht, wt⟩ := hl.get hx
          rw [List.getElem?_map, ht] at hr
          cases hr
          exact ⟨x, rfl, x, t, rfl, wt.gr (Gr.of sm) , fun H'' s2 => k H'' s2⟩
        · refine ⟨p1, ts.map trName, rfl, SqL.of (by rw [hp1, List.map_map]; rfl), _, rfl, ?_⟩
          cases hall : (ts.map trName).all id with
          | false =>
            refine iteF (fin2 false ?_ H1 sm)
            rw [hall]
            rfl
          | true =>
            have ets := names_txs hall
            have evs : vs = (ts.map txOf').map V.str := TwL.to_txs (by rw [← ets]; exact hl)
            have lt : (ts.map txOf').length = ts.length := List.length_map _
            have la : (addAll [] (ts.map txOf')).length ≤ ts.length := by
              have := addAll_len [] (ts.map txOf')
              rw [lt] at this
              simpa using this
            refine iteT ⟨_, rfl, p, ts.map txOf', rfl, .inl (SqT.of (by rw [sm _ _ hp, evs])), by omega, fun q1 hq1 => ⟨q1, _, rfl, upd_same, by omega, _, rfl, p, vs, rfl, .inr (SqT.of (same_new hq1 _ _ _ (sm _ _ hp))), ?_⟩⟩
            refine ⟨rfl, ?_⟩
            refine fin2 _ ?_ _ (fun b o e => same_new hq1 _ _ _ (sm _ _ e))
            rw [hall]
            show decide _ = decide _
            rw [ln]
            by_cases hh : (addAll [] (ts.map txOf')).length = ts.length
            · rw [decide_eq_true hh, decide_eq_true (by rw [hh])]
            · rw [decide_eq_false hh, decide_eq_false (fun z => hh (by injection z with z; omega))]
    · have d1 : decide (a ≤ (ts.length : Int)) = false := by rw [← ln]; exact Bool.eq_false_iff.mpr c1
      refine ⟨_, rfl, iteT (fin false ?_ H (fun _ _ e => e))⟩
      show (_ && _ && _ && _) = false
      rw [d1]
      rfl
end
end CA
namespace CA
open PySem L2
/-- stands among the texts -/
def trIn (ss : List Str) : Tr → Bool
  | .at v => memT v ss
  | .tup _ => false
theorem memT_tw {H : Hp} {v : V} {t : Tr} (w : Tw H v t) (ss : List Str) : memT v ss = trIn ss t := by
  cases w with
  | «at» n => rfl
  | tup h l _ =>
    show List.any _ _ = false
    rw [List.any_eq_false]
    intro z _
    simp
def trTable (ss : List Str) : Tr → Bool
  | .tup ts => decide (ts.length = ss.length) && (ts.map (trIn ss)).all id
  | _ => false
def trWords (ss : List Str) (t : Tr) (a b : Int) : Bool := match t with
  | .tup ts => decide (a ≤ (ts.length : Int)) && decide ((ts.length : Int) ≤ b) && (ts.map (trIn ss)).all id
  | _ => false
def spWords : Sp := fun vs H Q _ => ∃ v t p ss a b, vs = [v, .ref p, .int a, .int b] ∧ Tw H v t ∧ H p = some (.tup (ss.map V.str)) ∧ b ≤ 1000 ∧ ∀ H', Same H H' → Q (.bl (trWords ss t a b)) H'
theorem trWords_table (ss : List Str) (t : Tr) : trWords ss t ss.length ss.length = trTable ss t := by
  cases t with
  | «at» v => rfl
  | tup ts =>
    show (_ && _ && _) = (_ && _)
    congr 1
    by_cases h : ts.length = ss.length
    · rw [h]; simp
    · rw [decide_eq_false h, ← Bool.decide_and, decide_eq_false]
      omega
def trPath : Tr → Bool
  | .tup ts => (ts.map trInteger).all id
  | _ => false
def spPath : Sp := fun vs H Q _ => ∃ v t, vs = [v] ∧ Tw H v t ∧ ∀ H', Same H H' → Q (.bl (trPath t)) H'
section
variable {P : Program} {w : World} {K : PySem.W.Frag} {mg : Str → Option Value} {base : Heap} {fn fi : Addr}
abbrev s_are_words : Stmt := topS 9
theorem sc_are_words : FnScope ["value", "words", "fewest", "most", "item"] ["value", "words", "fewest", "most"] (defScope s_are_words) := ⟨rfl, rfl, rfl, by decide +kernel, rfl, by decide +kernel, by decide +kernel⟩
theorem ok_are_words {f : Addr} {fd : FuncData} (F : Fun K "are_words" "are_words" s_are_words f fd) (B : Blt mg) : FnOk P w K mg base CX0 1 f fd ["value", "words", "fewest", "most"] spWords := by
  refine F.ok sc_are_words (fun vs H Q E h => ?_) (fun cdv A outer s H vs Q E hr h => ?_)
  · obtain ⟨v, t, p, ss, a, b, rfl, _⟩ := h
    rfl
  obtain ⟨v, t, p, ss, a, b, rfl, wt, hp, hbb, q⟩ := h
  refine ⟨_, (pss_cons (ps_if (PW.pt (pw_or (pt_not (pt_val (pe_callB call_isi (by rfl) B.isinstance (by decide +kernel) (pa_cons (pv 0) (pa_cons (pe_bltn (v := .ty "tuple") (by rfl) B.tuple (by decide +kernel) rfl) pa_nil))))) (pw_or1 (pt_not (pt_chain op_le op_le (pv 2) (pe_callB call_len_seq (by rfl) B.len (by decide +kernel) (pa_cons (pv 0) pa_nil)) (pv 3))))))
    (pss_one (ps_ret pe_bl))
    pss_nil)
  (pss_one (ps_ret (pe_callB (cr_all rfl) (by rfl) B.all (by decide +kernel) (pa_cons (pe_lc (own := [("item", 4)]) (wi := iTup K (tVar 0)) (g := gName 4) (tt := tYes) (te := tOp (rInT K false) (tVar 4) (tVar 1)) rfl sc_are_words.nd (pi_tup (pv 0)) (blkOk_by (own := [("item", 4)]) (N := ["value", "words", "fewest", "most", "item"]) (sc := defScope s_are_words) (by decide +kernel))
    (fun s H C cl fp => pg_name (i := 4) sc_are_words.nd rfl (Or.inl rfl)) (fun s H C cl fp => pts_nil) (fun s H C cl fp => pe_cmpR (op_inT (Nat.lt_of_le_of_lt (Nat.add_le_add_left (by decide) _) hr.units)) (pv 4) (pv 1) (by rfl))) pa_nil))))), ?_⟩
  refine tisi_tup (K := K) (v := v) rfl wt ⟨_, rfl, ?_⟩
  have fin : ∀ c : Bool, trWords ss t a b = c → ∀ H', Same H H' → Q (.bl c) H' := fun c e H' s => by rw [← e]; exact q H' s
  cases wt with
  | «at» n => exact iteT (iteT (fin false rfl H (fun _ _ e => e)))
  | @tup p1 vs ts ha hl hb =>
    have ln : vs.length = ts.length := hl.len
    have eT : trWords ss (.tup ts) a b = (decide (a ≤ (ts.length : Int)) && decide ((ts.length : Int) ≤ b) && (ts.map (trIn ss)).all id) := rfl
    rw [eT] at fin
    refine iteF ⟨_, rfl, _, rfl, p1, vs, rfl, .inr (SqT.of ha), _, _, rfl, rfl, _, rfl, ite2 (fun c1 => ?_) (fun c1 => ?_)⟩
    · have d1 : decide (a ≤ (ts.length : Int)) = true := by rw [← ln]; exact c1
      refine ⟨_, rfl, _, _, rfl, rfl, _, rfl, ite2 (fun c2 => ?_) (fun c2 => ?_)⟩
      · have d2 : decide ((ts.length : Int) ≤ b) = false := by
          rw [← ln]
          simpa using c2
        exact fin false (by rw [d1, d2]; rfl) H (fun _ _ e => e)
      · have d2 : decide ((ts.length : Int) ≤ b) = true := by
          rw [← ln]
          simpa using c2
        dsimp only [tNext, tRet, tAndV, tCB, tCons, tNil]
        refine lcm_tup (tl := tVar 0) (j := 4) (vs := [4]) (σ := L2.start ["value", "words", "fewest", "most", "item"] [.ref p1, .ref p, .int a, .int b]) (H := H) (a := p1) (xs := vs) (rs := ts.map fun t => .bl (trIn ss t)) (fun R h => ⟨_, rfl, h⟩) (SqT.of ha) (fun x => rfl) (by rw [ln]; exact Nat.le_trans hb (by decide)) (by rw [List.length_map, ln]) (fun i x r H' Q' hx hr sm k => ?_) fun p2 H1 sm hn hp1 => ?_
        · obtain ⟨t, ht, wt⟩ := hl.get hx
          rw [List.getElem?_map, ht] at hr
          cases hr
          refine ⟨x, rfl, _, rfl, p, ss, rfl, .inr (SqT.of (sm _ _ hp)), (wt.gr (Gr.of sm)).kd, ?_⟩
          rw [if_neg (by simp), memT_tw wt]
          exact k H' (fun _ _ e => e)
        · refine ⟨p2, ts.map (trIn ss), rfl, SqL.of (by rw [hp1, List.map_map]; rfl), fin _ ?_ H1 sm⟩
          rw [d1, d2]
          rfl
    · have d1 : decide (a ≤ (ts.length : Int)) = false := by
        rw [← ln]
        exact Bool.eq_false_iff.mpr c1
      exact ⟨_, rfl, iteT (fin false (by rw [d1]; rfl) H (fun _ _ e => e))⟩
abbrev s_is_path : Stmt := topS 10
theorem sc_is_path : FnScope ["value", "item"] ["value"] (defScope s_is_path) := ⟨rfl, rfl, rfl, by decide +kernel, rfl, by decide +kernel, by decide +kernel⟩
theorem ok_is_path {f : Addr} {fd fdi : FuncData} (F : Fun K "is_path" "is_path" s_is_path f fd) (B : Blt mg) (T : TxtN K mg fn fi) (Gis_integer : FnOk P w K mg base CX0 1 fi fdi ["value"] spInteger) (bis_integer : Binds K fdi ["value"] []) : FnOk P w K mg base CX0 2 f fd ["value"] spPath := by
  refine F.ok sc_is_path (fun vs H Q E h => ?_) (fun cdv A outer s H vs Q E hr h => ?_)
  · obtain ⟨v, t, rfl, _⟩ := h
    rfl
  obtain ⟨v, t, rfl, wt, q⟩ := h
  refine ⟨_, (pss_one (ps_ret (pe_and (pe_callB call_isi (by rfl) B.isinstance (by decide +kernel) (pa_cons (pv 0) (pa_cons (pe_bltn (v := .ty "tuple") (by rfl) B.tuple (by decide +kernel) rfl) pa_nil)))
    (pe_one (pe_callB (cr_all rfl) (by rfl) B.all (by decide +kernel) (pa_cons (pe_lc (own := [("item", 1)]) (wi := iTup K (tVar 0)) (g := gName 1) (tt := tYes) rfl sc_is_path.nd (pi_tup (pv 0)) (blkOk_by (own := [("item", 1)]) (N := ["value", "item"]) (sc := defScope s_is_path) (by decide +kernel))
    (fun s H C cl fp => pg_name (i := 1) sc_is_path.nd rfl (Or.inl rfl)) (fun s H C cl fp => pts_nil) (fun s H C cl fp => pe_call Gis_integer hr rfl T.g_is_integer T.k_is_integer bis_integer .nil pass0 (pa_cons (pv 1) pa_nil))) pa_nil)))))), ?_⟩
  refine tisi_tup (K := K) (v := v) rfl wt ⟨_, rfl, ?_⟩
  have fin : ∀ c : Bool, trPath t = c → ∀ H', Same H H' → Q (.bl c) H' := fun c e H' s => by rw [← e]; exact q H' s
  cases wt with
  | «at» n => exact iteF (fin false rfl H (fun _ _ e => e))
  | @tup a vs ts ha hl hb =>
    have ln : vs.length = ts.length := hl.len
    refine iteT ?_
    dsimp only [tNext, tRet, tAndV, tCB, tCons, tNil]
    refine lcm_tup (tl := tVar 0) (j := 1) (vs := [1]) (σ := L2.start ["value", "item"] [.ref a]) (H := H) (a := a) (xs := vs) (rs := ts.map fun t => .bl (trInteger t)) (fun R h => ⟨_, rfl, h⟩) (SqT.of ha) (fun x => rfl) ?_ (by rw [List.length_map, ln]) (fun i x r H' Q' hx hr sm k => ?_) fun p1 H1 sm hn hp1 => ?_
    · rw [ln]; exact Nat.le_trans hb (by decide)
    · obtain ⟨t, ht, wt⟩ := hl.get hx
      rw [List.getElem?_map, ht] at hr
      cases hr
      exact ⟨x, rfl, x, t, rfl, wt.gr (Gr.of sm), k H' (fun _ _ e => e)⟩
    · exact ⟨p1, ts.map trInteger, rfl, SqL.of (by rw [hp1, List.map_map]; rfl), fin _ rfl H1 sm⟩
end
end CA
namespace CA
open PySem L2
/-- a whole number of the module -/
theorem pe_gint {X : Cx} {x : Str} {n : Int} {pos : Pos} (hm : ∃ tk, X.mg x = some (.int n tk)) (hg : Gl X x := by rfl) (hd : (x == ("__debug__" : Str)) = false := by decide) : PE X (.Name x pos) (tC (.int n)) := by
  obtain ⟨tk, h⟩ := hm
  exact pe_glob (v := .int n) hg h ⟨tk, rfl⟩ hd
def callKinds : List Str := ["cell", "box", "kept", "effect", "handler", "put", "map", "if", "show"]
def funKinds : List Str := ["say", "set", "turn", "write", "fetch", "put", "map", "if", "later"]
def isNon : Tr → Bool
  | .at .non => true
  | _ => false
def itemFits (role : Str) (t : Tr) (ws es : List Str) : Bool :=
  if role = "word" then trIn ws t else if role = "event" then trIn es t else if role = "table" then trTable ws t else if role = "list" then trNames t 0 4
  else if role = "list or none" then (if isNon t then true else trNames t 0 4) else if role = "rows" then trTup t else trName t
def mayStand (k z : Str) (d : Int) : Bool :=
  if z = "call" then (if decide (k ∈ callKinds) then (if k = "if" then decide (d ≤ 3) else true) else false)
  else if k = "later" then (if z = "body" then decide (d = 1) else false)
  else (if decide (k ∈ funKinds) then (if k = "if" then decide (d ≤ 2) else true) else false)
def zoneIn (k : Str) (n : Int) (z : Str) : Str := if k = "if" then z else if k = "later" then "later" else if n = 1 then "clean" else "body"
def depthIn (k : Str) (d : Int) : Int := if k = "if" then d + 1 else 1
def spItem : Sp := fun vs H Q _ => ∃ role v t pw pe ws es, vs = [.str role, v, .ref pw, .ref pe] ∧ Tw H v t ∧ H pw = some (.tup (ws.map V.str)) ∧ H pe = some (.tup (es.map V.str)) ∧ ws.length ≤ 1000 ∧ ∀ H', Same H H' → Q (.bl (itemFits role t ws es)) H'
def spStand : Sp := fun vs H Q _ => ∃ k z d, vs = [.str k, .str z, .int d] ∧ Q (.bl (mayStand k z d)) H
def spZone : Sp := fun vs H Q _ => ∃ k n z, vs = [.str k, .int n, .str z] ∧ Q (.str (zoneIn k n z)) H
def spDepth : Sp := fun vs H Q _ => ∃ k d, vs = [.str k, .int d] ∧ Q (.int (depthIn k d)) H
structure TxtF (K : PySem.W.Frag) (mg : Str → Option Value) (ft fns fn aC aF : Addr) : Prop where
  g_are_words : mg "are_words" = some (.ref ft)
  k_are_words : PySem.W.keepIn K (.ref ft) = true
  g_are_names : mg "are_names" = some (.ref fns)
  k_are_names : PySem.W.keepIn K (.ref fns) = true
  g_is_name : mg "is_name" = some (.ref fn)
  k_is_name : PySem.W.keepIn K (.ref fn) = true
  MOST_LIST : ∃ tk, mg "MOST_LIST" = some (.int 4 tk)
  DEEPEST_CALL_IF : ∃ tk, mg "DEEPEST_CALL_IF" = some (.int 3 tk)
  DEEPEST_FUNCTION_IF : ∃ tk, mg "DEEPEST_FUNCTION_IF" = some (.int 2 tk)
  CALL_KINDS : mg "CALL_KINDS" = some (.ref aC)
  FUNCTION_KINDS : mg "FUNCTION_KINDS" = some (.ref aF)
  sC : ∀ H, SqT K H aC (callKinds.map V.str)
  sF : ∀ H, SqT K H aF (funKinds.map V.str)
theorem memT_str (k : Str) (ss : List Str) : memT (.str k) ss = decide (k ∈ ss) := by
  unfold memT
  rw [Bool.eq_iff_iff, List.any_eq_true]
  simp only [decide_eq_true_eq, V.str.injEq]
  exact ⟨fun ⟨x, h, e⟩ => e ▸ h, fun h => ⟨k, h, rfl⟩⟩
theorem inT_str (k : Str) (ss : List Str) : (if false = true then !memT (.str k) ss else memT (.str k) ss) = decide (k ∈ ss) := by rw [if_neg (by simp), memT_str]
theorem dec_int' (a b : Int) : decide (V.int a = V.int b) = decide (a = b) := by
  by_cases h : a = b
  · rw [h]; simp
  · rw [decide_eq_false h, decide_eq_false fun z => h (by injection z)]
theorem dec_str (a b : Str) : decide (V.str a = V.str b) = decide (a = b) := by
  by_cases h : a = b
  · rw [h]; simp
  · rw [decide_eq_false h, decide_eq_false fun z => h (by injection z)]
theorem units2 {k : Nat} {A : Around} (hr : Room k A) : A.units + 1 < cLine := Nat.lt_of_le_of_lt (Nat.add_le_add_left (by decide) _) hr.units
section
variable {P : Program} {w : World} {K : PySem.W.Frag} {mg : Str → Option Value} {base : Heap} {ft fns fn aC aF : Addr}
abbrev s_item_fits : Stmt := topS 19
theorem sc_item_fits : FnScope ["role", "item", "words", "events"] ["role", "item", "words", "events"] (defScope s_item_fits) := ⟨rfl, rfl, rfl, by decide +kernel, rfl, by decide +kernel, by decide +kernel⟩
theorem ok_item_fits {f : Addr} {fd fdt fdns fdn : FuncData} (F : Fun K "item_fits" "item_fits" s_item_fits f fd) (B : Blt mg) (T : TxtF K mg ft fns fn aC aF) (Gare_words : FnOk P w K mg base CX0 1 ft fdt ["value", "words", "fewest", "most"] spWords) (bare_words : Binds K fdt ["value", "words", "fewest", "most"] [])
    (Gare_names : FnOk P w K mg base CX0 2 fns fdns ["value", "fewest", "most"] spNames) (bare_names : Binds K fdns ["value", "fewest", "most"] []) (Gis_name : FnOk P w K mg base CX0 1 fn fdn ["value"] spName) (bis_name : Binds K fdn ["value"] []) : FnOk P w K mg base CX0 3 f fd ["role", "item", "words", "events"] spItem := by
  refine F.ok sc_item_fits (fun vs H Q E h => ?_) (fun cdv A outer s H vs Q E hr h => ?_)
  · obtain ⟨role, v, t, pw, pe, ws, es, rfl, _⟩ := h
    rfl
  obtain ⟨role, v, t, pw, pe, ws, es, rfl, wt, hw, he, hz, q⟩ := h
  have hr1 : Room 1 _ := hr.mono (by decide)
  refine ⟨_, (pss_cons (ps_if (pt_cmpR op_eq (pv 0) pe_str (nomark _))
    (pss_one (ps_ret (pe_cmpR (op_inT (units2 hr)) (pv 1) (pv 2) (by rfl))))
    pss_nil)
  (pss_cons (ps_if (pt_cmpR op_eq (pv 0) pe_str (nomark _))
    (pss_one (ps_ret (pe_cmpR (op_inT (units2 hr)) (pv 1) (pv 3) (by rfl))))
    pss_nil)
  (pss_cons (ps_if (pt_cmpR op_eq (pv 0) pe_str (nomark _))
    (pss_one (ps_ret (pe_call Gare_words hr1 rfl T.g_are_words T.k_are_words bare_words .nil pass0 (pa_cons (pv 1) (pa_cons (pv 2) (pa_cons (pe_callB call_len_seq (by rfl) B.len (by decide +kernel) (pa_cons (pv 2) pa_nil)) (pa_cons (pe_callB call_len_seq (by rfl) B.len (by decide +kernel) (pa_cons (pv 2) pa_nil)) pa_nil)))))))
    pss_nil)
  (pss_cons (ps_if (pt_cmpR op_eq (pv 0) pe_str (nomark _))
    (pss_one (ps_ret (pe_call Gare_names hr rfl T.g_are_names T.k_are_names bare_names .nil pass0 (pa_cons (pv 1) (pa_cons pe_int (pa_cons (pe_gint T.MOST_LIST) pa_nil))))))
    pss_nil)
  (pss_cons (ps_if (pt_cmpR op_eq (pv 0) pe_str (nomark _))
    (pss_one (ps_ret (pe_or (pe_cmpR op_isN (pv 1) pe_non (nomark _)) (pe_one (pe_call Gare_names hr rfl T.g_are_names T.k_are_names bare_names .nil pass0 (pa_cons (pv 1) (pa_cons pe_int (pa_cons (pe_gint T.MOST_LIST) pa_nil))))))))
    pss_nil)
  (pss_cons (ps_if (pt_cmpR op_eq (pv 0) pe_str (nomark _))
    (pss_one (ps_ret (pe_callB call_isi (by rfl) B.isinstance (by decide +kernel) (pa_cons (pv 1) (pa_cons (pe_bltn (v := .ty "tuple") (by rfl) B.tuple (by decide +kernel) rfl) pa_nil)))))
    pss_nil)
  (pss_one (ps_ret (pe_call Gis_name hr1 rfl T.g_is_name T.k_is_name bis_name .nil pass0 (pa_cons (pv 1) pa_nil)))))))))), ?_⟩
  have fin : ∀ c : Bool, itemFits role t ws es = c → ∀ H', Same H H' → Q (.bl c) H' := fun c e H' s => by rw [← e]; exact q H' s
  have here : Same H H := fun _ _ e => e
  unfold itemFits at fin
  refine ⟨_, rfl, rfl, _, rfl, ite2 (fun c => ?_) (fun c => ?_)⟩ <;> rw [dec_str] at c
  · rw [if_pos (of_decide_eq_true c)] at fin
    refine ⟨_, rfl, _, rfl, pw, ws, rfl, .inr (SqT.of hw), wt.kd, ?_⟩
    rw [if_neg (by simp), memT_tw wt]
    exact fin _ rfl H here
  rw [if_neg (fun e => c (decide_eq_true e))] at fin
  refine ⟨_, rfl, rfl, _, rfl, ite2 (fun c => ?_) (fun c => ?_)⟩ <;> rw [dec_str] at c
  · rw [if_pos (of_decide_eq_true c)] at fin
    refine ⟨_, rfl, _, rfl, pe, es, rfl, .inr (SqT.of he), wt.kd, ?_⟩
    rw [if_neg (by simp), memT_tw wt]
    exact fin _ rfl H here
  rw [if_neg (fun e => c (decide_eq_true e))] at fin
  refine ⟨_, rfl, rfl, _, rfl, ite2 (fun c => ?_) (fun c => ?_)⟩ <;> rw [dec_str] at c
  · rw [if_pos (of_decide_eq_true c)] at fin
    exact ⟨_, rfl, _, rfl, _, rfl, pw, _, rfl, .inr (SqT.of hw), _, rfl, pw, _, rfl, .inr (SqT.of hw), v, t, pw, ws, _, _, rfl, wt, hw, by rw [List.length_map]; omega, fun H' s => fin _ (by rw [List.length_map, trWords_table]) H' s⟩
  rw [if_neg (fun e => c (decide_eq_true e))] at fin
  refine ⟨_, rfl, rfl, _, rfl, ite2 (fun c => ?_) (fun c => ?_)⟩ <;> rw [dec_str] at c
  · rw [if_pos (of_decide_eq_true c)] at fin
    exact ⟨_, rfl, v, t, 0, 4, rfl, wt, by decide, fun H' s => fin _ rfl H' s⟩
  rw [if_neg (fun e => c (decide_eq_true e))] at fin
  refine ⟨_, rfl, rfl, _, rfl, ite2 (fun c => ?_) (fun c => ?_)⟩ <;> rw [dec_str] at c
  · rw [if_pos (of_decide_eq_true c)] at fin
    refine ⟨_, rfl, rfl, _, rfl, ?_⟩
    by_cases hv : v = .non
    · subst hv
      refine iteT (fin true ?_ H here)
      cases wt
      rfl
    · rw [show decide (v = V.non) = false from decide_eq_false hv]
      refine iteF ⟨_, rfl, v, t, 0, 4, rfl, wt, by decide, fun H' s => fin _ ?_ H' s⟩
      have e : isNon t = false := by
        cases wt with
        | tup _ _ _ => rfl
        | «at» n =>
          cases v with
          | non => exact absurd rfl hv
          | _ => rfl
      rw [e]
      rfl
  rw [if_neg (fun e => c (decide_eq_true e))] at fin
  refine ⟨_, rfl, rfl, _, rfl, ite2 (fun c => ?_) (fun c => ?_)⟩ <;> rw [dec_str] at c
  · rw [if_pos (of_decide_eq_true c)] at fin
    exact tisi_tup (K := K) (v := v) rfl wt (fin _ rfl H here)
  rw [if_neg (fun e => c (decide_eq_true e))] at fin
  exact ⟨_, rfl, v, t, rfl, wt, fun H' s => fin _ rfl H' s⟩
abbrev s_may_stand : Stmt := topS 21
theorem sc_may_stand : FnScope ["kind", "zone", "depth"] ["kind", "zone", "depth"] (defScope s_may_stand) := ⟨rfl, rfl, rfl, by decide +kernel, rfl, by decide +kernel, by decide +kernel⟩
theorem ok_may_stand {f : Addr} {fd : FuncData} (F : Fun K "may_stand" "may_stand" s_may_stand f fd) (T : TxtF K mg ft fns fn aC aF) : FnOk P w K mg base CX0 1 f fd ["kind", "zone", "depth"] spStand := by
  refine F.ok sc_may_stand (fun vs H Q E h => ?_) (fun cdv A outer s H vs Q E hr h => ?_)
  · obtain ⟨k, z, d, rfl, _⟩ := h
    rfl
  obtain ⟨k, z, d, rfl, q⟩ := h
  refine ⟨_, (pss_cons (ps_if (pt_cmpR op_eq (pv 1) pe_str (nomark _))
    (pss_one (ps_ret (pe_and (pe_cmpR (op_inT (units2 hr)) (pv 0) (pe_gr T.CALL_KINDS) (by rfl)) (pe_one (pe_or (pe_cmpR op_ne (pv 0) pe_str (nomark _)) (pe_one (pe_cmpR op_le (pv 2) (pe_gint T.DEEPEST_CALL_IF) (nomark _))))))))
    pss_nil)
  (pss_cons (ps_if (pt_cmpR op_eq (pv 0) pe_str (nomark _))
    (pss_one (ps_ret (pe_and (pe_cmpR op_eq (pv 1) pe_str (nomark _)) (pe_one (pe_cmpR op_eq (pv 2) pe_int (nomark _))))))
    pss_nil)
  (pss_one (ps_ret (pe_and (pe_cmpR (op_inT (units2 hr)) (pv 0) (pe_gr T.FUNCTION_KINDS) (by rfl)) (pe_one (pe_or (pe_cmpR op_ne (pv 0) pe_str (nomark _)) (pe_one (pe_cmpR op_le (pv 2) (pe_gint T.DEEPEST_FUNCTION_IF) (nomark _)))))))))), ?_⟩
  have fin : ∀ c : Bool, mayStand k z d = c → Q (.bl c) H := fun c e => by rw [← e]; exact q
  unfold mayStand at fin
  refine ⟨_, rfl, rfl, _, rfl, ite2 (fun c => ?_) (fun c => ?_)⟩ <;> rw [dec_str] at c
  · rw [if_pos (of_decide_eq_true c)] at fin
    refine ⟨_, rfl, aC, callKinds, rfl, .inr (T.sC _), .flat rfl, _, rfl, ?_⟩
    rw [inT_str]
    cases hk : decide (k ∈ callKinds) with
    | false =>
      rw [hk] at fin
      exact iteF (fin false rfl)
    | true =>
      rw [hk, if_pos rfl] at fin
      refine iteT ⟨_, rfl, rfl, _, rfl, ?_⟩
      rw [dec_str]
      by_cases hi : k = "if"
      · rw [if_pos hi] at fin
        rw [decide_eq_true hi]
        exact iteF ⟨_, rfl, _, _, rfl, rfl, fin _ rfl⟩
      · rw [if_neg hi] at fin
        rw [decide_eq_false hi]
        exact iteT (fin _ rfl)
  rw [if_neg (fun e => c (decide_eq_true e))] at fin
  refine ⟨_, rfl, rfl, _, rfl, ite2 (fun c => ?_) (fun c => ?_)⟩ <;> rw [dec_str] at c
  · rw [if_pos (of_decide_eq_true c)] at fin
    refine ⟨_, rfl, rfl, _, rfl, ?_⟩
    rw [dec_str]
    by_cases hb : z = "body"
    · rw [if_pos hb] at fin
      rw [decide_eq_true hb]
      refine iteT ⟨_, rfl, rfl, ?_⟩
      rw [dec_int']
      exact fin _ rfl
    · rw [if_neg hb] at fin
      rw [decide_eq_false hb]
      exact iteF (fin _ rfl)
  rw [if_neg (fun e => c (decide_eq_true e))] at fin
  refine ⟨_, rfl, aF, funKinds, rfl, .inr (T.sF _), .flat rfl, _, rfl, ?_⟩
  rw [inT_str]
  cases hk : decide (k ∈ funKinds) with
  | false =>
    rw [hk] at fin
    exact iteF (fin false rfl)
  | true =>
    rw [hk, if_pos rfl] at fin
    refine iteT ⟨_, rfl, rfl, _, rfl, ?_⟩
    rw [dec_str]
    by_cases hi : k = "if"
    · rw [if_pos hi] at fin
      rw [decide_eq_true hi]
      exact iteF ⟨_, rfl, _, _, rfl, rfl, fin _ rfl⟩
    · rw [if_neg hi] at fin
      rw [decide_eq_false hi]
      exact iteT (fin _ rfl)
abbrev s_zone_inside : Stmt := topS 22
theorem sc_zone_inside : FnScope ["kind", "number", "zone"] ["kind", "number", "zone"] (defScope s_zone_inside) := ⟨rfl, rfl, rfl, by decide +kernel, rfl, by decide +kernel, by decide +kernel⟩
theorem ok_zone_inside {f : Addr} {fd : FuncData} (F : Fun K "zone_inside" "zone_inside" s_zone_inside f fd) : FnOk P w K mg base CX0 1 f fd ["kind", "number", "zone"] spZone := by
  refine F.ok sc_zone_inside (fun vs H Q E h => ?_) (fun cdv A outer s H vs Q E hr h => ?_)
  · obtain ⟨k, n, z, rfl, _⟩ := h
    rfl
  obtain ⟨k, n, z, rfl, q⟩ := h
  refine ⟨_, (pss_cons (ps_if (pt_cmpR op_eq (pv 0) pe_str (nomark _))
    (pss_one (ps_ret (pv 2)))
    pss_nil)
  (pss_cons (ps_if (pt_cmpR op_eq (pv 0) pe_str (nomark _))
    (pss_one (ps_ret pe_str))
    pss_nil)
  (pss_one (ps_ret (pe_ifExp (pt_cmpR op_eq (pv 1) pe_int (nomark _)) pe_str pe_str))))), ?_⟩
  have fin : ∀ c : Str, zoneIn k n z = c → Q (.str c) H := fun c e => by rw [← e]; exact q
  unfold zoneIn at fin
  refine ⟨_, rfl, rfl, _, rfl, ite2 (fun c => ?_) (fun c => ?_)⟩ <;> rw [dec_str] at c
  · rw [if_pos (of_decide_eq_true c)] at fin
    exact ⟨_, rfl, fin _ rfl⟩
  rw [if_neg (fun e => c (decide_eq_true e))] at fin
  refine ⟨_, rfl, rfl, _, rfl, ite2 (fun c => ?_) (fun c => ?_)⟩ <;> rw [dec_str] at c
  · rw [if_pos (of_decide_eq_true c)] at fin
    exact fin _ rfl
  rw [if_neg (fun e => c (decide_eq_true e))] at fin
  refine ⟨_, rfl, rfl, _, rfl, ite2 (fun c => ?_) (fun c => ?_)⟩ <;> rw [dec_int'] at c
  · rw [if_pos (of_decide_eq_true c)] at fin
    exact fin _ rfl
  · rw [if_neg (fun e => c (decide_eq_true e))] at fin
    exact fin _ rfl
abbrev s_depth_inside : Stmt := topS 23
theorem sc_depth_inside : FnScope ["kind", "depth"] ["kind", "depth"] (defScope s_depth_inside) := ⟨rfl, rfl, rfl, by decide +kernel, rfl, by decide +kernel, by decide +kernel⟩
theorem ok_depth_inside {f : Addr} {fd : FuncData} (F : Fun K "depth_inside" "depth_inside" s_depth_inside f fd) : FnOk P w K mg base CX0 1 f fd ["kind", "depth"] spDepth := by
  refine F.ok sc_depth_inside (fun vs H Q E h => ?_) (fun cdv A outer s H vs Q E hr h => ?_)
  · obtain ⟨k, d, rfl, _⟩ := h
    rfl
  obtain ⟨k, d, rfl, q⟩ := h
  refine ⟨_, (pss_one (ps_ret (pe_ifExp (pt_cmpR op_eq (pv 0) pe_str (nomark _)) (pe_op op_add (pv 1) pe_int) pe_int))), ?_⟩
  have fin : ∀ c : Int, depthIn k d = c → Q (.int c) H := fun c e => by rw [← e]; exact q
  unfold depthIn at fin
  refine ⟨_, rfl, rfl, _, rfl, ite2 (fun c => ?_) (fun c => ?_)⟩ <;> rw [dec_str] at c
  · rw [if_pos (of_decide_eq_true c)] at fin
    exact ⟨_, rfl, _, _, rfl, rfl, fin _ rfl⟩
  · rw [if_neg (fun e => c (decide_eq_true e))] at fin
    exact fin _ rfl
end
end CA
namespace CA
open PySem L2
def firstRows (z : Str) : Option Nat := if z = "if" then some 3 else if z = "effect" then some 2 else if z = "handler" then some 3 else if z = "later" then some 1 else none
def formTable : List (Str × List Str) := [("cell", ["slot", "word"]), ("box", ["box", "word"]), ("kept", ["slot", "from", "table", "list"]), ("effect", ["list or none", "rows", "rows"]), ("handler", ["event", "list or none", "rows"]), ("put", ["slot", "word"]),
  ("map", ["slot", "from", "table"]), ("if", ["slot", "word", "rows", "rows"]), ("show", ["slot"]), ("say", ["slot"]), ("set", ["cell", "slot"]), ("turn", ["cell", "table"]), ("write", ["box", "slot"]), ("fetch", ["box", "slot"]), ("later", ["rows"])]
def formOf (z : Str) : Option (List Str) := formTable.lookup z
/-- the written dicts of the forms -/
structure TxtR (K : PySem.W.Frag) (w : World) (mg : Str → Option Value) (aF aR : Addr) (esF esR : Array DictEntry) (nF nR : Nat) : Prop where
  FORMS : mg "FORMS" = some (.ref aF)
  FIRST_ROWS : mg "FIRST_ROWS" = some (.ref aR)
  DF : KDict K w aF esF nF
  DR : KDict K w aR esR nR
  noF : ∀ z, formOf z = none → PySem.W.nsIn K aF z = some none
  yesF : ∀ z l, formOf z = some l → ∃ p, PySem.W.nsIn K aF z = some (some (.ref p)) ∧ ∀ H, SqT K H p (l.map V.str)
  noR : ∀ z, firstRows z = none → PySem.W.nsIn K aR z = some none
  yesR : ∀ z n, firstRows z = some n → ∃ tk, PySem.W.nsIn K aR z = some (some (.int (n : Nat) tk))
/-- the rows in a row -/
def innerT (k : Str) (ts : List Tr) : List Tr := match firstRows k with
  | none => []
  | some n => ts.drop n
theorem cut_from (xs : List V) (n : Nat) : cutV xs (some (n : Int)) none = xs.drop n := by
  unfold cutV
  have e1 : HT.sIx xs.length 0 (some (n : Int)) = min n xs.length := by
    show (if ((n : Nat) : Int) < 0 then (((n : Nat) : Int) + (xs.length : Int)).toNat else min ((n : Nat) : Int).toNat xs.length) = min n xs.length
    rw [if_neg (by omega)]
    rfl
  have e2 : HT.sIx xs.length xs.length none = xs.length := rfl
  rw [e1, e2]
  by_cases h : n ≤ xs.length
  · rw [Nat.min_eq_left h]
    exact List.take_of_length_le (by rw [List.length_drop]; exact Nat.le_refl _)
  · have h' : xs.length ≤ n := by omega
    rw [Nat.min_eq_right h', List.drop_eq_nil_of_le h', List.drop_eq_nil_of_le (Nat.le_refl _), List.take_nil]
theorem cut_whole {xs : List V} {n : Nat} (h1 : 1 ≤ n) (h2 : 1 ≤ xs.length) : ¬ (HT.sIx xs.length 0 (some (n : Int)) = 0 ∧ HT.sIx xs.length xs.length none = xs.length) := by
  rintro ⟨e, _⟩
  have e1 : HT.sIx xs.length 0 (some (n : Int)) = min n xs.length := by
    show (if ((n : Nat) : Int) < 0 then (((n : Nat) : Int) + (xs.length : Int)).toNat else min ((n : Nat) : Int).toNat xs.length) = min n xs.length
    rw [if_neg (by omega)]
    rfl
  omega
theorem firstRows_pos {z : Str} {n : Nat} (h : firstRows z = some n) : 1 ≤ n := by
  unfold firstRows at h
  repeat (first | (split at h; · cases h; decide) | (cases h; done) | (cases h; decide))
def spInner : Sp := fun vs H Q _ => ∃ v k ts, vs = [v] ∧ Tw H v (.tup (tx k :: ts)) ∧ ∀ v' H', Same H H' → Tw H' v' (.tup (innerT k (tx k :: ts))) → Q v' H'
section
variable {P : Program} {w : World} {K : PySem.W.Frag} {mg : Str → Option Value} {base : Heap} {aF aR : Addr} {esF esR : Array DictEntry} {nF nR : Nat}
abbrev s_inner_rows : Stmt := topS 24
theorem sc_inner_rows : FnScope ["row"] ["row"] (defScope s_inner_rows) := ⟨rfl, rfl, rfl, by decide +kernel, rfl, by decide +kernel, by decide +kernel⟩
theorem ok_inner_rows {f : Addr} {fd : FuncData} (F : Fun K "inner_rows" "inner_rows" s_inner_rows f fd) (T : TxtR K w mg aF aR esF esR nF nR) : FnOk P w K mg base CX0 1 f fd ["row"] spInner := by
  refine F.ok sc_inner_rows (fun vs H Q E h => ?_) (fun cdv A outer s H vs Q E hr h => ?_)
  · obtain ⟨v, k, ts, rfl, _⟩ := h
    rfl
  obtain ⟨v, k, ts, rfl, wt, q⟩ := h
  refine ⟨_, (pss_cons (ps_if (pt_cmpR (op_notIn_kd (X := (cxOf CX0 P w K mg base ["row"] "inner_rows" (defScope s_inner_rows) f cdv A outer s H E).nox) T.DR) (pe_ix ix_tup (pv 0) pe_int (fun _ _ => rfl)) (pe_gr T.FIRST_ROWS) (by rfl))
    (pss_one (ps_ret (pe_tup pa_nil)))
    pss_nil)
  (pss_one (ps_ret (pe_slice sl_tup (pv 0) (po_some (pe_ix ix_kdict (pe_gr T.FIRST_ROWS) (pe_ix ix_tup (pv 0) pe_int (fun _ _ => rfl)) (fun _ _ => rfl))) po_none)))), ?_⟩
  cases wt with
  | @tup a vs _ ha hl hb =>
    cases hl with
    | @cons u us _ _ wu hus =>
      cases wu with
      | «at» n =>
        have at0 : atI (V.str k :: us) 0 = some (.str k) := at_of (j := 0) rfl rfl
        refine ⟨_, rfl, a, V.str k :: us, 0, _, rfl, rfl, SqT.of ha, at0, ?_⟩
        cases hfr : firstRows k with
        | none =>
          refine ⟨k, none, rfl, rfl, T.noR k hfr, _, rfl, iteT ⟨by decide, fun p hp => ?_⟩⟩
          refine q (.ref p) _ (same_new hp _) (.tup upd_same ?_ ?_)
          · rw [show innerT k (tx k :: ts) = [] by unfold innerT; rw [hfr]]
            exact .nil
          · rw [show innerT k (tx k :: ts) = [] by unfold innerT; rw [hfr]]
            decide
        | some m =>
          obtain ⟨tk, hu⟩ := T.yesR k m hfr
          have ei : innerT k (tx k :: ts) = (tx k :: ts).drop m := by unfold innerT; rw [hfr]
          have hm := firstRows_pos hfr
          refine ⟨k, some _, rfl, rfl, hu, _, rfl, iteF ?_⟩
          refine ⟨_, rfl, _, rfl, a, _, 0, _, rfl, rfl, SqT.of ha, at0, aR, k, .int (m : Nat), rfl, rfl, ⟨esR, nR, _, T.DR.at_, T.DR.lit, hu, ⟨tk, rfl⟩⟩, (m : Nat), rfl, a, _, rfl, SqT.of ha, cut_whole hm (by simp), fun p hp => ?_⟩
          rw [cut_from]
          refine q (.ref p) _ (same_new hp _) (.tup upd_same ?_ ?_)
          · rw [ei]
            exact TwL.drop m (TwL.gr (Gr.of (same_new hp _)) _ _ (.cons (.at n) hus))
          · rw [ei, List.length_drop]
            omega
end
end CA
namespace CA
open PySem L2
def rowFits (t : Tr) (ws es : List Str) : Bool := match t with
  | .tup (.at (.str k) :: ts) => (match formOf k with
    | none => false
    | some roles => decide (ts.length = roles.length) && ((roles.zip ts).map fun p => itemFits p.1 p.2 ws es).all id)
  | _ => false
theorem formOf_len {z : Str} {l : List Str} (h : formOf z = some l) : l.length ≤ 4 := by
  have q : ∀ p ∈ formTable, p.2.length ≤ 4 := by decide
  exact q _ (PySem.mem_of_lookup h)
def spRow : Sp := fun vs H Q _ => ∃ v t pw pe ws es, vs = [v, .ref pw, .ref pe] ∧ Tw H v t ∧ H pw = some (.tup (ws.map V.str)) ∧ H pe = some (.tup (es.map V.str)) ∧ ws.length ≤ 1000 ∧ ∀ H', Same H H' → Q (.bl (rowFits t ws es)) H'
section
variable {P : Program} {w : World} {K : PySem.W.Frag} {mg : Str → Option Value} {base : Heap} {aF aR fi : Addr} {esF esR : Array DictEntry} {nF nR : Nat}
abbrev s_row_fits : Stmt := topS 20
theorem sc_row_fits : FnScope ["row", "words", "events", "form", "role", "item"] ["row", "words", "events"] (defScope s_row_fits) := ⟨rfl, rfl, rfl, by decide +kernel, rfl, by decide +kernel, by decide +kernel⟩
theorem ok_row_fits {f : Addr} {fd fdi : FuncData} (F : Fun K "row_fits" "row_fits" s_row_fits f fd) (B : Blt mg) (T : TxtR K w mg aF aR esF esR nF nR) (gi : mg "item_fits" = some (.ref fi)) (ki : PySem.W.keepIn K (.ref fi) = true)
    (Gitem : FnOk P w K mg base CX0 3 fi fdi ["role", "item", "words", "events"] spItem) (bitem : Binds K fdi ["role", "item", "words", "events"] []) : FnOk P w K mg base CX0 4 f fd ["row", "words", "events"] spRow := by
  refine F.ok sc_row_fits (fun vs H Q E h => ?_) (fun cdv A outer s H vs Q E hr h => ?_)
  · obtain ⟨v, t, pw, pe, ws, es, rfl, _⟩ := h
    rfl
  obtain ⟨v, t, pw, pe, ws, es, rfl, wt, hw, he, hz, q⟩ := h
  refine ⟨_, (pss_cons (ps_if (PW.pt (pw_or (pt_not (pt_val (pe_callB call_isi (by rfl) B.isinstance (by decide +kernel) (pa_cons (pv 0) (pa_cons (pe_bltn (v := .ty "tuple") (by rfl) B.tuple (by decide +kernel) rfl) pa_nil))))) (pw_or1 (pt_cmpR op_eq (pe_callB call_len_seq (by rfl) B.len (by decide +kernel) (pa_cons (pv 0) pa_nil)) pe_int (nomark _)))))
    (pss_one (ps_ret pe_bl))
    pss_nil)
  (pss_cons (ps_if (PW.pt (pw_or (pt_not (pt_val (pe_callB call_isi (by rfl) B.isinstance (by decide +kernel) (pa_cons (pe_ix ix_tup (pv 0) pe_int (fun _ _ => rfl)) (pa_cons (pe_bltn (v := .ty "str") (by rfl) B.str (by decide +kernel) rfl) pa_nil))))) (pw_or1 (pt_cmpR (op_notIn_kd (X := (cxOf CX0 P w K mg base ["row", "words", "events", "form", "role", "item"] "row_fits" (defScope s_row_fits) f cdv A outer s H E).nox) T.DF) (pe_ix ix_tup (pv 0) pe_int (fun _ _ => rfl)) (pe_gr T.FORMS) (by rfl)))))
    (pss_one (ps_ret pe_bl))
    pss_nil)
  (pss_cons (ps_set (i := 3) sc_row_fits.nd rfl (Or.inl rfl) (pe_ix ix_kdict (pe_gr T.FORMS) (pe_ix ix_tup (pv 0) pe_int (fun _ _ => rfl)) (fun _ _ => rfl)))
  (pss_cons (ps_if (pt_cmpR op_ne (pe_callB call_len_seq (by rfl) B.len (by decide +kernel) (pa_cons (pv 0) pa_nil)) (pe_op op_add (pe_callB call_len_seq (by rfl) B.len (by decide +kernel) (pa_cons (pv 3) pa_nil)) pe_int) (nomark _))
    (pss_one (ps_ret pe_bl))
    pss_nil)
  (pss_one (ps_ret (pe_callB (cr_all rfl) (by rfl) B.all (by decide +kernel) (pa_cons (pe_lc (own := [("role", 4), ("item", 5)]) (wi := RZ.iZipA K (tCons (tVar 3) (tCons (tSl (rSlT K) (tVar 0) (tPart (tC (.int 1))) tNoPart) tNil))) (g := gTup K 2 (gCons (gName 4) (gCons (gName 5) gNil))) (tt := tYes) rfl sc_row_fits.nd
    (RZ.pi_zipA (by rfl) B.zip (pa_cons (pv 3) (pa_cons (pe_slice sl_tup (pv 0) (po_some pe_int) po_none) pa_nil)))
    (blkOk_by (own := [("role", 4), ("item", 5)]) (N := ["row", "words", "events", "form", "role", "item"]) (sc := defScope s_row_fits) (by decide +kernel))
    (fun s H C cl fp => pg_tup rfl (pgs_cons (pg_name (i := 4) sc_row_fits.nd rfl (Or.inl rfl)) (pgs_cons (pg_name (i := 5) sc_row_fits.nd rfl (Or.inl rfl)) pgs_nil))) (fun s H C cl fp => pts_nil)
    (fun s H C cl fp => pe_call Gitem hr rfl gi ki bitem .nil pass0 (pa_cons (pv 4) (pa_cons (pv 5) (pa_cons (pv 1) (pa_cons (pv 2) pa_nil)))))) pa_nil)))))))), ?_⟩
  refine tisi_tup (K := K) (v := v) rfl wt ⟨_, rfl, ?_⟩
  have fin : ∀ c : Bool, rowFits t ws es = c → ∀ H', Same H H' → Q (.bl c) H' := fun c e H' s => by rw [← e]; exact q H' s
  have here : Same H H := fun _ _ e => e
  cases wt with
  | «at» n => exact iteT (iteT (fin false rfl H here))
  | @tup a vs ts ha hl hb =>
    have ln : vs.length = ts.length := hl.len
    refine iteF ⟨_, rfl, a, vs, rfl, .inr (SqT.of ha), rfl, _, rfl, ite2 (fun c => ?_) (fun c => ?_)⟩ <;> rw [dec_int'] at c
    · have e : ts = [] := List.length_eq_zero_iff.mp (by have := of_decide_eq_true c; omega)
      subst e
      exact fin false rfl H here
    cases hl with
    | nil => exact absurd rfl c
    | @cons u us t0 ts wu hus =>
      have at0 : atI (u :: us) 0 = some u := at_of (j := 0) rfl rfl
      refine ⟨_, rfl, a, u :: us, 0, _, rfl, rfl, SqT.of ha, at0, ?_⟩
      dsimp only [tCons, tC, tNil]
      refine isi_str (K := K) wu ⟨_, rfl, ?_⟩
      cases wu with
      | tup _ _ _ => exact iteT (iteT (fin false rfl H here))
      | «at» n =>
        cases hs : trStr (.at u) with
        | false =>
          refine iteT (iteT (fin false ?_ H here))
          cases u with
          | str k => cases hs
          | _ => rfl
        | true =>
          obtain ⟨k, rfl⟩ : ∃ k, u = .str k := by
            cases u with
            | str k => exact ⟨k, rfl⟩
            | _ => cases hs
          have er : rowFits (.tup (.at (.str k) :: ts)) ws es = (match formOf k with
            | none => false
            | some roles => decide (ts.length = roles.length) && ((roles.zip ts).map fun p => itemFits p.1 p.2 ws es).all id) := rfl
          refine iteF ⟨_, rfl, a, _, 0, _, rfl, rfl, SqT.of ha, at0, ?_⟩
          cases hf : formOf k with
          | none =>
            rw [hf] at er
            exact ⟨k, none, rfl, rfl, T.noF k hf, _, rfl, iteT (fin false er H here)⟩
          | some roles =>
            rw [hf] at er
            obtain ⟨p, hp, sp⟩ := T.yesF k roles hf
            have hr4 := formOf_len hf
            refine ⟨k, some _, rfl, rfl, hp, _, rfl, iteF ?_⟩
            refine ⟨_, rfl, a, _, 0, _, rfl, rfl, SqT.of ha, at0, aF, k, .ref p, rfl, rfl, ⟨esF, nF, _, T.DF.at_, T.DF.lit, hp, rfl⟩, ?_⟩
            have lu : (V.str k :: us).length = ts.length + 1 := by rw [ln]; rfl
            have lr : (roles.map V.str).length = roles.length := List.length_map _
            refine ⟨_, rfl, a, _, rfl, .inr (SqT.of ha), _, rfl, p, _, rfl, .inr (sp _), _, _, rfl, rfl, rfl, _, rfl, ite2 (fun c2 => ?_) (fun c2 => ?_)⟩ <;> rw [dec_int', lu, lr] at c2
            · have d : decide (ts.length = roles.length) = false := by
                cases hd : decide (ts.length = roles.length) with
                | false => rfl
                | true =>
                  have e := of_decide_eq_true hd
                  rw [e, decide_eq_true (by omega)] at c2
                  cases c2
              refine fin false ?_ H here
              rw [er]
              show (_ && _) = false
              rw [d]
              rfl
            · have d : ts.length = roles.length := by
                by_cases e : ts.length = roles.length
                · exact e
                · rw [decide_eq_false (by omega)] at c2
                  exact absurd rfl c2
              have fin2 : ∀ c : Bool, ((roles.zip ts).map fun p => itemFits p.1 p.2 ws es).all id = c → ∀ H', Same H H' → Q (.bl c) H' := fun c e H' s => by
                refine fin c ?_ H' s
                rw [er, ← e]
                show (_ && _) = _
                rw [decide_eq_true d]
                rfl
              dsimp only [tNext, tRet, tCB, tCons, tNil]
              have at1 : ∀ (i : Nat) (x y : V), (roles.map V.str)[i]? = some x → us[i]? = some y → ∃ r t, roles[i]? = some r ∧ ts[i]? = some t ∧ x = .str r ∧ Tw H y t := fun i x y hx hy => by
                obtain ⟨t, ht, wt⟩ := hus.get hy
                rw [List.getElem?_map] at hx
                cases hr : roles[i]? with
                | none => rw [hr] at hx; cases hx
                | some r =>
                  rw [hr] at hx
                  exact ⟨r, t, rfl, ht, (Option.some.inj hx).symm, wt⟩
              refine lcm_zip (a := p) (xs := roles.map V.str) (ys := us) (rs := (roles.zip ts).map fun p => .bl (itemFits p.1 p.2 ws es)) (fun R h => ?_) (sp _) (by rw [lr, ← d]; exact hus.len.symm) (fun x y => rfl) (by rw [lr]; exact Nat.le_trans hr4 (by decide)) (by rw [List.length_map, List.length_zip, lr, d, Nat.min_self]) (fun i x y r H' Q' hx hy hr sm k => ?_) fun p1 H1 sm hp1 => ?_
              · refine ⟨_, rfl, _, rfl, 1, rfl, a, _, rfl, SqT.of ha, cut_whole (n := 1) (by decide) (by simp), fun b hb => ?_⟩
                refine h b _ (same_new hb _) (SqT.of ?_)
                rw [upd_same, show cutV (V.str k :: us) (some 1) none = (V.str k :: us).drop 1 from cut_from _ 1]
                rfl
              · obtain ⟨ro, t, h1, h2, rfl, wt⟩ := at1 i x y hx hy
                rw [List.getElem?_map, List.getElem?_zip_eq_some.mpr (show roles[i]? = some (ro, t).1 ∧ ts[i]? = some (ro, t).2 from ⟨h1, h2⟩)] at hr
                cases hr
                exact ⟨_, rfl, _, rfl, _, rfl, _, rfl, ro, y, t, pw, pe, ws, es, rfl, wt.gr (Gr.of sm), sm _ _ hw, sm _ _ he, hz, fun H'' s2 => k H'' s2⟩
              · exact ⟨p1, _, rfl, SqL.of (by rw [hp1, List.map_map]; rfl), fin2 _ rfl H1 sm⟩
end
end CA
namespace CA
open PySem L2
def slotRoles : List Str := ["slot", "from", "cell"]
def listRoles : List Str := ["list", "list or none"]
def itemsTx : Tr → List Str
  | .tup us => us.map txOf'
  | _ => []
def pairSlots (r : Str) (t : Tr) : List Str := (if r ∈ slotRoles then [txOf' t] else []) ++ (if r ∈ listRoles then itemsTx t else [])
def rowSlots (k : Str) (ts : List Tr) : List Str := match formOf k with
  | none => []
  | some roles => ((roles.zip ts).map fun p => pairSlots p.1 p.2).flatten
def spSlots : Sp := fun vs H Q _ => ∃ v k ts ws es, vs = [v] ∧ Tw H v (.tup (tx k :: ts)) ∧ rowFits (.tup (tx k :: ts)) ws es = true ∧ ∀ p H', Same H H' → H p = none → H' p = some (.lst ((rowSlots k ts).map V.str)) → Q (.ref p) H'
/-- what an item that fits gives: names -/
theorem fits_slot {r : Str} {t : Tr} {ws es : List Str} (h : itemFits r t ws es = true) (hr : r ∈ slotRoles) : trName t = true := by
  have e : r = "slot" ∨ r = "from" ∨ r = "cell" := by simpa [slotRoles] using hr
  unfold itemFits at h
  rcases e with rfl | rfl | rfl
  all_goals
    rw [if_neg (by decide), if_neg (by decide), if_neg (by decide), if_neg (by decide), if_neg (by decide), if_neg (by decide)] at h
    exact h
theorem names_list {t : Tr} (h : trNames t 0 4 = true) : ∃ us, t = .tup us ∧ us.length ≤ 4 ∧ us = (us.map txOf').map tx := by
  cases t with
  | «at» v => cases h
  | tup us =>
    have h : (_ && _ && _ && _) = true := h
    simp only [Bool.and_eq_true, decide_eq_true_eq] at h
    exact ⟨us, rfl, by omega, names_txs h.1.2⟩
theorem fits_list {r : Str} {t : Tr} {ws es : List Str} (h : itemFits r t ws es = true) (hr : r ∈ listRoles) : isNon t = true ∨ ∃ us, t = .tup us ∧ us.length ≤ 4 ∧ us = (us.map txOf').map tx := by
  have e : r = "list" ∨ r = "list or none" := by simpa [listRoles] using hr
  unfold itemFits at h
  rcases e with rfl | rfl
  · rw [if_neg (by decide), if_neg (by decide), if_neg (by decide), if_pos rfl] at h
    exact .inr (names_list h)
  · rw [if_neg (by decide), if_neg (by decide), if_neg (by decide), if_neg (by decide), if_pos rfl] at h
    cases hn : isNon t with
    | true => exact .inl rfl
    | false =>
      rw [hn] at h
      exact .inr (names_list h)
theorem rowFits_parts {k : Str} {ts : List Tr} {ws es : List Str} (h : rowFits (.tup (tx k :: ts)) ws es = true) : ∃ roles, formOf k = some roles ∧ ts.length = roles.length ∧ ∀ (i : Nat) (r : Str) (t : Tr), roles[i]? = some r → ts[i]? = some t → itemFits r t ws es = true := by
  have h : (match formOf k with
    | none => false
    | some roles => decide (ts.length = roles.length) && ((roles.zip ts).map fun p => itemFits p.1 p.2 ws es).all id) = true := h
  cases hf : formOf k with
  | none => rw [hf] at h; cases h
  | some roles =>
    rw [hf] at h
    have h : (_ && _) = true := h
    rw [Bool.and_eq_true] at h
    refine ⟨roles, rfl, of_decide_eq_true h.1, fun i r t hr ht => ?_⟩
    have z := List.all_eq_true.mp h.2 (itemFits r t ws es) (List.mem_map.mpr ⟨(r, t), List.mem_of_getElem? (i := i) (List.getElem?_zip_eq_some.mpr ⟨hr, ht⟩), rfl⟩)
    exact z
theorem row_of {H : Hp} {v : V} {k : Str} {ts : List Tr} (w : Tw H v (.tup (tx k :: ts))) : ∃ a us, v = .ref a ∧ H a = some (.tup (.str k :: us)) ∧ TwL H us ts ∧ ts.length ≤ 999 ∧ Nt H (.str k) := by
  cases w with
  | @tup a vs _ ha hl hb =>
    cases hl with
    | @cons u us _ _ wu hus =>
      cases wu with
      | «at» n => exact ⟨a, us, rfl, ha, hus, by simpa using hb, n⟩
theorem roles_disj {r : Str} (h1 : r ∈ slotRoles) (h2 : r ∈ listRoles) : False := by
  have q : ∀ x ∈ slotRoles, x ∉ listRoles := by decide
  exact q r h1 h2
def accS (ps : List (Str × Tr)) : List Str := (ps.map fun p => pairSlots p.1 p.2).flatten
theorem accS_take (ps : List (Str × Tr)) (i : Nat) (p : Str × Tr) (h : ps[i]? = some p) : accS (ps.take (i + 1)) = accS (ps.take i) ++ pairSlots p.1 p.2 := by
  unfold accS
  rw [List.take_add_one, h]
  simp
section
variable {P : Program} {w : World} {K : PySem.W.Frag} {mg : Str → Option Value} {base : Heap} {aF aR : Addr} {esF esR : Array DictEntry} {nF nR : Nat}
abbrev s_slots_in : Stmt := topS 25
theorem sc_slots_in : FnScope ["row", "found", "role", "item"] ["row"] (defScope s_slots_in) := ⟨rfl, rfl, rfl, by decide +kernel, rfl, by decide +kernel, by decide +kernel⟩
theorem ok_slots_in {f : Addr} {fd : FuncData} (F : Fun K "slots_in" "slots_in" s_slots_in f fd) (B : Blt mg) (T : TxtR K w mg aF aR esF esR nF nR) : FnOk P w K mg base CX0 1 f fd ["row"] spSlots := by
  refine F.ok sc_slots_in (fun vs H Q E h => ?_) (fun cdv A outer s H vs Q E hr h => ?_)
  · obtain ⟨v, k, ts, ws, es, rfl, _⟩ := h
    rfl
  obtain ⟨v, k, ts, ws, es, rfl, wt, hfit, q⟩ := h
  refine ⟨_, (pss_cons (ps_set (i := 1) sc_slots_in.nd rfl (Or.inl rfl) (pe_lst pa_nil))
  (pss_cons (ps_for PassesOwn.never rfl (RZ.pi_zipA (by rfl) B.zip (pa_cons (pe_ix ix_kdict (pe_gr T.FORMS) (pe_ix ix_tup (pv 0) pe_int (fun _ _ => rfl)) (fun _ _ => rfl)) (pa_cons (pe_slice sl_tup (pv 0) (po_some pe_int) po_none) pa_nil))) (pg_tup rfl (pgs_cons (pg_name (i := 2) sc_slots_in.nd rfl (Or.inl rfl)) (pgs_cons (pg_name (i := 3) sc_slots_in.nd rfl (Or.inl rfl)) pgs_nil)))
    (pss_cons (ps_if (pt_cmpR (op_inT (units2 hr)) (pv 2) (pe_tup (pa_cons pe_str (pa_cons pe_str (pa_cons pe_str pa_nil)))) (by rfl))
        (pss_one (ps_expr (pe_bm PySem.F.plainAttrs_list PySem.F.slot_list_append PySem.F.type_list_append mt_append (pv 1) (pa_cons (pv 3) pa_nil))))
        pss_nil)
      (pss_one (ps_if (PW.pt (pw_and (pt_cmpR (op_inT (units2 hr)) (pv 2) (pe_tup (pa_cons pe_str (pa_cons pe_str pa_nil))) (by rfl)) (pw_and1 (pt_cmpR op_notN (pv 3) pe_non (nomark _)))))
        (pss_one (ps_expr (pe_bm PySem.F.plainAttrs_list PySem.F.slot_list_extend PySem.F.type_list_extend mt_extendT (pv 1) (pa_cons (pv 3) pa_nil))))
        pss_nil))))
  (pss_one (ps_ret (pv 1))))), ?_⟩
  obtain ⟨a, us, rfl, ha, hus, hb, n⟩ := row_of wt
  obtain ⟨roles, hf, d, fits⟩ := rowFits_parts hfit
  obtain ⟨pf, hpf, sp⟩ := T.yesF k roles hf
  have hr4 := formOf_len hf
  have at0 : atI (V.str k :: us) 0 = some (.str k) := at_of (j := 0) rfl rfl
  refine ⟨by decide, fun p hp => ?_⟩
  have s1 := same_new hp (.lst [])
  refine ⟨_, rfl, a, _, 0, _, rfl, rfl, SqT.of (s1 _ _ ha), at0, aF, k, .ref pf, rfl, rfl, ⟨esF, nF, _, T.DF.at_, T.DF.lit, hpf, rfl⟩, _, rfl, 1, rfl, a, _, rfl, SqT.of (s1 _ _ ha), cut_whole (n := 1) (by decide) (by simp), fun b hb1 => ?_⟩
  have s2 := same_new hb1 (.tup us)
  have nbp : b ≠ p := fun q => by rw [q, upd_same] at hb1; cases hb1
  have ec : cutV (V.str k :: us) (some 1) none = us := cut_from _ 1
  rw [ec]
  refine ⟨pf, b, roles.map V.str, us, rfl, .inr ⟨sp _, SqT.of upd_same, ?_⟩⟩
  have lz : (roles.zip ts).length = roles.length := by rw [List.length_zip, d, Nat.min_self]
  have small : ∀ (i : Nat) (r : Str) (t : Tr), roles[i]? = some r → ts[i]? = some t → (pairSlots r t).length ≤ 5 := fun i r t h1 h2 => by
    unfold pairSlots
    rw [List.length_append]
    have l1 : (if r ∈ slotRoles then [txOf' t] else []).length ≤ 1 := by split <;> simp
    have l2 : (if r ∈ listRoles then itemsTx t else []).length ≤ 4 := by
      split
      · rename_i hr
        rcases fits_list (fits i r t h1 h2) hr with h | ⟨vs, rfl, hl, _⟩
        · cases t with
          | tup _ => cases h
          | «at» v => simp [itemsTx]
        · show (vs.map txOf').length ≤ 4
          rw [List.length_map]
          exact hl
      · simp
    omega
  refine RZ.for_zipT (K := K) (a := pf) (b := b) (xs := roles.map V.str) (ys := us) (by rw [List.length_map, ← d]; exact hus.len.symm)
    (fun i σ H' => ∃ x y, σ = [some (.ref a), some (.ref p), x, y] ∧ Same H H' ∧ H' b = some (.tup us) ∧ H' p = some (.lst ((accS ((roles.zip ts).take i)).map V.str)) ∧ (accS ((roles.zip ts).take i)).length ≤ 5 * i)
    ⟨none, none, rfl, fun c o e => s2 _ _ (s1 _ _ e), upd_same, by rw [List.take_zero]; exact s2 _ _ upd_same, by simp [accS]⟩ (fun i σ H' ⟨_, _, _, _, h3, _⟩ => ⟨sp _, SqT.of h3⟩) (fun i x y TT σ H' hx hy pv hT => ?_) (fun σ H' pv => ?_)
  · obtain ⟨x0, y0, rfl, sm, hb', hp', hlen⟩ := pv
    obtain ⟨t, ht, wy⟩ := hus.get hy
    obtain ⟨r, hr, rfl⟩ : ∃ r, roles[i]? = some r ∧ x = .str r := by
      rw [List.getElem?_map] at hx
      cases h : roles[i]? with
      | none => rw [h] at hx; cases hx
      | some r => rw [h] at hx; exact ⟨r, rfl, (Option.some.inj hx).symm⟩
    have hzip : (roles.zip ts)[i]? = some (r, t) := List.getElem?_zip_eq_some.mpr ⟨hr, ht⟩
    have hacc : accS ((roles.zip ts).take (i + 1)) = accS ((roles.zip ts).take i) ++ pairSlots r t := accS_take (roles.zip ts) i (r, t) hzip
    have hsm := small i r t hr ht
    have hfi := fits i r t hr ht
    have hi4 : i < 4 := by
      have := (List.getElem?_eq_some_iff.mp hr).1
      omega
    have sT := same_new hT (.tup [V.str r, y])
    -- the end of a turn
    have fin : ∀ H'', Same H H'' → H'' b = some (.tup us) → H'' p = some (.lst ((accS ((roles.zip ts).take i) ++ pairSlots r t).map V.str)) →
        (∃ x y_1, [some (V.ref a), some (V.ref p), some (V.str r), some y] = [some (V.ref a), some (V.ref p), x, y_1] ∧ Same H H'' ∧ H'' b = some (.tup us) ∧ H'' p = some (.lst ((accS ((roles.zip ts).take (i + 1))).map V.str)) ∧ (accS ((roles.zip ts).take (i + 1))).length ≤ 5 * (i + 1)) := fun H'' e1 e2 e3 =>
      ⟨_, _, rfl, e1, e2, by rw [hacc]; exact e3, by rw [hacc, List.length_append]; omega⟩
    refine ⟨TT, [.str r, y], rfl, SqT.of upd_same, rfl, _, _, rfl, _, _, rfl, rfl, ?_⟩
    refine ⟨_, rfl, by decide, fun p1 hp1 => ⟨p1, slotRoles, rfl, .inr (SqT.of upd_same), .flat rfl, _, rfl, ?_⟩⟩
    rw [inT_str]
    have s3 := same_new hp1 (.tup (slotRoles.map V.str))
    cases hsl : decide (r ∈ slotRoles) with
    | false =>
      refine iteF ?_
      have A1 : Same H (upd (upd H' TT (.tup [V.str r, y])) p1 (.tup (slotRoles.map V.str))) := fun c o e => s3 _ _ (sT _ _ (sm _ _ e))
      have A2 := s3 _ _ (sT _ _ hb')
      have A3 : (upd (upd H' TT (.tup [V.str r, y])) p1 (.tup (slotRoles.map V.str))) p = some (.lst ((accS ((roles.zip ts).take i) ++ []).map V.str)) := by rw [List.append_nil]; exact s3 _ _ (sT _ _ hp')
      have FC : (if r ∈ slotRoles then [txOf' t] else []) = [] := if_neg (of_decide_eq_false hsl)
      -- the second test: H2 the heap, L what is gathered
      refine ⟨_, rfl, by decide, fun p2 hp2 => ⟨p2, listRoles, rfl, .inr (SqT.of upd_same), .flat rfl, _, rfl, ?_⟩⟩
      rw [inT_str]
      have s4 := same_new hp2 (.tup (listRoles.map V.str))
      cases hl : decide (r ∈ listRoles) with
      | false =>
        refine iteF (iteF (fin _ (fun c o e => s4 _ _ (A1 _ _ e)) (s4 _ _ A2) ?_))
        have e : pairSlots r t = [] := by unfold pairSlots; rw [if_neg (of_decide_eq_false hl), if_neg (of_decide_eq_false hsl)]; simp
        rw [e]
        exact s4 _ _ A3
      | true =>
        refine iteT ⟨_, rfl, rfl, _, rfl, ?_⟩
        rcases fits_list hfi (of_decide_eq_true hl) with hn | ⟨vs, rfl, hvl, evs⟩
        · have hy : y = .non ∧ t = .at .non := by
            cases wy with
            | tup _ _ _ => cases hn
            | «at» m =>
              cases y with
              | non => exact ⟨rfl, rfl⟩
              | _ => cases hn
          obtain ⟨rfl, rfl⟩ := hy
          refine iteF (fin _ (fun c o e => s4 _ _ (A1 _ _ e)) (s4 _ _ A2) ?_)
          have e : pairSlots r (.at .non) = [] := by unfold pairSlots; rw [if_pos (of_decide_eq_true hl), if_neg (of_decide_eq_false hsl)]; simp [itemsTx]
          rw [e]
          exact s4 _ _ A3
        · cases wy with
          | @tup ay vy _ hay hly _ =>
            have evy : vy = (vs.map txOf').map V.str := TwL.to_txs (by rw [← evs]; exact hly)
            have e : pairSlots r (.tup vs) = [] ++ vs.map txOf' := by unfold pairSlots; rw [if_pos (of_decide_eq_true hl), if_neg (of_decide_eq_false hsl)]; rfl
            refine iteT ⟨_, rfl, .inl ⟨rfl, _, SqL.of (s4 _ _ A3)⟩, _, rfl, p, ay, _, vy, rfl, rfl, s4 _ _ A3, SqT.of (s4 _ _ (A1 _ _ hay)), ?_, ?_⟩
            · rw [List.length_map, evy, List.length_map, List.length_map]
              have : (accS ((roles.zip ts).take i) ++ []).length ≤ 21 := by rw [List.length_append]; simp; omega
              exact Nat.le_trans (Nat.add_le_add this hvl) (by decide)
            · refine fin _ (fun c o z => ?_) ?_ ?_
              · rw [upd_ne (fun q => by rw [q, hp] at z; cases z)]
                exact s4 _ _ (A1 _ _ z)
              · rw [upd_ne nbp]
                exact s4 _ _ A2
              · rw [upd_same, e, evy]
                simp
    | true =>
      have hnm := fits_slot hfi (of_decide_eq_true hsl)
      have ey : y = .str (txOf' t) := by
        cases wy with
        | tup _ _ _ => cases hnm
        | «at» m =>
          cases y with
          | str z => rfl
          | _ => cases hnm
      refine iteT ⟨_, rfl, .inl ⟨rfl, _, SqL.of (s3 _ _ (sT _ _ hp'))⟩, _, rfl, p, _, y, rfl, rfl, s3 _ _ (sT _ _ hp'), ?_, ?_⟩
      · rw [List.length_map]
        exact Nat.lt_of_le_of_lt (show _ ≤ 20 by omega) (by decide)
      have A1 : Same H (upd (upd (upd H' TT (.tup [V.str r, y])) p1 (.tup (slotRoles.map V.str))) p (.lst ((accS ((roles.zip ts).take i)).map V.str ++ [y]))) := fun c o e => by
        rw [upd_ne (fun q => by rw [q, hp] at e; cases e)]
        exact s3 _ _ (sT _ _ (sm _ _ e))
      have A2 : (upd (upd (upd H' TT (.tup [V.str r, y])) p1 (.tup (slotRoles.map V.str))) p (.lst ((accS ((roles.zip ts).take i)).map V.str ++ [y]))) b = some (.tup us) := by
        rw [upd_ne nbp]
        exact s3 _ _ (sT _ _ hb')
      have A3 : (upd (upd (upd H' TT (.tup [V.str r, y])) p1 (.tup (slotRoles.map V.str))) p (.lst ((accS ((roles.zip ts).take i)).map V.str ++ [y]))) p = some (.lst ((accS ((roles.zip ts).take i) ++ [txOf' t]).map V.str)) := by
        rw [upd_same, List.map_append, ey]
        rfl
      -- the second test: H2 the heap, L what is gathered
      refine ⟨_, rfl, by decide, fun p2 hp2 => ⟨p2, listRoles, rfl, .inr (SqT.of upd_same), .flat rfl, _, rfl, ?_⟩⟩
      rw [inT_str]
      have s4 := same_new hp2 (.tup (listRoles.map V.str))
      cases hl : decide (r ∈ listRoles) with
      | false =>
        refine iteF (iteF (fin _ (fun c o e => s4 _ _ (A1 _ _ e)) (s4 _ _ A2) ?_))
        have e : pairSlots r t = [txOf' t] := by unfold pairSlots; rw [if_neg (of_decide_eq_false hl), if_pos (of_decide_eq_true hsl)]; simp
        rw [e]
        exact s4 _ _ A3
      | true => exact (roles_disj (of_decide_eq_true hsl) (of_decide_eq_true hl)).elim
  · obtain ⟨x0, y0, rfl, sm, hb', hp', hlen⟩ := pv
    rw [List.length_map, ← lz, List.take_length] at hp'
    refine ⟨_, rfl, q p _ sm hp ?_⟩
    rw [hp']
    have e : rowSlots k ts = accS (roles.zip ts) := by
      unfold rowSlots
      rw [hf]
      rfl
    rw [e]
end
end CA
namespace CA
open PySem L2
def kOf : Tr → Str
  | .tup (.at (.str k) :: _) => k
  | _ => ""
def itemsOf : Tr → List Tr
  | .tup ts => ts
  | _ => []
def inn (t : Tr) : List Tr := innerT (kOf t) (itemsOf t)
def intT (i : Int) : Tr := .at (.int i)
/-- what a row gives to the list of the rows -/
def rowOut (rec : List Tr → List Int → List (List Int × Tr)) (path : List Int) (thr : List Str) (i : Nat) (t : Tr) : List (List Int × Tr) :=
  (path ++ [(i : Int)], t) :: (if kOf t ∈ thr then ((inn t).mapIdx fun n x => rec (itemsOf x) (path ++ [(i : Int)] ++ [(n : Int)])).flatten else [])
/-- the rows with their paths, down to the depth d -/
def rowsW (thr : List Str) : Nat → List Tr → List Int → List (List Int × Tr)
  | 0, _, _ => []
  | d + 1, ts, path => (ts.mapIdx (rowOut (rowsW thr d) path thr)).flatten
/-- rows of a depth -/
def Shp : Nat → List Tr → Prop
  | 0, _ => False
  | d + 1, ts => ∀ t ∈ ts, ∃ k us, t = .tup (tx k :: us) ∧ ∀ x ∈ innerT k (tx k :: us), ∃ xs, x = .tup xs ∧ Shp d xs
def pairT (q : List Int × Tr) : Tr := .tup [.tup (q.1.map intT), q.2]
theorem flat_take {α β : Type} (f : Nat → α → List β) (ts : List α) (i : Nat) (t : α) (h : ts[i]? = some t) : ((ts.mapIdx f).take (i + 1)).flatten = ((ts.mapIdx f).take i).flatten ++ f i t := by
  rw [List.take_add_one, List.getElem?_mapIdx, h]
  simp
theorem flat_le {α : Type} (ls : List (List α)) (i : Nat) : ((ls.take i).flatten).length ≤ ls.flatten.length := by
  have e : ls.flatten = (ls.take i).flatten ++ (ls.drop i).flatten := by rw [← List.flatten_append, List.take_append_drop]
  rw [e, List.length_append]
  omega
theorem TwL.ints {H : Hp} : ∀ is : List Int, TwL H (is.map V.int) (is.map intT)
  | [] => .nil
  | _ :: r => .cons (.at (.flat rfl trivial)) (TwL.ints r)
def spRows (K : PySem.W.Frag) (d : Nat) : Sp := fun vs H Q _ => ∃ rv pa th ts path thr, vs = [rv, .ref pa, .ref th] ∧ Tw H rv (.tup ts) ∧ Shp d ts ∧ H pa = some (.tup (path.map V.int)) ∧ SqT K H th (thr.map V.str) ∧ path.length + 2 * d ≤ 100 ∧ (rowsW thr d ts path).length ≤ 1000 ∧
  ∀ p H' ws, Same H H' → H p = none → H' p = some (.lst ws) → TwL H' ws ((rowsW thr d ts path).map pairT) → Q (.ref p) H'
section
variable {P : Program} {w : World} {K : PySem.W.Frag} {mg : Str → Option Value} {base : Heap} {fi fs : Addr}
structure TxtW (K : PySem.W.Frag) (mg : Str → Option Value) (fi fs : Addr) : Prop where
  g_inner_rows : mg "inner_rows" = some (.ref fi)
  k_inner_rows : PySem.W.keepIn K (.ref fi) = true
  g_rows_within : mg "rows_within" = some (.ref fs)
  k_rows_within : PySem.W.keepIn K (.ref fs) = true
/-- the tuple path + (i,) -/
theorem cat1 {K : PySem.W.Frag} {H : Hp} {Q : VK} {pa b : Addr} {path : List Int} {i : Int} (h1 : H pa = some (.tup (path.map V.int))) (h2 : H b = some (.tup [.int i])) (hl : path.length ≤ 200)
    (q : ∀ p H', Same H H' → H' p = some (.tup ((path ++ [i]).map V.int)) → Q (.ref p) H') : rCatA K (.ref pa) (.ref b) H Q := by
  refine ⟨pa, b, _, _, rfl, rfl, SqT.of h1, SqT.of h2, ?_, fun e => ?_, fun _ e => (by cases e), fun _ _ p hp => ?_⟩
  · rw [List.length_map]
    show path.length + 1 ≤ sizeLine
    exact Nat.le_trans (Nat.add_le_add_right hl 1) (by decide)
  · have e' : path = [] := List.map_eq_nil_iff.mp e
    subst e'
    exact q b H (fun _ _ e => e) h2
  · exact q p _ (same_new hp _) (by rw [upd_same, List.map_append]; rfl)
theorem gr_list {H : Hp} {p : Addr} {ws us : List V} (h : H p = some (.lst ws)) : Gr H (upd H p (.lst us)) := Gr.keep Keep.upd ⟨_, h⟩ ⟨_, upd_same⟩
theorem same_upd {H H' : Hp} {p : Addr} {o : HO} (h : H p = none) (s : Same H H') : Same H (upd H' p o) := fun c u e => by rw [upd_ne (fun q => by rw [q, h] at e; cases e)]; exact s _ _ e
theorem shp_at {d : Nat} {ts : List Tr} {t : Tr} {i : Nat} (h : Shp (d + 1) ts) (ht : ts[i]? = some t) : ∃ k us, t = .tup (tx k :: us) ∧ ∀ x ∈ innerT k (tx k :: us), ∃ xs, x = .tup xs ∧ Shp d xs := h t (List.mem_of_getElem? ht)
abbrev s_rows_within : Stmt := topS 30
theorem sc_rows_within : FnScope ["rows", "path", "through", "found", "place", "row", "at", "number", "inner"] ["rows", "path", "through"] (defScope s_rows_within) := ⟨rfl, rfl, rfl, by decide +kernel, rfl, by decide +kernel, by decide +kernel⟩
theorem ok_rows_within_step {fd fdi : FuncData} {d k : Nat} (hk : 1 ≤ k) (F : Fun K "rows_within" "rows_within" s_rows_within fs fd) (B : Blt mg) (T : TxtW K mg fi fs) (Ginner_rows : FnOk P w K mg base CX0 1 fi fdi ["row"] spInner) (binner_rows : Binds K fdi ["row"] [])
    (Grows_within : FnOk P w K mg base CX0 k fs fd ["rows", "path", "through"] (spRows K d)) (brows_within : Binds K fd ["rows", "path", "through"] []) : FnOk P w K mg base CX0 (k + 1) fs fd ["rows", "path", "through"] (spRows K (d + 1)) := by
  refine F.ok sc_rows_within (fun vs H Q E h => ?_) (fun cdv A outer s H vs Q E hr h => ?_)
  · obtain ⟨rv, pa, th, ts, path, thr, rfl, _⟩ := h
    rfl
  obtain ⟨rv, pa, th, ts, path, thr, rfl, wt, hsh, hpa, hth, hpl, hlen, q⟩ := h
  have hr1 : Room 1 _ := hr.mono hk
  refine ⟨_, (pss_cons (ps_set (i := 3) sc_rows_within.nd rfl (Or.inl rfl) (pe_lst pa_nil))
  (pss_cons (ps_for PassesOwn.never rfl (pi_enumT B.enumerate (pa_cons (pv 0) pa_nil)) (pg_tup rfl (pgs_cons (pg_name (i := 4) sc_rows_within.nd rfl (Or.inl rfl)) (pgs_cons (pg_name (i := 5) sc_rows_within.nd rfl (Or.inl rfl)) pgs_nil)))
    (pss_cons (ps_set (i := 6) sc_rows_within.nd rfl (Or.inl rfl) (pe_op op_catA (pv 1) (pe_tup (pa_cons (pv 4) pa_nil))))
      (pss_cons (ps_expr (pe_bm PySem.F.plainAttrs_list PySem.F.slot_list_append PySem.F.type_list_append mt_append (pv 3) (pa_cons (pe_tup (pa_cons (pv 6) (pa_cons (pv 5) pa_nil))) pa_nil)))
      (pss_one (ps_if (pt_cmpR (op_inT (units2 hr)) (pe_ix ix_tup (pv 5) pe_int (fun _ _ => rfl)) (pv 2) (by rfl))
        (pss_one (ps_for PassesOwn.never rfl (pi_enumT B.enumerate (pa_cons (pe_call Ginner_rows hr1 rfl T.g_inner_rows T.k_inner_rows binner_rows .nil pass0 (pa_cons (pv 5) pa_nil)) pa_nil)) (pg_tup rfl (pgs_cons (pg_name (i := 7) sc_rows_within.nd rfl (Or.inl rfl)) (pgs_cons (pg_name (i := 8) sc_rows_within.nd rfl (Or.inl rfl)) pgs_nil)))
            (pss_one (ps_expr (pe_bm PySem.F.plainAttrs_list PySem.F.slot_list_extend PySem.F.type_list_extend mt_extend (pv 3) (pa_cons (pe_call Grows_within hr rfl T.g_rows_within T.k_rows_within brows_within .nil pass0 (pa_cons (pv 8) (pa_cons (pe_op op_catA (pv 6) (pe_tup (pa_cons (pv 7) pa_nil))) (pa_cons (pv 2) pa_nil)))) pa_nil))))))
        pss_nil)))))
  (pss_one (ps_ret (pv 3))))), ?_⟩
  cases wt with
  | @tup a vs _ ha hl hb =>
  have ln := hl.len
  -- what one row gives
  have eW : rowsW thr (d + 1) ts path = (ts.mapIdx (rowOut (rowsW thr d) path thr)).flatten := rfl
  rw [eW] at q hlen
  refine ⟨by decide, fun p hp => ?_⟩
  have s1 := same_new hp (.lst [])
  refine ⟨_, rfl, a, vs, rfl, SqT.of (s1 _ _ ha), for_enumT (K := K) (a := a) (xs := vs)
    (fun i σ H' => ∃ x4 x5 x6 x7 x8 ws, σ = [some (.ref a), some (.ref pa), some (.ref th), some (.ref p), x4, x5, x6, x7, x8] ∧ Same H H' ∧ H' p = some (.lst ws) ∧ TwL H' ws ((((ts.mapIdx (rowOut (rowsW thr d) path thr)).take i).flatten).map pairT))
    ⟨none, none, none, none, none, [], rfl, s1, upd_same, by rw [List.take_zero]; exact .nil⟩ (fun i σ H' _ ⟨_, _, _, _, _, _, _, sm, _⟩ => SqT.of (sm _ _ ha)) (fun i x σ H' TT hx pv hT => ?_) (fun σ H' pv => ?_)⟩
  · obtain ⟨x4, x5, x6, x7, x8, ws, rfl, sm, hp', hws⟩ := pv
    obtain ⟨t, ht, wx⟩ := hl.get hx
    obtain ⟨k', us, rfl, hin⟩ := shp_at hsh ht
    have eacc := flat_take (rowOut (rowsW thr d) path thr) ts i _ ht
    have lacc : ((((ts.mapIdx (rowOut (rowsW thr d) path thr)).take i).flatten) ++ rowOut (rowsW thr d) path thr i (.tup (tx k' :: us))).length ≤ 1000 := by
      rw [← eacc]
      exact Nat.le_trans (flat_le _ _) hlen
    generalize hA : ((ts.mapIdx (rowOut (rowsW thr d) path thr)).take i).flatten = A at hws eacc lacc
    obtain ⟨ax, ux, rfl, hax, hux, hbx, nx⟩ := row_of wx
    have sT := same_new hT (.tup [V.int (i : Nat), .ref ax])
    refine ⟨TT, [.int (i : Nat), .ref ax], rfl, SqT.of upd_same, rfl, _, _, rfl, _, _, rfl, rfl, ?_⟩
    -- at = path + (place,)
    refine ⟨_, rfl, _, rfl, (show 1 ≤ sizeLine by decide), fun b1 hb1 => ?_⟩
    have s2 := same_new hb1 (.tup [V.int (i : Nat)])
    have S2 : Same H (upd (upd H' TT (.tup [V.int (i : Nat), .ref ax])) b1 (.tup [V.int (i : Nat)])) := fun c o e => s2 _ _ (sT _ _ (sm _ _ e))
    refine cat1 (path := path) (S2 _ _ hpa) upd_same (by omega) fun pq H3 s3 hpq => ?_
    have S3 : Same H H3 := fun c o e => s3 _ _ (S2 _ _ e)
    have hp3 : H3 p = some (.lst ws) := s3 _ _ (s2 _ _ (sT _ _ hp'))
    have hws3 : TwL H3 ws (A.map pairT) := TwL.gr ((Gr.of sT).trans ((Gr.of s2).trans (Gr.of s3))) _ _ hws
    have lws : ws.length = A.length := by rw [hws.len, List.length_map]
    have lA : A.length ≤ 1000 := by rw [List.length_append] at lacc; omega
    -- found.append((at, row))
    refine ⟨_, rfl, .inl ⟨rfl, _, SqL.of hp3⟩, _, rfl, _, rfl, (show 2 ≤ sizeLine by decide), fun b2 hb2 => ?_⟩
    have s4 := same_new hb2 (.tup [V.ref pq, .ref ax])
    refine ⟨p, ws, .ref b2, rfl, rfl, s4 _ _ hp3, Nat.lt_of_le_of_lt (show _ ≤ 1000 by omega) (by decide), ?_⟩
    generalize hH4 : upd H3 b2 (.tup [V.ref pq, .ref ax]) = H4 at s4
    have hb4 : H4 b2 = some (.tup [V.ref pq, .ref ax]) := by rw [← hH4]; exact upd_same
    have hp4 : H4 p = some (.lst ws) := s4 _ _ hp3
    have g5 := gr_list (us := ws ++ [V.ref b2]) hp4
    generalize hH5 : upd H4 p (.lst (ws ++ [V.ref b2])) = H5 at g5
    have hp5 : H5 p = some (.lst (ws ++ [V.ref b2])) := by rw [← hH5]; exact upd_same
    have S5 : Same H H5 := by rw [← hH5]; exact same_upd hp fun c o e => s4 _ _ (S3 _ _ e)
    have hpq5 : H5 pq = some (.tup ((path ++ [(i : Int)]).map V.int)) := g5.tup _ _ (s4 _ _ hpq)
    have hws5 : TwL H5 (ws ++ [V.ref b2]) ((A ++ [(path ++ [(i : Int)], Tr.tup (tx k' :: us))]).map pairT) := by
      rw [List.map_append]
      refine TwL.app (TwL.gr ((Gr.of s4).trans g5) _ _ hws3) (TwL.cons (Tw.tup (g5.tup _ _ hb4) (TwL.cons (Tw.tup hpq5 (TwL.ints _) ?_) (TwL.cons (Tw.gr (Gr.of S5) _ _ wx) TwL.nil)) (show 2 ≤ 1000 by decide)) TwL.nil)
      rw [List.length_map, List.length_append]
      simp
      omega
    -- if row[0] in through
    have at0 : atI (V.str k' :: ux) 0 = some (.str k') := at_of (j := 0) rfl rfl
    refine ⟨_, rfl, ax, _, 0, _, rfl, rfl, SqT.of (S5 _ _ hax), at0, _, rfl, th, thr, rfl, .inr (sqT_same hth S5), .flat rfl, _, rfl, ?_⟩
    rw [inT_str]
    have eout : rowOut (rowsW thr d) path thr i (.tup (tx k' :: us)) = (path ++ [(i : Int)], .tup (tx k' :: us)) :: (if k' ∈ thr then ((innerT k' (tx k' :: us)).mapIdx fun n x => rowsW thr d (itemsOf x) (path ++ [(i : Int)] ++ [(n : Int)])).flatten else []) := rfl
    cases hk' : decide (k' ∈ thr) with
    | false =>
      refine iteF ⟨_, _, _, _, _, _, rfl, S5, hp5, ?_⟩
      rw [eacc, eout, if_neg (of_decide_eq_false hk')]
      exact hws5
    | true =>
      rw [if_pos (of_decide_eq_true hk')] at eout
      rw [eout] at eacc lacc
      refine iteT ⟨_, rfl, .ref ax, k', us, rfl, Tw.gr (Gr.of S5) _ _ wx, fun v6 H6 s6 w6 => ?_⟩
      cases w6 with
      | @tup a6 v6s _ ha6 hl6 hb6 =>
      have S6 : Same H H6 := fun c o e => s6 _ _ (S5 _ _ e)
      have ln6 := hl6.len
      have hnp6 : ∀ {c : Addr} {xs : List V}, H6 c = some (.tup xs) → c ≠ p := fun h e => by rw [e, s6 _ _ hp5] at h; cases h
      have tot := flat_le ((innerT k' (tx k' :: us)).mapIdx fun n x => rowsW thr d (itemsOf x) (path ++ [(i : Int)] ++ [(n : Int)]))
      refine ⟨a6, v6s, rfl, SqT.of ha6, for_enumT (K := K) (a := a6) (xs := v6s)
        (fun n σ H' => ∃ x7 x8 ws, σ = [some (.ref a), some (.ref pa), some (.ref th), some (.ref p), some (.int (i : Nat)), some (.ref ax), some (.ref pq), x7, x8] ∧ Same H H' ∧ Gr H6 H' ∧ H' p = some (.lst ws) ∧
          TwL H' ws ((A ++ (path ++ [(i : Int)], Tr.tup (tx k' :: us)) :: (((innerT k' (tx k' :: us)).mapIdx fun n x => rowsW thr d (itemsOf x) (path ++ [(i : Int)] ++ [(n : Int)])).take n).flatten).map pairT))
        ⟨x7, x8, _, rfl, S6, Gr.refl _, s6 _ _ hp5, by rw [List.take_zero]; exact TwL.gr (Gr.of s6) _ _ hws5⟩ (fun n σ H' _ ⟨_, _, _, _, _, g, _⟩ => SqT.of (g.tup _ _ ha6)) (fun n y σ H7 T7 hy pv hT7 => ?_) (fun σ H' pv => ?_)⟩
      · obtain ⟨y7, y8, ws7, rfl, S7, g7, hp7, hws7⟩ := pv
        obtain ⟨t7, ht7, wy⟩ := hl6.get hy
        obtain ⟨xs7, rfl, sh7⟩ := hin t7 (List.mem_of_getElem? ht7)
        have e7 := flat_take (fun n x => rowsW thr d (itemsOf x) (path ++ [(i : Int)] ++ [(n : Int)])) _ n _ ht7
        have l7 := tot (n + 1)
        rw [e7, List.length_append] at l7
        have l8 := tot n
        have lw7 := hws7.len
        rw [List.length_map, List.length_append, List.length_cons] at lw7
        rw [List.length_append, List.length_cons] at lacc
        have sT7 := same_new hT7 (.tup [V.int (n : Nat), y])
        refine ⟨T7, [.int (n : Nat), y], rfl, SqT.of upd_same, rfl, _, _, rfl, _, _, rfl, rfl, ?_⟩
        refine ⟨_, rfl, .inl ⟨rfl, _, SqL.of (sT7 _ _ hp7)⟩, _, rfl, _, rfl, _, rfl, (show 1 ≤ sizeLine by decide), fun b7 hb7 => ?_⟩
        have s8 := same_new hb7 (.tup [V.int (n : Nat)])
        have g8 : Gr H6 (upd (upd H7 T7 (.tup [V.int (n : Nat), y])) b7 (.tup [V.int (n : Nat)])) := g7.trans ((Gr.of sT7).trans (Gr.of s8))
        refine cat1 (path := path ++ [(i : Int)]) (g8.tup _ _ (s6 _ _ hpq5)) upd_same (by rw [List.length_append]; simp; omega) fun pq9 H9 s9 hpq9 => ?_
        have S9 : Same H H9 := fun c o e => s9 _ _ (s8 _ _ (sT7 _ _ (S7 _ _ e)))
        have g9 := g8.trans (Gr.of s9)
        have hp9 : H9 p = some (.lst ws7) := s9 _ _ (s8 _ _ (sT7 _ _ hp7))
        refine ⟨_, rfl, y, pq9, th, xs7, path ++ [(i : Int)] ++ [(n : Int)], thr, rfl, Tw.gr g9 _ _ wy, sh7, hpq9, sqT_same hth S9, ?_, ?_, fun p10 H10 ws10 s10 n10 e10 w10 => ?_⟩
        · rw [List.length_append, List.length_append]
          simp
          omega
        · show (rowsW thr d (itemsOf (.tup xs7)) _).length ≤ 1000
          omega
        · have hp10 := s10 _ _ hp9
          have lw10 : ws10.length = (rowsW thr d xs7 (path ++ [(i : Int)] ++ [(n : Int)])).length := by rw [w10.len, List.length_map]
          have lq : (rowsW thr d (itemsOf (.tup xs7)) (path ++ [(i : Int)] ++ [(n : Int)])).length = (rowsW thr d xs7 (path ++ [(i : Int)] ++ [(n : Int)])).length := rfl
          have g11 := gr_list (us := ws7 ++ ws10) hp10
          refine ⟨p, p10, ws7, ws10, rfl, rfl, hp10, e10, Nat.le_trans (show _ ≤ 2000 by omega) (by decide), ?_⟩
          refine ⟨_, _, ws7 ++ ws10, rfl, same_upd hp fun c o e => s10 _ _ (S9 _ _ e), (g9.trans (Gr.of s10)).trans g11, upd_same, ?_⟩
          rw [e7, ← List.cons_append, ← List.append_assoc, List.map_append]
          exact TwL.app (TwL.gr ((Gr.of sT7).trans ((Gr.of s8).trans ((Gr.of s9).trans ((Gr.of s10).trans g11)))) _ _ hws7) (TwL.gr g11 _ _ w10)
      · obtain ⟨y7, y8, ws7, rfl, S7, g7, hp7, hws7⟩ := pv
        rw [List.take_of_length_le (by rw [List.length_mapIdx, ln6]; exact Nat.le_refl _)] at hws7
        exact ⟨_, _, _, _, _, _, rfl, S7, hp7, by rw [eacc]; exact hws7⟩
  · obtain ⟨x4, x5, x6, x7, x8, ws, rfl, sm, hp', hws⟩ := pv
    have e : (ts.mapIdx (rowOut (rowsW thr d) path thr)).take vs.length = ts.mapIdx (rowOut (rowsW thr d) path thr) := List.take_of_length_le (by rw [List.length_mapIdx, ln]; exact Nat.le_refl _)
    rw [e] at hws
    exact ⟨_, rfl, q p _ ws sm hp hp' hws⟩
theorem ok_rows_within {fd fdi : FuncData} (F : Fun K "rows_within" "rows_within" s_rows_within fs fd) (B : Blt mg) (T : TxtW K mg fi fs) (Ginner_rows : FnOk P w K mg base CX0 1 fi fdi ["row"] spInner) (binner_rows : Binds K fdi ["row"] []) (brows_within : Binds K fd ["rows", "path", "through"] []) :
    ∀ d : Nat, FnOk P w K mg base CX0 (d + 1) fs fd ["rows", "path", "through"] (spRows K d)
  | 0 => by
    have no : ∀ vs H Q E, ¬ spRows K 0 vs H Q E := fun vs H Q E h => by
      obtain ⟨_, _, _, _, _, _, _, _, z, _⟩ := h
      exact z
    refine ⟨?_, ?_⟩
    · intro vs H Q E h
      exact (no _ _ _ _ h).elim
    · intros
      rename_i h
      exact (no _ _ _ _ h).elim
  | d + 1 => ok_rows_within_step (Nat.le_add_left 1 d) F B T Ginner_rows binner_rows (ok_rows_within F B T Ginner_rows binner_rows brows_within d) brows_within
end
end CA
namespace CA
open PySem L2
/-- what the n-th tuple of rows in a row gives to the list of the functions -/
def funOut1 (rec : List Tr → List Int → List (List Int × Tr)) (path : List Int) (i : Nat) (k : Str) (n : Nat) (x : Tr) : List (List Int × Tr) :=
  (if k = "if" then [] else [(path ++ [(i : Int), (n : Int)], x)]) ++ rec (itemsOf x) (path ++ [(i : Int), (n : Int)])
def funOut (rec : List Tr → List Int → List (List Int × Tr)) (path : List Int) (i : Nat) (t : Tr) : List (List Int × Tr) := ((inn t).mapIdx (funOut1 rec path i (kOf t))).flatten
def funsW : Nat → List Tr → List Int → List (List Int × Tr)
  | 0, _, _ => []
  | d + 1, ts, path => (ts.mapIdx (funOut (funsW d) path)).flatten
theorem app3 {α : Type} (a b c d : List α) : a ++ (b ++ (c ++ d)) = (a ++ (b ++ c)) ++ d := by simp
def spFuns (d : Nat) : Sp := fun vs H Q _ => ∃ rv pa ts path, vs = [rv, .ref pa] ∧ Tw H rv (.tup ts) ∧ Shp d ts ∧ H pa = some (.tup (path.map V.int)) ∧ path.length + 2 * d ≤ 100 ∧ (funsW d ts path).length ≤ 1000 ∧
  ∀ p H' ws, Same H H' → H p = none → H' p = some (.lst ws) → TwL H' ws ((funsW d ts path).map pairT) → Q (.ref p) H'
section
variable {P : Program} {w : World} {K : PySem.W.Frag} {mg : Str → Option Value} {base : Heap} {fi fs : Addr}
structure TxtU (K : PySem.W.Frag) (mg : Str → Option Value) (fi fs : Addr) : Prop where
  g_inner_rows : mg "inner_rows" = some (.ref fi)
  k_inner_rows : PySem.W.keepIn K (.ref fi) = true
  g_functions_within : mg "functions_within" = some (.ref fs)
  k_functions_within : PySem.W.keepIn K (.ref fs) = true
/-- the tuple path + (i, n) -/
theorem cat2 {K : PySem.W.Frag} {H : Hp} {Q : VK} {pa b : Addr} {path : List Int} {i n : Int} (h1 : H pa = some (.tup (path.map V.int))) (h2 : H b = some (.tup [.int i, .int n])) (hl : path.length ≤ 200)
    (q : ∀ p H', Same H H' → H' p = some (.tup ((path ++ [i, n]).map V.int)) → Q (.ref p) H') : rCatA K (.ref pa) (.ref b) H Q := by
  refine ⟨pa, b, _, _, rfl, rfl, SqT.of h1, SqT.of h2, ?_, fun e => ?_, fun _ e => (by cases e), fun _ _ p hp => ?_⟩
  · rw [List.length_map]
    show path.length + 2 ≤ sizeLine
    exact Nat.le_trans (Nat.add_le_add_right hl 2) (by decide)
  · have e' : path = [] := List.map_eq_nil_iff.mp e
    subst e'
    exact q b H (fun _ _ e => e) h2
  · exact q p _ (same_new hp _) (by rw [upd_same, List.map_append]; rfl)
abbrev s_functions_within : Stmt := topS 32
theorem sc_functions_within : FnScope ["rows", "path", "found", "place", "row", "number", "inner", "at"] ["rows", "path"] (defScope s_functions_within) := ⟨rfl, rfl, rfl, by decide +kernel, rfl, by decide +kernel, by decide +kernel⟩
theorem ok_functions_within_step {fd fdi : FuncData} {d k : Nat} (hk : 1 ≤ k) (F : Fun K "functions_within" "functions_within" s_functions_within fs fd) (B : Blt mg) (T : TxtU K mg fi fs) (Ginner_rows : FnOk P w K mg base CX0 1 fi fdi ["row"] spInner) (binner_rows : Binds K fdi ["row"] [])
    (Gfunctions_within : FnOk P w K mg base CX0 k fs fd ["rows", "path"] (spFuns d)) (bfunctions_within : Binds K fd ["rows", "path"] []) : FnOk P w K mg base CX0 (k + 1) fs fd ["rows", "path"] (spFuns (d + 1)) := by
  refine F.ok sc_functions_within (fun vs H Q E h => ?_) (fun cdv A outer s H vs Q E hr h => ?_)
  · obtain ⟨rv, pa, ts, path, rfl, _⟩ := h
    rfl
  obtain ⟨rv, pa, ts, path, rfl, wt, hsh, hpa, hpl, hlen, q⟩ := h
  have hr1 : Room 1 _ := hr.mono hk
  refine ⟨_, (pss_cons (ps_set (i := 2) sc_functions_within.nd rfl (Or.inl rfl) (pe_lst pa_nil))
  (pss_cons (ps_for PassesOwn.never rfl (pi_enumT B.enumerate (pa_cons (pv 0) pa_nil)) (pg_tup rfl (pgs_cons (pg_name (i := 3) sc_functions_within.nd rfl (Or.inl rfl)) (pgs_cons (pg_name (i := 4) sc_functions_within.nd rfl (Or.inl rfl)) pgs_nil)))
    (pss_one (ps_for PassesOwn.never rfl (pi_enumT B.enumerate (pa_cons (pe_call Ginner_rows hr1 rfl T.g_inner_rows T.k_inner_rows binner_rows .nil pass0 (pa_cons (pv 4) pa_nil)) pa_nil)) (pg_tup rfl (pgs_cons (pg_name (i := 5) sc_functions_within.nd rfl (Or.inl rfl)) (pgs_cons (pg_name (i := 6) sc_functions_within.nd rfl (Or.inl rfl)) pgs_nil)))
        (pss_cons (ps_set (i := 7) sc_functions_within.nd rfl (Or.inl rfl) (pe_op op_catA (pv 1) (pe_tup (pa_cons (pv 3) (pa_cons (pv 5) pa_nil)))))
          (pss_cons (ps_if (pt_cmpR op_ne (pe_ix ix_tup (pv 4) pe_int (fun _ _ => rfl)) pe_str (nomark _))
            (pss_one (ps_expr (pe_bm PySem.F.plainAttrs_list PySem.F.slot_list_append PySem.F.type_list_append mt_append (pv 2) (pa_cons (pe_tup (pa_cons (pv 7) (pa_cons (pv 6) pa_nil))) pa_nil))))
            pss_nil)
          (pss_one (ps_expr (pe_bm PySem.F.plainAttrs_list PySem.F.slot_list_extend PySem.F.type_list_extend mt_extend (pv 2) (pa_cons (pe_call Gfunctions_within hr rfl T.g_functions_within T.k_functions_within bfunctions_within .nil pass0 (pa_cons (pv 6) (pa_cons (pv 7) pa_nil))) pa_nil)))))))))
  (pss_one (ps_ret (pv 2))))), ?_⟩
  cases wt with
  | @tup a vs _ ha hl hb =>
  have ln := hl.len
  have eW : funsW (d + 1) ts path = (ts.mapIdx (funOut (funsW d) path)).flatten := rfl
  rw [eW] at q hlen
  refine ⟨by decide, fun p hp => ?_⟩
  have s1 := same_new hp (.lst [])
  refine ⟨_, rfl, a, vs, rfl, SqT.of (s1 _ _ ha), for_enumT (K := K) (a := a) (xs := vs)
    (fun i σ H' => ∃ x3 x4 x5 x6 x7 ws, σ = [some (.ref a), some (.ref pa), some (.ref p), x3, x4, x5, x6, x7] ∧ Same H H' ∧ H' p = some (.lst ws) ∧ TwL H' ws ((((ts.mapIdx (funOut (funsW d) path)).take i).flatten).map pairT))
    ⟨none, none, none, none, none, [], rfl, s1, upd_same, by rw [List.take_zero]; exact .nil⟩ (fun i σ H' _ ⟨_, _, _, _, _, _, _, sm, _⟩ => SqT.of (sm _ _ ha)) (fun i x σ H' TT hx pv hT => ?_) (fun σ H' pv => ?_)⟩
  · obtain ⟨x3, x4, x5, x6, x7, ws, rfl, sm, hp', hws⟩ := pv
    obtain ⟨t, ht, wx⟩ := hl.get hx
    obtain ⟨k', us, rfl, hin⟩ := shp_at hsh ht
    have eacc := flat_take (funOut (funsW d) path) ts i _ ht
    have lacc : ((((ts.mapIdx (funOut (funsW d) path)).take i).flatten) ++ funOut (funsW d) path i (.tup (tx k' :: us))).length ≤ 1000 := by
      rw [← eacc]
      exact Nat.le_trans (flat_le _ _) hlen
    generalize hA : ((ts.mapIdx (funOut (funsW d) path)).take i).flatten = A at hws eacc lacc
    obtain ⟨ax, ux, rfl, hax, hux, hbx, nx⟩ := row_of wx
    have at0 : atI (V.str k' :: ux) 0 = some (.str k') := at_of (j := 0) rfl rfl
    have sT := same_new hT (.tup [V.int (i : Nat), .ref ax])
    have eout : funOut (funsW d) path i (.tup (tx k' :: us)) = ((innerT k' (tx k' :: us)).mapIdx (funOut1 (funsW d) path i k')).flatten := rfl
    rw [eout] at eacc lacc
    refine ⟨TT, [.int (i : Nat), .ref ax], rfl, SqT.of upd_same, rfl, _, _, rfl, _, _, rfl, rfl, ?_⟩
    have S5 : Same H (upd H' TT (.tup [V.int (i : Nat), .ref ax])) := fun c o e => sT _ _ (sm _ _ e)
    refine ⟨_, rfl, .ref ax, k', us, rfl, Tw.gr (Gr.of S5) _ _ wx, fun v6 H6 s6 w6 => ?_⟩
    cases w6 with
    | @tup a6 v6s _ ha6 hl6 hb6 =>
    have S6 : Same H H6 := fun c o e => s6 _ _ (S5 _ _ e)
    have hp6 : H6 p = some (.lst ws) := s6 _ _ (sT _ _ hp')
    have ln6 := hl6.len
    have tot := flat_le ((innerT k' (tx k' :: us)).mapIdx (funOut1 (funsW d) path i k'))
    refine ⟨a6, v6s, rfl, SqT.of ha6, for_enumT (K := K) (a := a6) (xs := v6s)
      (fun n σ H' => ∃ x5 x6 x7 ws, σ = [some (.ref a), some (.ref pa), some (.ref p), some (.int (i : Nat)), some (.ref ax), x5, x6, x7] ∧ Same H H' ∧ Gr H6 H' ∧ H' p = some (.lst ws) ∧
        TwL H' ws ((A ++ (((innerT k' (tx k' :: us)).mapIdx (funOut1 (funsW d) path i k')).take n).flatten).map pairT))
      ⟨x5, x6, x7, _, rfl, S6, Gr.refl _, hp6, by rw [List.take_zero]; rw [List.flatten_nil, List.append_nil]; exact TwL.gr ((Gr.of sT).trans (Gr.of s6)) _ _ hws⟩ (fun n σ H' _ ⟨_, _, _, _, _, _, g, _⟩ => SqT.of (g.tup _ _ ha6)) (fun n y σ H7 T7 hy pv hT7 => ?_) (fun σ H' pv => ?_)⟩
    · obtain ⟨y5, y6, y7, ws7, rfl, S7, g7, hp7, hws7⟩ := pv
      obtain ⟨t7, ht7, wy⟩ := hl6.get hy
      obtain ⟨xs7, rfl, sh7⟩ := hin t7 (List.mem_of_getElem? ht7)
      have e7 := flat_take (funOut1 (funsW d) path i k') _ n _ ht7
      have l7 := tot (n + 1)
      rw [e7] at l7
      have eo : funOut1 (funsW d) path i k' n (.tup xs7) = (if k' = "if" then [] else [(path ++ [(i : Int), (n : Int)], Tr.tup xs7)]) ++ funsW d xs7 (path ++ [(i : Int), (n : Int)]) := rfl
      rw [eo, List.length_append, List.length_append] at l7
      rw [eo] at e7
      rw [List.length_append] at lacc
      have lw7 := hws7.len
      rw [List.length_map, List.length_append] at lw7
      have sT7 := same_new hT7 (.tup [V.int (n : Nat), y])
      refine ⟨T7, [.int (n : Nat), y], rfl, SqT.of upd_same, rfl, _, _, rfl, _, _, rfl, rfl, ?_⟩
      refine ⟨_, rfl, _, rfl, _, rfl, (show 2 ≤ sizeLine by decide), fun b7 hb7 => ?_⟩
      have s8 := same_new hb7 (.tup [V.int (i : Nat), .int (n : Nat)])
      have S8 : Same H (upd (upd H7 T7 (.tup [V.int (n : Nat), y])) b7 (.tup [V.int (i : Nat), .int (n : Nat)])) := fun c o e => s8 _ _ (sT7 _ _ (S7 _ _ e))
      refine cat2 (path := path) (S8 _ _ hpa) upd_same (by omega) fun pq H9 s9 hpq => ?_
      have S9 : Same H H9 := fun c o e => s9 _ _ (S8 _ _ e)
      have g9 : Gr H6 H9 := g7.trans ((Gr.of sT7).trans ((Gr.of s8).trans (Gr.of s9)))
      have hp9 : H9 p = some (.lst ws7) := s9 _ _ (s8 _ _ (sT7 _ _ hp7))
      have hws9 := TwL.gr ((Gr.of sT7).trans ((Gr.of s8).trans (Gr.of s9))) _ _ hws7
      -- if row[0] != "if"
      refine ⟨_, rfl, ax, _, 0, _, rfl, rfl, SqT.of (S9 _ _ hax), at0, rfl, _, rfl, ?_⟩
      rw [dec_str]
      by_cases hif : k' = "if"
      · rw [decide_eq_true hif]
        refine iteF ?_
        rw [if_pos hif] at e7 l7
        have lwx : ws7.length ≤ 1000 := by omega
        have hp10 := hp9
        have g10 := g9
        have S10 := S9
        have hpq10 := hpq
        have hws10 : TwL H9 ws7 ((A ++ ((((innerT k' (tx k' :: us)).mapIdx (funOut1 (funsW d) path i k')).take n).flatten ++ [])).map pairT) := by rw [List.append_nil]; exact hws9
        refine ⟨_, rfl, .inl ⟨rfl, _, SqL.of hp10⟩, _, rfl, _, rfl, y, pq, xs7, path ++ [(i : Int), (n : Int)], rfl, Tw.gr g10 _ _ wy, sh7, hpq10, ?_, by omega, fun p11 H11 ws11 s11 n11 e11 w11 => ?_⟩
        · rw [List.length_append]
          simp
          omega
        have hp11 := s11 _ _ hp10
        have lw11 : ws11.length = (funsW d xs7 (path ++ [(i : Int), (n : Int)])).length := by rw [w11.len, List.length_map]
        have g12 := gr_list (us := ws7 ++ ws11) hp11
        refine ⟨p, p11, ws7, ws11, rfl, rfl, hp11, e11, Nat.le_trans (show _ ≤ 2001 by have := lwx; omega) (by decide), ?_⟩
        refine ⟨_, _, _, ws7 ++ ws11, rfl, same_upd hp fun c o e => s11 _ _ (S10 _ _ e), (g10.trans (Gr.of s11)).trans g12, upd_same, ?_⟩
        rw [e7, app3, List.map_append]
        exact TwL.app (TwL.gr ((Gr.of s11).trans g12) _ _ hws10) (TwL.gr g12 _ _ w11)
      · rw [decide_eq_false hif]
        rw [if_neg hif] at e7 l7
        simp only [List.length_cons, List.length_nil] at l7
        refine iteT ?_
        refine ⟨_, rfl, .inl ⟨rfl, _, SqL.of hp9⟩, _, rfl, _, rfl, (show 2 ≤ sizeLine by decide), fun b2 hb2 => ?_⟩
        have s10 := same_new hb2 (.tup [V.ref pq, y])
        have g11 := gr_list (us := ws7 ++ [V.ref b2]) (s10 _ _ hp9)
        refine ⟨p, ws7, .ref b2, rfl, rfl, s10 _ _ hp9, Nat.lt_of_le_of_lt (show _ ≤ 1000 by omega) (by decide), ?_⟩
        generalize hH10 : upd (upd H9 b2 (.tup [V.ref pq, y])) p (.lst (ws7 ++ [V.ref b2])) = H10 at g11
        have lwx : (ws7 ++ [V.ref b2]).length ≤ 1001 := by
          have : ws7.length ≤ 1000 := by omega
          rw [List.length_append]
          simpa using this
        have hp10 : H10 p = some (.lst (ws7 ++ [V.ref b2])) := by rw [← hH10]; exact upd_same
        have S10 : Same H H10 := by rw [← hH10]; exact same_upd hp fun c o e => s10 _ _ (S9 _ _ e)
        have g10 : Gr H6 H10 := g9.trans ((Gr.of s10).trans g11)
        have hpq10 : H10 pq = some (.tup ((path ++ [(i : Int), (n : Int)]).map V.int)) := g11.tup _ _ (s10 _ _ hpq)
        have hws10 : TwL H10 (ws7 ++ [V.ref b2]) ((A ++ ((((innerT k' (tx k' :: us)).mapIdx (funOut1 (funsW d) path i k')).take n).flatten ++ [(path ++ [(i : Int), (n : Int)], Tr.tup xs7)])).map pairT) := by
          rw [← List.append_assoc, List.map_append]
          refine TwL.app (TwL.gr ((Gr.of s10).trans g11) _ _ hws9) (TwL.cons (Tw.tup (g11.tup _ _ upd_same) (TwL.cons (Tw.tup hpq10 (TwL.ints _) ?_) (TwL.cons (Tw.gr g10 _ _ wy) TwL.nil)) (show 2 ≤ 1000 by decide)) TwL.nil)
          rw [List.length_map, List.length_append]
          simp
          omega
        refine ⟨_, rfl, .inl ⟨rfl, _, SqL.of hp10⟩, _, rfl, _, rfl, y, pq, xs7, path ++ [(i : Int), (n : Int)], rfl, Tw.gr g10 _ _ wy, sh7, hpq10, ?_, by omega, fun p11 H11 ws11 s11 n11 e11 w11 => ?_⟩
        · rw [List.length_append]
          simp
          omega
        have hp11 := s11 _ _ hp10
        have lw11 : ws11.length = (funsW d xs7 (path ++ [(i : Int), (n : Int)])).length := by rw [w11.len, List.length_map]
        have g12 := gr_list (us := (ws7 ++ [V.ref b2]) ++ ws11) hp11
        refine ⟨p, p11, (ws7 ++ [V.ref b2]), ws11, rfl, rfl, hp11, e11, Nat.le_trans (show _ ≤ 2001 by have := lwx; omega) (by decide), ?_⟩
        refine ⟨_, _, _, (ws7 ++ [V.ref b2]) ++ ws11, rfl, same_upd hp fun c o e => s11 _ _ (S10 _ _ e), (g10.trans (Gr.of s11)).trans g12, upd_same, ?_⟩
        rw [e7, app3, List.map_append]
        exact TwL.app (TwL.gr ((Gr.of s11).trans g12) _ _ hws10) (TwL.gr g12 _ _ w11)
    · obtain ⟨y5, y6, y7, ws7, rfl, S7, g7, hp7, hws7⟩ := pv
      rw [List.take_of_length_le (by rw [List.length_mapIdx, ln6]; exact Nat.le_refl _)] at hws7
      exact ⟨_, _, _, _, _, _, rfl, S7, hp7, by rw [eacc]; exact hws7⟩
  · obtain ⟨x3, x4, x5, x6, x7, ws, rfl, sm, hp', hws⟩ := pv
    have e : (ts.mapIdx (funOut (funsW d) path)).take vs.length = ts.mapIdx (funOut (funsW d) path) := List.take_of_length_le (by rw [List.length_mapIdx, ln]; exact Nat.le_refl _)
    rw [e] at hws
    exact ⟨_, rfl, q p _ ws sm hp hp' hws⟩
theorem ok_functions_within {fd fdi : FuncData} (F : Fun K "functions_within" "functions_within" s_functions_within fs fd) (B : Blt mg) (T : TxtU K mg fi fs) (Ginner_rows : FnOk P w K mg base CX0 1 fi fdi ["row"] spInner) (binner_rows : Binds K fdi ["row"] []) (bfunctions_within : Binds K fd ["rows", "path"] []) :
    ∀ d : Nat, FnOk P w K mg base CX0 (d + 1) fs fd ["rows", "path"] (spFuns d)
  | 0 => by
    have no : ∀ vs H Q E, ¬ spFuns 0 vs H Q E := fun vs H Q E h => by
      obtain ⟨_, _, _, _, _, _, z, _⟩ := h
      exact z
    refine ⟨?_, ?_⟩
    · intro vs H Q E h
      exact (no _ _ _ _ h).elim
    · intros
      rename_i h
      exact (no _ _ _ _ h).elim
  | d + 1 => ok_functions_within_step (Nat.le_add_left 1 d) F B T Ginner_rows binner_rows (ok_functions_within F B T Ginner_rows binner_rows bfunctions_within d) bfunctions_within
end
end CA
namespace CA
open PySem L2
def readTable : List (Str × Nat) := [("say", 1), ("set", 2), ("write", 2), ("map", 2), ("if", 1)]
def changeTable : List (Str × Nat) := [("put", 1), ("map", 1), ("fetch", 2)]
def useV : Option Bool → V
  | none => .non
  | some true => .str "read"
  | some false => .str "changed"
def eitherU (a b : Option Bool) : Option Bool := if a = some true ∨ b = some true then some true else if a = b then a else none
/-- the item at a place of the row is this slot -/
def isAt (row : List Tr) (i : Nat) (slot : Str) : Bool := match row[i]? with
  | some (.at (.str z)) => decide (z = slot)
  | _ => false
def hits (tab : List (Str × Nat)) (k : Str) (us : List Tr) (slot : Str) : Bool := match tab.lookup k with
  | none => false
  | some i => isAt (tx k :: us) i slot
def armOf (us : List Tr) (i : Nat) : List Tr := match us[i]? with
  | some t => itemsOf t
  | none => []
def useR (rec : List Tr → Option Bool) (k : Str) (us : List Tr) (slot : Str) : Option Bool :=
  if hits readTable k us slot then some true else if hits changeTable k us slot then some false
  else if k = "if" then eitherU (rec (armOf us 2)) (rec (armOf us 3)) else if k = "later" then (if rec (armOf us 0) = some true then some true else none) else none
def useL (slot : Str) : Nat → List Tr → Option Bool
  | 0, _ => none
  | d + 1, ts => ts.findSome? fun t => useR (useL slot d) (kOf t) (itemsOf t).tail slot
/-- rows that fit, down to a depth -/
def Val (ws es : List Str) : Nat → List Tr → Prop
  | 0, _ => False
  | d + 1, ts => ∀ t ∈ ts, ∃ k us, t = .tup (tx k :: us) ∧ rowFits (.tup (tx k :: us)) ws es = true ∧ ∀ x ∈ innerT k (tx k :: us), ∃ xs, x = .tup xs ∧ Val ws es d xs
def spEither : Sp := fun vs H Q _ => ∃ a b, vs = [useV a, useV b] ∧ ∀ H', Same H H' → Q (useV (eitherU a b)) H'
def spUseR (ws es : List Str) (d : Nat) : Sp := fun vs H Q _ => ∃ rv k us slot, vs = [rv, .str slot] ∧ Tw H rv (.tup (tx k :: us)) ∧ rowFits (.tup (tx k :: us)) ws es = true ∧ (∀ x ∈ innerT k (tx k :: us), ∃ xs, x = .tup xs ∧ Val ws es d xs) ∧
  ∀ H', Same H H' → Q (useV (useR (useL slot d) k us slot)) H'
def spUse (ws es : List Str) (d : Nat) : Sp := fun vs H Q _ => ∃ rv ts slot, vs = [rv, .str slot] ∧ Tw H rv (.tup ts) ∧ Val ws es d ts ∧ ∀ H', Same H H' → Q (useV (useL slot d ts)) H'
structure TxtH (K : PySem.W.Frag) (w : World) (mg : Str → Option Value) (fr fu fe aR aC : Addr) (esR esC : Array DictEntry) (nR nC : Nat) : Prop where
  g_first_use_in_row : mg "first_use_in_row" = some (.ref fr)
  k_first_use_in_row : PySem.W.keepIn K (.ref fr) = true
  g_first_use : mg "first_use" = some (.ref fu)
  k_first_use : PySem.W.keepIn K (.ref fu) = true
  g_use_of_either : mg "use_of_either" = some (.ref fe)
  k_use_of_either : PySem.W.keepIn K (.ref fe) = true
  READS : mg "READS" = some (.ref aR)
  CHANGES : mg "CHANGES" = some (.ref aC)
  DR : KDict K w aR esR nR
  DC : KDict K w aC esC nC
  noR : ∀ z, readTable.lookup z = none → PySem.W.nsIn K aR z = some none
  yesR : ∀ z n, readTable.lookup z = some n → ∃ tk, PySem.W.nsIn K aR z = some (some (.int (n : Nat) tk))
  noC : ∀ z, changeTable.lookup z = none → PySem.W.nsIn K aC z = some none
  yesC : ∀ z n, changeTable.lookup z = some n → ∃ tk, PySem.W.nsIn K aC z = some (some (.int (n : Nat) tk))
theorem use_flat (a : Option Bool) : flatV (useV a) = true := by
  rcases a with _ | _ | _ <;> rfl
theorem use_eq (a b : Option Bool) : decide (useV a = useV b) = decide (a = b) := by
  rcases a with _ | _ | _ <;> rcases b with _ | _ | _ <;> decide
theorem use_read (a : Option Bool) : eqV (useV a) (.str "read") = decide (a = some true) := by
  rcases a with _ | _ | _ <;> decide
theorem use_scal (a b : Option Bool) : scal (useV a) (useV b) = true := by
  rcases a with _ | _ | _ <;> rcases b with _ | _ | _ <;> rfl
section
variable {P : Program} {w : World} {K : PySem.W.Frag} {mg : Str → Option Value} {base : Heap} {fr fu fe aR aC : Addr} {esR esC : Array DictEntry} {nR nC : Nat} {ws es : List Str}
abbrev s_use_of_either : Stmt := topS 51
theorem sc_use_of_either : FnScope ["first", "second"] ["first", "second"] (defScope s_use_of_either) := ⟨rfl, rfl, rfl, by decide +kernel, rfl, by decide +kernel, by decide +kernel⟩
theorem ok_use_of_either {f : Addr} {fd : FuncData} (F : Fun K "use_of_either" "use_of_either" s_use_of_either f fd) : FnOk P w K mg base CX0 1 f fd ["first", "second"] spEither := by
  refine F.ok sc_use_of_either (fun vs H Q E h => ?_) (fun cdv A outer s H vs Q E hr h => ?_)
  · obtain ⟨a, b, rfl, _⟩ := h
    rfl
  obtain ⟨a, b, rfl, q⟩ := h
  refine ⟨_, (pss_cons (ps_if (pt_cmpR op_in_seq pe_str (pe_tup (pa_cons (pv 0) (pa_cons (pv 1) pa_nil))) (by rfl))
    (pss_one (ps_ret pe_str))
    pss_nil)
  (pss_one (ps_ret (pe_ifExp (pt_cmpR op_eq (pv 0) (pv 1) (nomark _)) (pv 0) pe_non)))), ?_⟩
  refine ⟨_, rfl, _, rfl, (show 2 ≤ sizeLine by decide), fun p hp => ?_⟩
  have s1 := same_new hp (.tup [useV a, useV b])
  have fl : [useV a, useV b].all flatV = true := by
    simp only [List.all_cons, List.all_nil, use_flat]
    rfl
  refine ⟨p, _, rfl, .inr (SqT.of upd_same), rfl, fl, _, rfl, ?_⟩
  have ein : (if false = true then !inV (.str "read") [useV a, useV b] else inV (.str "read") [useV a, useV b]) = (decide (a = some true) || decide (b = some true)) := by
    rw [if_neg (by simp)]
    show (eqV (useV a) _ || (eqV (useV b) _ || false)) = _
    rw [use_read, use_read, Bool.or_false]
  rw [ein]
  have fin : ∀ c : Option Bool, eitherU a b = c → Q (useV c) (upd H p (.tup [useV a, useV b])) := fun c e => by rw [← e]; exact q _ s1
  unfold eitherU at fin
  by_cases h1 : a = some true ∨ b = some true
  · rw [if_pos h1] at fin
    have e : (decide (a = some true) || decide (b = some true)) = true := by
      rcases h1 with h | h <;> simp [h]
    rw [e]
    exact iteT (fin _ rfl)
  · rw [if_neg h1] at fin
    have e : (decide (a = some true) || decide (b = some true)) = false := by
      rw [Bool.or_eq_false_iff]
      exact ⟨decide_eq_false fun z => h1 (.inl z), decide_eq_false fun z => h1 (.inr z)⟩
    rw [e]
    refine iteF ⟨_, rfl, _, rfl, use_scal a b, _, rfl, ?_⟩
    rw [use_eq]
    by_cases h2 : a = b
    · rw [if_pos h2] at fin
      rw [decide_eq_true h2]
      exact iteT ⟨_, rfl, fin _ rfl⟩
    · rw [if_neg h2] at fin
      rw [decide_eq_false h2]
      exact iteF (fin _ rfl)
abbrev s_first_use : Stmt := topS 49
theorem sc_first_use : FnScope ["rows", "slot", "row", "use"] ["rows", "slot"] (defScope s_first_use) := ⟨rfl, rfl, rfl, by decide +kernel, rfl, by decide +kernel, by decide +kernel⟩
theorem findSome_take {α β : Type} (f : α → Option β) (l : List α) (i : Nat) (x : α) (h : l[i]? = some x) (hn : (l.take i).findSome? f = none) : (l.take (i + 1)).findSome? f = f x := by
  rw [List.take_add_one, h, List.findSome?_append, hn]
  simp
theorem findSome_at {α β : Type} (f : α → Option β) (l : List α) (i : Nat) (x : α) (b : β) (h : l[i]? = some x) (hn : (l.take i).findSome? f = none) (hb : f x = some b) : l.findSome? f = some b := by
  have e : l = l.take (i + 1) ++ l.drop (i + 1) := (List.take_append_drop _ _).symm
  rw [e, List.findSome?_append, findSome_take f l i x h hn, hb]
  rfl
theorem ok_first_use_step {d k : Nat} {fd fdr : FuncData} (F : Fun K "first_use" "first_use" s_first_use fu fd) (T : TxtH K w mg fr fu fe aR aC esR esC nR nC) (Gr_ : FnOk P w K mg base CX0 k fr fdr ["row", "slot"] (spUseR ws es d)) (br_ : Binds K fdr ["row", "slot"] []) :
    FnOk P w K mg base CX0 (k + 1) fu fd ["rows", "slot"] (spUse ws es (d + 1)) := by
  refine F.ok sc_first_use (fun vs H Q E h => ?_) (fun cdv A outer s H vs Q E hr h => ?_)
  · obtain ⟨rv, ts, slot, rfl, _⟩ := h
    rfl
  obtain ⟨rv, ts, slot, rfl, wt, hv, q⟩ := h
  refine ⟨_, (pss_cons (ps_for PassesOwn.never rfl (pi_tup (pv 0)) (pg_name (i := 2) sc_first_use.nd rfl (Or.inl rfl))
    (pss_cons (ps_set (i := 3) sc_first_use.nd rfl (Or.inl rfl) (pe_call Gr_ hr rfl T.g_first_use_in_row T.k_first_use_in_row br_ .nil pass0 (pa_cons (pv 2) (pa_cons (pv 1) pa_nil))))
      (pss_one (ps_if (pt_cmpR op_notN (pv 3) pe_non (nomark _))
        (pss_one (ps_ret (pv 3)))
        pss_nil))))
  (pss_one (ps_ret pe_non))), ?_⟩
  cases wt with
  | @tup a vs _ ha hl hb =>
  have ln := hl.len
  refine ⟨_, rfl, a, rfl, ⟨vs, SqT.of ha⟩, for_tup (K := K) (a := a) (xs := vs)
    (fun i σ H' => ∃ x2 x3, σ = [some (.ref a), some (.str slot), x2, x3] ∧ Same H H' ∧ (ts.take i).findSome? (fun t => useR (useL slot d) (kOf t) (itemsOf t).tail slot) = none)
    ⟨none, none, rfl, fun _ _ e => e, by rw [List.take_zero]; rfl⟩ (fun i σ H' _ ⟨_, _, _, sm, _⟩ => SqT.of (sm _ _ ha)) (fun i x σ H' hx pv => ?_) (fun σ H' pv => ?_)⟩
  · obtain ⟨x2, x3, rfl, sm, hn⟩ := pv
    obtain ⟨t, ht, wx⟩ := hl.get hx
    obtain ⟨k', us, rfl, hf, hin⟩ := hv t (List.mem_of_getElem? ht)
    refine ⟨_, rfl, _, rfl, x, k', us, slot, rfl, Tw.gr (Gr.of sm) _ _ wx, hf, hin, fun H2 s2 => ?_⟩
    have S2 : Same H H2 := fun c o e => s2 _ _ (sm _ _ e)
    cases hu : useR (useL slot d) k' us slot with
    | none =>
      refine ⟨_, rfl, rfl, _, rfl, iteF ⟨_, _, rfl, S2, ?_⟩⟩
      rw [findSome_take _ _ _ _ ht hn]
      exact hu
    | some b =>
      have e : useL slot (d + 1) ts = some b := findSome_at _ ts i _ b ht hn hu
      rw [e] at q
      refine ⟨_, rfl, rfl, _, rfl, ?_⟩
      have en : (!decide (useV (some b) = V.non)) = true := by cases b <;> rfl
      rw [en]
      exact iteT ⟨_, rfl, q H2 S2⟩
  · obtain ⟨x2, x3, rfl, sm, hn⟩ := pv
    rw [List.take_of_length_le (by rw [ln]; exact Nat.le_refl _)] at hn
    have e : useL slot (d + 1) ts = none := hn
    rw [e] at q
    exact q H' sm
end
end CA
namespace CA
open PySem L2
/-- a place of a table is a place of a name -/
def tabOk (tab : List (Str × Nat)) : Bool := tab.all fun p => match formOf p.1 with
  | none => false
  | some roles => decide (1 ≤ p.2) && (match roles[p.2 - 1]? with
    | none => false
    | some r => decide (r ∈ slotRoles))
theorem readOk : tabOk readTable = true := by decide
theorem changeOk : tabOk changeTable = true := by decide
theorem tab_name {tab : List (Str × Nat)} (ht : tabOk tab = true) {k : Str} {n : Nat} {us : List Tr} {ws es : List Str} (h : tab.lookup k = some n) (hf : rowFits (.tup (tx k :: us)) ws es = true) : ∃ z, (tx k :: us)[n]? = some (tx z) := by
  have q := List.all_eq_true.mp ht _ (PySem.mem_of_lookup h)
  obtain ⟨roles, e, d, fits⟩ := rowFits_parts hf
  simp only [e] at q
  rw [Bool.and_eq_true] at q
  obtain ⟨q1, q2⟩ := q
  obtain ⟨m, rfl⟩ : ∃ m, n = m + 1 := ⟨n - 1, by have := of_decide_eq_true q1; omega⟩
  rw [Nat.add_sub_cancel] at q2
  cases hr : roles[m]? with
  | none => simp only [hr] at q2; cases q2
  | some r =>
    simp only [hr] at q2
    have q2 := of_decide_eq_true q2
    have hlt := (List.getElem?_eq_some_iff.mp hr).1
    have hu : us[m]? = some us[m] := List.getElem?_eq_getElem (by omega)
    have hn := fits_slot (fits _ _ _ hr hu) q2
    refine ⟨txOf' us[m], ?_⟩
    rw [List.getElem?_cons_succ, hu, ← trName_tx hn]
theorem item_at {H : Hp} {vs : List V} {ts : List Tr} {n : Nat} {z : Str} (l : TwL H vs ts) (h : ts[n]? = some (tx z)) : atI vs (n : Int) = some (.str z) := by
  obtain ⟨u, hu, wu⟩ := l.get' h
  cases wu with
  | «at» _ => exact at_of (j := n) rfl hu
theorem if_parts {us : List Tr} {ws es : List Str} (hf : rowFits (.tup (tx "if" :: us)) ws es = true) : ∃ a b c e, us = [a, b, c, e] := by
  obtain ⟨roles, e, d, _⟩ := rowFits_parts hf
  have e2 : formOf "if" = some [("slot" : Str), "word", "rows", "rows"] := by decide
  rw [e2] at e
  cases e
  match us, d with
  | [a, b, c, e], _ => exact ⟨a, b, c, e, rfl⟩
theorem later_parts {us : List Tr} {ws es : List Str} (hf : rowFits (.tup (tx "later" :: us)) ws es = true) : ∃ a, us = [a] := by
  obtain ⟨roles, e, d, _⟩ := rowFits_parts hf
  have e2 : formOf "later" = some [("rows" : Str)] := by decide
  rw [e2] at e
  cases e
  match us, d with
  | [a], _ => exact ⟨a, rfl⟩
theorem itemT_at {H : Hp} {vs : List V} {ts : List Tr} {n : Nat} {t : Tr} (l : TwL H vs ts) (h : ts[n]? = some t) : ∃ v, atI vs (n : Int) = some v ∧ Tw H v t := by
  obtain ⟨u, hu, wu⟩ := l.get' h
  exact ⟨u, at_of (j := n) rfl hu, wu⟩
/-- the reading of «row[0] in T and row[T[row[0]]] == slot» -/
theorem tab_test {K : PySem.W.Frag} {w : World} {aX a : Addr} {esX : Array DictEntry} {nX : Nat} {tab : List (Str × Nat)} {k slot : Str} {ux : List V} {us : List Tr} {ws es : List Str} {σ : L2.St} {H : Hp} {Q : Bool → Hp → Prop} (hok : tabOk tab = true) (D : KDict K w aX esX nX)
    (no : ∀ z, tab.lookup z = none → PySem.W.nsIn K aX z = some none) (yes : ∀ z n, tab.lookup z = some n → ∃ tk, PySem.W.nsIn K aX z = some (some (.int (n : Nat) tk))) (hf : rowFits (.tup (tx k :: us)) ws es = true)
    (h0 : σ[0]? = some (some (.ref a))) (h1 : σ[1]? = some (some (.str slot))) (ha : H a = some (.tup (.str k :: ux))) (hl : TwL H (.str k :: ux) (tx k :: us)) (q : Q (hits tab k us slot) H) :
    tAnd (tTest (tOp (fun x y H Q => ∃ (z : Str) (r : Option Value), x = .str z ∧ y = .ref aX ∧ PySem.W.nsIn K aX z = some r ∧ Q (.bl r.isSome) H) (tOp (rIxT K) (tVar 0) (tC (.int 0))) (tC (.ref aX))))
      (tTest (tOp rEq (tOp (rIxT K) (tVar 0) (tOp (rIxD K w) (tC (.ref aX)) (tOp (rIxT K) (tVar 0) (tC (.int 0))))) (tVar 1))) σ H Q := by
  have at0 : atI (V.str k :: ux) 0 = some (.str k) := at_of (j := 0) rfl rfl
  cases hR : tab.lookup k with
  | none =>
    have hh : hits tab k us slot = false := by unfold hits; rw [hR]
    rw [hh] at q
    exact ⟨_, h0, a, _, 0, _, rfl, rfl, SqT.of ha, at0, k, none, rfl, rfl, no k hR, _, rfl, iteF q⟩
  | some n =>
    obtain ⟨tk, hn⟩ := yes k n hR
    obtain ⟨z, hz⟩ := tab_name hok hR hf
    have hh : hits tab k us slot = decide (z = slot) := by
      unfold hits isAt
      rw [hR]
      simp only [hz]
      rfl
    rw [hh] at q
    refine ⟨_, h0, a, _, 0, _, rfl, rfl, SqT.of ha, at0, k, some _, rfl, rfl, hn, _, rfl, iteT ?_⟩
    refine ⟨_, h0, _, h0, a, _, 0, _, rfl, rfl, SqT.of ha, at0, aX, k, .int (n : Nat), rfl, rfl, ⟨esX, nX, _, D.at_, D.lit, hn, ⟨tk, rfl⟩⟩, a, _, (n : Nat), .str z, rfl, rfl, SqT.of ha, item_at hl hz, _, h1, rfl, _, rfl, ?_⟩
    rw [dec_str]
    exact q
section
variable {P : Program} {w : World} {K : PySem.W.Frag} {mg : Str → Option Value} {base : Heap} {fr fu fe aR aC : Addr} {esR esC : Array DictEntry} {nR nC : Nat} {ws es : List Str}
abbrev s_first_use_in_row : Stmt := topS 50
theorem sc_first_use_in_row : FnScope ["row", "slot"] ["row", "slot"] (defScope s_first_use_in_row) := ⟨rfl, rfl, rfl, by decide +kernel, rfl, by decide +kernel, by decide +kernel⟩
theorem ok_first_use_in_row_step {d k : Nat} {fd fdu fde : FuncData} (hk : 1 ≤ k) (F : Fun K "first_use_in_row" "first_use_in_row" s_first_use_in_row fr fd) (T : TxtH K w mg fr fu fe aR aC esR esC nR nC) (Gfu : FnOk P w K mg base CX0 k fu fdu ["rows", "slot"] (spUse ws es d)) (bfu : Binds K fdu ["rows", "slot"] [])
    (Gfe : FnOk P w K mg base CX0 1 fe fde ["first", "second"] spEither) (bfe : Binds K fde ["first", "second"] []) : FnOk P w K mg base CX0 (k + 1) fr fd ["row", "slot"] (spUseR ws es d) := by
  refine F.ok sc_first_use_in_row (fun vs H Q E h => ?_) (fun cdv A outer s H vs Q E hr h => ?_)
  · obtain ⟨rv, k', us, slot, rfl, _⟩ := h
    rfl
  obtain ⟨rv, k', us, slot, rfl, wt, hf, hin, q⟩ := h
  have hr1 : Room 1 _ := hr.mono hk
  refine ⟨_, (pss_cons (ps_if (PW.pt (pw_and (pt_cmpR (op_in_kd (X := (cxOf CX0 P w K mg base ["row", "slot"] "first_use_in_row" (defScope s_first_use_in_row) fr cdv A outer s H E).nox) T.DR) (pe_ix ix_tup (pv 0) pe_int (fun _ _ => rfl)) (pe_gr T.READS) (by rfl)) (pw_and1 (pt_cmpR op_eq (pe_ix ix_tup (pv 0) (pe_ix ix_kdict (pe_gr T.READS) (pe_ix ix_tup (pv 0) pe_int (fun _ _ => rfl)) (fun _ _ => rfl)) (fun _ _ => rfl)) (pv 1) (nomark _)))))
    (pss_one (ps_ret pe_str))
    pss_nil)
  (pss_cons (ps_if (PW.pt (pw_and (pt_cmpR (op_in_kd (X := (cxOf CX0 P w K mg base ["row", "slot"] "first_use_in_row" (defScope s_first_use_in_row) fr cdv A outer s H E).nox) T.DC) (pe_ix ix_tup (pv 0) pe_int (fun _ _ => rfl)) (pe_gr T.CHANGES) (by rfl)) (pw_and1 (pt_cmpR op_eq (pe_ix ix_tup (pv 0) (pe_ix ix_kdict (pe_gr T.CHANGES) (pe_ix ix_tup (pv 0) pe_int (fun _ _ => rfl)) (fun _ _ => rfl)) (fun _ _ => rfl)) (pv 1) (nomark _)))))
    (pss_one (ps_ret pe_str))
    pss_nil)
  (pss_cons (ps_if (pt_cmpR op_eq (pe_ix ix_tup (pv 0) pe_int (fun _ _ => rfl)) pe_str (nomark _))
    (pss_one (ps_ret (pe_call Gfe hr1 rfl T.g_use_of_either T.k_use_of_either bfe .nil pass0 (pa_cons (pe_call Gfu hr rfl T.g_first_use T.k_first_use bfu .nil pass0 (pa_cons (pe_ix ix_tup (pv 0) pe_int (fun _ _ => rfl)) (pa_cons (pv 1) pa_nil))) (pa_cons (pe_call Gfu hr rfl T.g_first_use T.k_first_use bfu .nil pass0 (pa_cons (pe_ix ix_tup (pv 0) pe_int (fun _ _ => rfl)) (pa_cons (pv 1) pa_nil))) pa_nil)))))
    pss_nil)
  (pss_cons (ps_if (PW.pt (pw_and (pt_cmpR op_eq (pe_ix ix_tup (pv 0) pe_int (fun _ _ => rfl)) pe_str (nomark _)) (pw_and1 (pt_cmpR op_eq (pe_call Gfu hr rfl T.g_first_use T.k_first_use bfu .nil pass0 (pa_cons (pe_ix ix_tup (pv 0) pe_int (fun _ _ => rfl)) (pa_cons (pv 1) pa_nil))) pe_str (nomark _)))))
    (pss_one (ps_ret pe_str))
    pss_nil)
  (pss_one (ps_ret pe_non)))))), ?_⟩
  have fin : ∀ c : Option Bool, useR (useL slot d) k' us slot = c → ∀ H', Same H H' → Q (useV c) H' := fun c e H' s => by rw [← e]; exact q H' s
  have here : Same H H := fun _ _ e => e
  have wt0 := wt
  obtain ⟨a, ux, rfl, ha, hux, hbx, nx⟩ := row_of wt
  have hl : TwL H (V.str k' :: ux) (tx k' :: us) := .cons (.at nx) hux
  have at0 : atI (V.str k' :: ux) 0 = some (.str k') := at_of (j := 0) rfl rfl
  unfold useR at fin
  refine tab_test (K := K) (w := w) (aX := aR) (a := a) readOk T.DR T.noR T.yesR hf rfl rfl ha hl ?_
  refine ite2 (fun c => ?_) (fun c => ?_)
  · rw [if_pos c] at fin
    exact fin _ rfl H here
  rw [if_neg c] at fin
  refine tab_test (K := K) (w := w) (aX := aC) (a := a) changeOk T.DC T.noC T.yesC hf rfl rfl ha hl ?_
  refine ite2 (fun c => ?_) (fun c => ?_)
  · rw [if_pos c] at fin
    exact fin _ rfl H here
  rw [if_neg c] at fin
  refine ⟨_, rfl, a, _, 0, _, rfl, rfl, SqT.of ha, at0, rfl, _, rfl, ite2 (fun c => ?_) (fun c => ?_)⟩ <;> rw [dec_str] at c
  · have ek := of_decide_eq_true c
    rw [if_pos ek] at fin
    subst ek
    obtain ⟨t1, t2, t3, t4, rfl⟩ := if_parts hf
    obtain ⟨xs3, rfl, v3⟩ := hin t3 (by rw [show innerT "if" (tx "if" :: [t1, t2, t3, t4]) = [t3, t4] from rfl]; simp)
    obtain ⟨xs4, rfl, v4⟩ := hin t4 (by rw [show innerT "if" (tx "if" :: [t1, t2, .tup xs3, t4]) = [.tup xs3, t4] from rfl]; simp)
    obtain ⟨u3, a3, w3⟩ := itemT_at (n := 3) hl rfl
    obtain ⟨u4, a4, w4⟩ := itemT_at (n := 4) hl rfl
    refine ⟨_, rfl, a, _, 3, u3, rfl, rfl, SqT.of ha, a3, _, rfl, u3, xs3, slot, rfl, w3, v3, fun H1 s1 => ?_⟩
    refine ⟨_, rfl, a, _, 4, u4, rfl, rfl, SqT.of (s1 _ _ ha), a4, _, rfl, u4, xs4, slot, rfl, Tw.gr (Gr.of s1) _ _ w4, v4, fun H2 s2 => ?_⟩
    exact ⟨_, _, rfl, fun H3 s3 => fin _ rfl H3 fun c o e => s3 _ _ (s2 _ _ (s1 _ _ e))⟩
  rw [if_neg (fun e => c (decide_eq_true e))] at fin
  refine ⟨_, rfl, a, _, 0, _, rfl, rfl, SqT.of ha, at0, rfl, _, rfl, ite2 (fun c => ?_) (fun c => ?_)⟩ <;> rw [dec_str] at c
  · have ek := of_decide_eq_true c
    rw [if_pos ek] at fin
    subst ek
    obtain ⟨t1, rfl⟩ := later_parts hf
    obtain ⟨xs1, rfl, v1⟩ := hin t1 (by rw [show innerT "later" (tx "later" :: [t1]) = [t1] from rfl]; simp)
    obtain ⟨u1, a1, w1⟩ := itemT_at (n := 1) hl rfl
    refine ⟨_, rfl, a, _, 1, u1, rfl, rfl, SqT.of ha, a1, _, rfl, u1, xs1, slot, rfl, w1, v1, fun H1 s1 => ?_⟩
    have er : V.str "read" = useV (some true) := rfl
    refine ⟨use_scal _ (some true), _, rfl, ?_⟩
    rw [er, use_eq]
    have ea : armOf [Tr.tup xs1] 0 = xs1 := rfl
    rw [ea] at fin
    by_cases h : useL slot d xs1 = some true
    · rw [if_pos h] at fin
      rw [decide_eq_true h]
      exact iteT (fin _ rfl H1 s1)
    · rw [if_neg h] at fin
      rw [decide_eq_false h]
      exact iteF (fin _ rfl H1 s1)
  · rw [if_neg (fun e => c (decide_eq_true e))] at fin
    exact iteF (fin _ rfl H here)
/-- the two defs call each other: both, down to any depth -/
theorem ok_uses {fdu fdr fde : FuncData} (Fu : Fun K "first_use" "first_use" s_first_use fu fdu) (Fr : Fun K "first_use_in_row" "first_use_in_row" s_first_use_in_row fr fdr) (T : TxtH K w mg fr fu fe aR aC esR esC nR nC) (bfu : Binds K fdu ["rows", "slot"] []) (bfr : Binds K fdr ["row", "slot"] [])
    (Gfe : FnOk P w K mg base CX0 1 fe fde ["first", "second"] spEither) (bfe : Binds K fde ["first", "second"] []) : ∀ d : Nat, FnOk P w K mg base CX0 (2 * d + 1) fu fdu ["rows", "slot"] (spUse ws es d)
  | 0 => by
    have no : ∀ vs H Q E, ¬ spUse ws es 0 vs H Q E := fun vs H Q E h => by
      obtain ⟨_, _, _, _, _, z, _⟩ := h
      exact z
    refine ⟨?_, ?_⟩
    · intro vs H Q E h
      exact (no _ _ _ _ h).elim
    · intros
      rename_i h
      exact (no _ _ _ _ h).elim
  | d + 1 => ok_first_use_step Fu T (ok_first_use_in_row_step (by omega) Fr T (ok_uses Fu Fr T bfu bfr Gfe bfe d) bfu Gfe bfe) bfr
end
end CA
namespace CA
open PySem L2
theorem Val.shp {ws es : List Str} : ∀ {d : Nat} {ts : List Tr}, Val ws es d ts → Shp d ts
  | 0, _, h => h
  | d + 1, ts, h => fun t ht => by
    obtain ⟨k, us, e, _, hin⟩ := h t ht
    exact ⟨k, us, e, fun x hx => by
      obtain ⟨xs, e2, v⟩ := hin x hx
      exact ⟨xs, e2, v.shp⟩⟩
def ifsLater : List Str := ["if", "later"]
def slotsOf (t : Tr) : List Str := rowSlots (kOf t) (itemsOf t).tail
def heldAll (d : Nat) (ts : List Tr) : List Str := ((rowsW ifsLater d ts []).map fun q => slotsOf q.2).flatten
def spHeld (ws es : List Str) (d : Nat) : Sp := fun vs H Q _ => ∃ rv ts, vs = [rv] ∧ Tw H rv (.tup ts) ∧ Val ws es d ts ∧ 2 * d ≤ 100 ∧ (rowsW ifsLater d ts []).length ≤ 1000 ∧ (heldAll d ts).length < 60 ∧
  ∀ p H' ys, Same H H' → ys.Perm (addAll [] (heldAll d ts)) → PyProof.Rows.sortedS ys = true → H' p = some (.tup ((ys.filter fun s => decide (useL s d ts = some true)).map V.str)) → Q (.ref p) H'
theorem flat_mem {α β : Type} (f : Nat → α → List β) (ts : List α) (q : β) (h : q ∈ (ts.mapIdx f).flatten) : ∃ i t, ts[i]? = some t ∧ q ∈ f i t := by
  obtain ⟨l, hl, hq⟩ := List.mem_flatten.mp h
  obtain ⟨i, hi⟩ := List.mem_iff_getElem?.mp hl
  rw [List.getElem?_mapIdx] at hi
  cases ht : ts[i]? with
  | none => rw [ht] at hi; cases hi
  | some t =>
    rw [ht] at hi
    cases hi
    exact ⟨i, t, ht, hq⟩
/-- the rows that are listed fit -/
theorem rows_fit {ws es : List Str} {thr : List Str} : ∀ {d : Nat} {ts : List Tr} {path : List Int}, Val ws es d ts → ∀ q ∈ rowsW thr d ts path, ∃ k us, q.2 = .tup (tx k :: us) ∧ rowFits (.tup (tx k :: us)) ws es = true
  | 0, _, _, h, _, _ => h.elim
  | d + 1, ts, path, h, q, hq => by
    obtain ⟨i, t, ht, hq⟩ := flat_mem _ ts q hq
    obtain ⟨k, us, rfl, hf, hin⟩ := h t (List.mem_of_getElem? ht)
    unfold rowOut at hq
    rcases List.mem_cons.mp hq with e | hq
    · rw [e]
      exact ⟨k, us, rfl, hf⟩
    · split at hq
      · obtain ⟨n, x, hx, hq⟩ := flat_mem _ _ q hq
        obtain ⟨xs, rfl, hv⟩ := hin x (List.mem_of_getElem? hx)
        exact rows_fit hv q hq
      · cases hq
theorem addAll_app (l a b : List Str) : addAll (addAll l a) b = addAll l (a ++ b) := by
  unfold addAll
  rw [List.foldl_append]
theorem addAll_le (S : List Str) (n : Nat) : (addAll [] (S.take n)).length ≤ S.length := by
  have h := addAll_len [] (S.take n)
  rw [List.length_take] at h
  simp only [List.length_nil] at h
  omega
theorem flat_take' {α β : Type} (f : α → List β) (l : List α) (i : Nat) (x : α) (h : l[i]? = some x) : ((l.map f).take (i + 1)).flatten = ((l.map f).take i).flatten ++ f x := by
  rw [List.take_add_one, List.getElem?_map, h]
  simp
structure TxtHe (K : PySem.W.Frag) (mg : Str → Option Value) (fw fsl fu aI : Addr) : Prop where
  g_rows_within : mg "rows_within" = some (.ref fw)
  k_rows_within : PySem.W.keepIn K (.ref fw) = true
  g_slots_in : mg "slots_in" = some (.ref fsl)
  k_slots_in : PySem.W.keepIn K (.ref fsl) = true
  g_first_use : mg "first_use" = some (.ref fu)
  k_first_use : PySem.W.keepIn K (.ref fu) = true
  IFS_AND_LATER : mg "IFS_AND_LATER" = some (.ref aI)
  sI : ∀ H, SqT K H aI (ifsLater.map V.str)
section
variable {P : Program} {w : World} {K : PySem.W.Frag} {mg : Str → Option Value} {base : Heap} {fw fsl fu aI : Addr} {ws es : List Str}
abbrev s_held_slots : Stmt := topS 48
theorem sc_held_slots : FnScope ["rows", "inside", "named", "path", "row", "slot"] ["rows"] (defScope s_held_slots) := ⟨rfl, rfl, rfl, by decide +kernel, rfl, by decide +kernel, by decide +kernel⟩
theorem ok_held_slots {d k : Nat} {f : Addr} {fd fdw fds fdu : FuncData} (hk : 1 ≤ k) (F : Fun K "held_slots" "held_slots" s_held_slots f fd) (B : Blt mg) (T : TxtHe K mg fw fsl fu aI) (Gw : FnOk P w K mg base CX0 k fw fdw ["rows", "path", "through"] (spRows K d)) (bw : Binds K fdw ["rows", "path", "through"] [])
    (Gs : FnOk P w K mg base CX0 1 fsl fds ["row"] spSlots) (bs : Binds K fds ["row"] []) (Gu : FnOk P w K mg base CX0 k fu fdu ["rows", "slot"] (spUse ws es d)) (bu : Binds K fdu ["rows", "slot"] []) : FnOk P w K mg base CX0 (k + 1) f fd ["rows"] (spHeld ws es d) := by
  refine F.ok sc_held_slots (fun vs H Q E h => ?_) (fun cdv A outer s H vs Q E hr h => ?_)
  · obtain ⟨rv, ts, rfl, _⟩ := h
    rfl
  obtain ⟨rv, ts, rfl, wt, hv, h2d, hrl, h60, q⟩ := h
  have hr1 : Room 1 _ := hr.mono hk
  refine ⟨_, (pss_cons (ps_set (i := 1) sc_held_slots.nd rfl (Or.inl rfl) (pe_call Gw hr rfl T.g_rows_within T.k_rows_within bw .nil pass0 (pa_cons (pv 0) (pa_cons (pe_tup pa_nil) (pa_cons (pe_gr T.IFS_AND_LATER) pa_nil)))))
  (pss_cons (ps_set (i := 2) sc_held_slots.nd rfl (Or.inl rfl) (pe_callB (cr_sortSetS rfl) (by rfl) B.sorted (by decide +kernel) (pa_cons
    (pe_set2 (own := [("path", 3), ("row", 4), ("slot", 5)]) (vs1 := [5]) (wi := iList K (tVar 1)) (wi1 := iList K (tCall spSlots [] E0 (tCons (tVar 4) tNil))) (g := gTup K 2 (gCons (gName 3) (gCons (gName 4) gNil))) (g1 := gName 5) (tt := tYes) (tt1 := tYes) (te := tVar 5) rfl sc_held_slots.nd (pi_list (pv 1))
      (blkOk_by (own := [("path", 3), ("row", 4), ("slot", 5)]) (N := ["rows", "inside", "named", "path", "row", "slot"]) (sc := defScope s_held_slots) (by decide +kernel)) (by decide)
      (fun s H C cl fp => pg_tup rfl (pgs_cons (pg_name (i := 3) sc_held_slots.nd rfl (Or.inl rfl)) (pgs_cons (pg_name (i := 4) sc_held_slots.nd rfl (Or.inl rfl)) pgs_nil))) (fun s H C cl fp => pts_nil)
      (fun s H C cl fp => pi_list (pe_call Gs hr1 rfl T.g_slots_in T.k_slots_in bs .nil pass0 (pa_cons (pv 4) pa_nil))) (fun s H C cl fp => pg_name (i := 5) sc_held_slots.nd rfl (Or.inl rfl)) (fun s H C cl fp => pts_nil) (fun s H C cl fp => pv 5)) pa_nil)))
  (pss_one (ps_ret (pe_callTy call_tuple_of (by rfl) B.tuple (by decide +kernel) (pa_cons
    (pe_lc (own := [("slot", 5)]) (wi := iList K (tVar 2)) (g := gName 5) (te := tVar 5) rfl sc_held_slots.nd (pi_list (pv 2)) (blkOk_by (own := [("slot", 5)]) (N := ["rows", "inside", "named", "path", "row", "slot"]) (sc := defScope s_held_slots) (by decide +kernel))
      (fun s H C cl fp => pg_name (i := 5) sc_held_slots.nd rfl (Or.inl rfl)) (fun s H C cl fp => pts_one (pt_cmpR op_eq (pe_call Gu hr rfl T.g_first_use T.k_first_use bu .nil pass0 (pa_cons (pv 0) (pa_cons (pv 5) pa_nil))) pe_str (nomark _))) (fun s H C cl fp => pv 5)) pa_nil)))))), ?_⟩
  refine ⟨_, rfl, by decide, fun pe hpe => ?_⟩
  have s1 := same_new hpe (.tup [])
  refine ⟨rv, pe, aI, ts, [], ifsLater, rfl, Tw.gr (Gr.of s1) _ _ wt, hv.shp, upd_same, T.sI _, by simpa using h2d, hrl, fun p1 H2 ws1 s2 n2 e2 w2 => ?_⟩
  have S2 : Same H H2 := fun c o e => s2 _ _ (s1 _ _ e)
  have lw := w2.len
  -- named
  have fitR := rows_fit (thr := ifsLater) (path := []) hv
  have eall : heldAll d ts = ((rowsW ifsLater d ts []).map fun q => slotsOf q.2).flatten := rfl
  generalize hR : rowsW ifsLater d ts [] = R at w2 lw fitR eall hrl
  rw [List.length_map] at lw
  refine ⟨_, rfl, p1, rfl, ⟨ws1, SqL.of e2⟩, fun D hD => ?_⟩
  refine walk_list (xs := ws1) (fun i H' => Same H2 H' ∧ H' D = some (SetSO P w D (addAll [] (((R.map fun q => slotsOf q.2).take i).flatten)))) ⟨same_new hD _, by rw [List.take_zero]; exact upd_same⟩ (fun i H' _ pv => SqL.of (pv.1 _ _ e2)) (fun i x H' hx pv => ?_) (fun H' pv => ?_)
  · obtain ⟨sm, hDs⟩ := pv
    obtain ⟨tq, htq, wx⟩ := w2.get hx
    rw [List.getElem?_map] at htq
    cases hq : R[i]? with
    | none => rw [hq] at htq; cases htq
    | some qr =>
      rw [hq] at htq
      cases htq
      obtain ⟨k', us, eq2, hfit⟩ := fitR qr (List.mem_of_getElem? hq)
      have eslots : slotsOf qr.2 = rowSlots k' us := by rw [eq2]; rfl
      have eacc := flat_take' (fun q : List Int × Tr => slotsOf q.2) R i qr hq
      rw [eslots] at eacc
      have lall : (((R.map fun q => slotsOf q.2).take (i + 1)).flatten).length < 60 := Nat.lt_of_le_of_lt (flat_le _ _) (by rw [← eall]; exact h60)
      rw [eacc, List.length_append] at lall
      have wx := Tw.gr (Gr.of sm) _ _ wx
      generalize hA : ((R.map fun q => slotsOf q.2).take i).flatten = A at hDs eacc lall
      cases wx with
      | @tup a2 v2 _ ha2 hl2 _ =>
      cases hl2 with
      | @cons vp vr _ _ wp hr2 =>
      cases hr2 with
      | @cons rowv _ _ _ wr hn2 =>
      cases hn2
      rw [eq2] at wr
      refine ⟨a2, [vp, rowv], rfl, SqT.of ha2, rfl, _, _, rfl, _, _, rfl, rfl, rfl, ?_⟩
      unfold tYes
      refine iteT ?_
      refine ⟨_, rfl, rowv, k', us, ws, es, rfl, wr, hfit, fun p3 H4 s4 n4 e4 => ⟨p3, rfl, ⟨_, SqL.of e4⟩, ?_⟩⟩
      have npD : p3 ≠ D := fun e => by rw [e] at n4; rw [n4] at hDs; cases hDs
      refine walk_list (xs := (rowSlots k' us).map V.str) (fun n H' => Same H2 H' ∧ H' p3 = some (.lst ((rowSlots k' us).map V.str)) ∧ H' D = some (SetSO P w D (addAll (addAll [] A) ((rowSlots k' us).take n)))) ⟨fun c o e => s4 _ _ (sm _ _ e), e4, by rw [List.take_zero]; exact s4 _ _ hDs⟩ (fun n H' _ pv => SqL.of pv.2.1) (fun n y H5 hy pv => ?_) (fun H5 pv => ?_)
      · obtain ⟨sm5, hp5, hD5⟩ := pv
        rw [List.getElem?_map] at hy
        cases hz : (rowSlots k' us)[n]? with
        | none => rw [hz] at hy; cases hy
        | some z =>
          rw [hz] at hy
          cases hy
          have room : (addAll (addAll [] A) ((rowSlots k' us).take n)).length + 1 < PySem.scanBound := by
            rw [addAll_app]
            have h1 := addAll_len [] (A ++ (rowSlots k' us).take n)
            rw [List.length_append, List.length_take] at h1
            simp only [List.length_nil] at h1
            show _ < 4096
            omega
          refine ⟨rfl, ?_⟩
          show (if true = true then _ else _)
          refine iteT ⟨_, rfl, z, _, rfl, hD5, room, same_upd hD sm5, ?_, ?_⟩
          · rw [upd_ne npD]
            exact hp5
          · rw [upd_same, addAll_take _ _ _ _ hz]
            rfl
      · obtain ⟨sm5, hp5, hD5⟩ := pv
        rw [List.length_map, List.take_length] at hD5
        refine ⟨sm5, ?_⟩
        rw [eacc, ← addAll_app]
        exact hD5
  · obtain ⟨sm, hDs⟩ := pv
    rw [List.take_of_length_le (by rw [List.length_map, lw]; exact Nat.le_refl _), ← eall] at hDs
    have l60 : (addAll [] (heldAll d ts)).length < 60 := by
      have h1 := addAll_len [] (heldAll d ts)
      simp only [List.length_nil] at h1
      omega
    refine ⟨D, _, rfl, hDs, by omega, fun ys p4 hperm hsrt hp4 => ?_⟩
    have s5 := same_new hp4 (.lst (ys.map V.str))
    have S5 : Same H (upd H' p4 (.lst (ys.map V.str))) := fun c o e => s5 _ _ (sm _ _ (S2 _ _ e))
    have lys : ys.length < 60 := by rw [hperm.length_eq]; exact l60
    refine ⟨_, rfl, p4, rfl, ⟨_, SqL.of upd_same⟩, fun D2 hD2 => ?_⟩
    refine walk_list (xs := ys.map V.str) (fun i H'' => Same (upd H' p4 (.lst (ys.map V.str))) H'' ∧ H'' D2 = some (.lst (((ys.take i).filter fun s => decide (useL s d ts = some true)).map V.str))) ⟨same_new hD2 _, by rw [List.take_zero]; exact upd_same⟩ (fun i H'' _ pv => SqL.of (pv.1 _ _ upd_same)) (fun i y H'' hy pv => ?_) (fun H'' pv => ?_)
    · obtain ⟨sm6, hD6⟩ := pv
      rw [List.getElem?_map] at hy
      cases hz : ys[i]? with
      | none => rw [hz] at hy; cases hy
      | some z =>
        rw [hz] at hy
        cases hy
        have S6 : Same H H'' := fun c o e => sm6 _ _ (S5 _ _ e)
        have etake : (ys.take (i + 1)).filter (fun s => decide (useL s d ts = some true)) = (ys.take i).filter (fun s => decide (useL s d ts = some true)) ++ (if decide (useL z d ts = some true) = true then [z] else []) := by
          rw [List.take_add_one, hz, List.filter_append]
          show _ ++ List.filter _ [z] = _
          rw [List.filter_cons, List.filter_nil]
        refine ⟨rfl, ?_⟩
        refine ⟨_, rfl, _, rfl, rv, ts, z, rfl, Tw.gr (Gr.of S6) _ _ wt, hv, fun H8 s8 => ?_⟩
        refine ⟨use_scal _ (some true), _, rfl, ?_⟩
        have er : V.str "read" = useV (some true) := rfl
        rw [er, use_eq]
        cases hu : decide (useL z d ts = some true) with
        | false =>
          refine iteF ⟨fun c o e => s8 _ _ (sm6 _ _ e), ?_⟩
          rw [etake, hu]
          simpa using s8 _ _ hD6
        | true =>
          refine iteT ⟨_, rfl, _, s8 _ _ hD6, ?_, same_upd hD2 fun c o e => s8 _ _ (sm6 _ _ e), ?_⟩
          · rw [List.length_map]
            refine Nat.lt_of_le_of_lt (show _ ≤ 60 from ?_) (by decide)
            have h1 := List.length_filter_le (fun s => decide (useL s d ts = some true)) (ys.take i)
            rw [List.length_take] at h1
            omega
          · rw [upd_same, etake, hu, List.map_append]
            rfl
    · obtain ⟨sm6, hD6⟩ := pv
      rw [List.length_map, List.take_length] at hD6
      refine ⟨D2, _, rfl, .inl ⟨SqL.of hD6, fun l hl => ?_⟩⟩
      exact q l _ ys (fun c o e => same_new hl _ _ _ (sm6 _ _ (S5 _ _ e))) hperm hsrt upd_same
end
end CA
namespace CA
open PySem L2
/-- the second item of the rows of these kinds -/
def secondOf (kinds : List Str) (t : Tr) : List Str := if kOf t ∈ kinds then ((itemsOf t).tail.head?.map txOf').toList else []
def seconds (kinds : List Str) (R : List (List Int × Tr)) : List Str := (R.map fun q => secondOf kinds q.2).flatten
def cellKinds : List Str := ["set", "turn"]
def boxKinds : List Str := ["write", "fetch"]
def firstRoles : List Str := ["cell", "box", "slot", "from"]
/-- kinds whose first item is a name -/
def nameFirst (kinds : List Str) : Bool := kinds.all fun k => match formOf k with
  | none => false
  | some roles => (match roles.head? with
    | none => false
    | some r => decide (r ∈ firstRoles))
theorem cellFirst : nameFirst cellKinds = true := by decide
theorem boxFirst : nameFirst boxKinds = true := by decide
theorem fits_name {r : Str} {t : Tr} {ws es : List Str} (h : itemFits r t ws es = true) (hr : r ∈ firstRoles) : trName t = true := by
  have e : r = "cell" ∨ r = "box" ∨ r = "slot" ∨ r = "from" := by simpa [firstRoles] using hr
  unfold itemFits at h
  rcases e with rfl | rfl | rfl | rfl
  all_goals
    rw [if_neg (by decide), if_neg (by decide), if_neg (by decide), if_neg (by decide), if_neg (by decide), if_neg (by decide)] at h
    exact h
theorem second_name {kinds : List Str} (hk : nameFirst kinds = true) {k : Str} {us : List Tr} {ws es : List Str} (h : k ∈ kinds) (hf : rowFits (.tup (tx k :: us)) ws es = true) : ∃ z rest, us = tx z :: rest := by
  have q := List.all_eq_true.mp hk k h
  obtain ⟨roles, e, d, fits⟩ := rowFits_parts hf
  simp only [e] at q
  cases roles with
  | nil => simp at q
  | cons r roles =>
    simp only [List.head?_cons] at q
    have q := of_decide_eq_true q
    cases us with
    | nil => simp at d
    | cons t us =>
      have hn := fits_name (fits 0 r t rfl rfl) q
      exact ⟨txOf' t, us, by rw [← trName_tx hn]⟩
/-- the reading of {row[1] for path, row in inside if row[0] in (k1, k2)} -/
theorem kinds_set {P : Program} {w : World} {K : PySem.W.Frag} {k1 k2 : Str} {i p r : Nat} {vs : List Nat} {σ : L2.St} {H : Hp} {Q : VK} {p1 : Addr} {ws1 : List V} {R : List (List Int × Tr)} {ws es : List Str}
    (h1 : σ[i]? = some (some (.ref p1))) (e2 : H p1 = some (.lst ws1)) (w2 : TwL H ws1 (R.map pairT)) (fitR : ∀ q ∈ R, ∃ k us, q.2 = .tup (tx k :: us) ∧ rowFits (.tup (tx k :: us)) ws es = true) (hk : nameFirst [k1, k2] = true) (h60 : (seconds [k1, k2] R).length < 60)
    (hj : ∀ x y, wipe (((wipe σ vs).set p (some x)).set r (some y)) vs = wipe σ vs) (hr : ∀ x y, (((wipe σ vs).set p (some x)).set r (some y))[r]? = some (some y))
    (q : ∀ D H', Same H H' → H D = none → H' D = some (SetSO P w D (addAll [] (seconds [k1, k2] R))) → Q (.ref D) H') :
    tGc (iList K (tVar i)) (gTup K 2 (gCons (gName p) (gCons (gName r) gNil))) (tTest (tOp (rInT K false) (tOp (rIxT K) (tVar r) (tC (.int 0))) (tTup (tCons (tC (.str k1)) (tCons (tC (.str k2)) tNil))))) (tlSet P w (tOp (rIxT K) (tVar r) (tC (.int 1)))) vs (fun D => SetSO P w D []) σ H Q := by
  have lw := w2.len
  rw [List.length_map] at lw
  refine ⟨_, h1, p1, rfl, ⟨ws1, SqL.of e2⟩, fun D hD => ?_⟩
  refine walk_list (xs := ws1) (fun i H' => Same H H' ∧ H' D = some (SetSO P w D (addAll [] (((R.map fun q => secondOf [k1, k2] q.2).take i).flatten)))) ⟨same_new hD _, by rw [List.take_zero]; exact upd_same⟩ (fun i H' _ pv => SqL.of (pv.1 _ _ e2)) (fun i x H' hx pv => ?_) (fun H' pv => ?_)
  · obtain ⟨sm, hDs⟩ := pv
    obtain ⟨tq, htq, wx⟩ := w2.get hx
    rw [List.getElem?_map] at htq
    cases hq : R[i]? with
    | none => rw [hq] at htq; cases htq
    | some qr =>
      rw [hq] at htq
      cases htq
      obtain ⟨k', us, eq2, hfit⟩ := fitR qr (List.mem_of_getElem? hq)
      have eacc := flat_take' (fun q : List Int × Tr => secondOf [k1, k2] q.2) R i qr hq
      have lall : (((R.map fun q => secondOf [k1, k2] q.2).take i).flatten).length < 60 := Nat.lt_of_le_of_lt (flat_le _ _) h60
      rw [eq2] at eacc
      have wx := Tw.gr (Gr.of sm) _ _ wx
      generalize hA : ((R.map fun q => secondOf [k1, k2] q.2).take i).flatten = A at hDs eacc lall
      cases wx with
      | @tup a2 v2 _ ha2 hl2 _ =>
      cases hl2 with
      | @cons vp vr _ _ wp hr2 =>
      cases hr2 with
      | @cons rowv _ _ _ wr hn2 =>
      cases hn2
      rw [eq2] at wr
      obtain ⟨ax, ux, rfl, hax, hux, hbx, nx⟩ := row_of wr
      have at0 : atI (V.str k' :: ux) 0 = some (.str k') := at_of (j := 0) rfl rfl
      refine ⟨a2, [vp, .ref ax], rfl, SqT.of ha2, rfl, _, _, rfl, _, _, rfl, rfl, hj _ _, ?_⟩
      refine ⟨_, hr _ _, ax, _, 0, _, rfl, rfl, SqT.of hax, at0, (show 2 ≤ sizeLine by decide), fun p2 hp2 => ⟨p2, [k1, k2], rfl, .inr (SqT.of upd_same), .flat rfl, _, rfl, ?_⟩⟩
      have s3 := same_new hp2 (.tup [V.str k1, .str k2])
      rw [inT_str]
      cases hin : decide (k' ∈ [k1, k2]) with
      | false =>
        refine iteF ⟨fun c o e => s3 _ _ (sm _ _ e), ?_⟩
        have es : secondOf [k1, k2] (.tup (tx k' :: us)) = [] := if_neg (of_decide_eq_false hin)
        rw [eacc, es, List.append_nil]
        exact s3 _ _ hDs
      | true =>
        obtain ⟨z, rest, rfl⟩ := second_name hk (of_decide_eq_true hin) hfit
        have es : secondOf [k1, k2] (.tup (tx k' :: tx z :: rest)) = [z] := if_pos (of_decide_eq_true hin)
        have hz : atI (V.str k' :: ux) 1 = some (.str z) := item_at (n := 1) (.cons (.at nx) hux) rfl
        have room : (addAll [] A).length + 1 < PySem.scanBound := by
          have h1 := addAll_len [] A
          simp only [List.length_nil] at h1
          show _ < 4096
          omega
        refine iteT ⟨_, hr _ _, ax, _, 1, _, rfl, rfl, SqT.of (s3 _ _ hax), hz, z, _, rfl, s3 _ _ hDs, room, same_upd hD fun c o e => s3 _ _ (sm _ _ e), ?_⟩
        rw [upd_same, eacc, es, ← addAll_app]
        rfl
  · obtain ⟨sm, hDs⟩ := pv
    rw [List.take_of_length_le (by rw [List.length_map, lw]; exact Nat.le_refl _)] at hDs
    exact q D H' sm hD hDs
end CA
namespace CA
open PySem L2
def pairOf (wd s : Str) : Tr := .tup [tx wd, tx s]
/-- [(wd, s) for s in a list of texts] -/
theorem lcm_pairs {K : PySem.W.Frag} {i j : Nat} {vs : List Nat} {σ : L2.St} {H : Hp} {Q : VK} {p1 : Addr} {cs : List Str} {wd : Str} (h1 : σ[i]? = some (some (.ref p1))) (e2 : H p1 = some (.lst (cs.map V.str))) (hw : wd.length ≤ 1000) (hs : ∀ s ∈ cs, s.length ≤ 1000) (hl : cs.length ≤ 1000)
    (hj : ∀ x, wipe ((wipe σ vs).set j (some x)) vs = wipe σ vs) (hr : ∀ x, ((wipe σ vs).set j (some x))[j]? = some (some x))
    (q : ∀ p H' us, Same H H' → H p = none → H' p = some (.lst us) → TwL H' us (cs.map (pairOf wd)) → Q (.ref p) H') :
    tLc (iList K (tVar i)) (gName j) tYes (tTup (tCons (tC (.str wd)) (tCons (tVar j) tNil))) vs σ H Q := by
  refine ⟨_, h1, p1, rfl, ⟨_, SqL.of e2⟩, fun D hD => ?_⟩
  refine walk_list (xs := cs.map V.str) (fun i H' => ∃ us, Same H H' ∧ H' D = some (.lst us) ∧ TwL H' us ((cs.take i).map (pairOf wd))) ⟨[], same_new hD _, upd_same, by rw [List.take_zero]; exact .nil⟩ (fun i H' _ pv => by obtain ⟨us, sm, _⟩ := pv; exact SqL.of (sm _ _ e2)) (fun i x H' hx pv => ?_) (fun H' pv => ?_)
  · obtain ⟨us, sm, hDs, hus⟩ := pv
    rw [List.getElem?_map] at hx
    cases hz : cs[i]? with
    | none => rw [hz] at hx; cases hx
    | some z =>
      rw [hz] at hx
      cases hx
      refine ⟨hj _, ?_⟩
      unfold tYes
      refine iteT ⟨_, hr _, (show 2 ≤ sizeLine by decide), fun p2 hp2 => ?_⟩
      have s3 := same_new hp2 (.tup [V.str wd, .str z])
      have lu := hus.len
      rw [List.length_map, List.length_take] at lu
      have g4 := gr_list (us := us ++ [V.ref p2]) (s3 _ _ hDs)
      refine ⟨_, s3 _ _ hDs, Nat.lt_of_le_of_lt (show _ ≤ 1000 by omega) (by decide), us ++ [V.ref p2], same_upd hD fun c o e => s3 _ _ (sm _ _ e), upd_same, ?_⟩
      rw [List.take_add_one, hz, List.map_append]
      refine TwL.app (TwL.gr ((Gr.of s3).trans g4) _ _ hus) (TwL.cons (Tw.tup (g4.tup _ _ upd_same) (TwL.cons (.at (.flat rfl hw)) (TwL.cons (.at (.flat rfl (hs z (List.mem_of_getElem? hz)))) TwL.nil)) (show 2 ≤ 1000 by decide)) TwL.nil)
  · obtain ⟨us, sm, hDs, hus⟩ := pv
    rw [List.length_map, List.take_length] at hus
    exact q D H' us sm hD hDs hus
def spLinks (ws es : List Str) (d : Nat) : Sp := fun vs H Q _ => ∃ rv ts, vs = [rv] ∧ Tw H rv (.tup ts) ∧ Val ws es d ts ∧ 2 * d ≤ 100 ∧ (rowsW ifsLater d ts []).length ≤ 1000 ∧ (seconds cellKinds (rowsW ifsLater d ts [])).length < 60 ∧ (seconds boxKinds (rowsW ifsLater d ts [])).length < 60 ∧
  ∀ v H' cs bs, Same H H' → cs.Perm (addAll [] (seconds cellKinds (rowsW ifsLater d ts []))) → PyProof.Rows.sortedS cs = true → bs.Perm (addAll [] (seconds boxKinds (rowsW ifsLater d ts []))) → PyProof.Rows.sortedS bs = true →
    Tw H' v (.tup (cs.map (pairOf "cell") ++ bs.map (pairOf "box"))) → Q v H'
theorem nmS_len {s : Str} (h : nmS s = true) : s.length ≤ 8 := by
  unfold nmS at h
  simp only [Bool.and_eq_true, decide_eq_true_eq] at h
  omega
theorem seconds_small {kinds : List Str} {R : List (List Int × Tr)} {ws es : List Str} (hk : nameFirst kinds = true) (fitR : ∀ q ∈ R, ∃ k us, q.2 = .tup (tx k :: us) ∧ rowFits (.tup (tx k :: us)) ws es = true) : ∀ s ∈ seconds kinds R, s.length ≤ 8 := by
  intro s hs
  obtain ⟨l, hl, hs⟩ := List.mem_flatten.mp hs
  obtain ⟨q, hq, rfl⟩ := List.mem_map.mp hl
  obtain ⟨k, us, e, hf⟩ := fitR q hq
  rw [e] at hs
  unfold secondOf at hs
  split at hs
  · rename_i hin
    obtain ⟨roles, e2, d, fits⟩ := rowFits_parts hf
    have q2 := List.all_eq_true.mp hk k hin
    simp only [e2] at q2
    cases roles with
    | nil => simp at q2
    | cons r roles =>
      simp only [List.head?_cons] at q2
      cases us with
      | nil => simp at d
      | cons t us =>
        have hn := fits_name (fits 0 r t rfl rfl) (of_decide_eq_true q2)
        have e3 := trName_tx hn
        have hs : s ∈ [txOf' t] := hs
        rw [List.mem_singleton] at hs
        rw [e3] at hn
        rw [hs]
        exact nmS_len hn
  · cases hs
structure TxtL (K : PySem.W.Frag) (mg : Str → Option Value) (fw aI : Addr) : Prop where
  g_rows_within : mg "rows_within" = some (.ref fw)
  k_rows_within : PySem.W.keepIn K (.ref fw) = true
  IFS_AND_LATER : mg "IFS_AND_LATER" = some (.ref aI)
  sI : ∀ H, SqT K H aI (ifsLater.map V.str)
section
variable {P : Program} {w : World} {K : PySem.W.Frag} {mg : Str → Option Value} {base : Heap} {fw aI : Addr} {ws es : List Str}
abbrev s_links_of : Stmt := topS 52
theorem sc_links_of : FnScope ["rows", "inside", "cells", "boxes", "path", "row", "slot", "box"] ["rows"] (defScope s_links_of) := ⟨rfl, rfl, rfl, by decide +kernel, rfl, by decide +kernel, by decide +kernel⟩
theorem ok_links_of {d k : Nat} {f : Addr} {fd fdw : FuncData} (F : Fun K "links_of" "links_of" s_links_of f fd) (B : Blt mg) (T : TxtL K mg fw aI) (Gw : FnOk P w K mg base CX0 k fw fdw ["rows", "path", "through"] (spRows K d)) (bw : Binds K fdw ["rows", "path", "through"] []) : FnOk P w K mg base CX0 (k + 1) f fd ["rows"] (spLinks ws es d) := by
  refine F.ok sc_links_of (fun vs H Q E h => ?_) (fun cdv A outer s H vs Q E hr h => ?_)
  · obtain ⟨rv, ts, rfl, _⟩ := h
    rfl
  obtain ⟨rv, ts, rfl, wt, hv, h2d, hrl, hc60, hb60, q⟩ := h
  refine ⟨_, (pss_cons (ps_set (i := 1) sc_links_of.nd rfl (Or.inl rfl) (pe_call Gw hr rfl T.g_rows_within T.k_rows_within bw .nil pass0 (pa_cons (pv 0) (pa_cons (pe_tup pa_nil) (pa_cons (pe_gr T.IFS_AND_LATER) pa_nil)))))
  (pss_cons (ps_set (i := 2) sc_links_of.nd rfl (Or.inl rfl) (pe_callB (cr_sortSetS rfl) (by rfl) B.sorted (by decide +kernel) (pa_cons
    (pe_set1 (own := [("path", 4), ("row", 5)]) (wi := iList K (tVar 1)) (g := gTup K 2 (gCons (gName 4) (gCons (gName 5) gNil))) (tt := tTest (tOp (rInT K false) (tOp (rIxT K) (tVar 5) (tC (.int 0))) (tTup (tCons (tC (.str "set")) (tCons (tC (.str "turn")) tNil))))) (te := tOp (rIxT K) (tVar 5) (tC (.int 1))) rfl sc_links_of.nd (pi_list (pv 1))
      (blkOk_by (own := [("path", 4), ("row", 5)]) (N := ["rows", "inside", "cells", "boxes", "path", "row", "slot", "box"]) (sc := defScope s_links_of) (by decide +kernel))
      (fun s H C cl fp => pg_tup rfl (pgs_cons (pg_name (i := 4) sc_links_of.nd rfl (Or.inl rfl)) (pgs_cons (pg_name (i := 5) sc_links_of.nd rfl (Or.inl rfl)) pgs_nil)))
      (fun s H C cl fp => pts_one (pt_cmpR (op_inT (units2 hr)) (pe_ix ix_tup (pv 5) pe_int (fun _ _ => rfl)) (pe_tup (pa_cons pe_str (pa_cons pe_str pa_nil))) (by rfl))) (fun s H C cl fp => pe_ix ix_tup (pv 5) pe_int (fun _ _ => rfl))) pa_nil)))
  (pss_cons (ps_set (i := 3) sc_links_of.nd rfl (Or.inl rfl) (pe_callB (cr_sortSetS rfl) (by rfl) B.sorted (by decide +kernel) (pa_cons
    (pe_set1 (own := [("path", 4), ("row", 5)]) (wi := iList K (tVar 1)) (g := gTup K 2 (gCons (gName 4) (gCons (gName 5) gNil))) (tt := tTest (tOp (rInT K false) (tOp (rIxT K) (tVar 5) (tC (.int 0))) (tTup (tCons (tC (.str "write")) (tCons (tC (.str "fetch")) tNil))))) (te := tOp (rIxT K) (tVar 5) (tC (.int 1))) rfl sc_links_of.nd (pi_list (pv 1))
      (blkOk_by (own := [("path", 4), ("row", 5)]) (N := ["rows", "inside", "cells", "boxes", "path", "row", "slot", "box"]) (sc := defScope s_links_of) (by decide +kernel))
      (fun s H C cl fp => pg_tup rfl (pgs_cons (pg_name (i := 4) sc_links_of.nd rfl (Or.inl rfl)) (pgs_cons (pg_name (i := 5) sc_links_of.nd rfl (Or.inl rfl)) pgs_nil)))
      (fun s H C cl fp => pts_one (pt_cmpR (op_inT (units2 hr)) (pe_ix ix_tup (pv 5) pe_int (fun _ _ => rfl)) (pe_tup (pa_cons pe_str (pa_cons pe_str pa_nil))) (by rfl))) (fun s H C cl fp => pe_ix ix_tup (pv 5) pe_int (fun _ _ => rfl))) pa_nil)))
  (pss_one (ps_ret (pe_callTy call_tuple_of (by rfl) B.tuple (by decide +kernel) (pa_cons (pe_op op_cat
    (pe_lc (own := [("slot", 6)]) (wi := iList K (tVar 2)) (g := gName 6) (tt := tYes) (te := tTup (tCons (tC (.str "cell")) (tCons (tVar 6) tNil))) rfl sc_links_of.nd (pi_list (pv 2)) (blkOk_by (own := [("slot", 6)]) (N := ["rows", "inside", "cells", "boxes", "path", "row", "slot", "box"]) (sc := defScope s_links_of) (by decide +kernel))
      (fun s H C cl fp => pg_name (i := 6) sc_links_of.nd rfl (Or.inl rfl)) (fun s H C cl fp => pts_nil) (fun s H C cl fp => pe_tup (pa_cons pe_str (pa_cons (pv 6) pa_nil))))
    (pe_lc (own := [("box", 7)]) (wi := iList K (tVar 3)) (g := gName 7) (tt := tYes) (te := tTup (tCons (tC (.str "box")) (tCons (tVar 7) tNil))) rfl sc_links_of.nd (pi_list (pv 3)) (blkOk_by (own := [("box", 7)]) (N := ["rows", "inside", "cells", "boxes", "path", "row", "slot", "box"]) (sc := defScope s_links_of) (by decide +kernel))
      (fun s H C cl fp => pg_name (i := 7) sc_links_of.nd rfl (Or.inl rfl)) (fun s H C cl fp => pts_nil) (fun s H C cl fp => pe_tup (pa_cons pe_str (pa_cons (pv 7) pa_nil))))) pa_nil))))))), ?_⟩
  refine ⟨_, rfl, by decide, fun pe hpe => ?_⟩
  have s1 := same_new hpe (.tup [])
  refine ⟨rv, pe, aI, ts, [], ifsLater, rfl, Tw.gr (Gr.of s1) _ _ wt, hv.shp, upd_same, T.sI _, by simpa using h2d, hrl, fun p1 H2 ws1 s2 n2 e2 w2 => ?_⟩
  have S2 : Same H H2 := fun c o e => s2 _ _ (s1 _ _ e)
  have fitR := rows_fit (thr := ifsLater) (path := []) hv
  generalize hR : rowsW ifsLater d ts [] = R at w2 fitR hrl hc60 hb60 q
  have cut : ∀ (kinds : List Str) (ys : List Str), ys.Perm (addAll [] (seconds kinds R)) → (seconds kinds R).length < 60 → ys.length < 60 := fun kinds ys h h6 => by
    rw [h.length_eq]
    have h1 := addAll_len [] (seconds kinds R)
    simp only [List.length_nil] at h1
    omega
  have sml : ∀ (kinds : List Str), nameFirst kinds = true → ∀ ys : List Str, ys.Perm (addAll [] (seconds kinds R)) → ∀ s ∈ ys, s.length ≤ 1000 := fun kinds hk ys h s hs => by
    have h1 := h.mem_iff.mp hs
    rw [addAll_mem] at h1
    rcases h1 with h1 | h1
    · cases h1
    · exact Nat.le_trans (seconds_small hk fitR s h1) (by decide)
  dsimp only [gName, tSeq, tAsg, tCB, tCons, tNil]
  refine kinds_set (P := P) (w := w) (K := K) (i := 1) (p := 4) (r := 5) (vs := [4, 5]) (σ := [some rv, some (.ref p1), none, none, none, none, none, none]) rfl e2 w2 fitR cellFirst hc60 (fun _ _ => rfl) (fun _ _ => rfl) fun D H3 s3 hD hD3 => ?_
  have hlc : (addAll [] (seconds cellKinds R)).length < 64 := by
    have h1 := addAll_len [] (seconds cellKinds R)
    simp only [List.length_nil] at h1
    omega
  have hlb : (addAll [] (seconds boxKinds R)).length < 64 := by
    have h1 := addAll_len [] (seconds boxKinds R)
    simp only [List.length_nil] at h1
    omega
  refine ⟨D, _, rfl, hD3, hlc, fun cs p4 hcp hcs hp4 => ?_⟩
  have s4 := same_new hp4 (.lst (cs.map V.str))
  have S4 : Same H2 (upd H3 p4 (.lst (cs.map V.str))) := fun c o e => s4 _ _ (s3 _ _ e)
  dsimp only [gName, tSeq, tAsg, tCB, tCons, tNil]
  refine kinds_set (P := P) (w := w) (K := K) (i := 1) (p := 4) (r := 5) (vs := [4, 5]) (σ := [some rv, some (.ref p1), some (.ref p4), none, none, none, none, none]) rfl (S4 _ _ e2) (TwL.gr (Gr.of S4) _ _ w2) fitR boxFirst hb60 (fun _ _ => rfl) (fun _ _ => rfl) fun D5 H5 s5 hD5 hD5' => ?_
  refine ⟨D5, _, rfl, hD5', hlb, fun bs p6 hbp hbs hp6 => ?_⟩
  have s6 := same_new hp6 (.lst (bs.map V.str))
  have S6 : Same H (upd H5 p6 (.lst (bs.map V.str))) := fun c o e => s6 _ _ (s5 _ _ (S4 _ _ (S2 _ _ e)))
  have hc : (upd H5 p6 (.lst (bs.map V.str))) p4 = some (.lst (cs.map V.str)) := s6 _ _ (s5 _ _ upd_same)
  have lc := cut _ cs hcp hc60
  have lb := cut _ bs hbp hb60
  dsimp only [tRet, tCB, tCons, tNil, tOp, gName]
  refine lcm_pairs (K := K) (i := 2) (j := 6) (vs := [6]) (σ := [some rv, some (.ref p1), some (.ref p4), some (.ref p6), none, none, none, none]) (cs := cs) rfl hc (by decide) (sml _ cellFirst cs hcp) (by omega) (fun _ => rfl) (fun _ => rfl) fun p7 H7 us7 s7 n7 e7 w7 => ?_
  refine lcm_pairs (K := K) (i := 3) (j := 7) (vs := [7]) (σ := [some rv, some (.ref p1), some (.ref p4), some (.ref p6), none, none, none, none]) (cs := bs) rfl (s7 _ _ upd_same) (by decide) (sml _ boxFirst bs hbp) (by omega) (fun _ => rfl) (fun _ => rfl) fun p8 H8 us8 s8 n8 e8 w8 => ?_
  have l7 := w7.len
  have l8 := w8.len
  rw [List.length_map] at l7 l8
  refine ⟨p7, p8, us7, us8, rfl, rfl, s8 _ _ e7, e8, Nat.le_trans (show _ ≤ 200 by omega) (by decide), fun p9 hp9 => ?_⟩
  have s9 := same_new hp9 (.lst (us7 ++ us8))
  refine ⟨p9, _, rfl, .inl ⟨SqL.of upd_same, fun pr hpr => ?_⟩⟩
  have s10 := same_new hpr (.tup (us7 ++ us8))
  refine q (.ref pr) _ cs bs (fun c o e => s10 _ _ (s9 _ _ (s8 _ _ (s7 _ _ (S6 _ _ e))))) hcp hcs hbp hbs (.tup upd_same (TwL.app (TwL.gr ((Gr.of s8).trans ((Gr.of s9).trans (Gr.of s10))) _ _ w7) (TwL.gr ((Gr.of s9).trans (Gr.of s10)) _ _ w8)) ?_)
  rw [List.length_append, List.length_map, List.length_map]
  omega
end
end CA
namespace CA
open PySem L2
def coverKinds : List Str := ["cell", "kept", "put", "map"]
def makeKinds : List Str := ["cell", "box"]
theorem coverFirst : nameFirst coverKinds = true := by decide
theorem makeFirst : nameFirst makeKinds = true := by decide
def coversIn (k : Str) (us : List Tr) (ins : List Str) : Bool := if decide (k ∈ coverKinds) then decide (txOf' (us.headD (tx "")) ∈ ins) else false
def spCovers : Sp := fun vs H Q _ => ∃ rv k us ws es pi ins, vs = [rv, .ref pi] ∧ Tw H rv (.tup (tx k :: us)) ∧ rowFits (.tup (tx k :: us)) ws es = true ∧ H pi = some (.tup (ins.map V.str)) ∧ ∀ H', Same H H' → Q (.bl (coversIn k us ins)) H'
/-- the makers: the first row of each cell and of each box -/
abbrev mkKey (kind name : Str) : List Key := [.inr kind, .inr name]
def lacksM (k : Str) (us : List Tr) (has : Str → Str → Bool) : Bool :=
  if decide (k ∈ cellKinds) then !has "cell" (txOf' (us.headD (tx ""))) else if decide (k ∈ boxKinds) then !has "box" (txOf' (us.headD (tx ""))) else false
def spLacks : Sp := fun vs H Q _ => ∃ rv k us ws es pm kvs, vs = [rv, .ref pm] ∧ Tw H rv (.tup (tx k :: us)) ∧ rowFits (.tup (tx k :: us)) ws es = true ∧ H pm = some (.dT kvs) ∧ ∀ H', Same H H' → Q (.bl (lacksM k us fun a b => (valV kvs (mkKey a b)).isSome)) H'
section
variable {P : Program} {w : World} {K : PySem.W.Frag} {mg : Str → Option Value} {base : Heap}
abbrev s_covers_input : Stmt := topS 42
theorem sc_covers_input : FnScope ["row", "inputs"] ["row", "inputs"] (defScope s_covers_input) := ⟨rfl, rfl, rfl, by decide +kernel, rfl, by decide +kernel, by decide +kernel⟩
theorem ok_covers_input {f : Addr} {fd : FuncData} (F : Fun K "covers_input" "covers_input" s_covers_input f fd) : FnOk P w K mg base CX0 1 f fd ["row", "inputs"] spCovers := by
  refine F.ok sc_covers_input (fun vs H Q E h => ?_) (fun cdv A outer s H vs Q E hr h => ?_)
  · obtain ⟨rv, k, us, ws, es, pi, ins, rfl, _⟩ := h
    rfl
  obtain ⟨rv, k, us, ws, es, pi, ins, rfl, wt, hf, hpi, q⟩ := h
  refine ⟨_, (pss_one (ps_ret (pe_and (pe_cmpR (op_inT (units2 hr)) (pe_ix ix_tup (pv 0) pe_int (fun _ _ => rfl)) (pe_tup (pa_cons pe_str (pa_cons pe_str (pa_cons pe_str (pa_cons pe_str pa_nil))))) (by rfl)) (pe_one (pe_cmpR (op_inT (units2 hr)) (pe_ix ix_tup (pv 0) pe_int (fun _ _ => rfl)) (pv 1) (by rfl)))))), ?_⟩
  obtain ⟨a, ux, rfl, ha, hux, hbx, nx⟩ := row_of wt
  have at0 : atI (V.str k :: ux) 0 = some (.str k) := at_of (j := 0) rfl rfl
  refine ⟨_, rfl, a, _, 0, _, rfl, rfl, SqT.of ha, at0, (show 4 ≤ sizeLine by decide), fun p hp => ⟨p, coverKinds, rfl, .inr (SqT.of upd_same), .flat rfl, _, rfl, ?_⟩⟩
  have s1 := same_new hp (.tup (coverKinds.map V.str))
  rw [inT_str]
  have fin : ∀ c : Bool, coversIn k us ins = c → ∀ H', Same H H' → Q (.bl c) H' := fun c e H' s => by rw [← e]; exact q H' s
  unfold coversIn at fin
  cases hk : decide (k ∈ coverKinds) with
  | false =>
    rw [hk] at fin
    exact iteF (fin _ rfl _ s1)
  | true =>
    obtain ⟨z, rest, rfl⟩ := second_name coverFirst (of_decide_eq_true hk) hf
    have hz : atI (V.str k :: ux) 1 = some (.str z) := item_at (n := 1) (.cons (.at nx) hux) rfl
    rw [hk] at fin
    refine iteT ⟨_, rfl, a, _, 1, _, rfl, rfl, SqT.of (s1 _ _ ha), hz, _, rfl, pi, ins, rfl, .inr (SqT.of (s1 _ _ hpi)), .flat rfl, ?_⟩
    rw [inT_str]
    exact fin _ rfl _ s1
abbrev s_lacks_maker : Stmt := topS 43
theorem sc_lacks_maker : FnScope ["row", "makers"] ["row", "makers"] (defScope s_lacks_maker) := ⟨rfl, rfl, rfl, by decide +kernel, rfl, by decide +kernel, by decide +kernel⟩
theorem ok_lacks_maker {f : Addr} {fd : FuncData} (F : Fun K "lacks_maker" "lacks_maker" s_lacks_maker f fd) : FnOk P w K mg base CX0 1 f fd ["row", "makers"] spLacks := by
  refine F.ok sc_lacks_maker (fun vs H Q E h => ?_) (fun cdv A outer s H vs Q E hr h => ?_)
  · obtain ⟨rv, k, us, ws, es, pm, kvs, rfl, _⟩ := h
    rfl
  obtain ⟨rv, k, us, ws, es, pm, kvs, rfl, wt, hf, hpm, q⟩ := h
  refine ⟨_, (pss_cons (ps_if (pt_cmpR (op_inT (units2 hr)) (pe_ix ix_tup (pv 0) pe_int (fun _ _ => rfl)) (pe_tup (pa_cons pe_str (pa_cons pe_str pa_nil))) (by rfl))
    (pss_one (ps_ret (pe_cmp (pc_dnotin (units2 hr) (pe_tup (pa_cons pe_str (pa_cons (pe_ix ix_tup (pv 0) pe_int (fun _ _ => rfl)) pa_nil))) (pv 1)) (by rfl))))
    pss_nil)
  (pss_cons (ps_if (pt_cmpR (op_inT (units2 hr)) (pe_ix ix_tup (pv 0) pe_int (fun _ _ => rfl)) (pe_tup (pa_cons pe_str (pa_cons pe_str pa_nil))) (by rfl))
    (pss_one (ps_ret (pe_cmp (pc_dnotin (units2 hr) (pe_tup (pa_cons pe_str (pa_cons (pe_ix ix_tup (pv 0) pe_int (fun _ _ => rfl)) pa_nil))) (pv 1)) (by rfl))))
    pss_nil)
  (pss_one (ps_ret pe_bl)))), ?_⟩
  obtain ⟨a, ux, rfl, ha, hux, hbx, nx⟩ := row_of wt
  have at0 : atI (V.str k :: ux) 0 = some (.str k) := at_of (j := 0) rfl rfl
  have fin : ∀ c : Bool, lacksM k us (fun a b => (valV kvs (mkKey a b)).isSome) = c → ∀ H', Same H H' → Q (.bl c) H' := fun c e H' s => by rw [← e]; exact q H' s
  unfold lacksM at fin
  refine ⟨_, rfl, a, _, 0, _, rfl, rfl, SqT.of ha, at0, (show 2 ≤ sizeLine by decide), fun p hp => ⟨p, cellKinds, rfl, .inr (SqT.of upd_same), .flat rfl, _, rfl, ?_⟩⟩
  have s1 := same_new hp (.tup (cellKinds.map V.str))
  rw [inT_str]
  cases hk : decide (k ∈ cellKinds) with
  | true =>
    obtain ⟨z, rest, rfl⟩ := second_name cellFirst (of_decide_eq_true hk) hf
    have hz : atI (V.str k :: ux) 1 = some (.str z) := item_at (n := 1) (.cons (.at nx) hux) rfl
    rw [hk] at fin
    refine iteT ⟨_, rfl, a, _, 1, _, rfl, rfl, SqT.of (s1 _ _ ha), hz, (show 2 ≤ sizeLine by decide), fun p2 hp2 => ?_⟩
    have s2 := same_new hp2 (.tup [V.str "cell", .str z])
    refine ⟨_, rfl, pm, _, rfl, DGet.t (k := mkKey "cell" z) (s2 _ _ (s1 _ _ hpm)) upd_same, fin _ rfl _ fun c o e => s2 _ _ (s1 _ _ e)⟩
  | false =>
    rw [hk] at fin
    refine iteF ⟨_, rfl, a, _, 0, _, rfl, rfl, SqT.of (s1 _ _ ha), at0, (show 2 ≤ sizeLine by decide), fun p3 hp3 => ⟨p3, boxKinds, rfl, .inr (SqT.of upd_same), .flat rfl, _, rfl, ?_⟩⟩
    have s3 := same_new hp3 (.tup (boxKinds.map V.str))
    rw [inT_str]
    cases hk2 : decide (k ∈ boxKinds) with
    | true =>
      obtain ⟨z, rest, rfl⟩ := second_name boxFirst (of_decide_eq_true hk2) hf
      have hz : atI (V.str k :: ux) 1 = some (.str z) := item_at (n := 1) (.cons (.at nx) hux) rfl
      rw [hk2] at fin
      refine iteT ⟨_, rfl, a, _, 1, _, rfl, rfl, SqT.of (s3 _ _ (s1 _ _ ha)), hz, (show 2 ≤ sizeLine by decide), fun p2 hp2 => ?_⟩
      have s2 := same_new hp2 (.tup [V.str "box", .str z])
      refine ⟨_, rfl, pm, _, rfl, DGet.t (k := mkKey "box" z) (s2 _ _ (s3 _ _ (s1 _ _ hpm))) upd_same, fin _ rfl _ fun c o e => s2 _ _ (s3 _ _ (s1 _ _ e))⟩
    | false =>
      rw [hk2] at fin
      exact iteF (fin _ rfl _ fun c o e => s3 _ _ (s1 _ _ e))
end
end CA
namespace CA
open PySem L2
/-- the loop over the items of a locked dict with tuple keys -/
theorem for_itemsT {d : Addr} {o : Obj} {kvs : List (List Key × V)} {g : TG} {tb : TS} {D : Ends} {σ : L2.St} {H : Hp} (Pv : Nat → L2.St → Hp → Prop) (h0 : Pv 0 σ H) (hl : ∀ i σ H, Pv i σ H → H d = some (.frz o (.dT kvs)))
    (hs : ∀ (i : Nat) (k : List Key) (v : V) (q T : Addr) (σ : L2.St) (H : Hp), kvs[i]? = some (k, v) → Pv i σ H → H T = none → H q = some (.tup (k.map kV)) → g (.ref T) σ (upd H T (.tup [.ref q, v])) fun σ2 H2 => tb { D with nx := Pv (i + 1), ct := Pv (i + 1), bk := D.nx } σ2 H2) (hd : ∀ σ H, Pv kvs.length σ H → D.nx σ H) :
    ∃ W : Nat → Nat → L2.St → Hp → Prop, (∃ m, W 0 m σ H) ∧ ∀ i m σ H, W i m σ H →
      ((ItiT d o kvs).stop i H ∧ D.nx σ H) ∨ ((ItiT d o kvs).go i H ∧ ∃ N : L2.St → Hp → Prop, (∀ σ' H', N σ' H' → ∃ m', m' < m ∧ W (i + 1) m' σ' H') ∧ ∀ x H', (ItiT d o kvs).yld i H x H' → g x σ H' fun σ2 H2 => tb { D with nx := N, ct := N, bk := D.nx } σ2 H2) := by
  refine ⟨fun i m σ H => m = kvs.length - i ∧ i ≤ kvs.length ∧ Pv i σ H, ⟨kvs.length, by simp, Nat.zero_le _, h0⟩, ?_⟩
  rintro i m σ H ⟨rfl, hi, p⟩
  have q := hl i σ H p
  by_cases hlt : i < kvs.length
  · refine .inr ⟨⟨q, hlt⟩, Pv (i + 1), fun σ' H' p' => ⟨kvs.length - (i + 1), by omega, rfl, hlt, p'⟩, fun x H' y => ?_⟩
    obtain ⟨T, k, v, qa, hk, rfl, hT, hq, rfl⟩ := y
    exact hs i k v qa T σ H hk p hT hq
  · have e : i = kvs.length := by omega
    subst e
    exact .inl ⟨⟨q, Nat.le_refl _⟩, hd σ H p⟩
/-- the dict of the rows by their paths -/
inductive DAt (H : Hp) : List (List Key × V) → List (List Int × Tr) → Prop
  | nil : DAt H [] []
  | cons {v : V} {kvs : List (List Key × V)} {q : List Int × Tr} {R : List (List Int × Tr)} : Tw H v q.2 → DAt H kvs R → DAt H ((q.1.map Sum.inl, v) :: kvs) (q :: R)
theorem DAt.gr {H H' : Hp} (g : Gr H H') : ∀ {kvs R}, DAt H kvs R → DAt H' kvs R
  | _, _, .nil => .nil
  | _, _, .cons w d => .cons (Tw.gr g _ _ w) (DAt.gr g d)
theorem DAt.len {H : Hp} : ∀ {kvs R}, DAt H kvs R → kvs.length = R.length
  | _, _, .nil => rfl
  | _, _, .cons _ d => by rw [List.length_cons, List.length_cons, DAt.len d]
theorem DAt.get {H : Hp} : ∀ {kvs R} {i : Nat} {k : List Key} {v : V}, DAt H kvs R → kvs[i]? = some (k, v) → ∃ q, R[i]? = some q ∧ k = q.1.map Sum.inl ∧ Tw H v q.2
  | _, _, _, _, _, .nil, h => by simp at h
  | _, _, 0, k, v, .cons (q := q) w _, h => by
    simp at h
    exact ⟨q, rfl, h.1.symm, h.2 ▸ w⟩
  | _, _, i + 1, _, _, .cons _ d, h => by
    obtain ⟨q, e, r⟩ := DAt.get (i := i) d (by simpa using h)
    exact ⟨q, by simpa using e, r⟩
theorem kV_ints (is : List Int) : (is.map Sum.inl : List Key).map kV = is.map V.int := by
  rw [List.map_map]
  rfl
/-- the makers at their dict -/
def MkAt (H : Hp) (kvs : List (List Key × V)) (ms : List ((Str × Str) × List Int)) : Prop := ∀ a b, (ms.lookup (a, b) = none → valV kvs (mkKey a b) = none) ∧ (∀ path, ms.lookup (a, b) = some path → ∃ p, valV kvs (mkKey a b) = some (.ref p) ∧ H p = some (.tup (path.map V.int)))
/-- what the rows of the call make: the first row of each name -/
def makersStep (ms : List ((Str × Str) × List Int)) (q : List Int × Tr) : List ((Str × Str) × List Int) :=
  if kOf q.2 ∈ makeKinds then (match ms.lookup (kOf q.2, txOf' ((itemsOf q.2).tail.headD (tx ""))) with
    | none => ms ++ [((kOf q.2, txOf' ((itemsOf q.2).tail.headD (tx ""))), q.1)]
    | some _ => ms) else ms
def makersOf (R : List (List Int × Tr)) : List ((Str × Str) × List Int) := R.foldl makersStep []
end CA
namespace CA
open PySem L2
theorem lookup_snoc {α β : Type} [DecidableEq α] [BEq α] [LawfulBEq α] (l : List (α × β)) (k : α) (v : β) (j : α) (h : l.lookup k = none) : (l ++ [(k, v)]).lookup j = if j = k then some v else l.lookup j := by
  rw [List.lookup_append]
  by_cases e : j = k
  · subst e
    rw [h, if_pos rfl]
    simp [List.lookup]
  · rw [if_neg e]
    have e3 : (j == k) = false := beq_false_of_ne e
    have e2 : List.lookup j [(k, v)] = none := by
      simp [List.lookup, e3]
    rw [e2]
    cases l.lookup j <;> rfl
theorem mk_inj {a b c d : Str} (h : mkKey a b = mkKey c d) : a = c ∧ b = d := by
  injection h with h1 h2
  injection h2 with h2 _
  exact ⟨by injection h1, by injection h2⟩
theorem MkAt.tup {H H' : Hp} {kvs : List (List Key × V)} {ms : List ((Str × Str) × List Int)} (h : MkAt H kvs ms) (g : ∀ a xs, H a = some (.tup xs) → H' a = some (.tup xs)) : MkAt H' kvs ms := fun a b =>
  ⟨(h a b).1, fun path e => let ⟨p, e1, e2⟩ := (h a b).2 path e; ⟨p, e1, g _ _ e2⟩⟩
theorem MkAt.put {H : Hp} {kvs : List (List Key × V)} {ms : List ((Str × Str) × List Int)} {k z : Str} {path : List Int} {q : Addr} (h : MkAt H kvs ms) (hn : ms.lookup (k, z) = none) (hq : H q = some (.tup (path.map V.int))) : MkAt H (putK kvs (mkKey k z) (.ref q)) (ms ++ [((k, z), path)]) := fun a b => by
  rw [lookup_snoc _ _ _ _ hn, valV_put]
  by_cases e : a = k ∧ b = z
  · obtain ⟨rfl, rfl⟩ := e
    rw [if_pos rfl, if_pos rfl]
    exact ⟨fun e => (by cases e), fun p e => (by cases e; exact ⟨q, rfl, hq⟩)⟩
  · have e1 : ¬ ((a, b) = (k, z)) := fun h => e ⟨congrArg Prod.fst h, congrArg Prod.snd h⟩
    have e2 : ¬ (mkKey a b = mkKey k z) := fun h => e (mk_inj h)
    rw [if_neg e1, if_neg e2]
    exact h a b
theorem fold_take {α β : Type} (f : β → α → β) (b : β) (l : List α) (i : Nat) (x : α) (h : l[i]? = some x) : (l.take (i + 1)).foldl f b = f ((l.take i).foldl f b) x := by
  rw [List.take_add_one, h, List.foldl_append]
  rfl
theorem made_len (kind : Str) (us : List Tr) (ws es : List Str) (h : kind ∈ makeKinds) (hf : rowFits (.tup (tx kind :: us)) ws es = true) : us.length = 2 := by
  obtain ⟨roles, e, d, _⟩ := rowFits_parts hf
  have q : ∀ k ∈ makeKinds, (formOf k).all (fun r => decide (r.length = 2)) = true := by decide
  have z := q kind h
  rw [e] at z
  have z : decide (roles.length = 2) = true := z
  rw [d]
  exact of_decide_eq_true z
def spMakers : Sp := fun vs H Q _ => ∃ pd kvs R ws es, vs = [.ref pd] ∧ H pd = some (.dT kvs) ∧ DAt H kvs R ∧ (∀ q ∈ R, ∃ k us, q.2 = .tup (tx k :: us) ∧ rowFits (.tup (tx k :: us)) ws es = true) ∧ R.length ≤ 1000 ∧
  ∀ pm H' mk, Same H H' → H pm = none → H' pm = some (.dT mk) → MkAt H' mk (makersOf R) → Q (.ref pm) H'
section
variable {P : Program} {w : World} {K : PySem.W.Frag} {mg : Str → Option Value} {base : Heap}
abbrev s_first_makers : Stmt := topS 40
theorem sc_first_makers : FnScope ["of_call", "makers", "path", "row"] ["of_call"] (defScope s_first_makers) := ⟨rfl, rfl, rfl, by decide +kernel, rfl, by decide +kernel, by decide +kernel⟩
theorem ok_first_makers {f : Addr} {fd : FuncData} (F : Fun K "first_makers" "first_makers" s_first_makers f fd) : FnOk P w K mg base CX0 1 f fd ["of_call"] spMakers := by
  refine F.ok sc_first_makers (fun vs H Q E h => ?_) (fun cdv A outer s H vs Q E hr h => ?_)
  · obtain ⟨pd, kvs, R, ws, es, rfl, _⟩ := h
    rfl
  obtain ⟨pd, kvs, R, ws, es, rfl, hd, dat, fits, hRl, q⟩ := h
  refine ⟨_, (pss_cons (ps_set (i := 1) sc_first_makers.nd rfl (Or.inl rfl) pe_dnewT)
  (pss_cons (ps_lock (ps_for PassesOwn.never rfl (pi_itemsT (pv 0)) (pg_tup rfl (pgs_cons (pg_name (i := 2) sc_first_makers.nd rfl (Or.inl rfl)) (pgs_cons (pg_name (i := 3) sc_first_makers.nd rfl (Or.inl rfl)) pgs_nil)))
    (pss_one (ps_if (pt_cmpR (op_inT (units2 hr)) (pe_ix ix_tup (pv 3) pe_int (fun _ _ => rfl)) (pe_tup (pa_cons pe_str (pa_cons pe_str pa_nil))) (by rfl))
        (pss_one (ps_expr (pe_tsetd (units2 hr) (pv 1) (pe_slice sl_tup (pv 3) po_none (po_some pe_int)) (pv 2) ⟨rfl, rfl, rfl, rfl⟩)))
        pss_nil))))
  (pss_one (ps_ret (pv 1))))), ?_⟩
  have npm : ∀ {pm : Addr}, H pm = none → pm ≠ pd := fun h e => by rw [e, hd] at h; cases h
  refine fun pm hpm => ?_
  have s1 := same_new hpm (.dT [])
  have ne := npm hpm
  refine ⟨pd, .dT kvs, s1 _ _ hd, trivial, fun od => ?_⟩
  have gB : ∀ {H' : Hp}, (∀ b o, b ≠ pd → H b = some o → H' b = some o) → Gr H H' := fun {H'} h =>
    ⟨fun a xs e => h _ _ (ne_of e hd (by intro z; cases z)) e, fun a xs e => ⟨_, h _ _ (ne_of e hd (by intro z; cases z)) e⟩, fun a xs e => ⟨_, h _ _ (ne_of e hd (by intro z; cases z)) e⟩⟩
  refine ⟨_, rfl, pd, od, kvs, rfl, upd_same, for_itemsT (d := pd) (o := od) (kvs := kvs)
    (fun i σ H' => ∃ x2 x3 mk, σ = [some (.ref pd), some (.ref pm), x2, x3] ∧ H' pd = some (.frz od (.dT kvs)) ∧ (∀ b o, b ≠ pd → H b = some o → H' b = some o) ∧ H' pm = some (.dT mk) ∧ mk.length ≤ i ∧ MkAt H' mk ((R.take i).foldl makersStep []))
    ⟨none, none, [], rfl, upd_same, fun b o hb e => by rw [upd_ne hb]; exact s1 _ _ e, by rw [upd_ne ne]; exact upd_same, Nat.zero_le _, by rw [List.take_zero]; exact fun a b => ⟨fun _ => rfl, fun _ e => (by cases e)⟩⟩
    (fun i σ H' ⟨_, _, _, _, h, _⟩ => h) (fun i kk v qa TT σ H' hk pv hT hqa => ?_) (fun σ H' pv => ?_)⟩
  · obtain ⟨x2, x3, mk, rfl, hfz, hB, hpm', hml, hmk⟩ := pv
    obtain ⟨qr, hqr, ekk, wv⟩ := dat.get hk
    obtain ⟨k', us, e2, hf⟩ := fits qr (List.mem_of_getElem? hqr)
    rw [e2] at wv
    have wv := Tw.gr (gB hB) _ _ wv
    rw [ekk, kV_ints] at hqa
    have efold := fold_take makersStep [] R i qr hqr
    generalize hacc : (R.take i).foldl makersStep [] = acc at hmk efold
    obtain ⟨ax, ux, rfl, hax, hux, hbx, nx⟩ := row_of wv
    have at0 : atI (V.str k' :: ux) 0 = some (.str k') := at_of (j := 0) rfl rfl
    have sT := same_new hT (.tup [V.ref qa, .ref ax])
    refine ⟨TT, [.ref qa, .ref ax], rfl, SqT.of upd_same, rfl, _, _, rfl, _, _, rfl, rfl, ?_⟩
    refine ⟨_, rfl, ax, _, 0, _, rfl, rfl, SqT.of (sT _ _ hax), at0, (show 2 ≤ sizeLine by decide), fun p2 hp2 => ⟨p2, makeKinds, rfl, .inr (SqT.of upd_same), .flat rfl, _, rfl, ?_⟩⟩
    have s2 := same_new hp2 (.tup (makeKinds.map V.str))
    have S2 : Same H' (upd (upd H' TT (.tup [V.ref qa, .ref ax])) p2 (.tup (makeKinds.map V.str))) := fun c o e => s2 _ _ (sT _ _ e)
    have ek : kOf qr.2 = k' := by rw [e2]; rfl
    rw [inT_str]
    cases hin : decide (k' ∈ makeKinds) with
    | false =>
      refine iteF ⟨_, _, mk, rfl, S2 _ _ hfz, fun b o hb e => S2 _ _ (hB b o hb e), S2 _ _ hpm', Nat.le_succ_of_le hml, ?_⟩
      rw [efold]
      unfold makersStep
      rw [ek, if_neg (of_decide_eq_false hin)]
      exact hmk.tup fun a xs e => S2 _ _ e
    | true =>
      have hin := of_decide_eq_true hin
      obtain ⟨z, rest, rfl⟩ := second_name makeFirst hin hf
      have l2 := made_len k' _ ws es hin hf
      have lux := hux.len
      rw [l2] at lux
      have hz : ux[0]? = some (.str z) := by
        obtain ⟨u, hu, wu⟩ := hux.get' (i := 0) (t := tx z) rfl
        cases wu with
        | «at» _ => exact hu
      obtain ⟨u2, rfl⟩ : ∃ u2, ux = [.str z, u2] := by
        match ux, lux, hz with
        | [u1, u2], _, hz => simp at hz; subst hz; exact ⟨u2, rfl⟩
      have ehead : txOf' ((itemsOf qr.2).tail.headD (tx "")) = z := by rw [e2]; rfl
      have estep : makersStep acc qr = (match acc.lookup (k', z) with
        | none => acc ++ [((k', z), qr.1)]
        | some _ => acc) := by
        unfold makersStep
        rw [ek, if_pos hin, ehead]
        try rfl
      refine iteT ⟨_, rfl, pm, rfl, .inr ⟨mk, .inl (S2 _ _ hpm')⟩, _, rfl, 2, rfl, ax, _, rfl, SqT.of (S2 _ _ hax), ?_, fun p4 hp4 => ?_⟩
      · rintro ⟨_, h⟩
        have h : min 2 3 = 3 := h
        exact absurd h (by decide)
      have s4 := same_new hp4 (.tup [V.str k', .str z])
      have S4 : Same H' (upd (upd (upd H' TT (.tup [V.ref qa, .ref ax])) p2 (.tup (makeKinds.map V.str))) p4 (.tup [V.str k', .str z])) := fun c o e => s4 _ _ (S2 _ _ e)
      have hm4 := S4 _ _ hpm'
      refine ⟨_, rfl, mk, mkKey k' z, p4, hm4, rfl, upd_same, Nat.lt_of_le_of_lt (show _ ≤ 1000 from ?_) (by decide), fun v hv => ?_, fun hv => ?_⟩
      · have := (List.getElem?_eq_some_iff.mp hqr).1
        omega
      · refine ⟨_, _, mk, rfl, S4 _ _ hfz, fun b o hb e => S4 _ _ (hB b o hb e), hm4, Nat.le_succ_of_le hml, ?_⟩
        rw [efold, estep]
        cases hlk : acc.lookup (k', z) with
        | none =>
          rw [(hmk k' z).1 hlk] at hv
          cases hv
        | some path => exact hmk.tup fun a xs e => S4 _ _ e
      · refine ⟨_, _, putK mk (mkKey k' z) (.ref qa), rfl, ?_, fun b o hb e => ?_, upd_same, ?_, ?_⟩
        · rw [upd_ne (fun e => ne e.symm)]
          exact S4 _ _ hfz
        · rw [upd_ne (fun h => by rw [h, hpm] at e; cases e)]
          exact S4 _ _ (hB b o hb e)
        · have := length_putK mk (mkKey k' z) (V.ref qa)
          omega
        · rw [efold, estep]
          cases hlk : acc.lookup (k', z) with
          | some path =>
            obtain ⟨p, e1, _⟩ := (hmk k' z).2 path hlk
            rw [e1] at hv
            cases hv
          | none =>
            have g5 : ∀ a xs, (upd (upd (upd H' TT (.tup [V.ref qa, .ref ax])) p2 (.tup (makeKinds.map V.str))) p4 (.tup [V.str k', .str z])) a = some (.tup xs) → (upd (upd (upd (upd H' TT (.tup [V.ref qa, .ref ax])) p2 (.tup (makeKinds.map V.str))) p4 (.tup [V.str k', .str z])) pm (.dT (putK mk (mkKey k' z) (.ref qa)))) a = some (.tup xs) := fun a xs e => by
              rw [upd_ne (ne_of e hm4 (by intro z; cases z))]
              exact e
            exact MkAt.put (hmk.tup fun a xs e => g5 _ _ (S4 _ _ e)) hlk (g5 _ _ (S4 _ _ hqa))
  · obtain ⟨x2, x3, mk, rfl, hfz, hB, hpm', hml, hmk⟩ := pv
    rw [dat.len, List.take_length] at hmk
    refine ⟨hfz, _, rfl, q pm _ mk (fun b o e => ?_) hpm ?_ ?_⟩
    · by_cases hb : b = pd
      · rw [hb, upd_same, ← e, hb, hd]
      · rw [upd_ne hb]
        exact hB b o hb e
    · rw [upd_ne ne]
      exact hpm'
    · exact hmk.tup fun a xs e => by
        rw [upd_ne (ne_of e hfz (by intro z; cases z))]
        exact e
end
end CA
namespace CA
open PySem L2
/-! ### == of tuples of whole numbers -/
def intsD (is : List Int) : PyData := .tuple (is.map PyData.int)
theorem eqvAll_ints : ∀ a b : List Int, PyData.eqvAll (a.map PyData.int) (b.map PyData.int) = decide (a = b)
  | [], [] => by simp [PyData.eqvAll]
  | [], _ :: _ => by simp [PyData.eqvAll]
  | _ :: _, [] => by simp [PyData.eqvAll]
  | x :: a, y :: b => by
    rw [List.map_cons, List.map_cons, PyData.eqvAll, eqvAll_ints a b, PyData.eqv]
    by_cases h1 : x = y
    · by_cases h2 : a = b
      · simp [h1, h2]
      · simp [h1, h2]
    · simp [h1]
theorem eqv_ints (a b : List Int) : PyData.eqv (intsD a) (intsD b) = decide (a = b) := by
  unfold intsD
  rw [PyData.eqv]
  exact eqvAll_ints a b
theorem lay_ints : ∀ a : List Int, PyData.canLayAll0 (a.map PyData.int) = true
  | [] => by simp [PyData.canLayAll0]
  | x :: a => by
    rw [List.map_cons, PyData.canLayAll0, lay_ints a, PyData.canLay0]
    rfl
theorem depth_ints : ∀ a : List Int, PyData.depthAll (a.map PyData.int) = 0
  | [] => by simp [PyData.depthAll]
  | x :: a => by
    rw [List.map_cons, PyData.depthAll, depth_ints a, PyData.depth]
    rfl
theorem shaped_ints (a : List Int) : SeqAt.shaped (intsD a) = true := by
  unfold SeqAt.shaped intsD
  rw [PyData.canLay0, PyData.depth, lay_ints, depth_ints]
  decide
theorem dp_ints {K : PySem.W.Frag} {H : Hp} : ∀ a : List Int, DpAll K H (a.map V.int) (a.map PyData.int)
  | [] => .nil
  | x :: a => .cons (.int x) (dp_ints a)
def madeTwice (path : List Int) (k : Str) (us : List Tr) (ms : List ((Str × Str) × List Int)) : Bool :=
  if decide (k ∈ makeKinds) then !decide (ms.lookup (k, txOf' (us.headD (tx ""))) = some path) else false
def spTwice : Sp := fun vs H Q _ => ∃ pp rv k us ws es pm kvs ms path, vs = [.ref pp, rv, .ref pm] ∧ H pp = some (.tup (path.map V.int)) ∧ Tw H rv (.tup (tx k :: us)) ∧ rowFits (.tup (tx k :: us)) ws es = true ∧ H pm = some (.dT kvs) ∧ MkAt H kvs ms ∧
  (k ∈ makeKinds → (ms.lookup (k, txOf' (us.headD (tx "")))).isSome = true) ∧ ∀ H', Same H H' → Q (.bl (madeTwice path k us ms)) H'
section
variable {P : Program} {w : World} {K : PySem.W.Frag} {mg : Str → Option Value} {base : Heap}
abbrev s_is_made_twice : Stmt := topS 41
theorem sc_is_made_twice : FnScope ["path", "row", "makers"] ["path", "row", "makers"] (defScope s_is_made_twice) := ⟨rfl, rfl, rfl, by decide +kernel, rfl, by decide +kernel, by decide +kernel⟩
theorem ok_is_made_twice {f : Addr} {fd : FuncData} (F : Fun K "is_made_twice" "is_made_twice" s_is_made_twice f fd) : FnOk P w K mg base CX0 1 f fd ["path", "row", "makers"] spTwice := by
  refine F.ok sc_is_made_twice (fun vs H Q E h => ?_) (fun cdv A outer s H vs Q E hr h => ?_)
  · obtain ⟨pp, rv, k, us, ws, es, pm, kvs, ms, path, rfl, _⟩ := h
    rfl
  obtain ⟨pp, rv, k, us, ws, es, pm, kvs, ms, path, rfl, hpp, wt, hf, hpm, hmk, hsome, q⟩ := h
  refine ⟨_, (pss_one (ps_ret (pe_and (pe_cmpR (op_inT (units2 hr)) (pe_ix ix_tup (pv 1) pe_int (fun _ _ => rfl)) (pe_tup (pa_cons pe_str (pa_cons pe_str pa_nil))) (by rfl)) (pe_one (pe_cmpR (op_neD hr.units) (pe_dget (units2 hr) (pv 2) (pe_slice sl_tup (pv 1) po_none (po_some pe_int)) (fun _ _ => rfl)) (pv 0) (nomark _)))))), ?_⟩
  obtain ⟨a, ux, rfl, ha, hux, hbx, nx⟩ := row_of wt
  have at0 : atI (V.str k :: ux) 0 = some (.str k) := at_of (j := 0) rfl rfl
  refine ⟨_, rfl, a, _, 0, _, rfl, rfl, SqT.of ha, at0, (show 2 ≤ sizeLine by decide), fun p hp => ⟨p, makeKinds, rfl, .inr (SqT.of upd_same), .flat rfl, _, rfl, ?_⟩⟩
  have s1 := same_new hp (.tup (makeKinds.map V.str))
  rw [inT_str]
  have fin : ∀ c : Bool, madeTwice path k us ms = c → ∀ H', Same H H' → Q (.bl c) H' := fun c e H' s => by rw [← e]; exact q H' s
  unfold madeTwice at fin
  cases hk : decide (k ∈ makeKinds) with
  | false =>
    rw [hk] at fin
    exact iteF (fin _ rfl _ s1)
  | true =>
    have hin := of_decide_eq_true hk
    obtain ⟨z, rest, rfl⟩ := second_name makeFirst hin hf
    have l2 := made_len k _ ws es hin hf
    have lux := hux.len
    rw [l2] at lux
    have hz : ux[0]? = some (.str z) := by
      obtain ⟨u, hu, wu⟩ := hux.get' (i := 0) (t := tx z) rfl
      cases wu with
      | «at» _ => exact hu
    obtain ⟨u2, rfl⟩ : ∃ u2, ux = [.str z, u2] := by
      match ux, lux, hz with
      | [u1, u2], _, hz => simp at hz; subst hz; exact ⟨u2, rfl⟩
    rw [hk] at fin
    have hs := hsome hin
    cases hlk : ms.lookup (k, z) with
    | none =>
      have hs : (ms.lookup (k, z)).isSome = true := hs
      rw [hlk] at hs
      cases hs
    | some pt =>
      obtain ⟨pv1, e1, e2⟩ := (hmk k z).2 pt hlk
      have hlk2 : ms.lookup (k, txOf' ((tx z :: rest).headD (tx ""))) = some pt := hlk
      rw [hlk2] at fin
      refine iteT ⟨_, rfl, _, rfl, 2, rfl, a, _, rfl, SqT.of (s1 _ _ ha), ?_, fun p4 hp4 => ?_⟩
      · rintro ⟨_, h⟩
        have h : min 2 3 = 3 := h
        exact absurd h (by decide)
      have s4 := same_new hp4 (.tup [V.str k, .str z])
      have S4 : Same H (upd (upd H p (.tup (makeKinds.map V.str))) p4 (.tup [V.str k, .str z])) := fun c o e => s4 _ _ (s1 _ _ e)
      have g := DGet.t (k := mkKey k z) (S4 _ _ hpm) (upd_same (H := upd H p (.tup (makeKinds.map V.str))) (a := p4) (o := .tup [V.str k, .str z]))
      rw [e1] at g
      refine ⟨pm, .ref pv1, rfl, g, _, rfl, intsD pt, intsD path, .tup (SqT.of (S4 _ _ e2)) (dp_ints _), .tup (SqT.of (S4 _ _ hpp)) (dp_ints _), shaped_ints _, shaped_ints _, ?_⟩
      rw [eqv_ints]
      refine fin _ ?_ _ S4
      show (!decide (some pt = some path)) = _
      by_cases e : pt = path
      · subst e; simp
      · simp [e]
end
end CA
namespace CA
open PySem L2
/-! ### the checks where nothing is wrong -/
/-- rows that stand rightly, down to a depth -/
def ValZ (ws es : List Str) : Nat → Str → Int → List Tr → Prop
  | 0, _, _, _ => False
  | d + 1, z, dp, ts => ∀ t ∈ ts, ∃ k us, t = .tup (tx k :: us) ∧ rowFits (.tup (tx k :: us)) ws es = true ∧ mayStand k z dp = true ∧ ∀ (n : Nat) (x : Tr), (innerT k (tx k :: us))[n]? = some x → ∃ xs, x = .tup xs ∧ ValZ ws es d (zoneIn k n z) (depthIn k dp) xs
theorem ValZ.val {ws es : List Str} : ∀ {d : Nat} {z : Str} {dp : Int} {ts : List Tr}, ValZ ws es d z dp ts → Val ws es d ts
  | 0, _, _, _, h => h
  | d + 1, _, _, _, h => fun t ht => by
    obtain ⟨k, us, e, hf, _, hin⟩ := h t ht
    refine ⟨k, us, e, hf, fun x hx => ?_⟩
    obtain ⟨n, hn⟩ := List.mem_iff_getElem?.mp hx
    obtain ⟨xs, e2, hv⟩ := hin n x hn
    exact ⟨xs, e2, hv.val⟩
def spNamesOk : Sp := fun vs H Q _ => ∃ a b c ta tb tc, vs = [a, b, c] ∧ Tw H a ta ∧ Tw H b tb ∧ Tw H c tc ∧ trNames ta 2 4 = true ∧ trNames tb 0 2 = true ∧ trNames tc 0 3 = true ∧ ∀ H', Same H H' → Q .non H'
def spRowsOk (ws es : List Str) (d : Nat) : Sp := fun vs H Q _ => ∃ (rv : V) (pa : Addr) (ts : List Tr) (path : List Int) (z : Str) (dp : Int) (pw pe : Addr), vs = [rv, .ref pa, .str z, .int dp, .ref pw, .ref pe] ∧ Tw H rv (.tup ts) ∧ H pa = some (.tup (path.map V.int)) ∧ ValZ ws es d z dp ts ∧ H pw = some (.tup (ws.map V.str)) ∧ H pe = some (.tup (es.map V.str)) ∧ ws.length ≤ 1000 ∧
  path.length + 2 * d ≤ 100 ∧ ∀ H', Same H H' → Q .non H'
structure TxtK (K : PySem.W.Frag) (mg : Str → Option Value) (fns frf fms fi fz fdi fc : Addr) : Prop where
  g_are_names : mg "are_names" = some (.ref fns)
  k_are_names : PySem.W.keepIn K (.ref fns) = true
  g_row_fits : mg "row_fits" = some (.ref frf)
  k_row_fits : PySem.W.keepIn K (.ref frf) = true
  g_may_stand : mg "may_stand" = some (.ref fms)
  k_may_stand : PySem.W.keepIn K (.ref fms) = true
  g_inner_rows : mg "inner_rows" = some (.ref fi)
  k_inner_rows : PySem.W.keepIn K (.ref fi) = true
  g_zone_inside : mg "zone_inside" = some (.ref fz)
  k_zone_inside : PySem.W.keepIn K (.ref fz) = true
  g_depth_inside : mg "depth_inside" = some (.ref fdi)
  k_depth_inside : PySem.W.keepIn K (.ref fdi) = true
  g_check_rows : mg "check_rows" = some (.ref fc)
  k_check_rows : PySem.W.keepIn K (.ref fc) = true
section
variable {P : Program} {w : World} {K : PySem.W.Frag} {mg : Str → Option Value} {base : Heap} {fns frf fms fi fz fdi fc : Addr} {ws es : List Str}
abbrev s_check_names : Stmt := topS 37
theorem sc_check_names : FnScope ["words", "inputs", "events"] ["words", "inputs", "events"] (defScope s_check_names) := ⟨rfl, rfl, rfl, by decide +kernel, rfl, by decide +kernel, by decide +kernel⟩
theorem ok_check_names {f : Addr} {fd fdns : FuncData} (F : Fun K "check_names" "check_names" s_check_names f fd) (T : TxtK K mg fns frf fms fi fz fdi fc) (Gare_names : FnOk P w K mg base CX0 2 fns fdns ["value", "fewest", "most"] spNames) (bare_names : Binds K fdns ["value", "fewest", "most"] []) : FnOk P w K mg base CX0 3 f fd ["words", "inputs", "events"] spNamesOk := by
  refine F.ok sc_check_names (fun vs H Q E h => ?_) (fun cdv A outer s H vs Q E hr h => ?_)
  · obtain ⟨a, b, c, ta, tb, tc, rfl, _⟩ := h
    rfl
  obtain ⟨a, b, c, ta, tb, tc, rfl, wa, wb, wc, na, nb, nc, q⟩ := h
  refine ⟨_, (pss_cons (ps_if (pt_not (pt_val (pe_call Gare_names hr rfl T.g_are_names T.k_are_names bare_names .nil pass0 (pa_cons (pv 0) (pa_cons pe_int (pa_cons pe_int pa_nil))))))
    pss_never
    pss_nil)
  (pss_cons (ps_if (pt_not (pt_val (pe_call Gare_names hr rfl T.g_are_names T.k_are_names bare_names .nil pass0 (pa_cons (pv 1) (pa_cons pe_int (pa_cons pe_int pa_nil))))))
    pss_never
    pss_nil)
  (pss_one (ps_if (pt_not (pt_val (pe_call Gare_names hr rfl T.g_are_names T.k_are_names bare_names .nil pass0 (pa_cons (pv 2) (pa_cons pe_int (pa_cons pe_int pa_nil))))))
    pss_never
    pss_nil)))), ?_⟩
  refine ⟨_, rfl, a, ta, 2, 4, rfl, wa, by decide, fun H1 s1 => ⟨_, rfl, ?_⟩⟩
  rw [na]
  refine iteF ⟨_, rfl, b, tb, 0, 2, rfl, Tw.gr (Gr.of s1) _ _ wb, by decide, fun H2 s2 => ⟨_, rfl, ?_⟩⟩
  rw [nb]
  refine iteF ⟨_, rfl, c, tc, 0, 3, rfl, Tw.gr ((Gr.of s1).trans (Gr.of s2)) _ _ wc, by decide, fun H3 s3 => ⟨_, rfl, ?_⟩⟩
  rw [nc]
  exact iteF (q H3 fun c o e => s3 _ _ (s2 _ _ (s1 _ _ e)))
abbrev s_check_rows : Stmt := topS 38
theorem sc_check_rows : FnScope ["rows", "path", "zone", "depth", "words", "events", "place", "row", "at", "number", "inner", "inner_zone", "inner_depth"] ["rows", "path", "zone", "depth", "words", "events"] (defScope s_check_rows) := ⟨rfl, rfl, rfl, by decide +kernel, rfl, by decide +kernel, by decide +kernel⟩
theorem ok_check_rows_step {d k : Nat} {fd fdrf fdms fdin fdz fdd : FuncData} (hk : 4 ≤ k) (F : Fun K "check_rows" "check_rows" s_check_rows fc fd) (B : Blt mg) (T : TxtK K mg fns frf fms fi fz fdi fc) (Grf : FnOk P w K mg base CX0 4 frf fdrf ["row", "words", "events"] spRow) (brf : Binds K fdrf ["row", "words", "events"] [])
    (Gms : FnOk P w K mg base CX0 1 fms fdms ["kind", "zone", "depth"] spStand) (bms : Binds K fdms ["kind", "zone", "depth"] []) (Gin : FnOk P w K mg base CX0 1 fi fdin ["row"] spInner) (bin : Binds K fdin ["row"] []) (Gz : FnOk P w K mg base CX0 1 fz fdz ["kind", "number", "zone"] spZone) (bz : Binds K fdz ["kind", "number", "zone"] [])
    (Gd : FnOk P w K mg base CX0 1 fdi fdd ["kind", "depth"] spDepth) (bd : Binds K fdd ["kind", "depth"] []) (Gc : FnOk P w K mg base CX0 k fc fd ["rows", "path", "zone", "depth", "words", "events"] (spRowsOk ws es d)) (bc : Binds K fd ["rows", "path", "zone", "depth", "words", "events"] []) :
    FnOk P w K mg base CX0 (k + 1) fc fd ["rows", "path", "zone", "depth", "words", "events"] (spRowsOk ws es (d + 1)) := by
  refine F.ok sc_check_rows (fun vs H Q E h => ?_) (fun cdv A outer s H vs Q E hr h => ?_)
  · obtain ⟨rv, pa, ts, path, z, dp, pw, pe, rfl, _⟩ := h
    rfl
  obtain ⟨rv, pa, ts, path, z, dp, pw, pe, rfl, wt, hpa, hv, hw, he, hz, hpl, q⟩ := h
  have hr4 : Room 4 _ := hr.mono hk
  have hr1 : Room 1 _ := hr.mono (Nat.le_trans (by decide) hk)
  refine ⟨_, (pss_one (ps_for PassesOwn.never rfl (pi_enumT B.enumerate (pa_cons (pv 0) pa_nil)) (pg_tup rfl (pgs_cons (pg_name (i := 6) sc_check_rows.nd rfl (Or.inl rfl)) (pgs_cons (pg_name (i := 7) sc_check_rows.nd rfl (Or.inl rfl)) pgs_nil)))
    (pss_cons (ps_set (i := 8) sc_check_rows.nd rfl (Or.inl rfl) (pe_op op_catA (pv 1) (pe_tup (pa_cons (pv 6) pa_nil))))
      (pss_cons (ps_if (PW.pt (pw_or (pt_not (pt_val (pe_call Grf hr4 rfl T.g_row_fits T.k_row_fits brf .nil pass0 (pa_cons (pv 7) (pa_cons (pv 4) (pa_cons (pv 5) pa_nil)))))) (pw_or1 (pt_not (pt_val (pe_call Gms hr1 rfl T.g_may_stand T.k_may_stand bms .nil pass0 (pa_cons (pe_ix ix_tup (pv 7) pe_int (fun _ _ => rfl)) (pa_cons (pv 2) (pa_cons (pv 3) pa_nil)))))))))
        pss_never
        pss_nil)
      (pss_one (ps_for PassesOwn.never rfl (pi_enumT B.enumerate (pa_cons (pe_call Gin hr1 rfl T.g_inner_rows T.k_inner_rows bin .nil pass0 (pa_cons (pv 7) pa_nil)) pa_nil)) (pg_tup rfl (pgs_cons (pg_name (i := 9) sc_check_rows.nd rfl (Or.inl rfl)) (pgs_cons (pg_name (i := 10) sc_check_rows.nd rfl (Or.inl rfl)) pgs_nil)))
        (pss_cons (ps_set (i := 11) sc_check_rows.nd rfl (Or.inl rfl) (pe_call Gz hr1 rfl T.g_zone_inside T.k_zone_inside bz .nil pass0 (pa_cons (pe_ix ix_tup (pv 7) pe_int (fun _ _ => rfl)) (pa_cons (pv 9) (pa_cons (pv 2) pa_nil)))))
          (pss_cons (ps_set (i := 12) sc_check_rows.nd rfl (Or.inl rfl) (pe_call Gd hr1 rfl T.g_depth_inside T.k_depth_inside bd .nil pass0 (pa_cons (pe_ix ix_tup (pv 7) pe_int (fun _ _ => rfl)) (pa_cons (pv 3) pa_nil))))
          (pss_one (ps_expr (pe_call Gc hr rfl T.g_check_rows T.k_check_rows bc .nil pass0 (pa_cons (pv 10) (pa_cons (pe_op op_catA (pv 8) (pe_tup (pa_cons (pv 9) pa_nil))) (pa_cons (pv 11) (pa_cons (pv 12) (pa_cons (pv 4) (pa_cons (pv 5) pa_nil))))))))))))))))), ?_⟩
  cases wt with
  | @tup a vs _ ha hl hb =>
  refine ⟨_, rfl, a, vs, rfl, SqT.of ha, for_enumT (K := K) (a := a) (xs := vs)
    (fun i σ H' => ∃ x6 x7 x8 x9 x10 x11 x12, σ = [some (.ref a), some (.ref pa), some (.str z), some (.int dp), some (.ref pw), some (.ref pe), x6, x7, x8, x9, x10, x11, x12] ∧ Same H H')
    ⟨none, none, none, none, none, none, none, rfl, fun _ _ e => e⟩ (fun i σ H' _ ⟨_, _, _, _, _, _, _, _, sm⟩ => SqT.of (sm _ _ ha)) (fun i x σ H' TT hx pv hT => ?_) (fun σ H' pv => ?_)⟩
  · obtain ⟨x6, x7, x8, x9, x10, x11, x12, rfl, sm⟩ := pv
    obtain ⟨t, ht, wx⟩ := hl.get hx
    obtain ⟨k', us, rfl, hf, hms, hin⟩ := hv t (List.mem_of_getElem? ht)
    obtain ⟨ax, ux, rfl, hax, hux, hbx, nx⟩ := row_of wx
    have at0 : atI (V.str k' :: ux) 0 = some (.str k') := at_of (j := 0) rfl rfl
    have sT := same_new hT (.tup [V.int (i : Nat), .ref ax])
    refine ⟨TT, [.int (i : Nat), .ref ax], rfl, SqT.of upd_same, rfl, _, _, rfl, _, _, rfl, rfl, ?_⟩
    refine ⟨_, rfl, _, rfl, (show 1 ≤ sizeLine by decide), fun b1 hb1 => ?_⟩
    have s2 := same_new hb1 (.tup [V.int (i : Nat)])
    have S2 : Same H (upd (upd H' TT (.tup [V.int (i : Nat), .ref ax])) b1 (.tup [V.int (i : Nat)])) := fun c o e => s2 _ _ (sT _ _ (sm _ _ e))
    refine cat1 (path := path) (S2 _ _ hpa) upd_same (by omega) fun pq H3 s3 hpq => ?_
    have S3 : Same H H3 := fun c o e => s3 _ _ (S2 _ _ e)
    refine ⟨_, rfl, _, rfl, _, rfl, .ref ax, _, pw, pe, ws, es, rfl, Tw.gr (Gr.of S3) _ _ wx, S3 _ _ hw, S3 _ _ he, hz, fun H4 s4 => ⟨_, rfl, ?_⟩⟩
    have S4 : Same H H4 := fun c o e => s4 _ _ (S3 _ _ e)
    rw [hf]
    refine iteF ⟨_, rfl, ax, _, 0, _, rfl, rfl, SqT.of (S4 _ _ hax), at0, _, rfl, _, rfl, k', z, dp, rfl, _, rfl, ?_⟩
    rw [hms]
    refine iteF ⟨_, rfl, .ref ax, k', us, rfl, Tw.gr (Gr.of S4) _ _ wx, fun v6 H6 s6 w6 => ?_⟩
    cases w6 with
    | @tup a6 v6s _ ha6 hl6 hb6 =>
    have S6 : Same H H6 := fun c o e => s6 _ _ (S4 _ _ e)
    refine ⟨a6, v6s, rfl, SqT.of ha6, for_enumT (K := K) (a := a6) (xs := v6s)
      (fun n σ H' => ∃ x9 x10 x11 x12, σ = [some (.ref a), some (.ref pa), some (.str z), some (.int dp), some (.ref pw), some (.ref pe), some (.int (i : Nat)), some (.ref ax), some (.ref pq), x9, x10, x11, x12] ∧ Same H6 H')
      ⟨x9, x10, x11, x12, rfl, fun _ _ e => e⟩ (fun n σ H' _ ⟨_, _, _, _, _, sm⟩ => SqT.of (sm _ _ ha6)) (fun n y σ H7 T7 hy pv hT7 => ?_) (fun σ H' pv => ?_)⟩
    · obtain ⟨y9, y10, y11, y12, rfl, s7⟩ := pv
      obtain ⟨t7, ht7, wy⟩ := hl6.get hy
      obtain ⟨xs7, rfl, v7⟩ := hin n t7 ht7
      have sT7 := same_new hT7 (.tup [V.int (n : Nat), y])
      have S7 : Same H6 (upd H7 T7 (.tup [V.int (n : Nat), y])) := fun c o e => sT7 _ _ (s7 _ _ e)
      refine ⟨T7, [.int (n : Nat), y], rfl, SqT.of upd_same, rfl, _, _, rfl, _, _, rfl, rfl, ?_⟩
      refine ⟨_, rfl, ax, _, 0, _, rfl, rfl, SqT.of (S7 _ _ (S6 _ _ hax)), at0, _, rfl, _, rfl, k', (n : Nat), z, rfl, ?_⟩
      refine ⟨_, rfl, ax, _, 0, _, rfl, rfl, SqT.of (S7 _ _ (S6 _ _ hax)), at0, _, rfl, k', dp, rfl, ?_⟩
      refine ⟨_, rfl, _, rfl, _, rfl, (show 1 ≤ sizeLine by decide), fun b7 hb7 => ?_⟩
      have s8 := same_new hb7 (.tup [V.int (n : Nat)])
      have S8 : Same H6 (upd (upd H7 T7 (.tup [V.int (n : Nat), y])) b7 (.tup [V.int (n : Nat)])) := fun c o e => s8 _ _ (S7 _ _ e)
      refine cat1 (path := path ++ [(i : Int)]) (S8 _ _ (s6 _ _ (s4 _ _ hpq))) upd_same (by rw [List.length_append]; simp; omega) fun pq9 H9 s9 hpq9 => ?_
      have S9 : Same H6 H9 := fun c o e => s9 _ _ (S8 _ _ e)
      have SH9 : Same H H9 := fun c o e => S9 _ _ (S6 _ _ e)
      refine ⟨_, rfl, _, rfl, _, rfl, _, rfl, y, pq9, xs7, path ++ [(i : Int)] ++ [(n : Int)], zoneIn k' n z, depthIn k' dp, pw, pe, rfl, Tw.gr (Gr.of S9) _ _ wy, hpq9, v7, SH9 _ _ hw, SH9 _ _ he, hz, ?_, fun H10 s10 => ?_⟩
      · rw [List.length_append, List.length_append]
        simp
        omega
      · exact ⟨_, _, _, _, rfl, fun c o e => s10 _ _ (S9 _ _ e)⟩
    · obtain ⟨y9, y10, y11, y12, rfl, s7⟩ := pv
      exact ⟨_, _, _, _, _, _, _, rfl, fun c o e => s7 _ _ (S6 _ _ e)⟩
  · obtain ⟨x6, x7, x8, x9, x10, x11, x12, rfl, sm⟩ := pv
    exact q H' sm
theorem ok_check_rows {fd fdrf fdms fdin fdz fdd : FuncData} (F : Fun K "check_rows" "check_rows" s_check_rows fc fd) (B : Blt mg) (T : TxtK K mg fns frf fms fi fz fdi fc) (Grf : FnOk P w K mg base CX0 4 frf fdrf ["row", "words", "events"] spRow) (brf : Binds K fdrf ["row", "words", "events"] [])
    (Gms : FnOk P w K mg base CX0 1 fms fdms ["kind", "zone", "depth"] spStand) (bms : Binds K fdms ["kind", "zone", "depth"] []) (Gin : FnOk P w K mg base CX0 1 fi fdin ["row"] spInner) (bin : Binds K fdin ["row"] []) (Gz : FnOk P w K mg base CX0 1 fz fdz ["kind", "number", "zone"] spZone) (bz : Binds K fdz ["kind", "number", "zone"] [])
    (Gd : FnOk P w K mg base CX0 1 fdi fdd ["kind", "depth"] spDepth) (bd : Binds K fdd ["kind", "depth"] []) (bc : Binds K fd ["rows", "path", "zone", "depth", "words", "events"] []) :
    ∀ d : Nat, FnOk P w K mg base CX0 (d + 4) fc fd ["rows", "path", "zone", "depth", "words", "events"] (spRowsOk ws es d)
  | 0 => by
    have no : ∀ vs H Q E, ¬ spRowsOk ws es 0 vs H Q E := fun vs H Q E h => by
      obtain ⟨_, _, _, _, _, _, _, _, _, _, _, z, _⟩ := h
      exact z
    refine ⟨?_, ?_⟩
    · intro vs H Q E h
      exact (no _ _ _ _ h).elim
    · intros
      rename_i h
      exact (no _ _ _ _ h).elim
  | d + 1 => ok_check_rows_step (Nat.le_add_left 4 d) F B T Grf brf Gms bms Gin bin Gz bz Gd bd (ok_check_rows F B T Grf brf Gms bms Gin bin Gz bz Gd bd bc d) bc
end
end CA
namespace CA
open PySem L2
theorem Shp.succ : ∀ {d : Nat} {ts : List Tr}, Shp d ts → Shp (d + 1) ts
  | 0, _, h => h.elim
  | d + 1, ts, h => fun t ht => by
    obtain ⟨k, us, e, hin⟩ := h t ht
    exact ⟨k, us, e, fun x hx => by
      obtain ⟨xs, e2, v⟩ := hin x hx
      exact ⟨xs, e2, Shp.succ v⟩⟩
/-- what is listed as a function is a tuple of such rows -/
theorem funs_shp : ∀ {d : Nat} {ts : List Tr} {path : List Int}, Shp d ts → ∀ q ∈ funsW d ts path, ∃ xs, q.2 = .tup xs ∧ Shp d xs
  | 0, _, _, h, _, _ => h.elim
  | d + 1, ts, path, h, q, hq => by
    obtain ⟨i, t, ht, hq⟩ := flat_mem _ ts q hq
    obtain ⟨k, us, rfl, hin⟩ := h t (List.mem_of_getElem? ht)
    obtain ⟨n, x, hx, hq⟩ := flat_mem _ _ q hq
    obtain ⟨xs, rfl, hv⟩ := hin x (List.mem_of_getElem? hx)
    unfold funOut1 at hq
    rcases List.mem_append.mp hq with hq | hq
    · split at hq
      · cases hq
      · rw [List.mem_singleton] at hq
        rw [hq]
        exact ⟨xs, rfl, hv.succ⟩
    · obtain ⟨ys, e, hs⟩ := funs_shp hv q hq
      exact ⟨ys, e, hs.succ⟩
def ifsOnly : List Str := ["if"]
def spCounts (d : Nat) : Sp := fun vs H Q _ => ∃ (rv : V) (ts : List Tr), vs = [rv] ∧ Tw H rv (.tup ts) ∧ Shp d ts ∧ 2 * d ≤ 100 ∧ (rowsW ifsOnly d ts []).length ≤ 16 ∧ (funsW d ts []).length ≤ 1000 ∧ (∀ q ∈ funsW d ts [], (rowsW ifsLater d (itemsOf q.2) []).length ≤ 8) ∧ ∀ H', Same H H' → Q .non H'
structure TxtC (K : PySem.W.Frag) (mg : Str → Option Value) (fw ff aI aL : Addr) : Prop where
  g_rows_within : mg "rows_within" = some (.ref fw)
  k_rows_within : PySem.W.keepIn K (.ref fw) = true
  g_functions_within : mg "functions_within" = some (.ref ff)
  k_functions_within : PySem.W.keepIn K (.ref ff) = true
  IFS : mg "IFS" = some (.ref aI)
  IFS_AND_LATER : mg "IFS_AND_LATER" = some (.ref aL)
  sI : ∀ H, SqT K H aI (ifsOnly.map V.str)
  sL : ∀ H, SqT K H aL (ifsLater.map V.str)
  MOST_CALL_ROWS : ∃ tk, mg "MOST_CALL_ROWS" = some (.int 16 tk)
  MOST_FUNCTION_ROWS : ∃ tk, mg "MOST_FUNCTION_ROWS" = some (.int 8 tk)
section
variable {P : Program} {w : World} {K : PySem.W.Frag} {mg : Str → Option Value} {base : Heap} {fw ff aI aL : Addr}
abbrev s_check_counts : Stmt := topS 44
theorem sc_check_counts : FnScope ["rows", "path", "inner"] ["rows"] (defScope s_check_counts) := ⟨rfl, rfl, rfl, by decide +kernel, rfl, by decide +kernel, by decide +kernel⟩
theorem ok_check_counts {d k : Nat} {f : Addr} {fd fdw fdf : FuncData} (F : Fun K "check_counts" "check_counts" s_check_counts f fd) (B : Blt mg) (T : TxtC K mg fw ff aI aL) (Gw : FnOk P w K mg base CX0 k fw fdw ["rows", "path", "through"] (spRows K d)) (bw : Binds K fdw ["rows", "path", "through"] [])
    (Gf : FnOk P w K mg base CX0 k ff fdf ["rows", "path"] (spFuns d)) (bf : Binds K fdf ["rows", "path"] []) : FnOk P w K mg base CX0 (k + 1) f fd ["rows"] (spCounts d) := by
  refine F.ok sc_check_counts (fun vs H Q E h => ?_) (fun cdv A outer s H vs Q E hr h => ?_)
  · obtain ⟨rv, ts, rfl, _⟩ := h
    rfl
  obtain ⟨rv, ts, rfl, wt, hsh, h2d, h16, hfl, h8, q⟩ := h
  refine ⟨_, (pss_cons (ps_if (pt_cmpR op_gt (pe_callB call_len_seq (by rfl) B.len (by decide +kernel) (pa_cons (pe_call Gw hr rfl T.g_rows_within T.k_rows_within bw .nil pass0 (pa_cons (pv 0) (pa_cons (pe_tup pa_nil) (pa_cons (pe_gr T.IFS) pa_nil)))) pa_nil)) (pe_gint T.MOST_CALL_ROWS) (nomark _))
    pss_never
    pss_nil)
  (pss_one (ps_for PassesOwn.never rfl (pi_list (pe_call Gf hr rfl T.g_functions_within T.k_functions_within bf .nil pass0 (pa_cons (pv 0) (pa_cons (pe_tup pa_nil) pa_nil)))) (pg_tup rfl (pgs_cons (pg_name (i := 1) sc_check_counts.nd rfl (Or.inl rfl)) (pgs_cons (pg_name (i := 2) sc_check_counts.nd rfl (Or.inl rfl)) pgs_nil)))
    (pss_one (ps_if (pt_cmpR op_gt (pe_callB call_len_seq (by rfl) B.len (by decide +kernel) (pa_cons (pe_call Gw hr rfl T.g_rows_within T.k_rows_within bw .nil pass0 (pa_cons (pv 2) (pa_cons (pe_tup pa_nil) (pa_cons (pe_gr T.IFS_AND_LATER) pa_nil)))) pa_nil)) (pe_gint T.MOST_FUNCTION_ROWS) (nomark _))
        pss_never
        pss_nil))))), ?_⟩
  refine ⟨_, rfl, by decide, fun pe hpe => ?_⟩
  have s1 := same_new hpe (.tup [])
  refine ⟨rv, pe, aI, ts, [], ifsOnly, rfl, Tw.gr (Gr.of s1) _ _ wt, hsh, upd_same, T.sI _, by simpa using h2d, by omega, fun p1 H2 ws1 s2 n2 e2 w2 => ?_⟩
  have S2 : Same H H2 := fun c o e => s2 _ _ (s1 _ _ e)
  have l2 := w2.len
  rw [List.length_map] at l2
  refine ⟨p1, ws1, rfl, .inl (SqL.of e2), _, _, rfl, rfl, _, rfl, ?_⟩
  rw [show decide ((ws1.length : Int) > 16) = false from decide_eq_false (by omega)]
  refine iteF ⟨_, rfl, by decide, fun pe3 hpe3 => ?_⟩
  have s3 := same_new hpe3 (.tup [])
  have S3 : Same H (upd H2 pe3 (.tup [])) := fun c o e => s3 _ _ (S2 _ _ e)
  refine ⟨rv, pe3, ts, [], rfl, Tw.gr (Gr.of S3) _ _ wt, hsh, upd_same, by simpa using h2d, hfl, fun p4 H4 ws4 s4 n4 e4 w4 => ?_⟩
  have S4 : Same H H4 := fun c o e => s4 _ _ (S3 _ _ e)
  refine ⟨p4, rfl, ⟨_, SqL.of e4⟩, for_list (K := K) (a := p4) (xs := ws4) (fun i σ H' => ∃ x1 x2, σ = [some rv, x1, x2] ∧ Same H4 H') ⟨none, none, rfl, fun _ _ e => e⟩ (fun i σ H' _ ⟨_, _, _, sm⟩ => SqL.of (sm _ _ e4)) (fun i x σ H' hx pv => ?_) (fun σ H' pv => ?_)⟩
  · obtain ⟨x1, x2, rfl, sm⟩ := pv
    obtain ⟨tq, htq, wx⟩ := w4.get hx
    rw [List.getElem?_map] at htq
    cases hq : (funsW d ts [])[i]? with
    | none => rw [hq] at htq; cases htq
    | some qr =>
      rw [hq] at htq
      cases htq
      obtain ⟨xs, eqx, shx⟩ := funs_shp hsh qr (List.mem_of_getElem? hq)
      have h8q := h8 qr (List.mem_of_getElem? hq)
      rw [eqx] at h8q
      have wx := Tw.gr (Gr.of sm) _ _ wx
      cases wx with
      | @tup a2 v2 _ ha2 hl2 _ =>
      cases hl2 with
      | @cons vp vr _ _ wp hr2 =>
      cases hr2 with
      | @cons inn _ _ _ wr hn2 =>
      cases hn2
      rw [eqx] at wr
      refine ⟨a2, [vp, inn], rfl, SqT.of ha2, rfl, _, _, rfl, _, _, rfl, rfl, ?_⟩
      refine ⟨_, rfl, by decide, fun pe5 hpe5 => ?_⟩
      have s5 := same_new hpe5 (.tup [])
      refine ⟨inn, pe5, aL, xs, [], ifsLater, rfl, Tw.gr (Gr.of s5) _ _ wr, shx, upd_same, T.sL _, by simpa using h2d, Nat.le_trans h8q (by decide), fun p6 H6 ws6 s6 n6 e6 w6 => ?_⟩
      have l6 := w6.len
      rw [List.length_map] at l6
      have h8q : (rowsW ifsLater d xs []).length ≤ 8 := h8q
      refine ⟨p6, ws6, rfl, .inl (SqL.of e6), _, _, rfl, rfl, _, rfl, ?_⟩
      rw [show decide ((ws6.length : Int) > 8) = false from decide_eq_false (by omega)]
      exact iteF ⟨_, _, rfl, fun c o e => s6 _ _ (s5 _ _ (sm _ _ e))⟩
  · obtain ⟨x1, x2, rfl, sm⟩ := pv
    exact q H' fun c o e => sm _ _ (S4 _ _ e)
end
end CA
namespace CA
open PySem L2
/-! ### the paths of the rows are all different -/
theorem pw_flat {α β : Type} (f : Nat → α → List β) (ts : List α) (R : β → β → Prop) (h1 : ∀ i t, ts[i]? = some t → (f i t).Pairwise R) (h2 : ∀ i j t u, i < j → ts[i]? = some t → ts[j]? = some u → ∀ a ∈ f i t, ∀ b ∈ f j u, R a b) : ((ts.mapIdx f).flatten).Pairwise R := by
  rw [List.pairwise_flatten]
  constructor
  · intro l hl
    obtain ⟨i, hi⟩ := List.mem_iff_getElem?.mp hl
    rw [List.getElem?_mapIdx] at hi
    cases ht : ts[i]? with
    | none => rw [ht] at hi; cases hi
    | some t =>
      rw [ht] at hi
      cases hi
      exact h1 i t ht
  · rw [List.pairwise_iff_getElem]
    intro i j hi hj hij a ha b hb
    rw [List.length_mapIdx] at hi hj
    rw [List.getElem_mapIdx] at ha hb
    exact h2 i j _ _ hij (List.getElem?_eq_getElem hi) (List.getElem?_eq_getElem hj) a ha b hb
theorem app_cons_inj {p : List Int} {i j : Int} {a b : List Int} (h : p ++ i :: a = p ++ j :: b) : i = j ∧ a = b := by
  have h := List.append_cancel_left h
  injection h with h1 h2
  exact ⟨h1, h2⟩
/-- a path of a row in these rows goes on from theirs -/
theorem rows_pre {thr : List Str} : ∀ {d : Nat} {ts : List Tr} {path : List Int} (q : List Int × Tr), q ∈ rowsW thr d ts path → ∃ (i : Nat) (rest : List Int), q.1 = path ++ (i : Int) :: rest
  | 0, _, _, _, h => by cases h
  | d + 1, ts, path, q, h => by
    obtain ⟨i, t, ht, hq⟩ := flat_mem _ ts q h
    unfold rowOut at hq
    rcases List.mem_cons.mp hq with e | hq
    · exact ⟨i, [], by rw [e]⟩
    · split at hq
      · obtain ⟨n, x, hx, hq⟩ := flat_mem _ _ q hq
        obtain ⟨m, rest, e⟩ := rows_pre q hq
        exact ⟨i, (n : Int) :: (m : Int) :: rest, by rw [e]; simp⟩
      · cases hq
theorem rowOut_pre {thr : List Str} {d : Nat} {path : List Int} {i : Nat} {t : Tr} {q : List Int × Tr} (hq : q ∈ rowOut (rowsW thr d) path thr i t) : ∃ rest : List Int, q.1 = path ++ (i : Int) :: rest := by
  unfold rowOut at hq
  rcases List.mem_cons.mp hq with e | hq
  · exact ⟨[], by rw [e]⟩
  · split at hq
    · obtain ⟨n, x, hx, hq⟩ := flat_mem _ _ q hq
      obtain ⟨m, rest, e⟩ := rows_pre q hq
      exact ⟨(n : Int) :: (m : Int) :: rest, by rw [e]; simp⟩
    · cases hq
theorem rows_diff {thr : List Str} : ∀ {d : Nat} {ts : List Tr} {path : List Int}, (rowsW thr d ts path).Pairwise fun a b => a.1 ≠ b.1
  | 0, _, _ => List.Pairwise.nil
  | d + 1, ts, path => by
    refine pw_flat _ ts _ (fun i t ht => ?_) (fun i j t u hij ht hu a ha b hb => ?_)
    · unfold rowOut
      refine List.pairwise_cons.mpr ⟨fun b hb => ?_, ?_⟩
      · split at hb
        · obtain ⟨n, x, hx, hb⟩ := flat_mem _ _ b hb
          obtain ⟨m, rest, e⟩ := rows_pre b hb
          rw [e]
          intro h
          have h2 : path ++ (i : Int) :: [] = path ++ (i : Int) :: ((n : Int) :: (m : Int) :: rest) := by simpa using h
          have z := (app_cons_inj h2).2
          cases z
        · cases hb
      · split
        · refine pw_flat _ _ _ (fun n x hx => rows_diff) (fun n m x y hnm hx hy a ha b hb => ?_)
          obtain ⟨i1, r1, e1⟩ := rows_pre a ha
          obtain ⟨i2, r2, e2⟩ := rows_pre b hb
          rw [e1, e2]
          intro h
          have h2 : (path ++ [(i : Int)]) ++ (n : Int) :: ((i1 : Int) :: r1) = (path ++ [(i : Int)]) ++ (m : Int) :: ((i2 : Int) :: r2) := by simpa using h
          have := (app_cons_inj h2).1
          omega
        · exact List.Pairwise.nil
    · obtain ⟨r1, e1⟩ := rowOut_pre ha
      obtain ⟨r2, e2⟩ := rowOut_pre hb
      rw [e1, e2]
      intro h
      have := (app_cons_inj h).1
      omega
theorem rows_nodup {thr : List Str} {d : Nat} {ts : List Tr} {path : List Int} : ((rowsW thr d ts path).map (·.1)).Nodup := by
  unfold List.Nodup
  rw [List.pairwise_map]
  exact rows_diff
end CA
namespace CA
open PySem L2
theorem TwL.to_ints {H : Hp} : ∀ {vs : List V} {is : List Int}, TwL H vs (is.map intT) → vs = is.map V.int
  | _, [], .nil => rfl
  | _, i :: is, .cons w l => by
    cases w with
    | «at» n => rw [TwL.to_ints l]; rfl
theorem DAt.snoc {H : Hp} : ∀ {kvs R} {v : V} {q : List Int × Tr}, DAt H kvs R → Tw H v q.2 → DAt H (kvs ++ [(q.1.map Sum.inl, v)]) (R ++ [q])
  | _, _, _, _, .nil, w => .cons w .nil
  | _, _, _, _, .cons w1 d, w => .cons w1 (DAt.snoc d w)
theorem inl_inj : ∀ {a b : List Int}, (a.map Sum.inl : List Key) = b.map Sum.inl → a = b
  | [], [], _ => rfl
  | [], _ :: _, h => by simp at h
  | _ :: _, [], h => by simp at h
  | x :: a, y :: b, h => by
    rw [List.map_cons, List.map_cons] at h
    injection h with h1 h2
    injection h1 with h1
    rw [h1, inl_inj h2]
theorem DAt.none {H : Hp} : ∀ {kvs R} {path : List Int}, DAt H kvs R → path ∉ R.map (·.1) → valV kvs (path.map Sum.inl) = none
  | _, _, _, .nil, _ => rfl
  | _, _, path, .cons (q := q) w d, h => by
    rw [List.map_cons, List.mem_cons, not_or] at h
    rw [valV_neg (fun e => h.1 (inl_inj e).symm)]
    exact DAt.none d h.2
/-- the reading of {path: row for path, row in <a list of such pairs>} -/
theorem dict_rows {K : PySem.W.Frag} {wi : TI} {p r : Nat} {vs : List Nat} {σ : L2.St} {H : Hp} {Q : VK} {R : List (List Int × Tr)} (hn : (R.map (·.1)).Nodup) (hl : R.length ≤ 1000)
    (hwi : ∀ R' : It → Hp → Prop, (∀ p1 H1 ws1, Same H H1 → H1 p1 = some (.lst ws1) → TwL H1 ws1 (R.map pairT) → R' (Itl K p1) H1) → wi σ H R')
    (hj : ∀ x y, wipe (((wipe σ vs).set p (some x)).set r (some y)) vs = wipe σ vs) (hp : ∀ x y, (((wipe σ vs).set p (some x)).set r (some y))[p]? = some (some x)) (hr : ∀ x y, (((wipe σ vs).set p (some x)).set r (some y))[r]? = some (some y))
    (q : ∀ D H' kvs, Same H H' → H D = none → H' D = some (.dT kvs) → DAt H' kvs R → Q (.ref D) H') :
    tGc wi (gTup K 2 (gCons (gName p) (gCons (gName r) gNil))) tYes (tlDict (tVar p) (tVar r)) vs (fun _ => .dT []) σ H Q := by
  refine hwi _ fun p1 H1 ws1 s1 e1 w1 D hD => ?_
  have lw := w1.len
  rw [List.length_map] at lw
  have hDH : H D = none := by
    cases e : H D with
    | none => rfl
    | some o => rw [s1 _ _ e] at hD; cases hD
  refine walk_list (xs := ws1) (fun i H' => Same H1 H' ∧ ∃ kvs, H' D = some (.dT kvs) ∧ kvs.length = i ∧ DAt H' kvs (R.take i)) ⟨same_new hD _, [], upd_same, rfl, by rw [List.take_zero]; exact .nil⟩ (fun i H' _ pv => SqL.of (pv.1 _ _ e1)) (fun i x H' hx pv => ?_) (fun H' pv => ?_)
  · obtain ⟨sm, kvs, hDs, hkl, dat⟩ := pv
    obtain ⟨tq, htq, wx⟩ := w1.get hx
    rw [List.getElem?_map] at htq
    cases hq : R[i]? with
    | none => rw [hq] at htq; cases htq
    | some qr =>
      rw [hq] at htq
      cases htq
      have wx := Tw.gr (Gr.of sm) _ _ wx
      cases wx with
      | @tup a2 v2 _ ha2 hl2 _ =>
      cases hl2 with
      | @cons vp vr _ _ wp hr2 =>
      cases hr2 with
      | @cons rowv _ _ _ wr hn2 =>
      cases hn2
      cases wp with
      | @tup pq vq _ hpq hlq _ =>
      rw [TwL.to_ints hlq] at hpq
      have hi := (List.getElem?_eq_some_iff.mp hq).1
      have hnin : qr.1 ∉ (R.take i).map (·.1) := by
        intro hmem
        obtain ⟨q2, hq2, e2⟩ := List.mem_map.mp hmem
        obtain ⟨j, hj2⟩ := List.mem_iff_getElem?.mp hq2
        rw [List.getElem?_take] at hj2
        split at hj2
        · rename_i hji
          have hjl := (List.getElem?_eq_some_iff.mp hj2).1
          have := List.pairwise_iff_getElem.mp hn j i (by rw [List.length_map]; exact hjl) (by rw [List.length_map]; exact hi) hji
          rw [List.getElem_map, List.getElem_map] at this
          apply this
          have g1 := (List.getElem?_eq_some_iff.mp hj2).2
          have g2 := (List.getElem?_eq_some_iff.mp hq).2
          rw [g1, g2]
          exact e2
        · cases hj2
      have hnone := dat.none hnin
      refine ⟨a2, [.ref pq, rowv], rfl, SqT.of ha2, rfl, _, _, rfl, _, _, rfl, rfl, hj _ _, ?_⟩
      unfold tYes
      refine iteT ⟨_, hp _ _, _, hr _ _, kvs, qr.1.map Sum.inl, pq, rfl, by rw [kV_ints]; exact hpq, hDs, Nat.lt_of_le_of_lt (show _ ≤ 1000 by omega) (by decide), same_upd hD sm, _, upd_same, ?_, ?_⟩
      · rw [putK_new _ hnone, List.length_append, hkl]
        rfl
      · have g : Gr H' (upd H' D (.dT (putK kvs (qr.1.map Sum.inl) rowv))) :=
          ⟨fun a xs e => by rw [upd_ne (ne_of e hDs (by intro z; cases z))]; exact e, fun a xs e => ⟨_, by rw [upd_ne (ne_of e hDs (by intro z; cases z))]; exact e⟩, fun a xs e => ⟨_, by rw [upd_ne (ne_of e hDs (by intro z; cases z))]; exact e⟩⟩
        rw [putK_new _ hnone] at g ⊢
        rw [List.take_add_one, hq]
        exact DAt.snoc (DAt.gr g dat) (Tw.gr g _ _ wr)
  · obtain ⟨sm, kvs, hDs, hkl, dat⟩ := pv
    rw [List.take_of_length_le (by omega)] at dat
    exact q D H' kvs (fun c o e => sm _ _ (s1 _ _ e)) hDH hDs dat
end CA
namespace CA
open PySem L2
def allThr : List Str := ["if", "effect", "handler", "later"]
theorem rows_sub {thr thr' : List Str} (hs : ∀ k ∈ thr, k ∈ thr') : ∀ {d : Nat} {ts : List Tr} {path : List Int} {q : List Int × Tr}, q ∈ rowsW thr d ts path → q ∈ rowsW thr' d ts path
  | 0, _, _, _, h => by cases h
  | d + 1, ts, path, q, h => by
    obtain ⟨i, t, ht, hq⟩ := flat_mem _ ts q h
    refine List.mem_flatten.mpr ⟨rowOut (rowsW thr' d) path thr' i t, List.mem_iff_getElem?.mpr ⟨i, by rw [List.getElem?_mapIdx, ht]; rfl⟩, ?_⟩
    unfold rowOut at hq ⊢
    rcases List.mem_cons.mp hq with e | hq
    · exact List.mem_cons.mpr (.inl e)
    · refine List.mem_cons.mpr (.inr ?_)
      split at hq
      · rename_i hk
        rw [if_pos (hs _ hk)]
        obtain ⟨n, x, hx, hq⟩ := flat_mem _ _ q hq
        exact List.mem_flatten.mpr ⟨_, List.mem_iff_getElem?.mpr ⟨n, by rw [List.getElem?_mapIdx, hx]; rfl⟩, rows_sub hs hq⟩
      · cases hq
theorem DAt.some {H : Hp} : ∀ {kvs R} {path : List Int}, DAt H kvs R → (valV kvs (path.map Sum.inl)).isSome = decide (path ∈ R.map (·.1))
  | _, _, path, .nil => by
    show (valV [] (path.map Sum.inl)).isSome = decide (path ∈ ([] : List (List Int)))
    rw [decide_eq_false (by simp)]
    rfl
  | _, _, path, .cons (q := q) (R := R) w d => by
    by_cases e : q.1 = path
    · rw [List.map_cons, decide_eq_true (List.mem_cons.mpr (.inl e.symm)), e, valV_pos rfl]
      rfl
    · rw [valV_neg (fun z => e (inl_inj z)), DAt.some d, List.map_cons]
      have : (path = q.1 ∨ path ∈ R.map (·.1)) ↔ path ∈ R.map (·.1) := ⟨fun h => h.elim (fun z => absurd z.symm e) id, .inr⟩
      simp only [List.mem_cons, this]
/-- what a row needs from the makers -/
def useOk (inC : Bool) (ms : List ((Str × Str) × List Int)) (ins : List Str) (path : List Int) (k : Str) (us : List Tr) : Prop :=
  if inC then madeTwice path k us ms = false ∧ coversIn k us ins = false else lacksM k us (fun a b => (ms.lookup (a, b)).isSome) = false
def spUsesOk (ws es : List Str) (d : Nat) : Sp := fun vs H Q _ => ∃ (rv : V) (pi : Addr) (ts : List Tr) (ins : List Str), vs = [rv, .ref pi] ∧ Tw H rv (.tup ts) ∧ Val ws es d ts ∧ H pi = some (.tup (ins.map V.str)) ∧ 2 * d ≤ 100 ∧ (rowsW allThr d ts []).length ≤ 1000 ∧ (rowsW ifsOnly d ts []).length ≤ 1000 ∧
  (∀ q ∈ rowsW allThr d ts [], useOk (decide (q.1 ∈ (rowsW ifsOnly d ts []).map (·.1))) (makersOf (rowsW ifsOnly d ts [])) ins q.1 (kOf q.2) (itemsOf q.2).tail) ∧ ∀ H', Same H H' → Q .non H'
theorem MkAt.some {H : Hp} {kvs : List (List Key × V)} {ms : List ((Str × Str) × List Int)} (h : MkAt H kvs ms) (a b : Str) : (valV kvs (mkKey a b)).isSome = (ms.lookup (a, b)).isSome := by
  cases e : ms.lookup (a, b) with
  | none =>
    rw [(h a b).1 e]
    rfl
  | some p =>
    obtain ⟨q, e2, _⟩ := (h a b).2 p e
    rw [e2]
    rfl
structure TxtUs (K : PySem.W.Frag) (mg : Str → Option Value) (fw fm ft fc fl aI aA : Addr) : Prop where
  g_rows_within : mg "rows_within" = some (.ref fw)
  k_rows_within : PySem.W.keepIn K (.ref fw) = true
  g_first_makers : mg "first_makers" = some (.ref fm)
  k_first_makers : PySem.W.keepIn K (.ref fm) = true
  g_is_made_twice : mg "is_made_twice" = some (.ref ft)
  k_is_made_twice : PySem.W.keepIn K (.ref ft) = true
  g_covers_input : mg "covers_input" = some (.ref fc)
  k_covers_input : PySem.W.keepIn K (.ref fc) = true
  g_lacks_maker : mg "lacks_maker" = some (.ref fl)
  k_lacks_maker : PySem.W.keepIn K (.ref fl) = true
  IFS : mg "IFS" = some (.ref aI)
  ALL_ROWS : mg "ALL_ROWS" = some (.ref aA)
  sI : ∀ H, SqT K H aI (ifsOnly.map V.str)
  sA : ∀ H, SqT K H aA (allThr.map V.str)
section
variable {P : Program} {w : World} {K : PySem.W.Frag} {mg : Str → Option Value} {base : Heap} {fw fm ft fc fl aI aA : Addr} {ws es : List Str}
abbrev s_check_uses : Stmt := topS 39
theorem sc_check_uses : FnScope ["rows", "inputs", "path", "row", "of_call", "makers", "wrong"] ["rows", "inputs"] (defScope s_check_uses) := ⟨rfl, rfl, rfl, by decide +kernel, rfl, by decide +kernel, by decide +kernel⟩
theorem ok_check_uses {d k : Nat} {f : Addr} {fd fdw fdm fdt fdc fdl : FuncData} (hk : 1 ≤ k) (F : Fun K "check_uses" "check_uses" s_check_uses f fd) (B : Blt mg) (T : TxtUs K mg fw fm ft fc fl aI aA) (Gw : FnOk P w K mg base CX0 k fw fdw ["rows", "path", "through"] (spRows K d)) (bw : Binds K fdw ["rows", "path", "through"] [])
    (Gm : FnOk P w K mg base CX0 1 fm fdm ["of_call"] spMakers) (bm : Binds K fdm ["of_call"] []) (Gt : FnOk P w K mg base CX0 1 ft fdt ["path", "row", "makers"] spTwice) (bt : Binds K fdt ["path", "row", "makers"] [])
    (Gc : FnOk P w K mg base CX0 1 fc fdc ["row", "inputs"] spCovers) (bc : Binds K fdc ["row", "inputs"] []) (Gl : FnOk P w K mg base CX0 1 fl fdl ["row", "makers"] spLacks) (bl : Binds K fdl ["row", "makers"] []) : FnOk P w K mg base CX0 (k + 1) f fd ["rows", "inputs"] (spUsesOk ws es d) := by
  refine F.ok sc_check_uses (fun vs H Q E h => ?_) (fun cdv A outer s H vs Q E hr h => ?_)
  · obtain ⟨rv, pi, ts, ins, rfl, _⟩ := h
    rfl
  obtain ⟨rv, pi, ts, ins, rfl, wt, hv, hpi, h2d, hra, hri, huse, q⟩ := h
  have hr1 : Room 1 _ := hr.mono hk
  refine ⟨_, (pss_cons (ps_setDictT (i := 4) (own := [("path", 2), ("row", 3)]) (g := gTup K 2 (gCons (gName 2) (gCons (gName 3) gNil))) (tt := tYes) (tk := tVar 2) (tv := tVar 3) (units2 hr) rfl sc_check_uses.nd rfl rfl rfl
      (pi_list (pe_call Gw hr rfl T.g_rows_within T.k_rows_within bw .nil pass0 (pa_cons (pv 0) (pa_cons (pe_tup pa_nil) (pa_cons (pe_gr T.IFS) pa_nil)))))
      (blkOk_by (own := [("path", 2), ("row", 3)]) (N := ["rows", "inputs", "path", "row", "of_call", "makers", "wrong"]) (sc := defScope s_check_uses) (by decide +kernel))
      (fun s H C cl fp => pg_tup rfl (pgs_cons (pg_name (i := 2) sc_check_uses.nd rfl (Or.inl rfl)) (pgs_cons (pg_name (i := 3) sc_check_uses.nd rfl (Or.inl rfl)) pgs_nil))) (fun s H C cl fp => pts_nil) (fun s H C cl fp => pv 2) (fun s H C cl fp => pv 3))
  (pss_cons (ps_set (i := 5) sc_check_uses.nd rfl (Or.inl rfl) (pe_call Gm hr1 rfl T.g_first_makers T.k_first_makers bm .nil pass0 (pa_cons (pv 4) pa_nil)))
  (pss_one (ps_for PassesOwn.never rfl (pi_list (pe_call Gw hr rfl T.g_rows_within T.k_rows_within bw .nil pass0 (pa_cons (pv 0) (pa_cons (pe_tup pa_nil) (pa_cons (pe_gr T.ALL_ROWS) pa_nil))))) (pg_tup rfl (pgs_cons (pg_name (i := 2) sc_check_uses.nd rfl (Or.inl rfl)) (pgs_cons (pg_name (i := 3) sc_check_uses.nd rfl (Or.inl rfl)) pgs_nil)))
    (pss_cons (ps_if (pt_cmp (pc_din (units2 hr) (pv 2) (pv 4)) (by rfl))
        (pss_one (ps_set (i := 6) sc_check_uses.nd rfl (Or.inl rfl) (pe_or (pe_call Gt hr1 rfl T.g_is_made_twice T.k_is_made_twice bt .nil pass0 (pa_cons (pv 2) (pa_cons (pv 3) (pa_cons (pv 5) pa_nil)))) (pe_one (pe_call Gc hr1 rfl T.g_covers_input T.k_covers_input bc .nil pass0 (pa_cons (pv 3) (pa_cons (pv 1) pa_nil)))))))
        (pss_one (ps_set (i := 6) sc_check_uses.nd rfl (Or.inl rfl) (pe_call Gl hr1 rfl T.g_lacks_maker T.k_lacks_maker bl .nil pass0 (pa_cons (pv 3) (pa_cons (pv 5) pa_nil))))))
      (pss_one (ps_if (pt_val (pv 6))
        pss_never
        pss_nil))))))), ?_⟩
  have fitI := rows_fit (thr := ifsOnly) (path := []) hv
  have fitA := rows_fit (thr := allThr) (path := []) hv
  dsimp only [tSeq, tAsg]
  refine dict_rows (K := K) (p := 2) (r := 3) (vs := [2, 3]) (σ := [some rv, some (.ref pi), none, none, none, none, none]) (R := rowsW ifsOnly d ts []) rows_nodup hri (fun R' h => ?_) (fun _ _ => rfl) (fun _ _ => rfl) (fun _ _ => rfl) fun D H2 kvs s2 nD eD dat => ?_
  · refine ⟨_, rfl, by decide, fun pe hpe => ?_⟩
    have s1 := same_new hpe (.tup [])
    exact ⟨rv, pe, aI, ts, [], ifsOnly, rfl, Tw.gr (Gr.of s1) _ _ wt, hv.shp, upd_same, T.sI _, by simpa using h2d, hri, fun p1 H2 ws1 s2 n2 e2 w2 => ⟨p1, rfl, ⟨ws1, SqL.of e2⟩, h p1 H2 ws1 (fun c o e => s2 _ _ (s1 _ _ e)) e2 w2⟩⟩
  refine ⟨_, rfl, D, kvs, rowsW ifsOnly d ts [], ws, es, rfl, eD, dat, fitI, hri, fun pm H3 mk s3 npm epm hmk => ?_⟩
  have S3 : Same H H3 := fun c o e => s3 _ _ (s2 _ _ e)
  refine ⟨_, rfl, by decide, fun pe3 hpe3 => ?_⟩
  have sp3 := same_new hpe3 (.tup [])
  refine ⟨rv, pe3, aA, ts, [], allThr, rfl, Tw.gr ((Gr.of S3).trans (Gr.of sp3)) _ _ wt, hv.shp, upd_same, T.sA _, by simpa using h2d, hra, fun p4 H4 ws4 s4 n4 e4 w4 => ?_⟩
  have S34 : Same H3 H4 := fun c o e => s4 _ _ (sp3 _ _ e)
  have S4 : Same H H4 := fun c o e => S34 _ _ (S3 _ _ e)
  have dat4 : DAt H4 kvs (rowsW ifsOnly d ts []) := DAt.gr ((Gr.of s3).trans (Gr.of S34)) dat
  have eD4 := S34 _ _ (s3 _ _ eD)
  have epm4 := S34 _ _ epm
  have hmk4 := hmk.tup fun a xs e => S34 _ _ e
  refine ⟨p4, rfl, ⟨_, SqL.of e4⟩, for_list (K := K) (a := p4) (xs := ws4) (fun i σ H' => ∃ x2 x3 x6, σ = [some rv, some (.ref pi), x2, x3, some (.ref D), some (.ref pm), x6] ∧ Same H4 H') ⟨none, none, none, rfl, fun _ _ e => e⟩ (fun i σ H' _ ⟨_, _, _, _, sm⟩ => SqL.of (sm _ _ e4)) (fun i x σ H' hx pv => ?_) (fun σ H' pv => ?_)⟩
  · obtain ⟨x2, x3, x6, rfl, sm⟩ := pv
    obtain ⟨tq, htq, wx⟩ := w4.get hx
    rw [List.getElem?_map] at htq
    cases hq : (rowsW allThr d ts [])[i]? with
    | none => rw [hq] at htq; cases htq
    | some qr =>
      rw [hq] at htq
      cases htq
      have hqm := List.mem_of_getElem? hq
      obtain ⟨k', us, eqx, hf⟩ := fitA qr hqm
      have huse := huse qr hqm
      have wx := Tw.gr (Gr.of sm) _ _ wx
      cases wx with
      | @tup a2 v2 _ ha2 hl2 _ =>
      cases hl2 with
      | @cons vp vr _ _ wp hr2 =>
      cases hr2 with
      | @cons rowv _ _ _ wr hn2 =>
      cases hn2
      cases wp with
      | @tup pq vq _ hpq hlq _ =>
      rw [TwL.to_ints hlq] at hpq
      rw [eqx] at wr huse
      have ek : kOf (Tr.tup (tx k' :: us)) = k' := rfl
      have ei : (itemsOf (Tr.tup (tx k' :: us))).tail = us := rfl
      rw [ek, ei] at huse
      refine ⟨a2, [.ref pq, rowv], rfl, SqT.of ha2, rfl, _, _, rfl, _, _, rfl, rfl, ?_⟩
      refine ⟨_, rfl, _, rfl, D, _, rfl, DGet.t (k := qr.1.map Sum.inl) (sm _ _ eD4) (by rw [kV_ints]; exact hpq), _, rfl, ?_⟩
      rw [(DAt.gr (Gr.of sm) dat4).some]
      cases hin : decide (qr.1 ∈ (rowsW ifsOnly d ts []).map (·.1)) with
      | true =>
        rw [hin] at huse
        have huse : madeTwice qr.1 k' us (makersOf (rowsW ifsOnly d ts [])) = false ∧ coversIn k' us ins = false := huse
        refine iteT ⟨_, rfl, _, rfl, _, rfl, pq, rowv, k', us, ws, es, pm, mk, makersOf (rowsW ifsOnly d ts []), qr.1, rfl, hpq, wr, hf, sm _ _ epm4, hmk4.tup fun a xs e => sm _ _ e, fun hk' => ?_, fun H5 s5 => ?_⟩
        · have h1 := huse.1
          unfold madeTwice at h1
          rw [decide_eq_true hk', if_pos rfl] at h1
          have h2 : decide ((makersOf (rowsW ifsOnly d ts [])).lookup (k', txOf' (us.headD (tx ""))) = some qr.1) = true := by simpa using h1
          rw [of_decide_eq_true h2]
          rfl
        · rw [huse.1]
          refine ⟨_, rfl, iteF ⟨_, rfl, _, rfl, rowv, k', us, ws, es, pi, ins, rfl, Tw.gr (Gr.of s5) _ _ wr, hf, s5 _ _ (sm _ _ (S4 _ _ hpi)), fun H6 s6 => ?_⟩⟩
          rw [huse.2]
          exact ⟨_, rfl, _, rfl, iteF ⟨_, _, _, rfl, fun c o e => s6 _ _ (s5 _ _ (sm _ _ e))⟩⟩
      | false =>
        rw [hin] at huse
        have huse : lacksM k' us (fun a b => ((makersOf (rowsW ifsOnly d ts [])).lookup (a, b)).isSome) = false := huse
        refine iteF ⟨_, rfl, _, rfl, rowv, k', us, ws, es, pm, mk, rfl, wr, hf, sm _ _ epm4, fun H5 s5 => ?_⟩
        have e : (fun a b => (valV mk (mkKey a b)).isSome) = fun a b => ((makersOf (rowsW ifsOnly d ts [])).lookup (a, b)).isSome := by
          funext a b
          exact hmk.some a b
        rw [e, huse]
        exact ⟨_, rfl, _, rfl, iteF ⟨_, _, _, rfl, fun c o e => s5 _ _ (sm _ _ e)⟩⟩
  · obtain ⟨x2, x3, x6, rfl, sm⟩ := pv
    exact q H' fun c o e => sm _ _ (S4 _ _ e)
end
end CA
namespace CA
open PySem L2
/-- a part that passes every check; its rows go down to the depth d -/
structure PartOk (ws ins es : List Str) (d : Nat) (ts : List Tr) : Prop where
  words : trNames (.tup (ws.map tx)) 2 4 = true
  inputs : trNames (.tup (ins.map tx)) 0 2 = true
  events : trNames (.tup (es.map tx)) 0 3 = true
  rows : ValZ ws es d "call" 1 ts
  uses : ∀ q ∈ rowsW allThr d ts [], useOk (decide (q.1 ∈ (rowsW ifsOnly d ts []).map (·.1))) (makersOf (rowsW ifsOnly d ts [])) ins q.1 (kOf q.2) (itemsOf q.2).tail
  calls : (rowsW ifsOnly d ts []).length ≤ 16
  funs : (funsW d ts []).length ≤ 1000
  many : ∀ q ∈ funsW d ts [], (rowsW ifsLater d (itemsOf q.2) []).length ≤ 8
  all : (rowsW allThr d ts []).length ≤ 1000
  deep : 2 * d ≤ 100
theorem names_len {ss : List Str} {a b : Int} (h : trNames (.tup (ss.map tx)) a b = true) : (ss.length : Int) ≤ b ∧ ∀ s ∈ ss, s.length ≤ 8 := by
  have h : (_ && _ && _ && _) = true := h
  simp only [Bool.and_eq_true, decide_eq_true_eq, List.length_map] at h
  refine ⟨h.1.1.2, fun s hs => ?_⟩
  have z := List.all_eq_true.mp h.1.2 (trName (tx s)) (by
    rw [List.map_map]
    exact List.mem_map.mpr ⟨s, hs, rfl⟩)
  exact nmS_len z
theorem tw_names {H : Hp} {p : Addr} {ss : List Str} {a b : Int} (h : trNames (.tup (ss.map tx)) a b = true) (hb : b ≤ 1000) (e : H p = some (.tup (ss.map V.str))) : Tw H (.ref p) (.tup (ss.map tx)) := by
  obtain ⟨h1, h2⟩ := names_len h
  refine .tup e (TwL.txs ss fun s hs => Nat.le_trans (h2 s hs) (by decide)) ?_
  rw [List.length_map]
  omega
def spPartOk : Sp := fun vs H Q _ => ∃ (pw pi pe : Addr) (rv : V) (ws ins es : List Str) (d : Nat) (ts : List Tr), vs = [.ref pw, .ref pi, .ref pe, rv] ∧ H pw = some (.tup (ws.map V.str)) ∧ H pi = some (.tup (ins.map V.str)) ∧ H pe = some (.tup (es.map V.str)) ∧ Tw H rv (.tup ts) ∧ PartOk ws ins es d ts ∧ ∀ H', Same H H' → Q .non H'
end CA
namespace CA
open PySem L2
def spPartD (D : Nat) : Sp := fun vs H Q _ => ∃ (pw pi pe : Addr) (rv : V) (ws ins es : List Str) (ts : List Tr), vs = [.ref pw, .ref pi, .ref pe, rv] ∧ H pw = some (.tup (ws.map V.str)) ∧ H pi = some (.tup (ins.map V.str)) ∧ H pe = some (.tup (es.map V.str)) ∧ Tw H rv (.tup ts) ∧ PartOk ws ins es D ts ∧ ∀ H', Same H H' → Q .non H'
structure TxtP (K : PySem.W.Frag) (mg : Str → Option Value) (fn fr fu fc : Addr) : Prop where
  g_check_names : mg "check_names" = some (.ref fn)
  k_check_names : PySem.W.keepIn K (.ref fn) = true
  g_check_rows : mg "check_rows" = some (.ref fr)
  k_check_rows : PySem.W.keepIn K (.ref fr) = true
  g_check_uses : mg "check_uses" = some (.ref fu)
  k_check_uses : PySem.W.keepIn K (.ref fu) = true
  g_check_counts : mg "check_counts" = some (.ref fc)
  k_check_counts : PySem.W.keepIn K (.ref fc) = true
section
variable {P : Program} {w : World} {K : PySem.W.Frag} {mg : Str → Option Value} {base : Heap} {fn fr fu fc : Addr}
abbrev s_check_part : Stmt := topS 36
theorem sc_check_part : FnScope ["words", "inputs", "events", "rows"] ["words", "inputs", "events", "rows"] (defScope s_check_part) := ⟨rfl, rfl, rfl, by decide +kernel, rfl, by decide +kernel, by decide +kernel⟩
theorem ok_check_part {D k : Nat} {f : Addr} {fd fdn fdr fdu fdc : FuncData} (hk : 3 ≤ k) (F : Fun K "check_part" "check_part" s_check_part f fd) (B : Blt mg) (T : TxtP K mg fn fr fu fc) (Gn : FnOk P w K mg base CX0 3 fn fdn ["words", "inputs", "events"] spNamesOk) (bn : Binds K fdn ["words", "inputs", "events"] [])
    (Gr' : ∀ ws es, FnOk P w K mg base CX0 k fr fdr ["rows", "path", "zone", "depth", "words", "events"] (spRowsOk ws es D)) (br : Binds K fdr ["rows", "path", "zone", "depth", "words", "events"] [])
    (Gu : ∀ ws es, FnOk P w K mg base CX0 k fu fdu ["rows", "inputs"] (spUsesOk ws es D)) (bu : Binds K fdu ["rows", "inputs"] []) (Gc : FnOk P w K mg base CX0 k fc fdc ["rows"] (spCounts D)) (bc : Binds K fdc ["rows"] []) : FnOk P w K mg base CX0 (k + 1) f fd ["words", "inputs", "events", "rows"] (spPartD D) := by
  refine F.ok sc_check_part (fun vs H Q E h => ?_) (fun cdv A outer s H vs Q E hr h => ?_)
  · obtain ⟨pw, pi, pe, rv, ws, ins, es, ts, rfl, _⟩ := h
    rfl
  obtain ⟨pw, pi, pe, rv, ws, ins, es, ts, rfl, hw, hi, he, wt, ok, q⟩ := h
  have hr3 : Room 3 _ := hr.mono hk
  have hr1 : Room 1 _ := hr3.mono (by decide)
  refine ⟨_, (pss_cons (ps_expr (pe_call Gn hr3 rfl T.g_check_names T.k_check_names bn .nil pass0 (pa_cons (pv 0) (pa_cons (pv 1) (pa_cons (pv 2) pa_nil)))))
  (pss_cons (ps_if (pt_not (pt_val (pe_callB call_isi (by rfl) B.isinstance (by decide +kernel) (pa_cons (pv 3) (pa_cons (pe_bltn (v := .ty "tuple") (by rfl) B.tuple (by decide +kernel) rfl) pa_nil)))))
    pss_never
    pss_nil)
  (pss_cons (ps_expr (pe_call (Gr' ws es) hr rfl T.g_check_rows T.k_check_rows br .nil pass0 (pa_cons (pv 3) (pa_cons (pe_tup pa_nil) (pa_cons pe_str (pa_cons pe_int (pa_cons (pv 0) (pa_cons (pv 2) pa_nil))))))))
  (pss_cons (ps_expr (pe_call (Gu ws es) hr rfl T.g_check_uses T.k_check_uses bu .nil pass0 (pa_cons (pv 3) (pa_cons (pv 1) pa_nil))))
  (pss_one (ps_expr (pe_call Gc hr rfl T.g_check_counts T.k_check_counts bc .nil pass0 (pa_cons (pv 3) pa_nil)))))))), ?_⟩
  have h4 := (names_len ok.words).1
  refine ⟨_, rfl, _, rfl, _, rfl, _, _, _, _, _, _, rfl, tw_names ok.words (by decide) hw, tw_names ok.inputs (by decide) hi, tw_names ok.events (by decide) he, ok.words, ok.inputs, ok.events, fun H1 s1 => ?_⟩
  have w1 := Tw.gr (Gr.of s1) _ _ wt
  refine tisi_tup (K := K) (v := rv) rfl w1 ⟨_, rfl, iteF ?_⟩
  refine ⟨_, rfl, by decide, fun p2 hp2 => ?_⟩
  have s2 := same_new hp2 (.tup [])
  have S2 : Same H (upd H1 p2 (.tup [])) := fun c o e => s2 _ _ (s1 _ _ e)
  refine ⟨_, rfl, _, rfl, rv, p2, ts, [], "call", 1, pw, pe, rfl, Tw.gr (Gr.of s2) _ _ w1, upd_same, ok.rows, S2 _ _ hw, S2 _ _ he, by omega, by simpa using ok.deep, fun H3 s3 => ?_⟩
  have S3 : Same H H3 := fun c o e => s3 _ _ (S2 _ _ e)
  refine ⟨_, rfl, _, rfl, rv, pi, ts, ins, rfl, Tw.gr (Gr.of S3) _ _ wt, ok.rows.val, S3 _ _ hi, ok.deep, ok.all, Nat.le_trans ok.calls (by decide), ok.uses, fun H4 s4 => ?_⟩
  have S4 : Same H H4 := fun c o e => s4 _ _ (S3 _ _ e)
  exact ⟨_, rfl, rv, ts, rfl, Tw.gr (Gr.of S4) _ _ wt, ok.rows.val.shp, ok.deep, ok.calls, ok.funs, ok.many, fun H5 s5 => q H5 fun c o e => s5 _ _ (S4 _ _ e)⟩
end
end CA
namespace CA
open PySem L2
theorem walk_enumT {K : PySem.W.Frag} {a : Addr} {xs : List V} {H0 : Hp} {Body : V → Hp → (Hp → Prop) → Prop} {Qd : Hp → Prop} (Pv : Nat → Hp → Prop) (h0 : Pv 0 H0) (hl : ∀ i H, i ≤ xs.length → Pv i H → SqT K H a xs)
    (hs : ∀ i x T H, xs[i]? = some x → Pv i H → H T = none → Body (.ref T) (upd H T (.tup [.int (i : Nat), x])) (Pv (i + 1))) (hd : ∀ H, Pv xs.length H → Qd H) :
    ∃ W : Nat → Nat → Hp → Prop, (∃ m, W 0 m H0) ∧ ∀ i m H, W i m H →
      ((IteT K a).stop i H ∧ Qd H) ∨ ((IteT K a).go i H ∧ ∃ Nx : Hp → Prop, (∀ H', Nx H' → ∃ m', m' < m ∧ W (i + 1) m' H') ∧ ∀ x H', (IteT K a).yld i H x H' → Body x H' Nx) := by
  refine ⟨fun i m H => m = xs.length - i ∧ i ≤ xs.length ∧ Pv i H, ⟨xs.length, by simp, Nat.zero_le _, h0⟩, ?_⟩
  rintro i m H ⟨rfl, hi, p⟩
  have q := hl i H hi p
  by_cases hlt : i < xs.length
  · refine .inr ⟨⟨xs, xs[i], q, by simp [hlt]⟩, Pv (i + 1), fun H' p' => ⟨xs.length - (i + 1), by omega, rfl, hlt, p'⟩, fun v H' y => ?_⟩
    obtain ⟨T, x, rfl, hT, rfl, hx⟩ := y
    exact hs i x T H (hx xs q) p hT
  · have e : i = xs.length := by omega
    subst e
    exact .inl ⟨⟨xs, q, Nat.le_refl _⟩, hd H p⟩
/-- the paths of the tuples of rows -/
def tupOut (rec : List Tr → List Int → List (List Int)) (path : List Int) (i : Nat) (t : Tr) : List (List Int) := ((inn t).mapIdx fun n x => rec (itemsOf x) (path ++ [(i : Int)] ++ [(n : Int)])).flatten
def tupsW : Nat → List Tr → List Int → List (List Int)
  | 0, _, _ => []
  | d + 1, ts, path => path :: (ts.mapIdx (tupOut (tupsW d) path)).flatten
def spTups (d : Nat) : Sp := fun vs H Q _ => ∃ rv pa ts path, vs = [rv, .ref pa] ∧ Tw H rv (.tup ts) ∧ Shp d ts ∧ H pa = some (.tup (path.map V.int)) ∧ path.length + 2 * d ≤ 100 ∧ (tupsW d ts path).length ≤ 1000 ∧
  ∀ p H' ws (R : List (List Int × Tr)), Same H H' → H p = none → H' p = some (.lst ws) → TwL H' ws (R.map pairT) → R.map (·.1) = tupsW d ts path → Q (.ref p) H'
structure TxtT (K : PySem.W.Frag) (mg : Str → Option Value) (fi fs : Addr) : Prop where
  g_inner_rows : mg "inner_rows" = some (.ref fi)
  k_inner_rows : PySem.W.keepIn K (.ref fi) = true
  g_tuples_within : mg "tuples_within" = some (.ref fs)
  k_tuples_within : PySem.W.keepIn K (.ref fs) = true
section
variable {P : Program} {w : World} {K : PySem.W.Frag} {mg : Str → Option Value} {base : Heap} {fi fs : Addr}
abbrev s_tuples_within : Stmt := topS 31
theorem sc_tuples_within : FnScope ["rows", "path", "row", "placed", "found", "at", "number", "inner", "place"] ["rows", "path"] (defScope s_tuples_within) := ⟨rfl, rfl, rfl, by decide +kernel, rfl, by decide +kernel, by decide +kernel⟩
theorem ok_tuples_within_step {fd fdi : FuncData} {d k : Nat} (hk : 1 ≤ k) (F : Fun K "tuples_within" "tuples_within" s_tuples_within fs fd) (B : Blt mg) (T : TxtT K mg fi fs) (Ginner_rows : FnOk P w K mg base CX0 1 fi fdi ["row"] spInner) (binner_rows : Binds K fdi ["row"] [])
    (Gt : FnOk P w K mg base CX0 k fs fd ["rows", "path"] (spTups d)) (bt : Binds K fd ["rows", "path"] []) : FnOk P w K mg base CX0 (k + 1) fs fd ["rows", "path"] (spTups (d + 1)) := by
  refine F.ok sc_tuples_within (fun vs H Q E h => ?_) (fun cdv A outer s H vs Q E hr h => ?_)
  · obtain ⟨rv, pa, ts, path, rfl, _⟩ := h
    rfl
  obtain ⟨rv, pa, ts, path, rfl, wt, hsh, hpa, hpl, hlen, q⟩ := h
  have hr1 : Room 1 _ := hr.mono hk
  refine ⟨_, (pss_cons (ps_setLc (i := 3) (own := [("place", 8), ("row", 2)]) (g := gTup K 2 (gCons (gName 8) (gCons (gName 2) gNil))) (tt := tYes) (te := tTup (tCons (tOp (rCatA K) (tVar 1) (tTup (tCons (tVar 8) tNil))) (tCons (tVar 2) tNil))) rfl sc_tuples_within.nd rfl rfl rfl (pi_enumT B.enumerate (pa_cons (pv 0) pa_nil))
      (blkOk_by (own := [("place", 8), ("row", 2)]) (N := ["rows", "path", "row", "placed", "found", "at", "number", "inner", "place"]) (sc := defScope s_tuples_within) (by decide +kernel))
      (fun s H C cl fp => pg_tup rfl (pgs_cons (pg_name (i := 8) sc_tuples_within.nd rfl (Or.inl rfl)) (pgs_cons (pg_name (i := 2) sc_tuples_within.nd rfl (Or.inl rfl)) pgs_nil))) (fun s H C cl fp => pts_nil) (fun s H C cl fp => pe_tup (pa_cons (pe_op op_catA (pv 1) (pe_tup (pa_cons (pv 8) pa_nil))) (pa_cons (pv 2) pa_nil))))
  (pss_cons (ps_set (i := 4) sc_tuples_within.nd rfl (Or.inl rfl) (pe_lst (pa_cons (pe_tup (pa_cons (pv 1) (pa_cons (pv 3) pa_nil))) pa_nil)))
  (pss_cons (ps_for PassesOwn.never rfl (pi_list (pv 3)) (pg_tup rfl (pgs_cons (pg_name (i := 5) sc_tuples_within.nd rfl (Or.inl rfl)) (pgs_cons (pg_name (i := 2) sc_tuples_within.nd rfl (Or.inl rfl)) pgs_nil)))
    (pss_one (ps_for PassesOwn.never rfl (pi_enumT B.enumerate (pa_cons (pe_call Ginner_rows hr1 rfl T.g_inner_rows T.k_inner_rows binner_rows .nil pass0 (pa_cons (pv 2) pa_nil)) pa_nil)) (pg_tup rfl (pgs_cons (pg_name (i := 6) sc_tuples_within.nd rfl (Or.inl rfl)) (pgs_cons (pg_name (i := 7) sc_tuples_within.nd rfl (Or.inl rfl)) pgs_nil)))
        (pss_one (ps_expr (pe_bm PySem.F.plainAttrs_list PySem.F.slot_list_extend PySem.F.type_list_extend mt_extend (pv 4) (pa_cons (pe_call Gt hr rfl T.g_tuples_within T.k_tuples_within bt .nil pass0 (pa_cons (pv 7) (pa_cons (pe_op op_catA (pv 5) (pe_tup (pa_cons (pv 6) pa_nil))) pa_nil))) pa_nil)))))))
  (pss_one (ps_ret (pv 4)))))), ?_⟩
  cases wt with
  | @tup a vs _ ha hl hb =>
  have ln := hl.len
  have eW : tupsW (d + 1) ts path = path :: (ts.mapIdx (tupOut (tupsW d) path)).flatten := rfl
  rw [eW] at q hlen
  have hlen' : ((ts.mapIdx (tupOut (tupsW d) path)).flatten).length ≤ 999 := by simpa using hlen
  dsimp only [tSeq, tAsg]
  -- placed
  refine ⟨_, rfl, a, vs, rfl, SqT.of ha, fun D hD => ?_⟩
  refine walk_enumT (K := K) (a := a) (xs := vs) (fun i H' => ∃ us, Same H H' ∧ H' D = some (.lst us) ∧ us.length = i ∧ TwL H' us ((ts.mapIdx fun i t => pairT (path ++ [(i : Int)], t)).take i)) ⟨[], same_new hD _, upd_same, rfl, by rw [List.take_zero]; exact .nil⟩ (fun i H' _ pv => by obtain ⟨us, sm, _⟩ := pv; exact SqT.of (sm _ _ ha)) (fun i x TT H' hx pv hT => ?_) (fun H' pv => ?_)
  · obtain ⟨us, sm, hDs, hul, hus⟩ := pv
    obtain ⟨t, ht, wx⟩ := hl.get hx
    have hi := (List.getElem?_eq_some_iff.mp hx).1
    have sT := same_new hT (.tup [V.int (i : Nat), x])
    refine ⟨TT, [.int (i : Nat), x], rfl, SqT.of upd_same, rfl, _, _, rfl, _, _, rfl, rfl, rfl, ?_⟩
    unfold tYes
    refine iteT ⟨_, rfl, _, rfl, (show 1 ≤ sizeLine by decide), fun b1 hb1 => ?_⟩
    have s2 := same_new hb1 (.tup [V.int (i : Nat)])
    refine cat1 (path := path) (s2 _ _ (sT _ _ (sm _ _ hpa))) upd_same (by omega) fun pq H3 s3 hpq => ?_
    refine ⟨_, rfl, (show 2 ≤ sizeLine by decide), fun p2 hp2 => ?_⟩
    have s4 := same_new hp2 (.tup [V.ref pq, x])
    have S4 : Same H' (upd H3 p2 (.tup [V.ref pq, x])) := fun c o e => s4 _ _ (s3 _ _ (s2 _ _ (sT _ _ e)))
    have g5 := gr_list (us := us ++ [V.ref p2]) (S4 _ _ hDs)
    refine ⟨_, S4 _ _ hDs, Nat.lt_of_le_of_lt (show _ ≤ 1000 by omega) (by decide), us ++ [V.ref p2], same_upd hD fun c o e => S4 _ _ (sm _ _ e), upd_same, by rw [List.length_append, hul]; rfl, ?_⟩
    rw [List.take_add_one, List.getElem?_mapIdx, ht]
    refine TwL.app (TwL.gr ((Gr.of S4).trans g5) _ _ hus) (TwL.cons (Tw.tup (g5.tup _ _ upd_same) (TwL.cons (Tw.tup (g5.tup _ _ (s4 _ _ hpq)) (TwL.ints _) ?_) (TwL.cons (Tw.gr ((Gr.of fun c o e => S4 _ _ (sm _ _ e)).trans g5) _ _ wx) TwL.nil)) (show 2 ≤ 1000 by decide)) TwL.nil)
    rw [List.length_map, List.length_append]
    simp
    omega
  obtain ⟨us, sm, hDs, hul, hus⟩ := pv
  rw [List.take_of_length_le (by rw [List.length_mapIdx, ln]; exact Nat.le_refl _)] at hus
  -- found
  refine ⟨_, rfl, _, rfl, (show 2 ≤ sizeLine by decide), fun p1 hp1 => ⟨(show 1 ≤ sizeLine by decide), fun p hp => ?_⟩⟩
  have s1 := same_new hp1 (.tup [V.ref pa, .ref D])
  have s2 := same_new hp (.lst [V.ref p1])
  have S2 : Same H' (upd (upd H' p1 (.tup [V.ref pa, .ref D])) p (.lst [V.ref p1])) := fun c o e => s2 _ _ (s1 _ _ e)
  have hpH : H p = none := by
    cases e : H p with
    | none => rfl
    | some o => rw [s1 _ _ (sm _ _ e)] at hp; cases hp
  generalize hH2 : upd (upd H' p1 (.tup [V.ref pa, .ref D])) p (.lst [V.ref p1]) = H2 at s2 S2
  have hp2 : H2 p = some (.lst [V.ref p1]) := by rw [← hH2]; exact upd_same
  have SH2 : Same H H2 := fun c o e => S2 _ _ (sm _ _ e)
  have hus2 := TwL.gr (Gr.of S2) _ _ hus
  have hD2 := S2 _ _ hDs
  have npD : p ≠ D := fun e => by rw [e] at hp; rw [s1 _ _ hDs] at hp; cases hp
  have w0 : TwL H2 [V.ref p1] [pairT (path, .at (.ref D))] := TwL.cons (Tw.tup (s2 _ _ upd_same) (TwL.cons (Tw.tup (SH2 _ _ hpa) (TwL.ints _) (by rw [List.length_map]; show path.length ≤ 1000; omega)) (TwL.cons (.at (.lst hD2)) TwL.nil)) (show 2 ≤ 1000 by decide)) TwL.nil
  refine ⟨_, rfl, D, rfl, ⟨_, SqL.of hD2⟩, for_list (K := K) (a := D) (xs := us)
    (fun i σ H' => ∃ x2 x5 x6 x7 x8 ws R, σ = [some (.ref a), some (.ref pa), x2, some (.ref D), some (.ref p), x5, x6, x7, x8] ∧ Same H H' ∧ Gr H2 H' ∧ H' D = some (.lst us) ∧ H' p = some (.lst ws) ∧ TwL H' ws (R.map pairT) ∧ R.map (·.1) = path :: ((ts.mapIdx (tupOut (tupsW d) path)).take i).flatten)
    ⟨none, none, none, none, none, [.ref p1], [(path, .at (.ref D))], rfl, SH2, Gr.refl _, hD2, hp2, w0, by rw [List.take_zero]; rfl⟩ (fun i σ H' _ ⟨_, _, _, _, _, _, _, _, _, _, h, _⟩ => SqL.of h) (fun i x σ H3 hx pv => ?_) (fun σ H3 pv => ?_)⟩
  · obtain ⟨x2, x5, x6, x7, x8, ws, R, rfl, S3, g3, hD3, hp3, hws, hR⟩ := pv
    obtain ⟨tq, htq, wx⟩ := hus2.get hx
    rw [List.getElem?_mapIdx] at htq
    cases ht : ts[i]? with
    | none => rw [ht] at htq; cases htq
    | some t =>
    rw [ht] at htq
    cases htq
    obtain ⟨k', rs, rfl, hin⟩ := shp_at hsh ht
    have eacc := flat_take (tupOut (tupsW d) path) ts i _ ht
    have lacc : ((((ts.mapIdx (tupOut (tupsW d) path)).take i).flatten) ++ tupOut (tupsW d) path i (.tup (tx k' :: rs))).length ≤ 999 := by
      rw [← eacc]
      exact Nat.le_trans (flat_le _ _) hlen'
    generalize hA : ((ts.mapIdx (tupOut (tupsW d) path)).take i).flatten = A at hR eacc lacc
    have eout : tupOut (tupsW d) path i (.tup (tx k' :: rs)) = ((innerT k' (tx k' :: rs)).mapIdx fun n x => tupsW d (itemsOf x) (path ++ [(i : Int)] ++ [(n : Int)])).flatten := rfl
    rw [eout] at eacc lacc
    have wx := Tw.gr g3 _ _ wx
    cases wx with
    | @tup a2 v2 _ ha2 hl2 _ =>
    cases hl2 with
    | @cons vp vr _ _ wp hr2 =>
    cases hr2 with
    | @cons rowv _ _ _ wr hn2 =>
    cases hn2
    cases wp with
    | @tup pq vq _ hpq hlq _ =>
    rw [TwL.to_ints hlq] at hpq
    refine ⟨a2, [.ref pq, rowv], rfl, SqT.of ha2, rfl, _, _, rfl, _, _, rfl, rfl, ?_⟩
    refine ⟨_, rfl, rowv, k', rs, rfl, wr, fun v6 H6 s6 w6 => ?_⟩
    cases w6 with
    | @tup a6 v6s _ ha6 hl6 hb6 =>
    have S6 : Same H H6 := fun c o e => s6 _ _ (S3 _ _ e)
    have ln6 := hl6.len
    have tot := flat_le ((innerT k' (tx k' :: rs)).mapIdx fun n x => tupsW d (itemsOf x) (path ++ [(i : Int)] ++ [(n : Int)]))
    refine ⟨a6, v6s, rfl, SqT.of ha6, for_enumT (K := K) (a := a6) (xs := v6s)
      (fun n σ H' => ∃ x6 x7 ws R, σ = [some (.ref a), some (.ref pa), some rowv, some (.ref D), some (.ref p), some (.ref pq), x6, x7, x8] ∧ Same H H' ∧ Gr H6 H' ∧ H' D = some (.lst us) ∧ H' p = some (.lst ws) ∧ TwL H' ws (R.map pairT) ∧
        R.map (·.1) = path :: (A ++ (((innerT k' (tx k' :: rs)).mapIdx fun n x => tupsW d (itemsOf x) (path ++ [(i : Int)] ++ [(n : Int)])).take n).flatten))
      ⟨x6, x7, ws, R, rfl, S6, Gr.refl _, s6 _ _ hD3, s6 _ _ hp3, TwL.gr (Gr.of s6) _ _ hws, by rw [List.take_zero, List.flatten_nil, List.append_nil]; exact hR⟩ (fun n σ H' _ ⟨_, _, _, _, _, _, g, _⟩ => SqT.of (g.tup _ _ ha6)) (fun n y σ H7 T7 hy pv hT7 => ?_) (fun σ H7 pv => ?_)⟩
    · obtain ⟨y6, y7, ws7, R7, rfl, S7, g7, hD7, hp7, hws7, hR7⟩ := pv
      obtain ⟨t7, ht7, wy⟩ := hl6.get hy
      obtain ⟨xs7, rfl, sh7⟩ := hin t7 (List.mem_of_getElem? ht7)
      have e7 := flat_take (fun n x => tupsW d (itemsOf x) (path ++ [(i : Int)] ++ [(n : Int)])) _ n _ ht7
      have l7 := tot (n + 1)
      rw [e7, List.length_append] at l7
      rw [List.length_append] at lacc
      have lw7 := hws7.len
      have lR7 := congrArg List.length hR7
      rw [List.length_map, List.length_cons, List.length_append] at lR7
      rw [List.length_map] at lw7
      have sT7 := same_new hT7 (.tup [V.int (n : Nat), y])
      refine ⟨T7, [.int (n : Nat), y], rfl, SqT.of upd_same, rfl, _, _, rfl, _, _, rfl, rfl, ?_⟩
      have hp8 := sT7 _ _ hp7
      refine ⟨_, rfl, .inl ⟨rfl, _, SqL.of hp8⟩, _, rfl, _, rfl, _, rfl, (show 1 ≤ sizeLine by decide), fun b7 hb7 => ?_⟩
      have s8 := same_new hb7 (.tup [V.int (n : Nat)])
      have G8 : Gr H6 (upd (upd H7 T7 (.tup [V.int (n : Nat), y])) b7 (.tup [V.int (n : Nat)])) := g7.trans ((Gr.of sT7).trans (Gr.of s8))
      refine cat1 (path := path ++ [(i : Int)]) (G8.tup _ _ (s6 _ _ hpq)) upd_same (by rw [List.length_append]; simp; omega) fun pq9 H9 s9 hpq9 => ?_
      have G9 : Gr H6 H9 := G8.trans (Gr.of s9)
      have S79 : Same H7 H9 := fun c o e => s9 _ _ (s8 _ _ (sT7 _ _ e))
      refine ⟨y, pq9, xs7, path ++ [(i : Int)] ++ [(n : Int)], rfl, Tw.gr G9 _ _ wy, sh7, hpq9, ?_, ?_, fun p10 H10 ws10 R10 s10 n10 e10 w10 hR10 => ?_⟩
      · rw [List.length_append, List.length_append]
        simp
        omega
      · have z : tupsW d (itemsOf (.tup xs7)) (path ++ [(i : Int)] ++ [(n : Int)]) = tupsW d xs7 (path ++ [(i : Int)] ++ [(n : Int)]) := rfl
        rw [z] at l7
        omega
      have hp10 := s10 _ _ (S79 _ _ hp7)
      have lw10 := w10.len
      have lR10 := congrArg List.length hR10
      rw [List.length_map] at lR10 lw10
      have z : tupsW d (itemsOf (.tup xs7)) (path ++ [(i : Int)] ++ [(n : Int)]) = tupsW d xs7 (path ++ [(i : Int)] ++ [(n : Int)]) := rfl
      rw [z] at l7
      have g12 := gr_list (us := ws7 ++ ws10) hp10
      refine ⟨p, p10, ws7, ws10, rfl, rfl, hp10, e10, Nat.le_trans (show _ ≤ 2001 by omega) (by decide), ?_⟩
      refine ⟨_, _, ws7 ++ ws10, R7 ++ R10, rfl, same_upd hpH fun c o e => s10 _ _ (S79 _ _ (S7 _ _ e)), (G9.trans (Gr.of s10)).trans g12, ?_, upd_same, ?_, ?_⟩
      · rw [upd_ne (fun e => npD e.symm)]
        exact s10 _ _ (S79 _ _ hD7)
      · rw [List.map_append]
        exact TwL.app (TwL.gr (((Gr.of S79).trans (Gr.of s10)).trans g12) _ _ hws7) (TwL.gr g12 _ _ w10)
      · rw [List.map_append, hR7, hR10, e7, ← List.append_assoc]
        rfl
    · obtain ⟨y6, y7, ws7, R7, rfl, S7, g7, hD7, hp7, hws7, hR7⟩ := pv
      rw [List.take_of_length_le (by rw [List.length_mapIdx, ln6]; exact Nat.le_refl _)] at hR7
      exact ⟨_, _, _, _, _, ws7, R7, rfl, S7, (g3.trans (Gr.of s6)).trans g7, hD7, hp7, hws7, by rw [eacc]; exact hR7⟩
  · obtain ⟨x2, x5, x6, x7, x8, ws, R, rfl, S3, g3, hD3, hp3, hws, hR⟩ := pv
    have e : (ts.mapIdx (tupOut (tupsW d) path)).take us.length = ts.mapIdx (tupOut (tupsW d) path) := List.take_of_length_le (by rw [List.length_mapIdx, hul, ln]; exact Nat.le_refl _)
    rw [e] at hR
    exact ⟨_, rfl, q p _ ws R S3 hpH hp3 hws hR⟩
theorem ok_tuples_within {fd fdi : FuncData} (F : Fun K "tuples_within" "tuples_within" s_tuples_within fs fd) (B : Blt mg) (T : TxtT K mg fi fs) (Ginner_rows : FnOk P w K mg base CX0 1 fi fdi ["row"] spInner) (binner_rows : Binds K fdi ["row"] []) (bt : Binds K fd ["rows", "path"] []) :
    ∀ d : Nat, FnOk P w K mg base CX0 (d + 1) fs fd ["rows", "path"] (spTups d)
  | 0 => by
    have no : ∀ vs H Q E, ¬ spTups 0 vs H Q E := fun vs H Q E h => by
      obtain ⟨_, _, _, _, _, _, z, _⟩ := h
      exact z
    refine ⟨?_, ?_⟩
    · intro vs H Q E h
      exact (no _ _ _ _ h).elim
    · intros
      rename_i h
      exact (no _ _ _ _ h).elim
  | d + 1 => ok_tuples_within_step (Nat.le_add_left 1 d) F B T Ginner_rows binner_rows (ok_tuples_within F B T Ginner_rows binner_rows bt d) bt
end
end CA
namespace CA
open PySem L2
/-! ### dicts by the paths of a list -/
inductive DR (Rel : Hp → (List Int × Tr) → V → Prop) (H : Hp) : List (List Key × V) → List (List Int × Tr) → Prop
  | nil : DR Rel H [] []
  | cons {v : V} {kvs : List (List Key × V)} {q : List Int × Tr} {R : List (List Int × Tr)} : Rel H q v → DR Rel H kvs R → DR Rel H ((q.1.map Sum.inl, v) :: kvs) (q :: R)
section
variable {Rel : Hp → (List Int × Tr) → V → Prop}
theorem DR.gr (hst : ∀ H H' q v, Gr H H' → Rel H q v → Rel H' q v) {H H' : Hp} (g : Gr H H') : ∀ {kvs R}, DR Rel H kvs R → DR Rel H' kvs R
  | _, _, .nil => .nil
  | _, _, .cons w d => .cons (hst _ _ _ _ g w) (DR.gr hst g d)
theorem DR.snoc {H : Hp} : ∀ {kvs R} {v : V} {q : List Int × Tr}, DR Rel H kvs R → Rel H q v → DR Rel H (kvs ++ [(q.1.map Sum.inl, v)]) (R ++ [q])
  | _, _, _, _, .nil, w => .cons w .nil
  | _, _, _, _, .cons w1 d, w => .cons w1 (DR.snoc d w)
theorem DR.none {H : Hp} : ∀ {kvs R} {path : List Int}, DR Rel H kvs R → path ∉ R.map (·.1) → valV kvs (path.map Sum.inl) = none
  | _, _, _, .nil, _ => rfl
  | _, _, path, .cons (q := q) w d, h => by
    rw [List.map_cons, List.mem_cons, not_or] at h
    rw [valV_neg (fun e => h.1 (inl_inj e).symm)]
    exact DR.none d h.2
theorem DR.at {H : Hp} : ∀ {kvs R} {q : List Int × Tr}, DR Rel H kvs R → (R.map (·.1)).Nodup → q ∈ R → ∃ v, valV kvs (q.1.map Sum.inl) = some v ∧ Rel H q v
  | _, _, _, .nil, _, h => by cases h
  | _, _, q, .cons (q := q0) (R := R) w d, hn, h => by
    rw [List.map_cons, List.nodup_cons] at hn
    rcases List.mem_cons.mp h with e | h
    · subst e
      exact ⟨_, valV_pos rfl, w⟩
    · have ne : q0.1 ≠ q.1 := fun e => hn.1 (by rw [e]; exact List.mem_map.mpr ⟨q, h, rfl⟩)
      obtain ⟨v, e, r⟩ := DR.at d hn.2 h
      exact ⟨v, by rw [valV_neg (fun z => ne (inl_inj z))]; exact e, r⟩
theorem DR.some {H : Hp} : ∀ {kvs R} {path : List Int}, DR Rel H kvs R → (valV kvs (path.map Sum.inl)).isSome = decide (path ∈ R.map (·.1))
  | _, _, path, .nil => by
    show (valV [] (path.map Sum.inl)).isSome = decide (path ∈ ([] : List (List Int)))
    rw [decide_eq_false (by simp)]
    rfl
  | _, _, path, .cons (q := q) (R := R) w d => by
    by_cases e : q.1 = path
    · rw [List.map_cons, decide_eq_true (List.mem_cons.mpr (.inl e.symm)), e, valV_pos rfl]
      rfl
    · rw [valV_neg (fun z => e (inl_inj z)), DR.some d, List.map_cons]
      have : (path = q.1 ∨ path ∈ R.map (·.1)) ↔ path ∈ R.map (·.1) := ⟨fun h => h.elim (fun z => absurd z.symm e) id, .inr⟩
      simp only [List.mem_cons, this]
end
theorem nodup_take {R : List (List Int × Tr)} (hn : (R.map (·.1)).Nodup) {i : Nat} {q : List Int × Tr} (hq : R[i]? = some q) : q.1 ∉ (R.take i).map (·.1) := by
  intro hmem
  have hi := (List.getElem?_eq_some_iff.mp hq).1
  obtain ⟨q2, hq2, e2⟩ := List.mem_map.mp hmem
  obtain ⟨j, hj2⟩ := List.mem_iff_getElem?.mp hq2
  rw [List.getElem?_take] at hj2
  split at hj2
  · rename_i hji
    have hjl := (List.getElem?_eq_some_iff.mp hj2).1
    have := List.pairwise_iff_getElem.mp hn j i (by rw [List.length_map]; exact hjl) (by rw [List.length_map]; exact hi) hji
    rw [List.getElem_map, List.getElem_map] at this
    apply this
    have g1 := (List.getElem?_eq_some_iff.mp hj2).2
    have g2 := (List.getElem?_eq_some_iff.mp hq).2
    rw [g1, g2]
    exact e2
  · cases hj2
theorem gr_dT {H : Hp} {D : Addr} {kvs : List (List Key × V)} {o : HO} (h : H D = some (.dT kvs)) : Gr H (upd H D o) :=
  ⟨fun a xs e => by rw [upd_ne (ne_of e h (by intro z; cases z))]; exact e, fun a xs e => ⟨_, by rw [upd_ne (ne_of e h (by intro z; cases z))]; exact e⟩, fun a xs e => ⟨_, by rw [upd_ne (ne_of e h (by intro z; cases z))]; exact e⟩⟩
/-- the reading of {path: te for path, r in <a list of such pairs>} -/
theorem dict_gen {K : PySem.W.Frag} {wi : TI} {te : TE} {p r : Nat} {vs : List Nat} {σ : L2.St} {H : Hp} {Q : VK} {R : List (List Int × Tr)} (Rel : Hp → (List Int × Tr) → V → Prop) (hst : ∀ H H' q v, Gr H H' → Rel H q v → Rel H' q v) (hn : (R.map (·.1)).Nodup) (hl : R.length ≤ 1000)
    (hwi : ∀ R' : It → Hp → Prop, (∀ p1 H1 ws1, Same H H1 → H1 p1 = some (.lst ws1) → TwL H1 ws1 (R.map pairT) → R' (Itl K p1) H1) → wi σ H R')
    (hj : ∀ x y, wipe (((wipe σ vs).set p (some x)).set r (some y)) vs = wipe σ vs) (hp : ∀ x y, (((wipe σ vs).set p (some x)).set r (some y))[p]? = some (some x))
    (he : ∀ q ∈ R, ∀ rowv x H' (Q' : VK), Same H H' → Tw H' rowv q.2 → (∀ v H'', Same H' H'' → Rel H'' q v → Q' v H'') → te (((wipe σ vs).set p (some x)).set r (some rowv)) H' Q')
    (q : ∀ D H' kvs, Same H H' → H D = none → H' D = some (.dT kvs) → DR Rel H' kvs R → Q (.ref D) H') :
    tGc wi (gTup K 2 (gCons (gName p) (gCons (gName r) gNil))) tYes (tlDict (tVar p) te) vs (fun _ => .dT []) σ H Q := by
  refine hwi _ fun p1 H1 ws1 s1 e1 w1 D hD => ?_
  have lw := w1.len
  rw [List.length_map] at lw
  have hDH : H D = none := by
    cases e : H D with
    | none => rfl
    | some o => rw [s1 _ _ e] at hD; cases hD
  refine walk_list (xs := ws1) (fun i H' => Same H1 H' ∧ ∃ kvs, H' D = some (.dT kvs) ∧ kvs.length = i ∧ DR Rel H' kvs (R.take i)) ⟨same_new hD _, [], upd_same, rfl, by rw [List.take_zero]; exact .nil⟩ (fun i H' _ pv => SqL.of (pv.1 _ _ e1)) (fun i x H' hx pv => ?_) (fun H' pv => ?_)
  · obtain ⟨sm, kvs, hDs, hkl, dat⟩ := pv
    obtain ⟨tq, htq, wx⟩ := w1.get hx
    rw [List.getElem?_map] at htq
    cases hq : R[i]? with
    | none => rw [hq] at htq; cases htq
    | some qr =>
      rw [hq] at htq
      cases htq
      have wx := Tw.gr (Gr.of sm) _ _ wx
      cases wx with
      | @tup a2 v2 _ ha2 hl2 _ =>
      cases hl2 with
      | @cons vp vr _ _ wp hr2 =>
      cases hr2 with
      | @cons rowv _ _ _ wr hn2 =>
      cases hn2
      cases wp with
      | @tup pq vq _ hpq hlq _ =>
      rw [TwL.to_ints hlq] at hpq
      have hi := (List.getElem?_eq_some_iff.mp hq).1
      have hnin := nodup_take hn hq
      have hnone := dat.none hnin
      refine ⟨a2, [.ref pq, rowv], rfl, SqT.of ha2, rfl, _, _, rfl, _, _, rfl, rfl, hj _ _, ?_⟩
      unfold tYes
      refine iteT ⟨_, hp _ _, ?_⟩
      refine he qr (List.mem_of_getElem? hq) rowv (.ref pq) H' _ (fun c o e => sm _ _ (s1 _ _ e)) wr fun v H5 s5 rv => ?_
      have hD5 := s5 _ _ hDs
      have g := gr_dT (o := .dT (putK kvs (qr.1.map Sum.inl) v)) hD5
      refine ⟨kvs, qr.1.map Sum.inl, pq, rfl, by rw [kV_ints]; exact s5 _ _ hpq, hD5, Nat.lt_of_le_of_lt (show _ ≤ 1000 by omega) (by decide), same_upd hD (fun c o e => s5 _ _ (sm _ _ e)), _, upd_same, ?_, ?_⟩
      · rw [putK_new _ hnone, List.length_append, hkl]
        rfl
      · rw [putK_new _ hnone] at g ⊢
        rw [List.take_add_one, hq]
        exact DR.snoc (DR.gr hst g (DR.gr hst (Gr.of s5) dat)) (hst _ _ _ _ g rv)
  · obtain ⟨sm, kvs, hDs, hkl, dat⟩ := pv
    rw [List.take_of_length_le (by omega)] at dat
    exact q D H' kvs (fun c o e => sm _ _ (s1 _ _ e)) hDH hDs dat
theorem putK_le (kvs : List (List Key × V)) (k : List Key) (v : V) : (putK kvs k v).length ≤ kvs.length + 1 := by
  induction kvs with
  | nil => simp [putK]
  | cons a l ih =>
    unfold putK
    split
    · simp
    · simpa using ih
/-- the same where only a dict is wished for -/
theorem dict_any {K : PySem.W.Frag} {wi : TI} {p r : Nat} {vs : List Nat} {σ : L2.St} {H : Hp} {Q : VK} {n : Nat} (hl : n ≤ 1000)
    (hwi : ∀ R' : It → Hp → Prop, (∀ p1 H1 ws1 (R : List (List Int × Tr)), R.length = n → Same H H1 → H1 p1 = some (.lst ws1) → TwL H1 ws1 (R.map pairT) → R' (Itl K p1) H1) → wi σ H R')
    (hj : ∀ x y, wipe (((wipe σ vs).set p (some x)).set r (some y)) vs = wipe σ vs) (hp : ∀ x y, (((wipe σ vs).set p (some x)).set r (some y))[p]? = some (some x)) (hr : ∀ x y, (((wipe σ vs).set p (some x)).set r (some y))[r]? = some (some y))
    (q : ∀ D H' kvs, Same H H' → H D = none → H' D = some (.dT kvs) → Q (.ref D) H') :
    tGc wi (gTup K 2 (gCons (gName p) (gCons (gName r) gNil))) tYes (tlDict (tVar p) (tVar r)) vs (fun _ => .dT []) σ H Q := by
  refine hwi _ fun p1 H1 ws1 R hR s1 e1 w1 D hD => ?_
  have lw := w1.len
  rw [List.length_map] at lw
  have hDH : H D = none := by
    cases e : H D with
    | none => rfl
    | some o => rw [s1 _ _ e] at hD; cases hD
  refine walk_list (xs := ws1) (fun i H' => Same H1 H' ∧ ∃ kvs, H' D = some (.dT kvs) ∧ kvs.length ≤ i) ⟨same_new hD _, [], upd_same, Nat.le_refl _⟩ (fun i H' _ pv => SqL.of (pv.1 _ _ e1)) (fun i x H' hx pv => ?_) (fun H' pv => ?_)
  · obtain ⟨sm, kvs, hDs, hkl⟩ := pv
    obtain ⟨tq, htq, wx⟩ := w1.get hx
    rw [List.getElem?_map] at htq
    cases hq : R[i]? with
    | none => rw [hq] at htq; cases htq
    | some qr =>
      rw [hq] at htq
      cases htq
      have hi := (List.getElem?_eq_some_iff.mp hq).1
      have wx := Tw.gr (Gr.of sm) _ _ wx
      cases wx with
      | @tup a2 v2 _ ha2 hl2 _ =>
      cases hl2 with
      | @cons vp vr _ _ wp hr2 =>
      cases hr2 with
      | @cons rowv _ _ _ wr hn2 =>
      cases hn2
      cases wp with
      | @tup pq vq _ hpq hlq _ =>
      rw [TwL.to_ints hlq] at hpq
      refine ⟨a2, [.ref pq, rowv], rfl, SqT.of ha2, rfl, _, _, rfl, _, _, rfl, rfl, hj _ _, ?_⟩
      unfold tYes
      refine iteT ⟨_, hp _ _, _, hr _ _, kvs, qr.1.map Sum.inl, pq, rfl, by rw [kV_ints]; exact hpq, hDs, Nat.lt_of_le_of_lt (show _ ≤ 1000 by omega) (by decide), same_upd hD sm, _, upd_same, ?_⟩
      exact Nat.le_trans (putK_le _ _ _) (by omega)
  · obtain ⟨sm, kvs, hDs, hkl⟩ := pv
    exact q D H' kvs (fun c o e => sm _ _ (s1 _ _ e)) hDH hDs
/-! ### the paths of the functions are all different -/
theorem funs_pre : ∀ {d : Nat} {ts : List Tr} {path : List Int} (q : List Int × Tr), q ∈ funsW d ts path → ∃ (i n : Nat) (rest : List Int), q.1 = path ++ (i : Int) :: (n : Int) :: rest
  | 0, _, _, _, h => by cases h
  | d + 1, ts, path, q, h => by
    obtain ⟨i, t, ht, hq⟩ := flat_mem _ ts q h
    obtain ⟨n, x, hx, hq⟩ := flat_mem _ _ q hq
    unfold funOut1 at hq
    rcases List.mem_append.mp hq with hq | hq
    · split at hq
      · cases hq
      · rw [List.mem_singleton] at hq
        exact ⟨i, n, [], by rw [hq]⟩
    · obtain ⟨a, b, rest, e⟩ := funs_pre q hq
      exact ⟨i, n, (a : Int) :: (b : Int) :: rest, by rw [e]; simp⟩
theorem funOut1_pre {d : Nat} {path : List Int} {i : Nat} {k : Str} {n : Nat} {x : Tr} {q : List Int × Tr} (hq : q ∈ funOut1 (funsW d) path i k n x) : ∃ rest : List Int, q.1 = path ++ (i : Int) :: (n : Int) :: rest := by
  unfold funOut1 at hq
  rcases List.mem_append.mp hq with hq | hq
  · split at hq
    · cases hq
    · rw [List.mem_singleton] at hq
      exact ⟨[], by rw [hq]⟩
  · obtain ⟨a, b, rest, e⟩ := funs_pre q hq
    exact ⟨(a : Int) :: (b : Int) :: rest, by rw [e]; simp⟩
theorem funs_diff : ∀ {d : Nat} {ts : List Tr} {path : List Int}, (funsW d ts path).Pairwise fun a b => a.1 ≠ b.1
  | 0, _, _ => List.Pairwise.nil
  | d + 1, ts, path => by
    refine pw_flat _ ts _ (fun i t ht => ?_) (fun i j t u hij ht hu a ha b hb => ?_)
    · refine pw_flat _ _ _ (fun n x hx => ?_) (fun n m x y hnm hx hy a ha b hb => ?_)
      · unfold funOut1
        rw [List.pairwise_append]
        refine ⟨by split <;> simp, funs_diff, fun a ha b hb => ?_⟩
        split at ha
        · cases ha
        · rw [List.mem_singleton] at ha
          obtain ⟨i1, n1, r1, e1⟩ := funs_pre b hb
          rw [ha, e1]
          intro h
          have h2 : (path ++ [(i : Int), (n : Int)]) ++ [] = (path ++ [(i : Int), (n : Int)]) ++ ((i1 : Int) :: (n1 : Int) :: r1) := by simpa using h
          have h3 := List.append_cancel_left h2
          cases h3
      · obtain ⟨r1, e1⟩ := funOut1_pre ha
        obtain ⟨r2, e2⟩ := funOut1_pre hb
        rw [e1, e2]
        intro h
        have h2 := (app_cons_inj h).2
        injection h2 with h2 _
        omega
    · obtain ⟨n, x, hx, ha⟩ := flat_mem _ _ a ha
      obtain ⟨m, y, hy, hb⟩ := flat_mem _ _ b hb
      obtain ⟨r1, e1⟩ := funOut1_pre ha
      obtain ⟨r2, e2⟩ := funOut1_pre hb
      rw [e1, e2]
      intro h
      have := (app_cons_inj h).1
      omega
theorem funs_nodup {d : Nat} {ts : List Tr} {path : List Int} : ((funsW d ts path).map (·.1)).Nodup := by
  unfold List.Nodup
  rw [List.pairwise_map]
  exact funs_diff
end CA
namespace CA
open PySem L2
theorem walk_valsT {d : Addr} {o : Obj} {kvs : List (List Key × V)} {H0 : Hp} {Body : V → Hp → (Hp → Prop) → Prop} {Qd : Hp → Prop} (Pv : Nat → Hp → Prop) (h0 : Pv 0 H0) (hl : ∀ i H, Pv i H → H d = some (.frz o (.dT kvs)))
    (hs : ∀ (i : Nat) (k : List Key) (v : V) (H : Hp), kvs[i]? = some (k, v) → Pv i H → Body v H (Pv (i + 1))) (hd : ∀ H, Pv kvs.length H → Qd H) :
    ∃ W : Nat → Nat → Hp → Prop, (∃ m, W 0 m H0) ∧ ∀ i m H, W i m H →
      ((ItdT d o kvs).stop i H ∧ Qd H) ∨ ((ItdT d o kvs).go i H ∧ ∃ Nx : Hp → Prop, (∀ H', Nx H' → ∃ m', m' < m ∧ W (i + 1) m' H') ∧ ∀ x H', (ItdT d o kvs).yld i H x H' → Body x H' Nx) := by
  refine ⟨fun i m H => m = kvs.length - i ∧ i ≤ kvs.length ∧ Pv i H, ⟨kvs.length, rfl, Nat.zero_le _, h0⟩, ?_⟩
  rintro i m H ⟨rfl, hi, p⟩
  have q := hl i H p
  by_cases hlt : i < kvs.length
  · refine .inr ⟨⟨q, hlt⟩, Pv (i + 1), fun H' p' => ⟨kvs.length - (i + 1), by omega, rfl, hlt, p'⟩, fun x H' y => ?_⟩
    obtain ⟨rfl, k, hk⟩ := y
    exact hs i k x _ hk p
  · have e : i = kvs.length := by omega
    subst e
    exact .inl ⟨⟨q, Nat.le_refl _⟩, hd H p⟩
/-- all slots that these rows name -/
def namedAll (R : List (List Int × Tr)) : List Str := (R.map fun q => slotsOf q.2).flatten
def spOther : Sp := fun vs H Q _ => ∃ (pi pd : Addr) (ins : List Str) (kvs : List (List Key × V)) (R : List (List Int × Tr)) (ws es : List Str), vs = [.ref pi, .ref pd] ∧ H pi = some (.tup (ins.map V.str)) ∧ H pd = some (.dT kvs) ∧ DAt H kvs R ∧ (∀ q ∈ R, ∃ k us, q.2 = .tup (tx k :: us) ∧ rowFits (.tup (tx k :: us)) ws es = true) ∧
  (addAll [] (namedAll R)).length < 60 ∧ (∀ q ∈ R, (slotsOf q.2).length ≤ 1000) ∧
  ∀ p H' ys, Same H H' → ys.Perm (addAll [] (namedAll R)) → PyProof.Rows.sortedS ys = true → H' p = some (.tup ((ys.filter fun s => !decide (s ∈ ins)).map V.str)) → Q (.ref p) H'
theorem addAll_mono {l xs : List Str} {n : Nat} : (addAll l (xs.take n)).length ≤ (addAll l xs).length := by
  have e : addAll l xs = addAll (addAll l (xs.take n)) (xs.drop n) := by rw [addAll_app, List.take_append_drop]
  rw [e]
  generalize addAll l (xs.take n) = a
  generalize xs.drop n = b
  induction b generalizing a with
  | nil => exact Nat.le_refl _
  | cons x b ih =>
    refine Nat.le_trans ?_ (ih (addL x a))
    unfold addL
    split
    · exact Nat.le_refl _
    · simp
theorem addAll_pre {l xs ys : List Str} : (addAll l xs).length ≤ (addAll l (xs ++ ys)).length := by
  have h := addAll_mono (l := l) (xs := xs ++ ys) (n := xs.length)
  rw [List.take_left] at h
  exact h
theorem flat_take_split {α : Type} (ls : List (List α)) (i : Nat) : ls.flatten = (ls.take i).flatten ++ (ls.drop i).flatten := by rw [← List.flatten_append, List.take_append_drop]
structure TxtO (K : PySem.W.Frag) (mg : Str → Option Value) (fsl : Addr) : Prop where
  g_slots_in : mg "slots_in" = some (.ref fsl)
  k_slots_in : PySem.W.keepIn K (.ref fsl) = true
section
variable {P : Program} {w : World} {K : PySem.W.Frag} {mg : Str → Option Value} {base : Heap} {fsl : Addr}
abbrev s_other_slots : Stmt := topS 55
theorem sc_other_slots : FnScope ["inputs", "row_table", "named", "row", "slot"] ["inputs", "row_table"] (defScope s_other_slots) := ⟨rfl, rfl, rfl, by decide +kernel, rfl, by decide +kernel, by decide +kernel⟩
theorem ok_other_slots {f : Addr} {fd fds : FuncData} (F : Fun K "other_slots" "other_slots" s_other_slots f fd) (B : Blt mg) (T : TxtO K mg fsl) (Gs : FnOk P w K mg base CX0 1 fsl fds ["row"] spSlots) (bs : Binds K fds ["row"] []) : FnOk P w K mg base CX0 2 f fd ["inputs", "row_table"] spOther := by
  refine F.ok sc_other_slots (fun vs H Q E h => ?_) (fun cdv A outer s H vs Q E hr h => ?_)
  · obtain ⟨pi, pd, ins, kvs, R, ws, es, rfl, _⟩ := h
    rfl
  obtain ⟨pi, pd, ins, kvs, R, ws, es, rfl, hpi, hpd, dat, fits, h60, hsm, q⟩ := h
  have hr1 : Room 1 _ := hr.mono (by decide)
  refine ⟨_, (pss_cons (ps_lock (ps_set (i := 2) sc_other_slots.nd rfl (Or.inl rfl) (pe_callB (cr_sortSetS rfl) (by rfl) B.sorted (by decide +kernel) (pa_cons
    (pe_set2 (own := [("row", 3), ("slot", 4)]) (vs1 := [4]) (wi := iValsT (tVar 1)) (wi1 := iList K (tCall spSlots [] E0 (tCons (tVar 3) tNil))) (g := gName 3) (g1 := gName 4) (tt := tYes) (tt1 := tYes) (te := tVar 4) rfl sc_other_slots.nd (pi_valuesT (pv 1))
      (blkOk_by (own := [("row", 3), ("slot", 4)]) (N := ["inputs", "row_table", "named", "row", "slot"]) (sc := defScope s_other_slots) (by decide +kernel)) (by decide)
      (fun s H C cl fp => pg_name (i := 3) sc_other_slots.nd rfl (Or.inl rfl)) (fun s H C cl fp => pts_nil)
      (fun s H C cl fp => pi_list (pe_call Gs hr1 rfl T.g_slots_in T.k_slots_in bs .nil pass0 (pa_cons (pv 3) pa_nil))) (fun s H C cl fp => pg_name (i := 4) sc_other_slots.nd rfl (Or.inl rfl)) (fun s H C cl fp => pts_nil) (fun s H C cl fp => pv 4)) pa_nil))))
  (pss_one (ps_ret (pe_callTy call_tuple_of (by rfl) B.tuple (by decide +kernel) (pa_cons
    (pe_lc (own := [("slot", 4)]) (wi := iList K (tVar 2)) (g := gName 4) (tt := tTest (tOp (rInT K true) (tVar 4) (tVar 0))) (te := tVar 4) rfl sc_other_slots.nd (pi_list (pv 2)) (blkOk_by (own := [("slot", 4)]) (N := ["inputs", "row_table", "named", "row", "slot"]) (sc := defScope s_other_slots) (by decide +kernel))
      (fun s H C cl fp => pg_name (i := 4) sc_other_slots.nd rfl (Or.inl rfl)) (fun s H C cl fp => pts_one (pt_cmpR (op_notInT (Nat.lt_of_le_of_lt (Nat.add_le_add_left (by decide) _) hr.units)) (pv 4) (pv 0) (by rfl))) (fun s H C cl fp => pv 4)) pa_nil))))), ?_⟩
  have gB : ∀ {H' : Hp}, (∀ b o, b ≠ pd → H b = some o → H' b = some o) → Gr H H' := fun {H'} h =>
    ⟨fun a xs e => h _ _ (ne_of e hpd (by intro z; cases z)) e, fun a xs e => ⟨_, h _ _ (ne_of e hpd (by intro z; cases z)) e⟩, fun a xs e => ⟨_, h _ _ (ne_of e hpd (by intro z; cases z)) e⟩⟩
  refine ⟨pd, .dT kvs, hpd, trivial, fun od => ?_⟩
  have H1p : ∀ b o, b ≠ pd → H b = some o → (upd H pd (.frz od (.dT kvs))) b = some o := fun b o hb e => by rw [upd_ne hb]; exact e
  generalize hH1 : upd H pd (.frz od (.dT kvs)) = H1 at H1p
  have hf1 : H1 pd = some (.frz od (.dT kvs)) := by rw [← hH1]; exact upd_same
  refine ⟨_, rfl, pd, od, kvs, rfl, hf1, fun D hD => ?_⟩
  have nD : D ≠ pd := fun e => by rw [e, hf1] at hD; cases hD
  have hDH : H D = none := by
    cases e : H D with
    | none => rfl
    | some o => rw [H1p _ _ nD e] at hD; cases hD
  have eall : namedAll R = (R.map fun q => slotsOf q.2).flatten := rfl
  refine walk_valsT (d := pd) (o := od) (kvs := kvs) (fun i H' => Same H1 H' ∧ H' D = some (SetSO P w D (addAll [] (((R.map fun q => slotsOf q.2).take i).flatten)))) ⟨same_new hD _, by rw [List.take_zero]; exact upd_same⟩ (fun i H' pv => pv.1 _ _ hf1) (fun i kk v H' hk pv => ?_) (fun H' pv => ?_)
  · obtain ⟨sm, hDs⟩ := pv
    obtain ⟨qr, hqr, ekk, wv⟩ := dat.get hk
    obtain ⟨k', us, eq2, hfit⟩ := fits qr (List.mem_of_getElem? hqr)
    have eslots : slotsOf qr.2 = rowSlots k' us := by rw [eq2]; rfl
    have hsmq := hsm qr (List.mem_of_getElem? hqr)
    rw [eslots] at hsmq
    have eacc := flat_take' (fun q : List Int × Tr => slotsOf q.2) R i qr hqr
    rw [eslots] at eacc
    have esplit : namedAll R = (((R.map fun q => slotsOf q.2).take i).flatten ++ rowSlots k' us) ++ ((R.map fun q => slotsOf q.2).drop (i + 1)).flatten := by
      rw [eall, flat_take_split _ (i + 1), eacc]
    generalize hA : ((R.map fun q => slotsOf q.2).take i).flatten = A at hDs eacc esplit
    have wv := Tw.gr (gB fun b o hb e => sm _ _ (H1p b o hb e)) _ _ wv
    rw [eq2] at wv
    refine ⟨rfl, ?_⟩
    unfold tYes
    refine iteT ?_
    refine ⟨_, rfl, v, k', us, ws, es, rfl, wv, hfit, fun p3 H4 s4 n4 e4 => ⟨p3, rfl, ⟨_, SqL.of e4⟩, ?_⟩⟩
    have npD : p3 ≠ D := fun e => by rw [e] at n4; rw [n4] at hDs; cases hDs
    refine walk_list (xs := (rowSlots k' us).map V.str) (fun n H' => Same H1 H' ∧ H' p3 = some (.lst ((rowSlots k' us).map V.str)) ∧ H' D = some (SetSO P w D (addAll (addAll [] A) ((rowSlots k' us).take n)))) ⟨fun c o e => s4 _ _ (sm _ _ e), e4, by rw [List.take_zero]; exact s4 _ _ hDs⟩ (fun n H' _ pv => SqL.of pv.2.1) (fun n y H5 hy pv => ?_) (fun H5 pv => ?_)
    · obtain ⟨sm5, hp5, hD5⟩ := pv
      rw [List.getElem?_map] at hy
      cases hz : (rowSlots k' us)[n]? with
      | none => rw [hz] at hy; cases hy
      | some z =>
        rw [hz] at hy
        cases hy
        have room : (addAll (addAll [] A) ((rowSlots k' us).take n)).length + 1 < PySem.scanBound := by
          have h1 : (addAll (addAll [] A) ((rowSlots k' us).take n)).length ≤ (addAll [] (namedAll R)).length := by
            refine Nat.le_trans addAll_mono ?_
            rw [addAll_app, esplit]
            exact addAll_pre
          show _ < 4096
          omega
        refine ⟨rfl, ?_⟩
        show (if true = true then _ else _)
        refine iteT ⟨_, rfl, z, _, rfl, hD5, room, same_upd hD sm5, ?_, ?_⟩
        · rw [upd_ne npD]
          exact hp5
        · rw [upd_same, addAll_take _ _ _ _ hz]
          rfl
    · obtain ⟨sm5, hp5, hD5⟩ := pv
      rw [List.length_map, List.take_length] at hD5
      refine ⟨sm5, ?_⟩
      rw [eacc, ← addAll_app]
      exact hD5
  · obtain ⟨sm, hDs⟩ := pv
    rw [List.take_of_length_le (by rw [List.length_map, dat.len]; exact Nat.le_refl _), ← eall] at hDs
    refine ⟨D, _, rfl, hDs, by omega, fun ys p4 hperm hsrt hp4 => ?_⟩
    have s5 := same_new hp4 (.lst (ys.map V.str))
    have f5 : (upd H' p4 (.lst (ys.map V.str))) pd = some (.frz od (.dT kvs)) := s5 _ _ (sm _ _ hf1)
    refine ⟨f5, ?_⟩
    have S5 : Same H (upd (upd H' p4 (.lst (ys.map V.str))) pd (.dT kvs)) := fun c o e => by
      by_cases hc : c = pd
      · rw [hc, upd_same]
        rw [hc, hpd] at e
        exact e
      · rw [upd_ne hc]
        exact s5 _ _ (sm _ _ (H1p _ _ hc e))
    have np4 : p4 ≠ pd := fun e => by rw [e, sm _ _ hf1] at hp4; cases hp4
    have e5 : (upd (upd H' p4 (.lst (ys.map V.str))) pd (.dT kvs)) p4 = some (.lst (ys.map V.str)) := by rw [upd_ne np4]; exact upd_same
    generalize hH6 : upd (upd H' p4 (.lst (ys.map V.str))) pd (.dT kvs) = H6 at S5 e5
    have lys : ys.length < 60 := by rw [hperm.length_eq]; exact h60
    refine ⟨_, rfl, p4, rfl, ⟨_, SqL.of e5⟩, fun D2 hD2 => ?_⟩
    refine walk_list (xs := ys.map V.str) (fun i H'' => Same H6 H'' ∧ H'' D2 = some (.lst (((ys.take i).filter fun s => !decide (s ∈ ins)).map V.str))) ⟨same_new hD2 _, by rw [List.take_zero]; exact upd_same⟩ (fun i H'' _ pv => SqL.of (pv.1 _ _ e5)) (fun i y H'' hy pv => ?_) (fun H'' pv => ?_)
    · obtain ⟨sm6, hD6⟩ := pv
      rw [List.getElem?_map] at hy
      cases hz : ys[i]? with
      | none => rw [hz] at hy; cases hy
      | some z =>
        rw [hz] at hy
        cases hy
        have etake : (ys.take (i + 1)).filter (fun s => !decide (s ∈ ins)) = (ys.take i).filter (fun s => !decide (s ∈ ins)) ++ (if (!decide (z ∈ ins)) = true then [z] else []) := by
          rw [List.take_add_one, hz, List.filter_append]
          show _ ++ List.filter _ [z] = _
          rw [List.filter_cons, List.filter_nil]
        refine ⟨rfl, ?_⟩
        refine ⟨_, rfl, _, rfl, pi, ins, rfl, .inr (SqT.of (sm6 _ _ (S5 _ _ hpi))), .flat rfl, _, rfl, ?_⟩
        rw [memT_str]
        cases hu : decide (z ∈ ins) with
        | true =>
          refine iteF ⟨sm6, ?_⟩
          rw [etake, hu]
          simpa using hD6
        | false =>
          refine iteT ⟨_, rfl, _, hD6, ?_, same_upd hD2 sm6, ?_⟩
          · rw [List.length_map]
            refine Nat.lt_of_le_of_lt (show _ ≤ 60 from ?_) (by decide)
            have h1 := List.length_filter_le (fun s => !decide (s ∈ ins)) (ys.take i)
            rw [List.length_take] at h1
            omega
          · rw [upd_same, etake, hu, List.map_append]
            rfl
    · obtain ⟨sm6, hD6⟩ := pv
      rw [List.length_map, List.take_length] at hD6
      refine ⟨D2, _, rfl, .inl ⟨SqL.of hD6, fun l hl => ?_⟩⟩
      exact q l _ ys (fun c o e => same_new hl _ _ _ (sm6 _ _ (S5 _ _ e))) hperm hsrt upd_same
end
end CA
namespace CA
open PySem L2
/-! ### what holds of rows that pass the checks -/
theorem ValZ.succ {ws es : List Str} : ∀ {d : Nat} {z : Str} {dp : Int} {ts : List Tr}, ValZ ws es d z dp ts → ValZ ws es (d + 1) z dp ts
  | 0, _, _, _, h => h.elim
  | d + 1, _, _, _, h => fun t ht => by
    obtain ⟨k, us, e, hf, hm, hin⟩ := h t ht
    exact ⟨k, us, e, hf, hm, fun n x hx => by
      obtain ⟨xs, e2, v⟩ := hin n x hx
      exact ⟨xs, e2, ValZ.succ v⟩⟩
theorem zoneIn_call {k : Str} {n : Int} {z : Str} (hz : k ≠ "if" ∨ z ≠ "call") : zoneIn k n z ≠ "call" := by
  unfold zoneIn
  by_cases h1 : k = "if"
  · rw [if_pos h1]
    exact hz.elim (fun q => absurd h1 q) id
  · rw [if_neg h1]
    split
    · decide
    · split <;> decide
theorem fun_val {ws es : List Str} : ∀ {d : Nat} {z : Str} {dp : Int} {ts : List Tr} {path : List Int}, ValZ ws es d z dp ts → ∀ q ∈ funsW d ts path, ∃ xs z' dp', q.2 = .tup xs ∧ ValZ ws es d z' dp' xs ∧ z' ≠ "call"
  | 0, _, _, _, _, h, _, _ => h.elim
  | d + 1, z, dp, ts, path, h, q, hq => by
    obtain ⟨i, t, ht, hq⟩ := flat_mem _ ts q hq
    obtain ⟨k, us, rfl, hf, hm, hin⟩ := h t (List.mem_of_getElem? ht)
    obtain ⟨n, x, hx, hq⟩ := flat_mem _ _ q hq
    obtain ⟨xs, rfl, hv⟩ := hin n x hx
    unfold funOut1 at hq
    rcases List.mem_append.mp hq with hq | hq
    · split at hq
      · cases hq
      · rename_i hk
        rw [List.mem_singleton] at hq
        rw [hq]
        exact ⟨xs, _, _, rfl, hv.succ, zoneIn_call (.inl hk)⟩
    · obtain ⟨ys, z', dp', e, hs, hz⟩ := fun_val hv q hq
      exact ⟨ys, z', dp', e, hs.succ, hz⟩
theorem mayStand_fun {k z : Str} {dp : Int} (h : mayStand k z dp = true) (hz : z ≠ "call") : k ∈ funKinds := by
  unfold mayStand at h
  rw [if_neg hz] at h
  by_cases h1 : k = "later"
  · rw [h1]; decide
  · rw [if_neg h1] at h
    cases hk : decide (k ∈ funKinds) with
    | true => exact of_decide_eq_true hk
    | false => rw [hk] at h; simp at h
theorem fun_kinds {ws es thr : List Str} : ∀ {d : Nat} {z : Str} {dp : Int} {ts : List Tr} {path : List Int}, ValZ ws es d z dp ts → z ≠ "call" → ∀ q ∈ rowsW thr d ts path, kOf q.2 ∈ funKinds
  | 0, _, _, _, _, h, _, _, _ => h.elim
  | d + 1, z, dp, ts, path, h, hz, q, hq => by
    obtain ⟨i, t, ht, hq⟩ := flat_mem _ ts q hq
    obtain ⟨k, us, rfl, hf, hm, hin⟩ := h t (List.mem_of_getElem? ht)
    unfold rowOut at hq
    rcases List.mem_cons.mp hq with e | hq
    · rw [e]
      exact mayStand_fun hm hz
    · split at hq
      · obtain ⟨n, x, hx, hq⟩ := flat_mem _ _ q hq
        obtain ⟨xs, rfl, hv⟩ := hin n x hx
        exact fun_kinds hv (zoneIn_call (.inr hz)) q hq
      · cases hq
theorem pair_small {ws es : List Str} {r : Str} {t : Tr} (hfit : itemFits r t ws es = true) : (pairSlots r t).length ≤ 5 := by
  unfold pairSlots
  rw [List.length_append]
  have l1 : (if r ∈ slotRoles then [txOf' t] else []).length ≤ 1 := by split <;> simp
  have l2 : (if r ∈ listRoles then itemsTx t else []).length ≤ 4 := by
    split
    · rename_i hr
      rcases fits_list hfit hr with h | ⟨vs, rfl, hl, _⟩
      · cases t with
        | tup _ => cases h
        | «at» v => simp [itemsTx]
      · show (vs.map txOf').length ≤ 4
        rw [List.length_map]
        exact hl
    · simp
  omega
theorem flat_bound {α β : Type} (f : α → List β) (c : Nat) : ∀ l : List α, (∀ x ∈ l, (f x).length ≤ c) → ((l.map f).flatten).length ≤ c * l.length
  | [], _ => by simp
  | x :: l, h => by
    rw [List.map_cons, List.flatten_cons, List.length_append, List.length_cons]
    have h1 := h x (List.mem_cons_self ..)
    have h2 := flat_bound f c l fun y hy => h y (List.mem_cons_of_mem _ hy)
    rw [Nat.mul_succ]
    omega
theorem rowSlots_len {k : Str} {us : List Tr} {ws es : List Str} (h : rowFits (.tup (tx k :: us)) ws es = true) : (rowSlots k us).length ≤ 20 := by
  obtain ⟨roles, hf, d, fits⟩ := rowFits_parts h
  have h4 := formOf_len hf
  unfold rowSlots
  rw [hf]
  show (((roles.zip us).map fun p => pairSlots p.1 p.2).flatten).length ≤ 20
  have hb := flat_bound (fun p : Str × Tr => pairSlots p.1 p.2) 5 (roles.zip us) (fun p hp => by
    obtain ⟨i, hi⟩ := List.mem_iff_getElem?.mp hp
    have h2 := List.getElem?_zip_eq_some.mp hi
    exact pair_small (fits i p.1 p.2 h2.1 h2.2))
  have hz : (roles.zip us).length ≤ 4 := by rw [List.length_zip]; omega
  omega
def cntR (roles : List Str) : Nat := roles.countP fun r => decide (r ∈ slotRoles)
theorem zip_cnt : ∀ (roles : List Str) (us : List Tr), (∀ r ∈ roles, r ∉ listRoles) → (((roles.zip us).map fun p => pairSlots p.1 p.2).flatten).length ≤ cntR roles
  | [], _, _ => by simp
  | _ :: _, [], _ => by simp
  | r :: roles, u :: us, h => by
    rw [List.zip_cons_cons, List.map_cons, List.flatten_cons, List.length_append]
    have ih := zip_cnt roles us fun x hx => h x (List.mem_cons_of_mem _ hx)
    have h1 : (pairSlots r u).length = if decide (r ∈ slotRoles) then 1 else 0 := by
      unfold pairSlots
      rw [if_neg (h r (List.mem_cons_self ..)), List.append_nil]
      by_cases hr : r ∈ slotRoles
      · rw [if_pos hr, if_pos (decide_eq_true hr)]; rfl
      · rw [if_neg hr, if_neg (by simpa using hr)]; rfl
    unfold cntR at ih ⊢
    rw [List.countP_cons]
    show (pairSlots r u).length + _ ≤ _
    rw [h1]
    omega
theorem rowSlots_fun {k : Str} {us : List Tr} (hk : k ∈ funKinds) : (rowSlots k us).length ≤ 2 := by
  have q : ∀ k ∈ funKinds, ∀ roles, formOf k = some roles → (∀ r ∈ roles, r ∉ listRoles) ∧ cntR roles ≤ 2 := by
    have q2 : ∀ k ∈ funKinds, (match formOf k with
      | none => true
      | some roles => roles.all (fun r => decide (r ∉ listRoles)) && decide (cntR roles ≤ 2)) = true := by decide
    intro k hk roles hr
    have z := q2 k hk
    rw [hr] at z
    have z : (_ && _) = true := z
    rw [Bool.and_eq_true] at z
    exact ⟨fun r hr => of_decide_eq_true (List.all_eq_true.mp z.1 r hr), of_decide_eq_true z.2⟩
  unfold rowSlots
  cases hf : formOf k with
  | none => simp
  | some roles =>
    obtain ⟨h1, h2⟩ := q k hk roles hf
    exact Nat.le_trans (zip_cnt roles us h1) h2
theorem secondOf_len (kinds : List Str) (t : Tr) : (secondOf kinds t).length ≤ 1 := by
  unfold secondOf
  split
  · cases (itemsOf t).tail.head? <;> simp
  · simp
theorem seconds_len (kinds : List Str) (R : List (List Int × Tr)) : (seconds kinds R).length ≤ R.length := by
  have h := flat_bound (fun q : List Int × Tr => secondOf kinds q.2) 1 R fun q _ => secondOf_len kinds q.2
  unfold seconds
  omega
/-- what a function of a good part is like -/
theorem fun_facts {ws ins es : List Str} {D : Nat} {ts : List Tr} (ok : PartOk ws ins es D ts) (q : List Int × Tr) (hq : q ∈ funsW D ts []) : ∃ xs, q.2 = .tup xs ∧ Val ws es D xs ∧ (rowsW ifsLater D xs []).length ≤ 8 ∧ (heldAll D xs).length < 60 ∧ (seconds cellKinds (rowsW ifsLater D xs [])).length < 60 ∧ (seconds boxKinds (rowsW ifsLater D xs [])).length < 60 := by
  obtain ⟨xs, z, dp, e, hv, hz⟩ := fun_val ok.rows q hq
  have h8 := ok.many q hq
  rw [e] at h8
  have h8 : (rowsW ifsLater D xs []).length ≤ 8 := h8
  have h1 := seconds_len cellKinds (rowsW ifsLater D xs [])
  have h2 := seconds_len boxKinds (rowsW ifsLater D xs [])
  refine ⟨xs, e, hv.val, h8, ?_, by omega, by omega⟩
  have h3 := flat_bound (fun q : List Int × Tr => slotsOf q.2) 2 (rowsW ifsLater D xs []) fun q hq => rowSlots_fun (fun_kinds hv hz q hq)
  have h4 : (heldAll D xs).length ≤ 2 * (rowsW ifsLater D xs []).length := h3
  omega
theorem inner_two {k : Str} {us : List Tr} {ws es : List Str} (h : rowFits (.tup (tx k :: us)) ws es = true) : (innerT k (tx k :: us)).length ≤ 2 ∧ (k ∉ allThr → innerT k (tx k :: us) = []) := by
  obtain ⟨roles, hf, d, fits⟩ := rowFits_parts h
  have h4 := formOf_len hf
  have hl : (tx k :: us).length ≤ 5 := by rw [List.length_cons]; omega
  constructor
  · unfold innerT firstRows
    by_cases h1 : k = "if"
    · rw [if_pos h1]
      show (List.drop 3 (tx k :: us)).length ≤ 2
      rw [List.length_drop]; omega
    · rw [if_neg h1]
      have h5 : k = "effect" ∨ k = "handler" ∨ k = "later" → us.length ≤ 3 := fun hk => by
        have q : ∀ k ∈ (["effect", "handler", "later"] : List Str), ∀ l, formOf k = some l → l.length ≤ 3 := by
          have q2 : ∀ k ∈ (["effect", "handler", "later"] : List Str), (match formOf k with
            | none => true
            | some l => decide (l.length ≤ 3)) = true := by decide
          intro k hk l hl
          have z := q2 k hk
          rw [hl] at z
          exact of_decide_eq_true z
        have := q k (by rcases hk with e | e | e <;> rw [e] <;> decide) roles hf
        omega
      by_cases h2 : k = "effect"
      · rw [if_pos h2]
        show (List.drop 2 (tx k :: us)).length ≤ 2
        have := h5 (.inl h2)
        rw [List.length_drop, List.length_cons]; omega
      · rw [if_neg h2]
        by_cases h3 : k = "handler"
        · rw [if_pos h3]
          show (List.drop 3 (tx k :: us)).length ≤ 2
          rw [List.length_drop]; omega
        · rw [if_neg h3]
          by_cases h6 : k = "later"
          · rw [if_pos h6]
            show (List.drop 1 (tx k :: us)).length ≤ 2
            have hone : us.length ≤ 1 := by
              have q : ∀ l, formOf "later" = some l → l.length ≤ 1 := by
                have q2 : (match formOf "later" with
                  | none => true
                  | some l => decide (l.length ≤ 1)) = true := by decide
                intro l hl
                rw [hl] at q2
                exact of_decide_eq_true q2
              rw [h6] at hf
              have := q roles hf
              omega
            rw [List.length_drop, List.length_cons]; omega
          · rw [if_neg h6]
            simp
  · intro hk
    unfold innerT firstRows
    have n : ∀ z ∈ allThr, k ≠ z := fun z hz e => hk (e ▸ hz)
    rw [if_neg (n "if" (by decide)), if_neg (n "effect" (by decide)), if_neg (n "handler" (by decide)), if_neg (n "later" (by decide))]
theorem mapIdx_le {α β γ : Type} (f : Nat → α → List β) (g : Nat → α → List γ) (c e : Nat) : ∀ (ts : List α), (∀ i t, ts[i]? = some t → (f i t).length ≤ c + e * (g i t).length) → ((ts.mapIdx f).flatten).length ≤ c * ts.length + e * ((ts.mapIdx g).flatten).length := by
  intro ts
  induction ts generalizing f g with
  | nil => intro _; simp
  | cons t ts ih =>
    intro h
    rw [List.mapIdx_cons, List.mapIdx_cons, List.flatten_cons, List.flatten_cons, List.length_append, List.length_append, List.length_cons]
    have h1 := h 0 t rfl
    have h2 := ih (fun i => f (i + 1)) (fun i => g (i + 1)) fun i u hu => h (i + 1) u (by simpa using hu)
    rw [Nat.mul_succ, Nat.mul_add]
    omega
theorem tups_le {ws es : List Str} : ∀ {d : Nat} {ts : List Tr} {path : List Int}, Val ws es d ts → (tupsW d ts path).length ≤ 1 + 2 * (rowsW allThr d ts path).length
  | 0, _, _, h => h.elim
  | d + 1, ts, path, h => by
    show (path :: (ts.mapIdx (tupOut (tupsW d) path)).flatten).length ≤ 1 + 2 * ((ts.mapIdx (rowOut (rowsW allThr d) path allThr)).flatten).length
    rw [List.length_cons]
    have h1 := mapIdx_le (tupOut (tupsW d) path) (rowOut (rowsW allThr d) path allThr) 0 2 ts fun i t ht => by
      obtain ⟨k, us, rfl, hf, hin⟩ := h t (List.mem_of_getElem? ht)
      obtain ⟨h2, h3⟩ := inner_two hf
      rw [Nat.zero_add]
      unfold tupOut rowOut
      rw [List.length_cons]
      have ek : kOf (Tr.tup (tx k :: us)) = k := rfl
      have ei : inn (Tr.tup (tx k :: us)) = innerT k (tx k :: us) := rfl
      rw [ek, ei]
      by_cases hk : k ∈ allThr
      · rw [if_pos hk]
        have h4 := mapIdx_le (fun n x => tupsW d (itemsOf x) (path ++ [(i : Int)] ++ [(n : Int)])) (fun n x => rowsW allThr d (itemsOf x) (path ++ [(i : Int)] ++ [(n : Int)])) 1 2 (innerT k (tx k :: us)) fun n x hx => by
          obtain ⟨xs, rfl, hv⟩ := hin x (List.mem_of_getElem? hx)
          exact tups_le hv
        omega
      · rw [h3 hk]
        simp
    omega
/-- no more different slots than names to choose from -/
theorem named_le {R : List (List Int × Tr)} {NS : List Str} (h : ∀ q ∈ R, ∀ s ∈ slotsOf q.2, s ∈ NS) : (addAll [] (namedAll R)).length ≤ NS.length := by
  refine List.Nodup.length_le_of_subset (addAll_nodup List.nodup_nil) fun s hs => ?_
  rw [addAll_mem] at hs
  rcases hs with hs | hs
  · cases hs
  · obtain ⟨l, hl, hs⟩ := List.mem_flatten.mp hs
    obtain ⟨q, hq, rfl⟩ := List.mem_map.mp hl
    exact h q hq s hs
end CA
namespace CA
open PySem L2
theorem gr_ins {H : Hp} {a C dx : Addr} {fs : List (Str × V)} {o : HO} (h : H a = some (.ins C dx fs)) : Gr H (upd H a o) :=
  ⟨fun b xs e => by rw [upd_ne (ne_of e h (by intro z; cases z))]; exact e, fun b xs e => ⟨_, by rw [upd_ne (ne_of e h (by intro z; cases z))]; exact e⟩, fun b xs e => ⟨_, by rw [upd_ne (ne_of e h (by intro z; cases z))]; exact e⟩⟩
theorem putF_len (f : Str) (v : V) : ∀ fs : List (Str × V), (putF f v fs).length ≤ fs.length + 1
  | [] => by simp [putF]
  | (g, x) :: r => by
    unfold putF
    split
    · simp
    · simpa using putF_len f v r
theorem lk_here {f : Str} {v : V} {fs : List (Str × V)} : (putF f v fs).lookup f = some v := by rw [lookup_putF, if_pos rfl]
theorem lk_on {f g : Str} {v u : V} {fs : List (Str × V)} (h : fs.lookup g = some u) (n : g ≠ f) : (putF f v fs).lookup g = some u := by rw [lookup_putF, if_neg n]; exact h
def partFields : List Str := ["words", "inputs", "events", "rows", "placed_rows", "row_table", "held_table", "link_table", "slot_names"]
theorem lk_no {f : Str} {v : V} {fs : List (Str × V)} (h : ∀ g, g ∉ partFields → fs.lookup g = none) (hf : f ∈ partFields) : ∀ g, g ∉ partFields → (putF f v fs).lookup g = none := fun g hg => by
  have n : g ≠ f := fun e => hg (by rw [e]; exact hf)
  rw [lookup_putF, if_neg n]
  exact h g hg
/-- the held slots of a function stand at v -/
def HeldRel (D : Nat) (H : Hp) (q : List Int × Tr) (v : V) : Prop := ∃ pv ys, v = .ref pv ∧ ys.Perm (addAll [] (heldAll D (itemsOf q.2))) ∧ PyProof.Rows.sortedS ys = true ∧ H pv = some (.tup ((ys.filter fun s => decide (useL s D (itemsOf q.2) = some true)).map V.str))
def LinkRel (D : Nat) (H : Hp) (q : List Int × Tr) (v : V) : Prop := ∃ cs bs, cs.Perm (addAll [] (seconds cellKinds (rowsW ifsLater D (itemsOf q.2) []))) ∧ PyProof.Rows.sortedS cs = true ∧ bs.Perm (addAll [] (seconds boxKinds (rowsW ifsLater D (itemsOf q.2) []))) ∧ PyProof.Rows.sortedS bs = true ∧
  Tw H v (.tup (cs.map (pairOf "cell") ++ bs.map (pairOf "box")))
theorem HeldRel.gr {D : Nat} : ∀ H H' q v, Gr H H' → HeldRel D H q v → HeldRel D H' q v := fun H H' q v g ⟨pv, ys, e, h1, h2, h3⟩ => ⟨pv, ys, e, h1, h2, g.tup _ _ h3⟩
theorem LinkRel.gr {D : Nat} : ∀ H H' q v, Gr H H' → LinkRel D H q v → LinkRel D H' q v := fun H H' q v g ⟨cs, bs, h1, h2, h3, h4, h5⟩ => ⟨cs, bs, h1, h2, h3, h4, Tw.gr g _ _ h5⟩
/-- a part as its __init__ leaves it -/
structure PartAt (C : Addr) (D : Nat) (ws ins es : List Str) (ts : List Tr) (H : Hp) (x pw pi pe : Addr) (rv : V) (dx : Addr) (fs : List (Str × V)) (pr ph pl ps : Addr) (kr kh kl : List (List Key × V)) (ys : List Str) : Prop where
  at_ : H x = some (.ins C dx fs)
  words : fs.lookup ("words" : Str) = some (.ref pw)
  inputs : fs.lookup ("inputs" : Str) = some (.ref pi)
  events : fs.lookup ("events" : Str) = some (.ref pe)
  rows : fs.lookup ("rows" : Str) = some rv
  table : fs.lookup ("row_table" : Str) = some (.ref pr)
  held : fs.lookup ("held_table" : Str) = some (.ref ph)
  link : fs.lookup ("link_table" : Str) = some (.ref pl)
  names : fs.lookup ("slot_names" : Str) = some (.ref ps)
  no : ∀ g, g ∉ partFields → fs.lookup g = none
  hw : H pw = some (.tup (ws.map V.str))
  hi : H pi = some (.tup (ins.map V.str))
  he : H pe = some (.tup (es.map V.str))
  hr : Tw H rv (.tup ts)
  tr : H pr = some (.dT kr)
  th : H ph = some (.dT kh)
  tl : H pl = some (.dT kl)
  dr : DAt H kr (rowsW allThr D ts [])
  dh : DR (HeldRel D) H kh (funsW D ts [])
  dl : DR (LinkRel D) H kl (funsW D ts [])
  perm : ys.Perm (addAll [] (namedAll (rowsW allThr D ts [])))
  srt : PyProof.Rows.sortedS ys = true
  hs : H ps = some (.tup ((ins ++ ys.filter fun s => !decide (s ∈ ins)).map V.str))
/-- what the class of parts is -/
structure TxtPI (K : PySem.W.Frag) (mg : Str → Option Value) (C fc ff ft fw fh fl fo aA : Addr) : Prop where
  cl : Cls K C
  nWords : NoAttr K C "words"
  nInputs : NoAttr K C "inputs"
  nEvents : NoAttr K C "events"
  nRows : NoAttr K C "rows"
  nPlaced : NoAttr K C "placed_rows"
  nTable : NoAttr K C "row_table"
  nHeld : NoAttr K C "held_table"
  nLink : NoAttr K C "link_table"
  nNames : NoAttr K C "slot_names"
  g_check_part : mg "check_part" = some (.ref fc)
  k_check_part : PySem.W.keepIn K (.ref fc) = true
  g_functions_within : mg "functions_within" = some (.ref ff)
  k_functions_within : PySem.W.keepIn K (.ref ff) = true
  g_tuples_within : mg "tuples_within" = some (.ref ft)
  k_tuples_within : PySem.W.keepIn K (.ref ft) = true
  g_rows_within : mg "rows_within" = some (.ref fw)
  k_rows_within : PySem.W.keepIn K (.ref fw) = true
  g_held_slots : mg "held_slots" = some (.ref fh)
  k_held_slots : PySem.W.keepIn K (.ref fh) = true
  g_links_of : mg "links_of" = some (.ref fl)
  k_links_of : PySem.W.keepIn K (.ref fl) = true
  g_other_slots : mg "other_slots" = some (.ref fo)
  k_other_slots : PySem.W.keepIn K (.ref fo) = true
  ALL_ROWS : mg "ALL_ROWS" = some (.ref aA)
  sA : ∀ H, SqT K H aA (allThr.map V.str)
def spPartI (C : Addr) (D : Nat) : Sp := fun vs H Q _ => ∃ (x pw pi pe dx : Addr) (rv : V) (ws ins es : List Str) (ts : List Tr), vs = [.ref x, .ref pw, .ref pi, .ref pe, rv] ∧ H x = some (.ins C dx []) ∧ H pw = some (.tup (ws.map V.str)) ∧ H pi = some (.tup (ins.map V.str)) ∧ H pe = some (.tup (es.map V.str)) ∧ Tw H rv (.tup ts) ∧
  PartOk ws ins es D ts ∧ (rowsW allThr D ts []).length ≤ 400 ∧ (addAll [] (namedAll (rowsW allThr D ts []))).length < 60 ∧
  ∀ H' fs pr ph pl ps kr kh kl ys, (∀ b o, b ≠ x → H b = some o → H' b = some o) → PartAt C D ws ins es ts H' x pw pi pe rv dx fs pr ph pl ps kr kh kl ys → Q .non H'
section
variable {P : Program} {w : World} {K : PySem.W.Frag} {mg : Str → Option Value} {base : Heap} {C fc ff ft fw fh fl fo aA : Addr}
abbrev s_Part_init : Stmt := inClass (topS 54) 0
theorem sc_Part_init : FnScope ["self", "words", "inputs", "events", "rows", "functions", "path", "placed", "row", "inner"] ["self", "words", "inputs", "events", "rows"] (defScope s_Part_init) := ⟨rfl, rfl, rfl, by decide +kernel, rfl, by decide +kernel, by decide +kernel⟩
theorem ok_Part_init {D k : Nat} {f : Addr} {fd fdc fdf fdt fdw fdh fdl fdo : FuncData} (hk : 2 ≤ k) (F : Fun K "__init__" "Part.__init__" s_Part_init f fd) (T : TxtPI K mg C fc ff ft fw fh fl fo aA)
    (Gc : FnOk P w K mg base CX0 k fc fdc ["words", "inputs", "events", "rows"] (spPartD D)) (bc : Binds K fdc ["words", "inputs", "events", "rows"] [])
    (Gf : FnOk P w K mg base CX0 k ff fdf ["rows", "path"] (spFuns D)) (bf : Binds K fdf ["rows", "path"] [])
    (Gt : FnOk P w K mg base CX0 k ft fdt ["rows", "path"] (spTups D)) (bt : Binds K fdt ["rows", "path"] [])
    (Gw : FnOk P w K mg base CX0 k fw fdw ["rows", "path", "through"] (spRows K D)) (bw : Binds K fdw ["rows", "path", "through"] [])
    (Gh : ∀ ws es, FnOk P w K mg base CX0 k fh fdh ["rows"] (spHeld ws es D)) (bh : Binds K fdh ["rows"] [])
    (Gl : ∀ ws es, FnOk P w K mg base CX0 k fl fdl ["rows"] (spLinks ws es D)) (bl : Binds K fdl ["rows"] [])
    (Go : FnOk P w K mg base CX0 2 fo fdo ["inputs", "row_table"] spOther) (bo : Binds K fdo ["inputs", "row_table"] []) :
    FnOk P w K mg base CX0 (k + 1) f fd ["self", "words", "inputs", "events", "rows"] (spPartI C D) := by
  refine F.ok sc_Part_init (fun vs H Q E h => ?_) (fun cdv A outer s H vs Q E hr h => ?_)
  · obtain ⟨x, pw, pi, pe, dx, rv, ws, ins, es, ts, rfl, _⟩ := h
    rfl
  obtain ⟨x, pw, pi, pe, dx, rv, ws, ins, es, ts, rfl, hx, hw, hi, he, wt, ok, h400, h60, q⟩ := h
  have hr2 : Room 2 _ := hr.mono hk
  refine ⟨_, (pss_cons (ps_expr (pe_call Gc hr rfl T.g_check_part T.k_check_part bc .nil pass0 (pa_cons (pv 1) (pa_cons (pv 2) (pa_cons (pv 3) (pa_cons (pv 4) pa_nil))))))
  (pss_cons (ps_fld (pv 0) (pv 1) rfl)
  (pss_cons (ps_fld (pv 0) (pv 2) rfl)
  (pss_cons (ps_fld (pv 0) (pv 3) rfl)
  (pss_cons (ps_fld (pv 0) (pv 4) rfl)
  (pss_cons (ps_set (i := 5) sc_Part_init.nd rfl (Or.inl rfl) (pe_call Gf hr rfl T.g_functions_within T.k_functions_within bf .nil pass0 (pa_cons (pv 4) (pa_cons (pe_tup pa_nil) pa_nil))))
  (pss_cons (ps_fld (pv 0) (pe_dictT (own := [("path", 6), ("placed", 7)]) (g := gTup K 2 (gCons (gName 6) (gCons (gName 7) gNil))) (tt := tYes) (tk := tVar 6) (tv := tVar 7) (units2 hr) rfl sc_Part_init.nd
      (pi_list (pe_call Gt hr rfl T.g_tuples_within T.k_tuples_within bt .nil pass0 (pa_cons (pv 4) (pa_cons (pe_tup pa_nil) pa_nil))))
      (blkOk_by (own := [("path", 6), ("placed", 7)]) (N := ["self", "words", "inputs", "events", "rows", "functions", "path", "placed", "row", "inner"]) (sc := defScope s_Part_init) (by decide +kernel))
      (fun s H C cl fp => pg_tup rfl (pgs_cons (pg_name (i := 6) sc_Part_init.nd rfl (Or.inl rfl)) (pgs_cons (pg_name (i := 7) sc_Part_init.nd rfl (Or.inl rfl)) pgs_nil))) (fun s H C cl fp => pts_nil) (fun s H C cl fp => pv 6) (fun s H C cl fp => pv 7)) rfl)
  (pss_cons (ps_fld (pv 0) (pe_dictT (own := [("path", 6), ("row", 8)]) (g := gTup K 2 (gCons (gName 6) (gCons (gName 8) gNil))) (tt := tYes) (tk := tVar 6) (tv := tVar 8) (units2 hr) rfl sc_Part_init.nd
      (pi_list (pe_call Gw hr rfl T.g_rows_within T.k_rows_within bw .nil pass0 (pa_cons (pv 4) (pa_cons (pe_tup pa_nil) (pa_cons (pe_gr T.ALL_ROWS) pa_nil)))))
      (blkOk_by (own := [("path", 6), ("row", 8)]) (N := ["self", "words", "inputs", "events", "rows", "functions", "path", "placed", "row", "inner"]) (sc := defScope s_Part_init) (by decide +kernel))
      (fun s H C cl fp => pg_tup rfl (pgs_cons (pg_name (i := 6) sc_Part_init.nd rfl (Or.inl rfl)) (pgs_cons (pg_name (i := 8) sc_Part_init.nd rfl (Or.inl rfl)) pgs_nil))) (fun s H C cl fp => pts_nil) (fun s H C cl fp => pv 6) (fun s H C cl fp => pv 8)) rfl)
  (pss_cons (ps_fld (pv 0) (pe_dictT (own := [("path", 6), ("inner", 9)]) (g := gTup K 2 (gCons (gName 6) (gCons (gName 9) gNil))) (tt := tYes) (tk := tVar 6) (tv := tCall (spHeld ws es D) [] E0 (tCons (tVar 9) tNil)) (units2 hr) rfl sc_Part_init.nd
      (pi_list (pv 5))
      (blkOk_by (own := [("path", 6), ("inner", 9)]) (N := ["self", "words", "inputs", "events", "rows", "functions", "path", "placed", "row", "inner"]) (sc := defScope s_Part_init) (by decide +kernel))
      (fun s H C cl fp => pg_tup rfl (pgs_cons (pg_name (i := 6) sc_Part_init.nd rfl (Or.inl rfl)) (pgs_cons (pg_name (i := 9) sc_Part_init.nd rfl (Or.inl rfl)) pgs_nil))) (fun s H C cl fp => pts_nil) (fun s H C cl fp => pv 6)
      (fun s H C cl fp => pe_call (Gh ws es) hr rfl T.g_held_slots T.k_held_slots bh .nil pass0 (pa_cons (pv 9) pa_nil))) rfl)
  (pss_cons (ps_fld (pv 0) (pe_dictT (own := [("path", 6), ("inner", 9)]) (g := gTup K 2 (gCons (gName 6) (gCons (gName 9) gNil))) (tt := tYes) (tk := tVar 6) (tv := tCall (spLinks ws es D) [] E0 (tCons (tVar 9) tNil)) (units2 hr) rfl sc_Part_init.nd
      (pi_list (pv 5))
      (blkOk_by (own := [("path", 6), ("inner", 9)]) (N := ["self", "words", "inputs", "events", "rows", "functions", "path", "placed", "row", "inner"]) (sc := defScope s_Part_init) (by decide +kernel))
      (fun s H C cl fp => pg_tup rfl (pgs_cons (pg_name (i := 6) sc_Part_init.nd rfl (Or.inl rfl)) (pgs_cons (pg_name (i := 9) sc_Part_init.nd rfl (Or.inl rfl)) pgs_nil))) (fun s H C cl fp => pts_nil) (fun s H C cl fp => pv 6)
      (fun s H C cl fp => pe_call (Gl ws es) hr rfl T.g_links_of T.k_links_of bl .nil pass0 (pa_cons (pv 9) pa_nil))) rfl)
  (pss_one (ps_fld (pv 0) (pe_op op_catA (pv 2) (pe_call Go hr2 rfl T.g_other_slots T.k_other_slots bo .nil pass0 (pa_cons (pv 2) (pa_cons (pe_fld (pv 0) rfl) pa_nil)))) rfl)))))))))))), ?_⟩
  have B0 : ∀ {Hn : Hp}, (∀ b o, b ≠ x → H b = some o → Hn b = some o) → Gr H Hn := fun {Hn} h =>
    ⟨fun a xs e => h _ _ (ne_of e hx (by intro z; cases z)) e, fun a xs e => ⟨_, h _ _ (ne_of e hx (by intro z; cases z)) e⟩, fun a xs e => ⟨_, h _ _ (ne_of e hx (by intro z; cases z)) e⟩⟩
  have nw : pw ≠ x := ne_of hw hx (by intro z; cases z)
  have ni : pi ≠ x := ne_of hi hx (by intro z; cases z)
  have ne_ : pe ≠ x := ne_of he hx (by intro z; cases z)
  refine ⟨_, rfl, _, rfl, _, rfl, _, rfl, pw, pi, pe, rv, ws, ins, es, ts, rfl, hw, hi, he, wt, ok, fun H1 s1 => ?_⟩
  refine ⟨_, rfl, _, rfl, x, C, dx, [], rfl, s1 _ _ hx, T.cl, T.nWords, (by show 0 < 1000; decide), ?_⟩
  refine ⟨_, rfl, _, rfl, x, C, dx, _, rfl, upd_same, T.cl, T.nInputs, (by show 1 < 1000; decide), ?_⟩
  rw [upd_upd]
  refine ⟨_, rfl, _, rfl, x, C, dx, _, rfl, upd_same, T.cl, T.nEvents, Nat.lt_of_le_of_lt (putF_len _ _ _) (by show 2 < 1000; decide), ?_⟩
  rw [upd_upd]
  refine ⟨_, rfl, _, rfl, x, C, dx, _, rfl, upd_same, T.cl, T.nRows, Nat.lt_of_le_of_lt (putF_len _ _ _) (Nat.lt_of_le_of_lt (Nat.add_le_add_right (putF_len _ _ _) 1) (by show 3 < 1000; decide)), ?_⟩
  rw [upd_upd]
  have lw : (putF "rows" rv (putF "events" (.ref pe) (putF "inputs" (.ref pi) (putF "words" (.ref pw) [])))).lookup ("words" : Str) = some (.ref pw) := lk_on (lk_on (lk_on lk_here (by decide +kernel)) (by decide +kernel)) (by decide +kernel)
  have li : (putF "rows" rv (putF "events" (.ref pe) (putF "inputs" (.ref pi) (putF "words" (.ref pw) [])))).lookup ("inputs" : Str) = some (.ref pi) := lk_on (lk_on lk_here (by decide +kernel)) (by decide +kernel)
  have le : (putF "rows" rv (putF "events" (.ref pe) (putF "inputs" (.ref pi) (putF "words" (.ref pw) [])))).lookup ("events" : Str) = some (.ref pe) := lk_on lk_here (by decide +kernel)
  have lr : (putF "rows" rv (putF "events" (.ref pe) (putF "inputs" (.ref pi) (putF "words" (.ref pw) [])))).lookup ("rows" : Str) = some rv := lk_here
  have ln : (putF "rows" rv (putF "events" (.ref pe) (putF "inputs" (.ref pi) (putF "words" (.ref pw) [])))).length ≤ 4 := Nat.le_trans (putF_len _ _ _) (Nat.add_le_add_right (Nat.le_trans (putF_len _ _ _) (Nat.add_le_add_right (Nat.le_trans (putF_len _ _ _) (Nat.add_le_add_right (Nat.le_refl 1) 1)) 1)) 1)
  have nf : ∀ g, g ∉ partFields → (putF "rows" rv (putF "events" (.ref pe) (putF "inputs" (.ref pi) (putF "words" (.ref pw) [])))).lookup g = none := lk_no (lk_no (lk_no (lk_no (fun _ _ => rfl) (by decide)) (by decide)) (by decide)) (by decide)
  generalize putF "rows" rv (putF "events" (.ref pe) (putF "inputs" (.ref pi) (putF "words" (.ref pw) []))) = fs at lw li le lr ln nf
  -- functions
  have b2 : ∀ b o, b ≠ x → H b = some o → (upd H1 x (.ins C dx fs)) b = some o := fun b o hb e => by rw [upd_ne hb]; exact s1 _ _ e
  have x2 : (upd H1 x (.ins C dx fs)) x = some (.ins C dx fs) := upd_same
  generalize hH2 : upd H1 x (.ins C dx fs) = H2 at b2 x2
  refine ⟨_, rfl, by decide, fun p3 hp3 => ?_⟩
  have s3 := same_new hp3 (.tup [])
  refine ⟨rv, p3, ts, [], rfl, Tw.gr ((B0 b2).trans (Gr.of s3)) _ _ wt, ok.rows.val.shp, upd_same, by simpa using ok.deep, ok.funs, fun p4 H4 ws4 s4 n4 e4 w4 => ?_⟩
  have b4 : ∀ b o, b ≠ x → H b = some o → H4 b = some o := fun b o hb e => s4 _ _ (s3 _ _ (b2 b o hb e))
  have x4 := s4 _ _ (s3 _ _ x2)
  -- placed_rows
  dsimp only [gName, tSeq, sFld]
  refine dict_any (K := K) (p := 6) (r := 7) (vs := [6, 7]) (σ := [some (.ref x), some (.ref pw), some (.ref pi), some (.ref pe), some rv, some (.ref p4), none, none, none, none]) (n := (tupsW D ts []).length) (Nat.le_trans (tups_le ok.rows.val) (by omega)) (fun R' h => ?_) (fun _ _ => rfl) (fun _ _ => rfl) (fun _ _ => rfl) fun D5 H5 k5 s5 n5 e5 => ?_
  · refine ⟨_, rfl, by decide, fun p5 hp5 => ?_⟩
    have s5 := same_new hp5 (.tup [])
    exact ⟨rv, p5, ts, [], rfl, Tw.gr ((B0 b4).trans (Gr.of s5)) _ _ wt, ok.rows.val.shp, upd_same, by simpa using ok.deep, Nat.le_trans (tups_le ok.rows.val) (by omega), fun p6 H6 ws6 R s6 n6 e6 w6 eR => ⟨p6, rfl, ⟨_, SqL.of e6⟩, h p6 H6 ws6 R (by rw [← eR, List.length_map]) (fun c o e => s6 _ _ (s5 _ _ e)) e6 w6⟩⟩
  have x5 := s5 _ _ x4
  refine ⟨_, rfl, x, C, dx, fs, rfl, x5, T.cl, T.nPlaced, by omega, ?_⟩
  have b6 : ∀ b o, b ≠ x → H b = some o → (upd H5 x (.ins C dx (putF "placed_rows" (.ref D5) fs))) b = some o := fun b o hb e => by rw [upd_ne hb]; exact s5 _ _ (b4 b o hb e)
  have g46 : Gr H4 (upd H5 x (.ins C dx (putF "placed_rows" (.ref D5) fs))) := (Gr.of s5).trans (gr_ins x5)
  have e46 : (upd H5 x (.ins C dx (putF "placed_rows" (.ref D5) fs))) p4 = some (.lst ws4) := by rw [upd_ne (ne_of e4 x4 (by intro z; cases z))]; exact s5 _ _ e4
  have x6 : (upd H5 x (.ins C dx (putF "placed_rows" (.ref D5) fs))) x = some (.ins C dx (putF "placed_rows" (.ref D5) fs)) := upd_same
  have lw6 := lk_on (f := "placed_rows") (v := .ref D5) lw (by decide +kernel)
  have li6 := lk_on (f := "placed_rows") (v := .ref D5) li (by decide +kernel)
  have le6 := lk_on (f := "placed_rows") (v := .ref D5) le (by decide +kernel)
  have lr6 := lk_on (f := "placed_rows") (v := .ref D5) lr (by decide +kernel)
  have ln6 := Nat.le_trans (putF_len "placed_rows" (.ref D5) fs) (Nat.add_le_add_right ln 1)
  have nf6 := lk_no (f := "placed_rows") (v := .ref D5) nf (by decide)
  generalize putF "placed_rows" (.ref D5) fs = fs6 at b6 g46 e46 x6 lw6 li6 le6 lr6 ln6 nf6
  generalize upd H5 x (.ins C dx fs6) = H6 at b6 g46 e46 x6
  -- row_table
  try dsimp only [gName, tSeq, sFld]
  refine dict_rows (K := K) (p := 6) (r := 8) (vs := [6, 8]) (σ := [some (.ref x), some (.ref pw), some (.ref pi), some (.ref pe), some rv, some (.ref p4), none, none, none, none]) (R := rowsW allThr D ts []) rows_nodup ok.all (fun R' h => ?_) (fun _ _ => rfl) (fun _ _ => rfl) (fun _ _ => rfl) fun D7 H7 k7 s7 n7 e7 dat7 => ?_
  · refine ⟨_, rfl, by decide, fun pe7 hpe => ?_⟩
    have s1 := same_new hpe (.tup [])
    exact ⟨rv, pe7, aA, ts, [], allThr, rfl, Tw.gr ((B0 b6).trans (Gr.of s1)) _ _ wt, ok.rows.val.shp, upd_same, T.sA _, by simpa using ok.deep, ok.all, fun p1 H2 ws1 s2 n2 e2 w2 => ⟨p1, rfl, ⟨ws1, SqL.of e2⟩, h p1 H2 ws1 (fun c o e => s2 _ _ (s1 _ _ e)) e2 w2⟩⟩
  have x7 := s7 _ _ x6
  refine ⟨_, rfl, x, C, dx, fs6, rfl, x7, T.cl, T.nTable, by omega, ?_⟩
  have g78 : Gr H7 (upd H7 x (.ins C dx (putF "row_table" (.ref D7) fs6))) := gr_ins x7
  have b8 : ∀ b o, b ≠ x → H b = some o → (upd H7 x (.ins C dx (putF "row_table" (.ref D7) fs6))) b = some o := fun b o hb e => by rw [upd_ne hb]; exact s7 _ _ (b6 b o hb e)
  have e48 : (upd H7 x (.ins C dx (putF "row_table" (.ref D7) fs6))) p4 = some (.lst ws4) := by rw [upd_ne (ne_of e4 x4 (by intro z; cases z))]; exact s7 _ _ e46
  have x8 : (upd H7 x (.ins C dx (putF "row_table" (.ref D7) fs6))) x = some (.ins C dx (putF "row_table" (.ref D7) fs6)) := upd_same
  have nD7 : D7 ≠ x := fun e => by rw [e, x6] at n7; cases n7
  have t8 : (upd H7 x (.ins C dx (putF "row_table" (.ref D7) fs6))) D7 = some (.dT k7) := by rw [upd_ne nD7]; exact e7
  have dat8 := DAt.gr g78 dat7
  have g48 : Gr H4 (upd H7 x (.ins C dx (putF "row_table" (.ref D7) fs6))) := g46.trans ((Gr.of s7).trans g78)
  have lw8 := lk_on (f := "row_table") (v := .ref D7) lw6 (by decide +kernel)
  have li8 := lk_on (f := "row_table") (v := .ref D7) li6 (by decide +kernel)
  have le8 := lk_on (f := "row_table") (v := .ref D7) le6 (by decide +kernel)
  have lr8 := lk_on (f := "row_table") (v := .ref D7) lr6 (by decide +kernel)
  have lt8 : (putF "row_table" (.ref D7) fs6).lookup ("row_table" : Str) = some (.ref D7) := lk_here
  have ln8 := Nat.le_trans (putF_len "row_table" (.ref D7) fs6) (Nat.add_le_add_right ln6 1)
  have nf8 := lk_no (f := "row_table") (v := .ref D7) nf6 (by decide)
  generalize putF "row_table" (.ref D7) fs6 = fs8 at g78 b8 e48 x8 t8 dat8 g48 lw8 li8 le8 lr8 lt8 ln8 nf8
  generalize upd H7 x (.ins C dx fs8) = H8 at g78 b8 e48 x8 t8 dat8 g48
  -- held_table
  try dsimp only [gName, tSeq, sFld]
  refine dict_gen (K := K) (te := tCall (spHeld ws es D) [] E0 (tCons (tVar 9) tNil)) (p := 6) (r := 9) (vs := [6, 9]) (σ := [some (.ref x), some (.ref pw), some (.ref pi), some (.ref pe), some rv, some (.ref p4), none, none, none, none]) (R := funsW D ts []) (HeldRel D) HeldRel.gr funs_nodup ok.funs (fun R' h => ?_) (fun _ _ => rfl) (fun _ _ => rfl) (fun qf hqf rowv xv Hh Qh sh wh kh => ?_) fun D9 H9 k9 s9 n9 e9 dat9 => ?_
  · exact ⟨_, rfl, p4, rfl, ⟨_, SqL.of e48⟩, h p4 H8 ws4 (fun _ _ e => e) e48 (TwL.gr g48 _ _ w4)⟩
  · obtain ⟨xs, eqx, hv, hr8, hh, hc, hb⟩ := fun_facts ok qf hqf
    rw [eqx] at wh
    refine ⟨_, rfl, rowv, xs, rfl, wh, hv, ok.deep, by omega, hh, fun pv H' ys s' hp hs e' => kh _ _ s' ⟨pv, ys, rfl, ?_, hs, ?_⟩⟩
    · rw [eqx]; exact hp
    · rw [eqx]; exact e'
  have x9 := s9 _ _ x8
  refine ⟨_, rfl, x, C, dx, fs8, rfl, x9, T.cl, T.nHeld, by omega, ?_⟩
  have g9 : Gr H9 (upd H9 x (.ins C dx (putF "held_table" (.ref D9) fs8))) := gr_ins x9
  have bA : ∀ b o, b ≠ x → H b = some o → (upd H9 x (.ins C dx (putF "held_table" (.ref D9) fs8))) b = some o := fun b o hb e => by rw [upd_ne hb]; exact s9 _ _ (b8 b o hb e)
  have e4A : (upd H9 x (.ins C dx (putF "held_table" (.ref D9) fs8))) p4 = some (.lst ws4) := by rw [upd_ne (ne_of e4 x4 (by intro z; cases z))]; exact s9 _ _ e48
  have xA : (upd H9 x (.ins C dx (putF "held_table" (.ref D9) fs8))) x = some (.ins C dx (putF "held_table" (.ref D9) fs8)) := upd_same
  have nD9 : D9 ≠ x := fun e => by rw [e, x8] at n9; cases n9
  have tA : (upd H9 x (.ins C dx (putF "held_table" (.ref D9) fs8))) D7 = some (.dT k7) := by rw [upd_ne nD7]; exact s9 _ _ t8
  have hA : (upd H9 x (.ins C dx (putF "held_table" (.ref D9) fs8))) D9 = some (.dT k9) := by rw [upd_ne nD9]; exact e9
  have datA := DAt.gr ((Gr.of s9).trans g9) dat8
  have dhA := DR.gr HeldRel.gr g9 dat9
  have g4A : Gr H4 (upd H9 x (.ins C dx (putF "held_table" (.ref D9) fs8))) := g48.trans ((Gr.of s9).trans g9)
  have lwA := lk_on (f := "held_table") (v := .ref D9) lw8 (by decide +kernel)
  have liA := lk_on (f := "held_table") (v := .ref D9) li8 (by decide +kernel)
  have leA := lk_on (f := "held_table") (v := .ref D9) le8 (by decide +kernel)
  have lrA := lk_on (f := "held_table") (v := .ref D9) lr8 (by decide +kernel)
  have ltA := lk_on (f := "held_table") (v := .ref D9) lt8 (by decide +kernel)
  have lhA : (putF "held_table" (.ref D9) fs8).lookup ("held_table" : Str) = some (.ref D9) := lk_here
  have lnA := Nat.le_trans (putF_len "held_table" (.ref D9) fs8) (Nat.add_le_add_right ln8 1)
  have nfA := lk_no (f := "held_table") (v := .ref D9) nf8 (by decide)
  generalize putF "held_table" (.ref D9) fs8 = fsA at nfA g9 bA e4A xA tA hA datA dhA g4A lwA liA leA lrA ltA lhA lnA
  generalize upd H9 x (.ins C dx fsA) = HA at g9 bA e4A xA tA hA datA dhA g4A
  -- link_table
  try dsimp only [gName, tSeq, sFld]
  refine dict_gen (K := K) (te := tCall (spLinks ws es D) [] E0 (tCons (tVar 9) tNil)) (p := 6) (r := 9) (vs := [6, 9]) (σ := [some (.ref x), some (.ref pw), some (.ref pi), some (.ref pe), some rv, some (.ref p4), none, none, none, none]) (R := funsW D ts []) (LinkRel D) LinkRel.gr funs_nodup ok.funs (fun R' h => ?_) (fun _ _ => rfl) (fun _ _ => rfl) (fun qf hqf rowv xv Hh Qh sh wh kh => ?_) fun DB HB kB sB nB eB datB => ?_
  · exact ⟨_, rfl, p4, rfl, ⟨_, SqL.of e4A⟩, h p4 HA ws4 (fun _ _ e => e) e4A (TwL.gr g4A _ _ w4)⟩
  · obtain ⟨xs, eqx, hv, hr8, hh, hc, hb⟩ := fun_facts ok qf hqf
    rw [eqx] at wh
    refine ⟨_, rfl, rowv, xs, rfl, wh, hv, ok.deep, by omega, hc, hb, fun v H' cs bs s' h1 h2 h3 h4 h5 => kh _ _ s' ⟨cs, bs, ?_, h2, ?_, h4, h5⟩⟩
    · rw [eqx]; exact h1
    · rw [eqx]; exact h3
  have xB := sB _ _ xA
  refine ⟨_, rfl, x, C, dx, fsA, rfl, xB, T.cl, T.nLink, by omega, ?_⟩
  have gB : Gr HB (upd HB x (.ins C dx (putF "link_table" (.ref DB) fsA))) := gr_ins xB
  have bC : ∀ b o, b ≠ x → H b = some o → (upd HB x (.ins C dx (putF "link_table" (.ref DB) fsA))) b = some o := fun b o hb e => by rw [upd_ne hb]; exact sB _ _ (bA b o hb e)
  have xC : (upd HB x (.ins C dx (putF "link_table" (.ref DB) fsA))) x = some (.ins C dx (putF "link_table" (.ref DB) fsA)) := upd_same
  have nDB : DB ≠ x := fun e => by rw [e, xA] at nB; cases nB
  have tC : (upd HB x (.ins C dx (putF "link_table" (.ref DB) fsA))) D7 = some (.dT k7) := by rw [upd_ne nD7]; exact sB _ _ tA
  have hC : (upd HB x (.ins C dx (putF "link_table" (.ref DB) fsA))) D9 = some (.dT k9) := by rw [upd_ne nD9]; exact sB _ _ hA
  have kC : (upd HB x (.ins C dx (putF "link_table" (.ref DB) fsA))) DB = some (.dT kB) := by rw [upd_ne nDB]; exact eB
  have datC := DAt.gr ((Gr.of sB).trans gB) datA
  have dhC := DR.gr HeldRel.gr ((Gr.of sB).trans gB) dhA
  have dlC := DR.gr LinkRel.gr gB datB
  have lwC := lk_on (f := "link_table") (v := .ref DB) lwA (by decide +kernel)
  have liC := lk_on (f := "link_table") (v := .ref DB) liA (by decide +kernel)
  have leC := lk_on (f := "link_table") (v := .ref DB) leA (by decide +kernel)
  have lrC := lk_on (f := "link_table") (v := .ref DB) lrA (by decide +kernel)
  have ltC := lk_on (f := "link_table") (v := .ref DB) ltA (by decide +kernel)
  have lhC := lk_on (f := "link_table") (v := .ref DB) lhA (by decide +kernel)
  have llC : (putF "link_table" (.ref DB) fsA).lookup ("link_table" : Str) = some (.ref DB) := lk_here
  have lnC := Nat.le_trans (putF_len "link_table" (.ref DB) fsA) (Nat.add_le_add_right lnA 1)
  have nfC := lk_no (f := "link_table") (v := .ref DB) nfA (by decide)
  generalize putF "link_table" (.ref DB) fsA = fsC at nfC gB bC xC tC hC kC datC dhC dlC lwC liC leC lrC ltC lhC llC lnC
  generalize upd HB x (.ins C dx fsC) = HC at gB bC xC tC hC kC datC dhC dlC
  -- slot_names
  have fits := rows_fit (thr := allThr) (path := []) ok.rows.val
  refine ⟨_, rfl, _, rfl, _, rfl, x, C, dx, fsC, .ref D7, rfl, xC, T.cl, T.nTable, ltC, pi, D7, ins, k7, rowsW allThr D ts [], ws, es, rfl, bC _ _ ni hi, tC, datC, fits, h60, fun qx hqx => ?_, fun pE HE ys sE hperm hsrt eE => ?_⟩
  · obtain ⟨k', us, e2, hf⟩ := fits qx hqx
    have := rowSlots_len hf
    have e3 : slotsOf qx.2 = rowSlots k' us := by rw [e2]; rfl
    rw [e3]
    omega
  have xE := sE _ _ xC
  have bE : ∀ b o, b ≠ x → H b = some o → HE b = some o := fun b o hb e => sE _ _ (bC b o hb e)
  have l60 : ys.length < 60 := by rw [hperm.length_eq]; exact h60
  have lfl := List.length_filter_le (fun s => !decide (s ∈ ins)) ys
  have lins := (names_len ok.inputs).1
  have fin : ∀ ps HF, Same HE HF → HF ps = some (.tup ((ins ++ ys.filter fun s => !decide (s ∈ ins)).map V.str)) → Q .non (upd HF x (.ins C dx (putF "slot_names" (.ref ps) fsC))) := fun ps HF sF eF => by
    have xF := sF _ _ xE
    have gF : Gr HF (upd HF x (.ins C dx (putF "slot_names" (.ref ps) fsC))) := gr_ins xF
    have gCF : Gr HC (upd HF x (.ins C dx (putF "slot_names" (.ref ps) fsC))) := (Gr.of sE).trans ((Gr.of sF).trans gF)
    have bF : ∀ b o, b ≠ x → H b = some o → (upd HF x (.ins C dx (putF "slot_names" (.ref ps) fsC))) b = some o := fun b o hb e => by rw [upd_ne hb]; exact sF _ _ (bE b o hb e)
    have on : ∀ b o, b ≠ x → HC b = some o → (upd HF x (.ins C dx (putF "slot_names" (.ref ps) fsC))) b = some o := fun b o hb e => by rw [upd_ne hb]; exact sF _ _ (sE _ _ e)
    exact q _ _ D7 D9 DB ps k7 k9 kB ys bF { at_ := upd_same
                                             words := lk_on lwC (by decide +kernel)
                                             inputs := lk_on liC (by decide +kernel)
                                             events := lk_on leC (by decide +kernel)
                                             rows := lk_on lrC (by decide +kernel)
                                             table := lk_on ltC (by decide +kernel)
                                             held := lk_on lhC (by decide +kernel)
                                             link := lk_on llC (by decide +kernel)
                                             names := lk_here
                                             no := lk_no nfC (by decide)
                                             hw := bF _ _ nw hw
                                             hi := bF _ _ ni hi
                                             he := bF _ _ ne_ he
                                             hr := Tw.gr (B0 bF) _ _ wt
                                             tr := on _ _ nD7 tC
                                             th := on _ _ nD9 hC
                                             tl := on _ _ nDB kC
                                             dr := DAt.gr gCF datC
                                             dh := DR.gr HeldRel.gr gCF dhC
                                             dl := DR.gr LinkRel.gr gCF dlC
                                             perm := hperm
                                             srt := hsrt
                                             hs := by rw [upd_ne (ne_of eF xF (by intro z; cases z))]; exact eF }
  refine ⟨pi, pE, _, _, rfl, rfl, SqT.of (bE _ _ ni hi), SqT.of eE, ?_, fun e => ?_, fun _ e => ?_, fun _ _ p hp => ?_⟩
  · rw [List.length_map, List.length_map]
    exact Nat.le_trans (show _ ≤ 70 by omega) (by decide)
  · have e' : ins = [] := List.map_eq_nil_iff.mp e
    exact ⟨_, rfl, x, C, dx, fsC, rfl, xE, T.cl, T.nNames, by omega, fin _ _ (fun _ _ e => e) (by rw [e', List.nil_append]; subst e'; exact eE)⟩
  · have e' := List.map_eq_nil_iff.mp e
    exact ⟨_, rfl, x, C, dx, fsC, rfl, xE, T.cl, T.nNames, by omega, fin _ _ (fun _ _ e => e) (by rw [e', List.append_nil]; exact bE _ _ ni hi)⟩
  · have sP := same_new hp (.tup (ins.map V.str ++ (ys.filter fun s => !decide (s ∈ ins)).map V.str))
    exact ⟨_, rfl, x, C, dx, fsC, rfl, sP _ _ xE, T.cl, T.nNames, by omega, fin _ _ sP (by rw [upd_same, List.map_append])⟩
end
end CA
namespace CA
open PySem L2
/-- built-in names and defs that the draws use -/
structure TxtD (K : PySem.W.Frag) (mg : Str → Option Value) (fm : Addr) : Prop where
  int : mg "int" = none
  len : mg "len" = none
  abs : mg "abs" = none
  g__law_mixed : mg "_law_mixed" = some (.ref fm)
  k__law_mixed : PySem.W.keepIn K (.ref fm) = true
section
variable {P : Program} {w : World} {K : PySem.W.Frag} {mg : Str → Option Value} {base : Heap} {fm : Addr}
abbrev s__law_start : Stmt := topS 57
theorem sc__law_start : FnScope ["_law_script", "_law_seed", "_law_cell"] ["_law_script"] (defScope s__law_start) := ⟨rfl, rfl, rfl, by decide +kernel, rfl, by decide +kernel, by decide +kernel⟩
theorem cut63 {xs : List V} (h : xs.length ≤ 63) : cutV xs none (some 63) = xs := by
  unfold cutV
  have e : HT.sIx xs.length xs.length (some 63) = xs.length := by
    show (if (63 : Int) < 0 then ((63 : Int) + (xs.length : Int)).toNat else min (63 : Int).toNat xs.length) = xs.length
    rw [if_neg (by decide)]
    show min 63 xs.length = xs.length
    omega
  rw [e]
  show (xs.drop 0).take (xs.length - 0) = xs
  simp
theorem ok__law_start {f : Addr} {fd : FuncData} (F : Fun K "_law_start" "_law_start" s__law_start f fd) (T : TxtD K mg fm) : FnOk P w K mg base CX0 1 f fd ["_law_script"] (spStart K) := by
  refine F.ok sc__law_start (fun vs H Q E h => ?_) (fun cdv A outer s H vs Q E hr h => ?_)
  · obtain ⟨a, ns, rfl, _⟩ := h
    rfl
  obtain ⟨a, ns, rfl, hS, h63, q⟩ := h
  refine ⟨_, (pss_cons (ps_set (i := 1) sc__law_start.nd rfl (Or.inl rfl) pe_int)
  (pss_cons (ps_for PassesOwn.never rfl (pi_list (pe_slice sl_list (pv 0) po_none (po_some pe_int))) (pg_name (i := 2) sc__law_start.nd rfl (Or.inl rfl))
    (pss_one (ps_set (i := 1) sc__law_start.nd rfl (Or.inl rfl) (pe_op op_mod (pe_callTy call_int1 (by rfl) T.int (by decide +kernel) (pa_cons (pe_op op_add (pe_op op_mul (pv 1) pe_int) (pv 2)) pa_nil)) pe_int))))
  (pss_one (ps_ret (pe_lst (pa_cons (pe_slice sl_list (pv 0) po_none (po_some pe_int)) (pa_cons pe_int (pa_cons pe_int (pa_cons (pv 1) (pa_cons pe_int pa_nil)))))))))), ?_⟩
  have hl : (ns.map V.int).length ≤ 63 := by rw [List.length_map]; exact h63
  refine ⟨_, rfl, 63, rfl, a, _, rfl, hS, fun p hp => ?_⟩
  rw [cut63 hl]
  have s1 : Same H (upd H p (.lst (ns.map V.int))) := same_new hp _
  refine ⟨p, rfl, ⟨_, SqL.of upd_same⟩, for_list (K := K) (a := p) (xs := ns.map V.int) (fun i σ H2 => ∃ (z : Int) (v : Option V), σ = [some (.ref a), some (.int z), v] ∧ H2 = upd H p (.lst (ns.map V.int)) ∧ 0 ≤ z ∧ z < 2147483629)
    ⟨17, none, rfl, rfl, by decide, by decide⟩ (fun i σ H2 _ ⟨_, _, _, e, _⟩ => by rw [e]; exact SqL.of upd_same) ?_ ?_⟩
  · rintro i y σ H2 hi ⟨z, v, rfl, rfl, h0, h1⟩
    obtain ⟨x, rfl⟩ : ∃ x, y = V.int x := by
      rw [List.getElem?_map] at hi
      cases e : ns[i]? with
      | none => rw [e] at hi; cases hi
      | some x => rw [e] at hi; exact ⟨x, (Option.some.inj hi).symm⟩
    refine ⟨_, rfl, _, _, rfl, rfl, Or.inl ⟨by omega, by omega⟩, _, rfl, _, _, rfl, rfl, .inl ⟨_, rfl, _, _, rfl, rfl, (by show (0 : Int) < 2147483629; decide), ?_⟩⟩
    exact ⟨_, _, rfl, rfl, Int.emod_nonneg _ (by decide), Int.emod_lt_of_pos _ (by decide)⟩
  · rintro σ H2 ⟨z, v, rfl, rfl, h0, h1⟩
    refine ⟨_, rfl, 63, rfl, a, _, rfl, s1.seq hS, fun c hc => ?_⟩
    rw [cut63 hl]
    refine ⟨_, rfl, (by show 5 ≤ sizeLine; decide), fun st hst => ?_⟩
    have s2 : Same (upd H p (.lst (ns.map V.int))) (upd (upd H p (.lst (ns.map V.int))) c (.lst (ns.map V.int))) := same_new hc _
    have s3 := same_new hst (stL c 0 0 z 0)
    have cst : c ≠ st := ne_of_none upd_same hst
    exact q st c _ ((s1.trans s2).free hst) (s1.trans (s2.trans s3)) ⟨⟨ns, 0, 0, z, 0, upd_same, (by rw [upd_ne cst]; exact upd_same), cst, h63, Int.le_refl 0, Int.le_refl 0, h0, h1⟩⟩
abbrev s__law_mixed : Stmt := topS 58
theorem sc__law_mixed : FnScope ["_law_cell", "_law_count", "_law_size", "_law_number"] ["_law_cell", "_law_count", "_law_size"] (defScope s__law_mixed) := ⟨rfl, rfl, rfl, by decide +kernel, rfl, by decide +kernel, by decide +kernel⟩
theorem ok__law_mixed {f : Addr} {fd : FuncData} (F : Fun K "_law_mixed" "_law_mixed" s__law_mixed f fd) (T : TxtD K mg fm) : FnOk P w K mg base CX0 1 f fd ["_law_cell", "_law_count", "_law_size"] spMixed := by
  refine F.ok sc__law_mixed (fun vs H Q E h => ?_) (fun cdv A outer s H vs Q E hr h => ?_)
  · obtain ⟨a, b, n, rfl, _⟩ := h
    rfl
  obtain ⟨a, b, n, rfl, hn, q⟩ := h
  refine ⟨_, (pss_cons (ps_set (i := 3) sc__law_mixed.nd rfl (Or.inl rfl) (pe_op op_mod (pe_callTy call_int1 (by rfl) T.int (by decide +kernel) (pa_cons (pe_op op_add (pe_op op_add (pe_op op_mul (pv 0) pe_int) (pe_op op_mul (pv 1) pe_int)) pe_int) pa_nil)) pe_int))
  (pss_cons (ps_set (i := 3) sc__law_mixed.nd rfl (Or.inl rfl) (pe_op op_mod (pe_callTy call_int1 (by rfl) T.int (by decide +kernel) (pa_cons (pe_op op_add (pe_op op_mul (pv 3) (pe_op op_add (pe_op op_fdiv (pv 3) pe_int) pe_int)) (pv 1)) pa_nil)) pe_int))
  (pss_cons (ps_set (i := 3) sc__law_mixed.nd rfl (Or.inl rfl) (pe_op op_mod (pe_callTy call_int1 (by rfl) T.int (by decide +kernel) (pa_cons (pe_op op_add (pe_op op_mul (pv 3) (pe_op op_add (pe_op op_fdiv (pv 3) pe_int) pe_int)) pe_int) pa_nil)) pe_int))
  (pss_one (ps_ret (pe_op op_mod (pe_callTy call_int1 (by rfl) T.int (by decide +kernel) (pa_cons (pe_op op_fdiv (pv 3) pe_int) pa_nil)) (pv 2))))))), ?_⟩
  have c1 : ∀ i : Int, CMul i 69621 := fun i => Or.inr ⟨by decide, by decide⟩
  have c2 : ∀ i : Int, CMul i 48271 := fun i => Or.inr ⟨by decide, by decide⟩
  have md : ∀ (x m y : Int), 0 < m → m ≤ 4294967296 → CMul (x % m) y := fun x m y hm h => Or.inl ⟨by have := Int.emod_nonneg x (by omega : m ≠ 0); omega, by have := Int.emod_lt_of_pos x hm; omega⟩
  refine ⟨_, rfl, _, _, rfl, rfl, c1 _, _, rfl, _, _, rfl, rfl, c2 _, _, _, rfl, rfl, _, _, rfl, rfl, .inl ⟨_, rfl, _, _, rfl, rfl, (by show (0 : Int) < 2147483647; decide), ?_⟩⟩
  refine ⟨_, rfl, _, rfl, _, _, rfl, rfl, ⟨by decide, by decide⟩, _, _, rfl, rfl, _, _, rfl, rfl, md _ _ _ (by decide) (by decide), _, rfl, _, _, rfl, rfl, .inl ⟨_, rfl, _, _, rfl, rfl, (by show (0 : Int) < 2147483629; decide), ?_⟩⟩
  refine ⟨_, rfl, _, rfl, _, _, rfl, rfl, ⟨by decide, by decide⟩, _, _, rfl, rfl, _, _, rfl, rfl, md _ _ _ (by decide) (by decide), _, _, rfl, rfl, .inl ⟨_, rfl, _, _, rfl, rfl, (by show (0 : Int) < 2147483579; decide), ?_⟩⟩
  refine ⟨_, rfl, _, _, rfl, rfl, ⟨by decide, by decide⟩, .inl ⟨_, rfl, _, rfl, _, _, rfl, rfl, hn, ?_⟩⟩
  exact q _ (Int.emod_nonneg _ (by omega)) (Int.emod_lt_of_pos _ hn)
abbrev s__law_take : Stmt := topS 59
theorem sc__law_take : FnScope ["_law_state", "_law_size", "_law_cell", "_law_digit"] ["_law_state", "_law_size"] (defScope s__law_take) := ⟨rfl, rfl, rfl, by decide +kernel, rfl, by decide +kernel, by decide +kernel⟩
theorem at_map {ns : List Int} {i : Int} (h0 : 0 ≤ i) (h : i < (((ns.map V.int).length : Nat) : Int)) : ∃ x : Int, atI (ns.map V.int) i = some (.int x) := by
  rw [List.length_map] at h
  have hk : i.toNat < ns.length := by omega
  exact ⟨ns[i.toNat], at_of (j := i.toNat) (by omega) (by rw [List.getElem?_map, List.getElem?_eq_getElem hk] <;> rfl)⟩
theorem big_pos : (0 : Int) < ((10 ^ Int.toNat 60) ^ Int.toNat 10) := Int.pow_pos (Int.pow_pos (by decide))
theorem at5 {a b c d e : V} (k : Nat) (v : V) (h : [a, b, c, d, e][k]? = some v) : atI [a, b, c, d, e] (k : Int) = some v := atI_nat h
theorem ok__law_take {f : Addr} {fd fdm : FuncData} (F : Fun K "_law_take" "_law_take" s__law_take f fd) (T : TxtD K mg fm) (G_law_mixed : FnOk P w K mg base CX0 1 fm fdm ["_law_cell", "_law_count", "_law_size"] spMixed) (b_law_mixed : Binds K fdm ["_law_cell", "_law_count", "_law_size"] []) :
    FnOk P w K mg base CX0 2 f fd ["_law_state", "_law_size"] spTake := by
  refine F.ok sc__law_take (fun vs H Q E h => ?_) (fun cdv A outer s H vs Q E hr h => ?_)
  · obtain ⟨st, scr, n, rfl, _⟩ := h
    rfl
  obtain ⟨st, scr, n, rfl, S, hn, hn2, q⟩ := h
  refine ⟨_, (pss_cons (ps_asg (pe_op op_add (pe_ix ix_list (pv 0) pe_int (fun _ _ => rfl)) pe_int) (pg_sub (pv 0) pe_int L2.set_list))
  (pss_cons (ps_if (PW.pt (pw_and (pt_cmpR op_eq (pe_ix ix_list (pv 0) pe_int (fun _ _ => rfl)) pe_int (nomark _)) (pw_and1 (pt_cmpR op_lt (pe_ix ix_list (pv 0) pe_int (fun _ _ => rfl)) (pe_callB call_len_seq (by rfl) T.len PySem.boot_len (pa_cons (pe_ix ix_list (pv 0) pe_int (fun _ _ => rfl)) pa_nil)) (nomark _)))))
    (pss_cons (ps_set (i := 2) sc__law_take.nd rfl (Or.inl rfl) (pe_callB call_abs (by rfl) T.abs (by decide +kernel) (pa_cons (pe_callTy call_int1 (by rfl) T.int (by decide +kernel) (pa_cons (pe_ix ix_list (pe_ix ix_list (pv 0) pe_int (fun _ _ => rfl)) (pe_ix ix_list (pv 0) pe_int (fun _ _ => rfl)) (fun _ _ => rfl)) pa_nil)) pa_nil)))
      (pss_cons (ps_asg (pe_op op_add (pe_ix ix_list (pv 0) pe_int (fun _ _ => rfl)) pe_int) (pg_sub (pv 0) pe_int L2.set_list))
      (pss_cons (ps_if (pt_cmpR op_lt (pv 2) (pe_op op_pow pe_int pe_int) (nomark _))
        (pss_one (ps_ret (pe_call G_law_mixed hr rfl T.g__law_mixed T.k__law_mixed b_law_mixed .nil pass0 (pa_cons (pv 2) (pa_cons (pe_ix ix_list (pv 0) pe_int (fun _ _ => rfl)) (pa_cons (pv 1) pa_nil))))))
        pss_nil)
      (pss_one (ps_asg (pe_op op_mod (pe_callTy call_int1 (by rfl) T.int (by decide +kernel) (pa_cons (pv 2) pa_nil)) (pe_op op_powW (pe_op op_pow pe_int pe_int) pe_int)) (pg_sub (pv 0) pe_int L2.set_list))))))
    pss_nil)
  (pss_cons (ps_if (pt_cmpR op_eq (pe_ix ix_list (pv 0) pe_int (fun _ _ => rfl)) pe_int (nomark _))
    (pss_one (ps_ret (pe_call G_law_mixed hr rfl T.g__law_mixed T.k__law_mixed b_law_mixed .nil pass0 (pa_cons (pe_ix ix_list (pv 0) pe_int (fun _ _ => rfl)) (pa_cons (pe_ix ix_list (pv 0) pe_int (fun _ _ => rfl)) (pa_cons (pv 1) pa_nil))))))
    pss_nil)
  (pss_cons (ps_set (i := 3) sc__law_take.nd rfl (Or.inl rfl) (pe_op op_mod (pe_callTy call_int1 (by rfl) T.int (by decide +kernel) (pa_cons (pe_ix ix_list (pv 0) pe_int (fun _ _ => rfl)) pa_nil)) (pv 1)))
  (pss_cons (ps_asg (pe_op op_fdiv (pe_ix ix_list (pv 0) pe_int (fun _ _ => rfl)) (pv 1)) (pg_sub (pv 0) pe_int L2.set_list))
  (pss_one (ps_ret (pv 3)))))))), ?_⟩
  obtain ⟨ns, i, d, seed, c, h1, h2, ne, h63, hi, hd, hs0, hs1⟩ := S.ex
  refine ⟨_, rfl, st, _, _, _, rfl, rfl, SqL.of h1, at5 4 _ rfl, _, _, rfl, rfl, _, rfl, st, _, 4, 4, rfl, rfl, h1, rfl, ?_⟩
  have k1 : Keep [st] H (upd H st (stL scr i d seed (c + 1))) := Keep.upd
  have e1 : (upd H st (stL scr i d seed (c + 1))) st = some (stL scr i d seed (c + 1)) := upd_same
  generalize hJ : upd H st (stL scr i d seed (c + 1)) = J at k1 e1
  rw [show upd H st (.lst ([V.ref scr, .int i, .int d, .int seed, .int c].set 4 (.int (c + 1)))) = J from hJ]
  clear hJ
  have fin : ∀ (J : Hp) (i' d' c' r : Int), Keep [st] H J → J st = some (stL scr i' d' seed c') → 0 ≤ i' → 0 ≤ d' → 0 ≤ r → r < n → Q (.int r) J := fun J i' d' c' r k e hi' hd' hr0 hr1 =>
    q r J hr0 hr1 k ⟨⟨ns, i', d', seed, c', e, k.one h2 ne, ne, h63, hi', hd', hs0, hs1⟩⟩
  have fin2 : ∀ (J : Hp) (d' d2 r : Int) (i' c' : Int), Keep [st] H J → J st = some (stL scr i' d' seed c') → 0 ≤ i' → 0 ≤ d2 → 0 ≤ r → r < n → Q (.int r) (upd J st (.lst ([V.ref scr, .int i', .int d', .int seed, .int c'].set 2 (.int d2)))) := fun J d' d2 r i' c' k e hi' hd2 hr0 hr1 =>
    fin _ i' d2 c' r (k.trans Keep.upd) (by rw [upd_same]; rfl) hi' hd2 hr0 hr1
  have dn : CDiv d n := ⟨hn, by omega⟩
  refine ⟨_, rfl, st, _, _, _, rfl, rfl, SqL.of e1, at5 2 _ rfl, rfl, _, rfl, ite2 (fun c0 => ?_) (fun c0 => ?_)⟩
  · refine ⟨_, rfl, st, _, _, _, rfl, rfl, SqL.of e1, at5 1 _ rfl, _, rfl, st, _, _, _, rfl, rfl, SqL.of e1, at5 0 _ rfl, scr, _, rfl, .inl (SqL.of (k1.one h2 ne)), _, _, rfl, rfl, _, rfl, ite2 (fun c1 => ?_) (fun c1 => ?_)⟩
    · obtain ⟨x, hx⟩ := at_map hi (of_decide_eq_true c1)
      refine ⟨_, rfl, st, _, _, _, rfl, rfl, SqL.of e1, at5 0 _ rfl, _, rfl, st, _, _, _, rfl, rfl, SqL.of e1, at5 1 _ rfl, scr, _, _, _, rfl, rfl, SqL.of (k1.one h2 ne), hx, .inl ⟨_, rfl, _, rfl, ?_⟩⟩
      refine ⟨_, rfl, st, _, _, _, rfl, rfl, SqL.of e1, at5 1 _ rfl, _, _, rfl, rfl, _, rfl, st, _, 1, 1, rfl, rfl, e1, rfl, ?_⟩
      have k2 : Keep [st] H (upd J st (stL scr (i + 1) d seed (c + 1))) := k1.trans Keep.upd
      have e2 : (upd J st (stL scr (i + 1) d seed (c + 1))) st = some (stL scr (i + 1) d seed (c + 1)) := upd_same
      generalize hJ2 : upd J st (stL scr (i + 1) d seed (c + 1)) = J2 at k2 e2
      rw [show upd J st (.lst ([V.ref scr, .int i, .int d, .int seed, .int (c + 1)].set 1 (.int (i + 1)))) = J2 from hJ2]
      clear hJ2
      refine ⟨_, rfl, _, _, rfl, rfl, ⟨by decide, by decide, by decide⟩, _, _, rfl, rfl, _, rfl, ite2 (fun c2 => ?_) (fun c2 => ?_)⟩
      · refine ⟨_, rfl, _, rfl, st, _, _, _, rfl, rfl, SqL.of e2, at5 4 _ rfl, _, rfl, _, _, n, rfl, hn, fun r hr0 hr1 => ?_⟩
        exact fin J2 (i + 1) d (c + 1) r k2 e2 (by omega) hd hr0 hr1
      · refine ⟨_, rfl, .inl ⟨_, rfl, _, _, rfl, rfl, ⟨by decide, by decide, by decide⟩, _, _, rfl, rfl, ⟨by decide, by decide +kernel⟩, _, _, rfl, rfl, ?_, ?_⟩⟩
        · exact big_pos
        · have hdT := Int.emod_nonneg (if x < 0 then -x else x) (Int.ne_of_gt big_pos)
          refine ⟨_, rfl, st, _, 2, 2, rfl, rfl, e2, rfl, ?_⟩
          have kT : Keep [st] H (upd J2 st (stL scr (i + 1) ((if x < 0 then -x else x) % ((10 ^ Int.toNat 60) ^ Int.toNat 10)) seed (c + 1))) := k2.trans Keep.upd
          have eT : (upd J2 st (stL scr (i + 1) ((if x < 0 then -x else x) % ((10 ^ Int.toNat 60) ^ Int.toNat 10)) seed (c + 1))) st = some (stL scr (i + 1) ((if x < 0 then -x else x) % ((10 ^ Int.toNat 60) ^ Int.toNat 10)) seed (c + 1)) := upd_same
          have hiT : 0 ≤ i + 1 := by omega
          refine ⟨_, rfl, st, _, _, _, rfl, rfl, SqL.of eT, at5 2 _ rfl, rfl, _, rfl, ite2 (fun c3 => ?_) (fun c3 => ?_)⟩
          · refine ⟨_, rfl, st, _, _, _, rfl, rfl, SqL.of eT, at5 3 _ rfl, _, rfl, st, _, _, _, rfl, rfl, SqL.of eT, at5 4 _ rfl, _, rfl, _, _, n, rfl, hn, fun r hr0 hr1 => ?_⟩
            exact fin _ (i + 1) ((if x < 0 then -x else x) % ((10 ^ Int.toNat 60) ^ Int.toNat 10)) (c + 1) r kT eT hiT hdT hr0 hr1
          · refine ⟨_, rfl, st, _, _, _, rfl, rfl, SqL.of eT, at5 2 _ rfl, .inl ⟨_, rfl, _, rfl, _, _, rfl, rfl, hn, ?_⟩⟩
            refine ⟨_, rfl, st, _, _, _, rfl, rfl, SqL.of eT, at5 2 _ rfl, _, rfl, _, _, rfl, rfl, dn, _, rfl, st, _, 2, 2, rfl, rfl, eT, rfl, _, rfl, ?_⟩
            exact fin2 _ ((if x < 0 then -x else x) % ((10 ^ Int.toNat 60) ^ Int.toNat 10)) (((if x < 0 then -x else x) % ((10 ^ Int.toNat 60) ^ Int.toNat 10)) / n) (((if x < 0 then -x else x) % ((10 ^ Int.toNat 60) ^ Int.toNat 10)) % n) (i + 1) (c + 1) kT eT hiT (Int.ediv_nonneg hdT (Int.le_of_lt hn)) (Int.emod_nonneg _ (Int.ne_of_gt hn)) (Int.emod_lt_of_pos _ hn)
    · refine ⟨_, rfl, st, _, _, _, rfl, rfl, SqL.of e1, at5 2 _ rfl, rfl, _, rfl, ite2 (fun c3 => ?_) (fun c3 => ?_)⟩
      · refine ⟨_, rfl, st, _, _, _, rfl, rfl, SqL.of e1, at5 3 _ rfl, _, rfl, st, _, _, _, rfl, rfl, SqL.of e1, at5 4 _ rfl, _, rfl, _, _, n, rfl, hn, fun r hr0 hr1 => ?_⟩
        exact fin _ i d (c + 1) r k1 e1 hi hd hr0 hr1
      · refine ⟨_, rfl, st, _, _, _, rfl, rfl, SqL.of e1, at5 2 _ rfl, .inl ⟨_, rfl, _, rfl, _, _, rfl, rfl, hn, ?_⟩⟩
        refine ⟨_, rfl, st, _, _, _, rfl, rfl, SqL.of e1, at5 2 _ rfl, _, rfl, _, _, rfl, rfl, dn, _, rfl, st, _, 2, 2, rfl, rfl, e1, rfl, _, rfl, ?_⟩
        exact fin2 _ d (d / n) (d % n) i (c + 1) k1 e1 hi (Int.ediv_nonneg hd (Int.le_of_lt hn)) (Int.emod_nonneg _ (Int.ne_of_gt hn)) (Int.emod_lt_of_pos _ hn)
  · refine ⟨_, rfl, st, _, _, _, rfl, rfl, SqL.of e1, at5 2 _ rfl, rfl, _, rfl, ite2 (fun c3 => ?_) (fun c3 => ?_)⟩
    · refine ⟨_, rfl, st, _, _, _, rfl, rfl, SqL.of e1, at5 3 _ rfl, _, rfl, st, _, _, _, rfl, rfl, SqL.of e1, at5 4 _ rfl, _, rfl, _, _, n, rfl, hn, fun r hr0 hr1 => ?_⟩
      exact fin _ i d (c + 1) r k1 e1 hi hd hr0 hr1
    · refine ⟨_, rfl, st, _, _, _, rfl, rfl, SqL.of e1, at5 2 _ rfl, .inl ⟨_, rfl, _, rfl, _, _, rfl, rfl, hn, ?_⟩⟩
      refine ⟨_, rfl, st, _, _, _, rfl, rfl, SqL.of e1, at5 2 _ rfl, _, rfl, _, _, rfl, rfl, dn, _, rfl, st, _, 2, 2, rfl, rfl, e1, rfl, _, rfl, ?_⟩
      exact fin2 _ d (d / n) (d % n) i (c + 1) k1 e1 hi (Int.ediv_nonneg hd (Int.le_of_lt hn)) (Int.emod_nonneg _ (Int.ne_of_gt hn)) (Int.emod_lt_of_pos _ hn)
end
end CA
namespace CA
open PySem L2
theorem Keep.updn {H H' : Hp} {D : Addr} {o : HO} {ms : List Addr} (k : Keep ms H H') (hD : H D = none) : Keep ms H (L2.upd H' D o) := fun b u e n => by rw [upd_ne (ne_of_none e hD)]; exact k b u e n
theorem at_in {xs : List V} {r : Int} (h0 : 0 ≤ r) (h : r < ((xs.length : Nat) : Int)) : ∃ v, atI xs r = some v ∧ v ∈ xs := by
  have hk : r.toNat < xs.length := by omega
  exact ⟨xs[r.toNat], at_of (j := r.toNat) (by omega) (List.getElem?_eq_getElem hk), List.getElem_mem hk⟩
theorem StAt.isL {H : Hp} {st scr : Addr} (S : StAt H st scr) : ∃ L, H st = some (.lst L) := by
  obtain ⟨ns, i, d, seed, c, h1, _⟩ := S.ex
  exact ⟨_, h1⟩
theorem StAt.updn {H H' : Hp} {st scr D : Addr} {o : HO} (S0 : StAt H st scr) (hD : H D = none) (S : StAt H' st scr) : StAt (upd H' D o) st scr := by
  obtain ⟨ns0, i0, d0, seed0, c0, h10, h20, r0⟩ := S0.ex
  obtain ⟨ns, i, d, seed, c, h1, h2, r⟩ := S.ex
  exact ⟨ns, i, d, seed, c, by rw [upd_ne (ne_of_none h10 hD)]; exact h1, by rw [upd_ne (ne_of_none h20 hD)]; exact h2, r⟩
theorem StAt.gr {H H' : Hp} {st scr : Addr} (S : StAt H st scr) (S' : StAt H' st scr) (k : Keep [st] H H') : Gr H H' := by
  obtain ⟨ns0, i0, d0, seed0, c0, h10, h20, r0⟩ := S.ex
  obtain ⟨ns, i, d, seed, c, h1, h2, r⟩ := S'.ex
  exact Gr.keep k ⟨_, h10⟩ ⟨_, h1⟩
theorem StAt.nlst {H : Hp} {st scr a : Addr} {o : HO} (S : StAt H st scr) (h : H a = some o) (n : ∀ L, o ≠ .lst L) : a ≠ st := by
  obtain ⟨ns0, i0, d0, seed0, c0, h10, h20, r0⟩ := S.ex
  exact ne_of h h10 (fun z => n _ z)
structure TxtPk (K : PySem.W.Frag) (mg : Str → Option Value) (ft fp : Addr) : Prop where
  len : mg "len" = none
  range : mg "range" = none
  tuple : mg "tuple" = none
  g__law_take : mg "_law_take" = some (.ref ft)
  k__law_take : PySem.W.keepIn K (.ref ft) = true
  g__law_pick : mg "_law_pick" = some (.ref fp)
  k__law_pick : PySem.W.keepIn K (.ref fp) = true
/-- one of the texts of a list or a tuple, or a sign of a text -/
def spPick (K : PySem.W.Frag) : Sp := fun vs H Q _ => ∃ (st scr : Addr) (v : V), vs = [.ref st, v] ∧ StAt H st scr ∧
  ((∃ (p : Addr) (ss : List Str), v = .ref p ∧ p ≠ st ∧ ((SqL K H p (ss.map V.str) ∧ ∀ H', Keep [st] H H' → SqL K H' p (ss.map V.str)) ∨ H p = some (.tup (ss.map V.str))) ∧ 0 < ss.length ∧ ss.length < 1000 ∧ ∀ s ∈ ss, ∀ H', Keep [st] H H' → StAt H' st scr → Q (.str s) H')
  ∨ (∃ z : Str, v = .str z ∧ 0 < z.length ∧ z.length < 1000 ∧ ∀ c ∈ z.cps.toList, ∀ H', Keep [st] H H' → StAt H' st scr → Q (.str ⟨#[c]⟩) H'))
section
variable {P : Program} {w : World} {K : PySem.W.Frag} {mg : Str → Option Value} {base : Heap} {ft fp : Addr}
abbrev s__law_pick : Stmt := topS 60
theorem sc__law_pick : FnScope ["_law_state", "_law_names_here"] ["_law_state", "_law_names_here"] (defScope s__law_pick) := ⟨rfl, rfl, rfl, by decide +kernel, rfl, by decide +kernel, by decide +kernel⟩
theorem ok__law_pick {fd fdt : FuncData} (F : Fun K "_law_pick" "_law_pick" s__law_pick fp fd) (T : TxtPk K mg ft fp) (G_law_take : FnOk P w K mg base CX0 2 ft fdt ["_law_state", "_law_size"] spTake) (b_law_take : Binds K fdt ["_law_state", "_law_size"] []) :
    FnOk P w K mg base CX0 3 fp fd ["_law_state", "_law_names_here"] (spPick K) := by
  refine F.ok sc__law_pick (fun vs H Q E h => ?_) (fun cdv A outer s H vs Q E hr h => ?_)
  · obtain ⟨st, scr, v, rfl, _⟩ := h
    rfl
  obtain ⟨st, scr, v, rfl, S, q⟩ := h
  refine ⟨_, (pss_one (ps_ret (pe_ix ix_seq (pv 1) (pe_call G_law_take hr rfl T.g__law_take T.k__law_take b_law_take .nil pass0 (pa_cons (pv 0) (pa_cons (pe_callB (call_len_seq.or call_len_str) (by rfl) T.len (by decide +kernel) (pa_cons (pv 1) pa_nil)) pa_nil))) (fun _ _ => rfl)))), ?_⟩
  rcases q with ⟨p, ss, rfl, np, hp, h0, h1, q⟩ | ⟨z, rfl, h0, h1, q⟩
  · refine ⟨_, rfl, _, rfl, _, rfl, .inl ⟨p, ss.map V.str, rfl, hp.elim (fun e => .inl e.1) fun e => .inr (SqT.of e), ?_⟩⟩
    refine ⟨st, scr, ((ss.map V.str).length : Int), rfl, S, by rw [List.length_map]; omega, by rw [List.length_map]; omega, fun r H' r0 r1 k S' => ?_⟩
    obtain ⟨v, hv, hm⟩ := at_in r0 r1
    obtain ⟨s', hs', rfl⟩ := List.mem_map.mp hm
    rcases hp with hp | hp
    · exact .inl ⟨p, _, r, _, rfl, rfl, hp.2 _ k, hv, q s' hs' H' k S'⟩
    · exact .inr (.inl ⟨p, _, r, _, rfl, rfl, SqT.of (k.one hp np), hv, q s' hs' H' k S'⟩)
  · have hz : z.length ≤ sizeLine := Nat.le_trans (Nat.le_of_lt h1) (by decide)
    refine ⟨_, rfl, _, rfl, _, rfl, .inr ⟨z, rfl, hz, ?_⟩⟩
    refine ⟨st, scr, (z.length : Int), rfl, S, by omega, by omega, fun r H' r0 r1 k S' => ?_⟩
    have hk : r.toNat < z.cps.toList.length := by
      rw [Array.length_toList]
      have : (z.cps.size : Int) = (z.length : Int) := rfl
      omega
    have hat := atI_nat (List.getElem?_eq_getElem hk)
    rw [Int.toNat_of_nonneg r0] at hat
    refine .inr (.inr ⟨z, r, z.cps.toList[r.toNat], rfl, rfl, hz, hat, q _ (List.getElem_mem hk) H' k S'⟩)
end
/-- [te for v in range(n)] where each te draws a text -/
theorem lcd_range {K : PySem.W.Frag} {wi : TI} {j : Nat} {te : TE} {vs : List Nat} {σ : L2.St} {H : Hp} {Q : VK} {st scr : Addr} {B : Nat} {good : Str → Prop} (S : StAt H st scr) (hB : B ≤ 1000)
    (hwi : ∀ R' : It → Hp → Prop, (∀ n H1, n ≤ B → Keep [st] H H1 → StAt H1 st scr → R' (Itr 0 n) H1) → wi σ H R')
    (hj : ∀ x, wipe ((wipe σ vs).set j (some x)) vs = wipe σ vs)
    (he : ∀ x H' (Q' : VK), Keep [st] H H' → StAt H' st scr → (∀ s H'', good s → Keep [st] H' H'' → StAt H'' st scr → Q' (.str s) H'') → te ((wipe σ vs).set j (some x)) H' Q')
    (q : ∀ (D : Addr) (H' : Hp) (ss : List Str), H D = none → Keep [st] H H' → StAt H' st scr → H' D = some (.lst (ss.map V.str)) → ss.length ≤ B → (∀ s ∈ ss, good s) → Q (.ref D) H') : tLc wi (gName j) tYes te vs σ H Q := by
  refine hwi _ fun n H1 hn k1 S1 D hD => ?_
  have hDH : H D = none := by
    cases e : H D with
    | none => rfl
    | some o =>
      by_cases eD : D = st
      · obtain ⟨L, hL⟩ := S1.isL
        rw [eD, hL] at hD
        cases hD
      · rw [k1.one e eD] at hD; cases hD
  have nD : D ≠ st := fun e => by
    obtain ⟨L, hL⟩ := S.isL
    rw [e, hL] at hDH
    cases hDH
  refine walk_range (lo := 0) (n := n) (fun i H' => Keep [st] H H' ∧ StAt H' st scr ∧ ∃ ss : List Str, H' D = some (.lst (ss.map V.str)) ∧ ss.length = i ∧ ∀ s ∈ ss, good s) ⟨k1.updn hDH, S.updn hDH S1, [], upd_same, rfl, fun _ h => by cases h⟩ (fun i H' hi pv => ?_) (fun H' pv => ?_)
  · obtain ⟨k, S', ss, hDs, hl, hg⟩ := pv
    unfold gName
    refine ⟨hj _, ?_⟩
    unfold tYes
    refine iteT ?_
    refine he _ H' _ k S' fun s H2 gs k2 S2 => ?_
    refine ⟨_, k2.one hDs nD, ?_, (k.trans k2).updn hDH, S.updn hDH S2, ss ++ [s], by rw [upd_same, List.map_append]; rfl, by rw [List.length_append, hl]; rfl, fun u hu => ?_⟩
    · rw [List.length_map]
      exact Nat.lt_of_le_of_lt (show _ ≤ 1000 by omega) (by decide)
    · rcases List.mem_append.mp hu with hu | hu
      · exact hg u hu
      · rw [List.mem_singleton] at hu
        rw [hu]
        exact gs
  · obtain ⟨k, S', ss, hDs, hl, hg⟩ := pv
    exact q D H' ss hDH k S' hDs (by omega) hg
/-- the same over a tuple -/
theorem lcd_tup {K : PySem.W.Frag} {i j : Nat} {te : TE} {vs : List Nat} {σ : L2.St} {H : Hp} {Q : VK} {st scr a : Addr} {xs : List V} {good : Str → Prop} (S : StAt H st scr) (hσ : σ[i]? = some (some (.ref a))) (ha : H a = some (.tup xs)) (hB : xs.length ≤ 1000)
    (hj : ∀ x, wipe ((wipe σ vs).set j (some x)) vs = wipe σ vs)
    (he : ∀ x H' (Q' : VK), Keep [st] H H' → StAt H' st scr → (∀ s H'', good s → Keep [st] H' H'' → StAt H'' st scr → Q' (.str s) H'') → te ((wipe σ vs).set j (some x)) H' Q')
    (q : ∀ (D : Addr) (H' : Hp) (ss : List Str), H D = none → Keep [st] H H' → StAt H' st scr → H' D = some (.lst (ss.map V.str)) → ss.length = xs.length → (∀ s ∈ ss, good s) → Q (.ref D) H') : tLc (iTup K (tVar i)) (gName j) tYes te vs σ H Q := by
  refine ⟨_, hσ, a, rfl, ⟨xs, SqT.of ha⟩, fun D hDH => ?_⟩
  have na : a ≠ st := S.nlst ha (fun _ z => by cases z)
  have nD : D ≠ st := fun e => by
    obtain ⟨L, hL⟩ := S.isL
    rw [e, hL] at hDH
    cases hDH
  refine walk_tup (K := K) (a := a) (xs := xs) (fun i H' => Keep [st] H H' ∧ StAt H' st scr ∧ ∃ ss : List Str, H' D = some (.lst (ss.map V.str)) ∧ ss.length = i ∧ ∀ s ∈ ss, good s) ⟨(Keep.refl _).updn hDH, S.updn hDH S, [], upd_same, rfl, fun _ h => by cases h⟩ (fun i H' _ pv => SqT.of (pv.1.one ha na)) (fun i x H' hx pv => ?_) (fun H' pv => ?_)
  · obtain ⟨k, S', ss, hDs, hl, hg⟩ := pv
    have hi := (List.getElem?_eq_some_iff.mp hx).1
    unfold gName
    refine ⟨hj _, ?_⟩
    unfold tYes
    refine iteT ?_
    refine he _ H' _ k S' fun s H2 gs k2 S2 => ?_
    refine ⟨_, k2.one hDs nD, ?_, (k.trans k2).updn hDH, S.updn hDH S2, ss ++ [s], by rw [upd_same, List.map_append]; rfl, by rw [List.length_append, hl]; rfl, fun u hu => ?_⟩
    · rw [List.length_map]
      exact Nat.lt_of_le_of_lt (show _ ≤ 1000 by omega) (by decide)
    · rcases List.mem_append.mp hu with hu | hu
      · exact hg u hu
      · rw [List.mem_singleton] at hu
        rw [hu]
        exact gs
  · obtain ⟨k, S', ss, hDs, hl, hg⟩ := pv
    exact q D H' ss hDH k S' hDs hl hg
end CA
namespace CA
open PySem L2
theorem Keep.fresh {H H' : Hp} {st scr a : Addr} (k : Keep [st] H H') (S' : StAt H' st scr) (h : H' a = none) : H a = none := by
  cases e : H a with
  | none => rfl
  | some o =>
    by_cases ea : a = st
    · obtain ⟨L, hL⟩ := S'.isL
      rw [ea, hL] at h
      cases h
    · rw [k.one e ea] at h
      cases h
def letS : Str := "abcdefghijklmnopqrstuvwxyz"
theorem let_list : letS.cps.toList = (List.range 26).map (97 + ·) := by decide +kernel
theorem let_mem {c : Nat} (h : c ∈ letS.cps.toList) : 97 ≤ c ∧ c ≤ 122 := by
  rw [let_list] at h
  obtain ⟨i, hi, rfl⟩ := List.mem_map.mp h
  have := List.mem_range.mp hi
  omega
theorem let_at {r : Int} (h0 : 0 ≤ r) (h1 : r < 26) : atI letS.cps.toList r = some (97 + r.toNat) := by
  have hk : letS.cps.toList[r.toNat]? = some (97 + r.toNat) := by
    rw [let_list, List.getElem?_map, List.getElem?_range (by omega)]
    rfl
  have hat := atI_nat hk
  rw [Int.toNat_of_nonneg h0] at hat
  exact hat
def sign1 (s : Str) : Prop := ∃ c : Nat, s = ⟨#[c]⟩ ∧ 97 ≤ c ∧ c ≤ 122
theorem joinL_nil : ∀ ps : List (List Nat), TL.joinL [] ps = ps.flatten
  | [] => rfl
  | [p] => by simp [TL.joinL]
  | p :: q :: r => by
    show p ++ ([] ++ TL.joinL [] (q :: r)) = _
    rw [joinL_nil (q :: r)]
    simp
theorem join_list (ss : List Str) : (Txt.join ("" : Str) ss).cps.toList = (ss.map fun s => s.cps.toList).flatten := by
  have h := TL.tl_join ("" : Str) ss
  rw [TL.join_eq]
  have e : TL.tl ("" : Str) = [] := rfl
  rw [e, joinL_nil] at h
  exact h
theorem join_signs : ∀ {ss : List Str}, (∀ s ∈ ss, sign1 s) → ((ss.map fun s => s.cps.toList).flatten).length = ss.length ∧ ∀ c ∈ (ss.map fun s => s.cps.toList).flatten, 97 ≤ c ∧ c ≤ 122
  | [], _ => ⟨rfl, fun _ h => by cases h⟩
  | s :: r, h => by
    obtain ⟨c, rfl, h1, h2⟩ := h s (List.mem_cons_self ..)
    obtain ⟨e, g⟩ := join_signs fun x hx => h x (List.mem_cons_of_mem _ hx)
    rw [List.map_cons, List.flatten_cons]
    refine ⟨by rw [List.length_append, e, List.length_cons]; show 1 + r.length = r.length + 1; omega, fun d hd => ?_⟩
    rcases List.mem_append.mp hd with hd | hd
    · have hd : d ∈ [c] := hd
      rw [List.mem_singleton] at hd
      rw [hd]
      exact ⟨h1, h2⟩
    · exact g d hd
def ownS (sh : Int) (j : Nat) : Str := ⟨#[97 + ((sh + 7 * (j : Int)) % 26).toNat]⟩
def nmAt (sh fi : Int) (j : Nat) (s : Str) : Prop := ∃ t : Str, t.length ≤ 6 ∧ (∀ c ∈ t.cps.toList, 97 ≤ c ∧ c ≤ 122) ∧ ((fi = 0 ∧ s = ownS sh j ++ t) ∨ (fi = 1 ∧ s = t ++ ownS sh j))
theorem str_app (a b : Str) : (a ++ b).cps.toList = a.cps.toList ++ b.cps.toList := by
  show (a.cps ++ b.cps).toList = _
  exact Array.toList_append
theorem str_len (a : Str) : a.length = a.cps.toList.length := Array.length_toList.symm
theorem okSign_of {c : Nat} (h : 97 ≤ c ∧ c ≤ 122) : okSign c = true := by
  unfold okSign
  have e1 : (Str.ofString "a").cps.toList = [97] := by decide +kernel
  have e2 : (Str.ofString "z").cps.toList = [122] := by decide +kernel
  rw [e1, e2]
  have h1 : ¬ ([c] < [97]) := by
    intro z
    rw [List.cons_lt_cons_iff] at z
    rcases z with z | ⟨_, z⟩
    · omega
    · exact absurd z (List.lt_irrefl _)
  have h2 : ¬ ([122] < [c]) := by
    intro z
    rw [List.cons_lt_cons_iff] at z
    rcases z with z | ⟨_, z⟩
    · omega
    · exact absurd z (List.lt_irrefl _)
  rw [decide_eq_false h1, decide_eq_false h2]
  rfl
theorem own_bound (sh : Int) (j : Nat) : 97 ≤ 97 + ((sh + 7 * (j : Int)) % 26).toNat ∧ 97 + ((sh + 7 * (j : Int)) % 26).toNat ≤ 122 := by
  have h1 := Int.emod_nonneg (sh + 7 * (j : Int)) (by decide : (26 : Int) ≠ 0)
  have h2 := Int.emod_lt_of_pos (sh + 7 * (j : Int)) (by decide : (0 : Int) < 26)
  omega
theorem nmS_of {s : Str} (h1 : 1 ≤ s.length) (h2 : s.length ≤ 8) (h : ∀ c ∈ s.cps.toList, 97 ≤ c ∧ c ≤ 122) : nmS s = true := by
  unfold nmS
  rw [decide_eq_true (by omega), decide_eq_true (by omega)]
  show (s.cps.toList.map okSign).all id = true
  rw [List.all_eq_true]
  intro b hb
  obtain ⟨c, hc, rfl⟩ := List.mem_map.mp hb
  exact okSign_of (h c hc)
theorem nmAt_name {sh fi : Int} {j : Nat} {s : Str} (h : nmAt sh fi j s) : nmS s = true := by
  obtain ⟨t, ht, hc, h⟩ := h
  have hb := own_bound sh j
  have e1 : (ownS sh j).cps.toList = [97 + ((sh + 7 * (j : Int)) % 26).toNat] := rfl
  rw [str_len] at ht
  rcases h with ⟨_, rfl⟩ | ⟨_, rfl⟩
  · have e : (ownS sh j ++ t).cps.toList = (97 + ((sh + 7 * (j : Int)) % 26).toNat) :: t.cps.toList := by rw [str_app, e1]; rfl
    refine nmS_of (by rw [str_len, e, List.length_cons]; omega) (by rw [str_len, e, List.length_cons]; omega) fun c h => ?_
    rw [e] at h
    rcases List.mem_cons.mp h with rfl | h
    · exact hb
    · exact hc c h
  · have e : (t ++ ownS sh j).cps.toList = t.cps.toList ++ [97 + ((sh + 7 * (j : Int)) % 26).toNat] := by rw [str_app, e1]
    refine nmS_of (by rw [str_len, e, List.length_append]; simp) (by rw [str_len, e, List.length_append]; show _ + 1 ≤ 8; omega) fun c h => ?_
    rw [e] at h
    rcases List.mem_append.mp h with h | h
    · exact hc c h
    · rw [List.mem_singleton] at h
      rw [h]
      exact hb
theorem own_inj {sh : Int} {i j : Nat} (hi : i < 26) (hj : j < 26) (h : 97 + ((sh + 7 * (i : Int)) % 26).toNat = 97 + ((sh + 7 * (j : Int)) % 26).toNat) : i = j := by omega
theorem nmAt_ne {sh fi : Int} {i j : Nat} {s : Str} (hi : i < 26) (hj : j < 26) (a : nmAt sh fi i s) (b : nmAt sh fi j s) : i = j := by
  obtain ⟨t, _, _, a⟩ := a
  obtain ⟨u, _, _, b⟩ := b
  have e1 : ∀ k, (ownS sh k).cps.toList = [97 + ((sh + 7 * (k : Int)) % 26).toNat] := fun _ => rfl
  rcases a with ⟨f1, a⟩ | ⟨f1, a⟩ <;> rcases b with ⟨f2, b⟩ | ⟨f2, b⟩
  · have h : (ownS sh i ++ t).cps.toList = (ownS sh j ++ u).cps.toList := by rw [← a, b]
    rw [str_app, str_app, e1, e1] at h
    injection h with h _
    exact own_inj hi hj h
  · omega
  · omega
  · have h : (t ++ ownS sh i).cps.toList = (u ++ ownS sh j).cps.toList := by rw [← a, b]
    rw [str_app, str_app, e1, e1] at h
    have h := congrArg List.getLast? h
    rw [List.getLast?_append, List.getLast?_append] at h
    injection h with h
    exact own_inj hi hj h
theorem names_nodup {sh fi : Int} {ns : List Str} (hl : ns.length ≤ 26) (h : ∀ (j : Nat) s, ns[j]? = some s → nmAt sh fi j s) : ns.Nodup := by
  unfold List.Nodup
  rw [List.pairwise_iff_getElem]
  intro i j hi hj hij e
  have h1 := h i _ (List.getElem?_eq_getElem hi)
  have h2 := h j _ (List.getElem?_eq_getElem hj)
  rw [← e] at h2
  have := nmAt_ne (by omega) (by omega) h1 h2
  omega
def spLNames : Sp := fun vs H Q _ => ∃ (st scr : Addr) (n : Nat), vs = [.ref st, .int (n : Int)] ∧ StAt H st scr ∧ n ≤ 26 ∧
  ∀ (p : Addr) (H' : Hp) (ns : List Str), H p = none → Keep [st] H H' → StAt H' st scr → H' p = some (.lst (ns.map V.str)) → ns.length = n → (∀ s ∈ ns, nmS s = true) → ns.Nodup → Q (.ref p) H'
/-- a tuple with a word for each word -/
def spTab : Sp := fun vs H Q _ => ∃ (st scr pw : Addr) (ws : List Str), vs = [.ref st, .ref pw] ∧ StAt H st scr ∧ H pw = some (.tup (ws.map V.str)) ∧ 0 < ws.length ∧ ws.length < 1000 ∧
  ∀ (p : Addr) (H' : Hp) (ts : List Str), H p = none → Keep [st] H H' → StAt H' st scr → H' p = some (.tup (ts.map V.str)) → ts.length = ws.length → (∀ s ∈ ts, s ∈ ws) → Q (.ref p) H'
section
variable {P : Program} {w : World} {K : PySem.W.Frag} {mg : Str → Option Value} {base : Heap} {ft fp : Addr}
abbrev s__law_table : Stmt := topS 62
theorem sc__law_table : FnScope ["_law_state", "_law_words", "_law_word"] ["_law_state", "_law_words"] (defScope s__law_table) := ⟨rfl, rfl, rfl, by decide +kernel, rfl, by decide +kernel, by decide +kernel⟩
theorem ok__law_table {f : Addr} {fd fdp : FuncData} (F : Fun K "_law_table" "_law_table" s__law_table f fd) (T : TxtPk K mg ft fp) (Gp : FnOk P w K mg base CX0 3 fp fdp ["_law_state", "_law_names_here"] (spPick K)) (bp : Binds K fdp ["_law_state", "_law_names_here"] []) :
    FnOk P w K mg base CX0 4 f fd ["_law_state", "_law_words"] spTab := by
  refine F.ok sc__law_table (fun vs H Q E h => ?_) (fun cdv A outer s H vs Q E hr h => ?_)
  · obtain ⟨st, scr, pw, ws, rfl, _⟩ := h
    rfl
  obtain ⟨st, scr, pw, ws, rfl, S, hw, h0, h1, q⟩ := h
  refine ⟨_, (pss_one (ps_ret (pe_callTy call_tuple_of (by rfl) T.tuple (by decide +kernel) (pa_cons (pe_lc (own := [("_law_word", 2)]) (wi := iTup K (tVar 1)) (g := gName 2) (tt := tYes) (te := tCall (spPick K) [] E0 (tCons (tVar 0) (tCons (tVar 1) tNil))) rfl sc__law_table.nd (pi_tup (pv 1)) (blkOk_by (own := [("_law_word", 2)]) (N := ["_law_state", "_law_words", "_law_word"]) (sc := defScope s__law_table) (by decide +kernel))
    (fun s H C cl fp => pg_name (i := 2) sc__law_table.nd rfl (Or.inl rfl)) (fun s H C cl fp => pts_nil) (fun s H C cl fp => pe_call Gp hr rfl T.g__law_pick T.k__law_pick bp .nil pass0 (pa_cons (pv 0) (pa_cons (pv 1) pa_nil)))) pa_nil)))), ?_⟩
  have nw : pw ≠ st := S.nlst hw (fun _ z => by cases z)
  dsimp only [tRet, tCB, tCons, tNil]
  refine lcd_tup (K := K) (i := 1) (j := 2) (vs := [2]) (σ := [some (.ref st), some (.ref pw), none]) (st := st) (scr := scr) (good := fun s => s ∈ ws) S rfl hw (by rw [List.length_map]; omega) (fun _ => rfl) (fun x H' Q' k S' kk => ?_) fun D H' ss hD k S' hDs hl hg => ?_
  · have hw' := k.one hw nw
    exact ⟨_, rfl, _, rfl, st, scr, _, rfl, S', .inl ⟨pw, ws, rfl, nw, .inr hw', h0, h1, fun s hs H2 k2 S2 => kk s H2 hs k2 S2⟩⟩
  · refine ⟨D, _, rfl, .inl ⟨SqL.of hDs, fun l hl2 => ?_⟩⟩
    have hlH := k.fresh S' hl2
    exact q l _ ss hlH (k.updn hlH) (S.updn hlH S') upd_same (by rw [hl, List.length_map]) hg
abbrev s__law_names : Stmt := topS 61
theorem sc__law_names : FnScope ["_law_state", "_law_many", "_law_letters", "_law_shift", "_law_first", "_law_names_here", "_law_k", "_law_text", "_law_own", "_law_j"] ["_law_state", "_law_many"] (defScope s__law_names) := ⟨rfl, rfl, rfl, by decide +kernel, rfl, by decide +kernel, by decide +kernel⟩
theorem ok__law_names {f : Addr} {fd fdt fdp : FuncData} (F : Fun K "_law_names" "_law_names" s__law_names f fd) (T : TxtPk K mg ft fp) (Gt : FnOk P w K mg base CX0 2 ft fdt ["_law_state", "_law_size"] spTake) (bt : Binds K fdt ["_law_state", "_law_size"] [])
    (Gp : FnOk P w K mg base CX0 3 fp fdp ["_law_state", "_law_names_here"] (spPick K)) (bp : Binds K fdp ["_law_state", "_law_names_here"] []) :
    FnOk P w K mg base CX0 4 f fd ["_law_state", "_law_many"] spLNames := by
  refine F.ok sc__law_names (fun vs H Q E h => ?_) (fun cdv A outer s H vs Q E hr h => ?_)
  · obtain ⟨st, scr, n, rfl, _⟩ := h
    rfl
  obtain ⟨st, scr, n, rfl, S, hn, q⟩ := h
  have hr2 : Room 2 _ := hr.mono (by decide)
  have hr3 : Room 3 _ := hr
  refine ⟨_, (pss_cons (ps_set (i := 2) sc__law_names.nd rfl (Or.inr rfl) pe_str)
  (pss_cons (ps_set (i := 3) sc__law_names.nd rfl (Or.inl rfl) (pe_call Gt hr2 rfl T.g__law_take T.k__law_take bt .nil pass0 (pa_cons (pv 0) (pa_cons pe_int pa_nil))))
  (pss_cons (ps_set (i := 4) sc__law_names.nd rfl (Or.inl rfl) (pe_call Gt hr2 rfl T.g__law_take T.k__law_take bt .nil pass0 (pa_cons (pv 0) (pa_cons pe_int pa_nil))))
  (pss_cons (ps_set (i := 5) sc__law_names.nd rfl (Or.inl rfl) (pe_lst pa_nil))
  (pss_cons (ps_for PassesOwn.never rfl (pi_range1 rfl T.range (pa_cons (pv 1) pa_nil)) (pg_name (i := 6) sc__law_names.nd rfl (Or.inl rfl))
    (pss_cons (ps_set (i := 7) sc__law_names.nd rfl (Or.inl rfl) (pe_join pe_str (pe_lc (own := [("_law_j", 9)]) (g := gName 9) (tt := tYes) (te := tCall (spPick K) [] E0 (tCons (tVar 0) (tCons (tVar 2) tNil))) rfl sc__law_names.nd (pi_range1 rfl T.range (pa_cons (pe_op op_mul (pe_call Gt hr2 rfl T.g__law_take T.k__law_take bt .nil pass0 (pa_cons (pv 0) (pa_cons pe_int pa_nil))) (pe_op op_add pe_int (pe_call Gt hr2 rfl T.g__law_take T.k__law_take bt .nil pass0 (pa_cons (pv 0) (pa_cons pe_int pa_nil))))) pa_nil))
        (blkOk_by (own := [("_law_j", 9)]) (N := ["_law_state", "_law_many", "_law_letters", "_law_shift", "_law_first", "_law_names_here", "_law_k", "_law_text", "_law_own", "_law_j"]) (sc := defScope s__law_names) (by decide +kernel))
        (fun s H C cl fp => pg_name (i := 9) sc__law_names.nd rfl (Or.inl rfl)) (fun s H C cl fp => pts_nil) (fun s H C cl fp => pe_call Gp hr3 rfl T.g__law_pick T.k__law_pick bp .nil pass0 (pa_cons (pv 0) (pa_cons (pv 2) pa_nil))))))
      (pss_cons (ps_set (i := 8) sc__law_names.nd rfl (Or.inl rfl) (pe_ix ix_str (pv 2) (pe_op op_mod (pe_op op_add (pv 3) (pe_op op_mul pe_int (pv 6))) pe_int) (fun _ _ => rfl)))
      (pss_one (ps_expr (pe_bm PySem.F.plainAttrs_list PySem.F.slot_list_append PySem.F.type_list_append mt_append (pv 5) (pa_cons (pe_ix ix_list (pe_lst (pa_cons (pe_op op_add_str (pv 8) (pv 7)) (pa_cons (pe_op op_add_str (pv 7) (pv 8)) pa_nil))) (pv 4) (fun _ _ => rfl)) pa_nil)))))))
  (pss_one (ps_ret (pv 5)))))))), ?_⟩
  refine ⟨_, rfl, st, scr, 26, rfl, S, by decide, by decide, fun sh H1 sh0 sh1 k1 S1 => ?_⟩
  refine ⟨_, rfl, st, scr, 2, rfl, S1, by decide, by decide, fun fi H2 fi0 fi1 k2 S2 => ?_⟩
  refine ⟨by decide, fun p hp => ?_⟩
  have K2 := k1.trans k2
  have hpH := K2.fresh S2 hp
  have npst : p ≠ st := fun e => by
    obtain ⟨L, hL⟩ := S.isL
    rw [e, hL] at hpH
    cases hpH
  refine ⟨_, rfl, (n : Int), rfl, by omega, by omega, for_range (lo := 0) (n := n)
    (fun i σ H' => ∃ x6 x7 x8 x9, ∃ ns : List Str, σ = [some (.ref st), some (.int (n : Int)), some (.str letS), some (.int sh), some (.int fi), some (.ref p), x6, x7, x8, x9] ∧ Keep [st] H H' ∧ StAt H' st scr ∧ H' p = some (.lst (ns.map V.str)) ∧ ns.length = i ∧ ∀ (j : Nat) s, ns[j]? = some s → nmAt sh fi j s)
    ⟨none, none, none, none, [], rfl, K2.updn hpH, S.updn hpH S2, upd_same, rfl, fun j s h => by simp at h⟩ (fun i σ H' hi pv => ?_) (fun σ H' pv => ?_)⟩
  · obtain ⟨x6, x7, x8, x9, ns, rfl, k, S', hpn, hl, hall⟩ := pv
    refine ⟨⟨_, rfl⟩, ?_⟩
    refine lcd_range (K := K) (j := 9) (vs := [9]) (st := st) (scr := scr) (B := 6) (good := sign1) S' (by decide) (fun R' h => ?_) (fun _ => rfl) (fun x H3 Q3 k3 S3 kk => ?_) fun D H3 ss hD k3 S3 hDs hss hgs => ?_
    · refine ⟨_, rfl, st, scr, 4, rfl, S', by decide, by decide, fun r1 H4 r10 r11 k4 S4 => ?_⟩
      refine ⟨_, rfl, st, scr, 2, rfl, S4, by decide, by decide, fun r2 H5 r20 r21 k5 S5 => ?_⟩
      have hr2' : r2 = 0 ∨ r2 = 1 := by omega
      have hm : 0 ≤ r1 * (1 + r2) ∧ r1 * (1 + r2) ≤ 6 := by rcases hr2' with e | e <;> rw [e] <;> omega
      exact ⟨_, _, rfl, rfl, _, _, rfl, rfl, .inl ⟨by omega, by omega⟩, _, rfl, by omega, by omega, h _ H5 (by omega) (k4.trans k5) S5⟩
    · exact ⟨_, rfl, _, rfl, st, scr, _, rfl, S3, .inr ⟨letS, rfl, by decide, by decide, fun c hc H4 k4 S4 => kk _ H4 ⟨c, rfl, let_mem hc⟩ k4 S4⟩⟩
    · obtain ⟨hjl, hjm⟩ := join_signs hgs
      have hsum : (ss.map (·.length)).sum + ss.length * (("" : Str).length) ≤ 16777216 := by
        have e0 : ("" : Str).length = 0 := rfl
        rw [e0, Nat.mul_zero, Nat.add_zero]
        have hb : ∀ l : List Str, (∀ s ∈ l, sign1 s) → (l.map (·.length)).sum = l.length := fun l => by
          induction l with
          | nil => intro _; rfl
          | cons a l ih =>
            intro h
            obtain ⟨c, rfl, _⟩ := h a (List.mem_cons_self ..)
            rw [List.map_cons, List.sum_cons, ih fun s hs => h s (List.mem_cons_of_mem _ hs), List.length_cons]
            show 1 + l.length = l.length + 1
            omega
        rw [hb ss hgs]
        omega
      refine ⟨_, D, ss, rfl, rfl, .inl (SqL.of hDs), hsum, ?_⟩
      have et := join_list ss
      generalize hT : Txt.join ("" : Str) ss = t at et
      rw [← et] at hjl hjm
      have tl6 : t.length ≤ 6 := by rw [str_len]; omega
      have hb := own_bound sh i
      have e0 : (0 : Int) + (i : Int) = (i : Int) := by omega
      have m0 := Int.emod_nonneg (sh + 7 * (0 + (i : Int))) (by decide : (26 : Int) ≠ 0)
      have m1 := Int.emod_lt_of_pos (sh + 7 * (0 + (i : Int))) (by decide : (0 : Int) < 26)
      refine ⟨_, rfl, _, rfl, _, rfl, _, _, rfl, rfl, .inl ⟨by omega, by omega⟩, _, _, rfl, rfl, _, _, rfl, rfl, (by show (0 : Int) < 26; decide), letS, _, _, rfl, rfl, by decide, let_at m0 m1, ?_⟩
      have eown : (⟨#[97 + ((sh + 7 * (0 + (i : Int))) % 26).toNat]⟩ : Str) = ownS sh i := by rw [e0]; rfl
      rw [eown]
      have kH3 := k.trans k3
      have hp3 := k3.one hpn npst
      have lo1 : (ownS sh i).length = 1 := rfl
      refine ⟨_, rfl, .inl ⟨rfl, _, SqL.of hp3⟩, _, rfl, _, rfl, _, _, rfl, rfl, Nat.le_trans (show (ownS sh i).length + t.length ≤ 7 by omega) (by decide), _, rfl, _, rfl, _, _, rfl, rfl, Nat.le_trans (show t.length + (ownS sh i).length ≤ 7 by omega) (by decide), (show 2 ≤ sizeLine by decide), fun pl hpl => ?_⟩
      have hplH := kH3.fresh S3 hpl
      have s4 := same_new hpl (.lst [V.str (ownS sh i ++ t), .str (t ++ ownS sh i)])
      have npl : p ≠ pl := fun e => by rw [e, hpl] at hp3; cases hp3
      have fin : ∀ (v : Str), nmAt sh fi i v → ∃ y6 y7 y8 y9, ∃ ns' : List Str, [some (V.ref st), some (V.int (n : Int)), some (.str letS), some (.int sh), some (.int fi), some (.ref p), some (.int (0 + (i : Int))), some (.str t), some (.str (ownS sh i)), x9] = [some (V.ref st), some (V.int (n : Int)), some (.str letS), some (.int sh), some (.int fi), some (.ref p), y6, y7, y8, y9] ∧ Keep [st] H (upd (upd H3 pl (.lst [V.str (ownS sh i ++ t), .str (t ++ ownS sh i)])) p (.lst (ns.map V.str ++ [.str v]))) ∧
          StAt (upd (upd H3 pl (.lst [V.str (ownS sh i ++ t), .str (t ++ ownS sh i)])) p (.lst (ns.map V.str ++ [.str v]))) st scr ∧ (upd (upd H3 pl (.lst [V.str (ownS sh i ++ t), .str (t ++ ownS sh i)])) p (.lst (ns.map V.str ++ [.str v]))) p = some (.lst (ns'.map V.str)) ∧ ns'.length = i + 1 ∧ ∀ (j : Nat) s, ns'[j]? = some s → nmAt sh fi j s := fun v hv => by
        refine ⟨_, _, _, _, ns ++ [v], rfl, (kH3.updn hplH).updn hpH, S.updn hpH (S.updn hplH S3), by rw [upd_same, List.map_append]; rfl, by rw [List.length_append, hl]; rfl, fun j s hs => ?_⟩
        rw [List.getElem?_append] at hs
        split at hs
        · exact hall j s hs
        · rename_i hj
          have hj2 : j - ns.length = 0 := by
            have := (List.getElem?_eq_some_iff.mp hs).1
            simp at this
            omega
          rw [hj2] at hs
          have hs : some v = some s := hs
          cases hs
          have : j = i := by omega
          rw [this]
          exact hv
      have hsz : (ns.map V.str).length < sizeLine := Nat.lt_of_le_of_lt (show _ ≤ 26 by rw [List.length_map]; omega) (by decide)
      by_cases hf : fi = 0
      · refine ⟨_, rfl, pl, _, fi, _, rfl, rfl, SqL.of upd_same, at_of (j := 0) (by omega) rfl, p, _, _, rfl, rfl, s4 _ _ hp3, hsz, ?_⟩
        exact fin _ ⟨t, tl6, hjm, .inl ⟨hf, rfl⟩⟩
      · refine ⟨_, rfl, pl, _, fi, _, rfl, rfl, SqL.of upd_same, at_of (j := 1) (by omega) rfl, p, _, _, rfl, rfl, s4 _ _ hp3, hsz, ?_⟩
        exact fin _ ⟨t, tl6, hjm, .inr ⟨by omega, rfl⟩⟩
  · obtain ⟨x6, x7, x8, x9, ns, rfl, k, S', hpn, hl, hall⟩ := pv
    refine ⟨_, rfl, q p _ ns hpH k S' hpn hl (fun s hs => ?_) (names_nodup (by omega) hall)⟩
    obtain ⟨j, hj⟩ := List.mem_iff_getElem?.mp hs
    exact nmAt_name (hall j s hj)
end
end CA
namespace CA
open PySem L2
/-! ### rows of functions as they are drawn -/
structure Wd where
  ws : List Str
  slots : List Str
  cells : List Str
  boxes : List Str
/-- a drawn table -/
def tblOk (W : Wd) (tb : List Str) : Prop := tb.length = W.ws.length ∧ ∀ x ∈ tb, x ∈ W.ws
inductive GRow (W : Wd) : Bool → Int → Tr → Prop
  | say {b : Bool} {dp : Int} {s : Str} : s ∈ W.slots → GRow W b dp (.tup [tx "say", tx s])
  | set {b : Bool} {dp : Int} {c s : Str} : c ∈ W.cells → s ∈ W.slots → GRow W b dp (.tup [tx "set", tx c, tx s])
  | turn {b : Bool} {dp : Int} {c : Str} {tb : List Str} : c ∈ W.cells → tblOk W tb → GRow W b dp (.tup [tx "turn", tx c, .tup (tb.map tx)])
  | write {b : Bool} {dp : Int} {c s : Str} : c ∈ W.boxes → s ∈ W.slots → GRow W b dp (.tup [tx "write", tx c, tx s])
  | fetch {b : Bool} {dp : Int} {c s : Str} : c ∈ W.boxes → s ∈ W.slots → GRow W b dp (.tup [tx "fetch", tx c, tx s])
  | map {b : Bool} {dp : Int} {s u : Str} {tb : List Str} : s ∈ W.slots → u ∈ W.slots → tblOk W tb → GRow W b dp (.tup [tx "map", tx s, tx u, .tup (tb.map tx)])
  | put {b : Bool} {dp : Int} {s w : Str} : s ∈ W.slots → w ∈ W.ws → GRow W b dp (.tup [tx "put", tx s, tx w])
  | iff {b : Bool} {dp : Int} {s w : Str} {ts us : List Tr} : s ∈ W.slots → w ∈ W.ws → dp ≤ 2 → (∀ t ∈ ts, GRow W false (dp + 1) t) → (∀ t ∈ us, GRow W false (dp + 1) t) → GRow W b dp (.tup [tx "if", tx s, tx w, .tup ts, .tup us])
  | later {dp : Int} {ts : List Tr} : (∀ t ∈ ts, GRow W false 1 t) → GRow W true dp (.tup [tx "later", .tup ts])
/-- all these words are names, and there are not too many -/
structure Wd.Ok (W : Wd) : Prop where
  slots : ∀ s ∈ W.slots, nmS s = true
  cells : ∀ s ∈ W.cells, nmS s = true
  boxes : ∀ s ∈ W.boxes, nmS s = true
  ws : ∀ s ∈ W.ws, nmS s = true
  n1 : 0 < W.slots.length
  n2 : W.slots.length ≤ 100
  n3 : 0 < W.ws.length
  n4 : W.ws.length ≤ 100
  n5 : W.cells.length ≤ 100
  n6 : W.boxes.length ≤ 100
def FC (b : Bool) (dp : Int) (d : Nat) : Prop := if b then dp = 1 ∧ 4 ≤ d else 1 ≤ dp ∧ 4 - dp ≤ (d : Int) ∧ 1 ≤ d
theorem FC.pos {b : Bool} {dp : Int} {d : Nat} (h : FC b dp d) : 1 ≤ d ∧ 1 ≤ dp := by
  cases b with
  | true =>
    have h : dp = 1 ∧ 4 ≤ d := h
    omega
  | false =>
    have h : 1 ≤ dp ∧ 4 - dp ≤ (d : Int) ∧ 1 ≤ d := h
    omega
theorem FC.iff {b : Bool} {dp : Int} {d : Nat} (h : FC b dp (d + 1)) (h2 : dp ≤ 2) : FC false (dp + 1) d := by
  cases b with
  | true =>
    have h : dp = 1 ∧ 4 ≤ d + 1 := h
    show 1 ≤ dp + 1 ∧ 4 - (dp + 1) ≤ (d : Int) ∧ 1 ≤ d
    omega
  | false =>
    have h : 1 ≤ dp ∧ 4 - dp ≤ ((d + 1 : Nat) : Int) ∧ 1 ≤ d + 1 := h
    show 1 ≤ dp + 1 ∧ 4 - (dp + 1) ≤ (d : Int) ∧ 1 ≤ d
    omega
theorem FC.later {dp : Int} {d : Nat} (h : FC true dp (d + 1)) : FC false 1 d := by
  have h : dp = 1 ∧ 4 ≤ d + 1 := h
  show (1 : Int) ≤ 1 ∧ 4 - 1 ≤ (d : Int) ∧ 1 ≤ d
  omega
section
variable {ws es : List Str}
theorem fit_name {r s : Str} (hr : r ∈ (["slot", "from", "cell", "box"] : List Str)) : itemFits r (tx s) ws es = nmS s := by
  have e : r = "slot" ∨ r = "from" ∨ r = "cell" ∨ r = "box" := by simpa using hr
  unfold itemFits
  rcases e with rfl | rfl | rfl | rfl <;> rw [if_neg (by decide), if_neg (by decide), if_neg (by decide), if_neg (by decide), if_neg (by decide), if_neg (by decide)] <;> rfl
theorem fit_word {s : Str} (h : s ∈ ws) : itemFits "word" (tx s) ws es = true := by
  unfold itemFits
  rw [if_pos rfl]
  show memT (.str s) ws = true
  rw [memT_str]
  exact decide_eq_true h
theorem fit_table {tb : List Str} (h1 : tb.length = ws.length) (h2 : ∀ x ∈ tb, x ∈ ws) : itemFits "table" (.tup (tb.map tx)) ws es = true := by
  unfold itemFits
  rw [if_neg (by decide), if_neg (by decide), if_pos rfl]
  show (_ && _) = true
  rw [List.length_map, decide_eq_true h1, Bool.true_and, List.all_eq_true]
  intro b hb
  obtain ⟨t, ht, rfl⟩ := List.mem_map.mp hb
  obtain ⟨x, hx, rfl⟩ := List.mem_map.mp ht
  show memT (.str x) ws = true
  rw [memT_str]
  exact decide_eq_true (h2 x hx)
theorem fit_rows {ts : List Tr} : itemFits "rows" (.tup ts) ws es = true := by
  unfold itemFits
  rw [if_neg (by decide), if_neg (by decide), if_neg (by decide), if_neg (by decide), if_neg (by decide), if_pos rfl]
  rfl
theorem rowFits_of {k : Str} {us : List Tr} {roles : List Str} (e : formOf k = some roles) (hl : us.length = roles.length) (h : ∀ p ∈ roles.zip us, itemFits p.1 p.2 ws es = true) : rowFits (.tup (tx k :: us)) ws es = true := by
  show (match formOf k with
    | none => false
    | some roles => decide (us.length = roles.length) && ((roles.zip us).map fun p => itemFits p.1 p.2 ws es).all id) = true
  rw [e]
  show (_ && _) = true
  rw [decide_eq_true hl, Bool.true_and, List.all_eq_true]
  intro b hb
  obtain ⟨p, hp, rfl⟩ := List.mem_map.mp hb
  exact h p hp
end
theorem stand_fun {k z : Str} {dp : Int} (hz : z ≠ "call") (hk : k ∈ funKinds) (h1 : k ≠ "later") (h2 : k ≠ "if") : mayStand k z dp = true := by
  unfold mayStand
  rw [if_neg hz, if_neg h1, decide_eq_true hk, if_pos rfl, if_neg h2]
theorem stand_if {z : Str} {dp : Int} (hz : z ≠ "call") (h : dp ≤ 2) : mayStand "if" z dp = true := by
  unfold mayStand
  rw [if_neg hz, if_neg (by decide), if_pos (by decide), if_pos rfl]
  exact decide_eq_true h
theorem stand_later : mayStand "later" "body" 1 = true := by decide
/-- a row that contains no rows -/
theorem inner_none {k : Str} {ts : List Tr} (h : firstRows k = none) : innerT k ts = [] := by
  unfold innerT
  rw [h]
theorem gen_val {W : Wd} (ok : W.Ok) {es : List Str} : ∀ (d : Nat) (b : Bool) (dp : Int) (z : Str) (ts : List Tr), FC b dp d → z ≠ "call" → (b = true → z = "body") → (∀ t ∈ ts, GRow W b dp t) → ValZ W.ws es d z dp ts
  | 0, b, dp, z, ts, hf, _, _, _ => by have := hf.pos; omega
  | d + 1, b, dp, z, ts, hf, hz, hb, h => by
    intro t ht
    have flat : ∀ (k : Str) (us : List Tr), firstRows k = none → ∀ (n : Nat) (x : Tr), (innerT k (tx k :: us))[n]? = some x → ∃ xs, x = .tup xs ∧ ValZ W.ws es d (zoneIn k n z) (depthIn k dp) xs := fun k us e n x hx => by
      rw [inner_none e] at hx
      simp at hx
    cases h t ht with
    | @say _ _ s hs =>
      refine ⟨"say", _, rfl, rowFits_of (roles := ["slot"]) rfl rfl ?_, stand_fun hz (by decide) (by decide) (by decide), flat _ _ rfl⟩
      simp only [List.zip_cons_cons, List.zip_nil_right, List.forall_mem_cons, List.not_mem_nil, false_imp_iff, implies_true, and_true]
      exact (fit_name (by decide)).trans (ok.slots s hs)
    | @set _ _ c s hc hs =>
      refine ⟨"set", _, rfl, rowFits_of (roles := ["cell", "slot"]) rfl rfl ?_, stand_fun hz (by decide) (by decide) (by decide), flat _ _ rfl⟩
      simp only [List.zip_cons_cons, List.zip_nil_right, List.forall_mem_cons, List.not_mem_nil, false_imp_iff, implies_true, and_true]
      exact ⟨(fit_name (by decide)).trans (ok.cells c hc), (fit_name (by decide)).trans (ok.slots s hs)⟩
    | @turn _ _ c tb hc htb =>
      refine ⟨"turn", _, rfl, rowFits_of (roles := ["cell", "table"]) rfl rfl ?_, stand_fun hz (by decide) (by decide) (by decide), flat _ _ rfl⟩
      simp only [List.zip_cons_cons, List.zip_nil_right, List.forall_mem_cons, List.not_mem_nil, false_imp_iff, implies_true, and_true]
      exact ⟨(fit_name (by decide)).trans (ok.cells c hc), fit_table htb.1 htb.2⟩
    | @write _ _ c s hc hs =>
      refine ⟨"write", _, rfl, rowFits_of (roles := ["box", "slot"]) rfl rfl ?_, stand_fun hz (by decide) (by decide) (by decide), flat _ _ rfl⟩
      simp only [List.zip_cons_cons, List.zip_nil_right, List.forall_mem_cons, List.not_mem_nil, false_imp_iff, implies_true, and_true]
      exact ⟨(fit_name (by decide)).trans (ok.boxes c hc), (fit_name (by decide)).trans (ok.slots s hs)⟩
    | @fetch _ _ c s hc hs =>
      refine ⟨"fetch", _, rfl, rowFits_of (roles := ["box", "slot"]) rfl rfl ?_, stand_fun hz (by decide) (by decide) (by decide), flat _ _ rfl⟩
      simp only [List.zip_cons_cons, List.zip_nil_right, List.forall_mem_cons, List.not_mem_nil, false_imp_iff, implies_true, and_true]
      exact ⟨(fit_name (by decide)).trans (ok.boxes c hc), (fit_name (by decide)).trans (ok.slots s hs)⟩
    | @map _ _ s u tb hs hu htb =>
      refine ⟨"map", _, rfl, rowFits_of (roles := ["slot", "from", "table"]) rfl rfl ?_, stand_fun hz (by decide) (by decide) (by decide), flat _ _ rfl⟩
      simp only [List.zip_cons_cons, List.zip_nil_right, List.forall_mem_cons, List.not_mem_nil, false_imp_iff, implies_true, and_true]
      exact ⟨(fit_name (by decide)).trans (ok.slots s hs), (fit_name (by decide)).trans (ok.slots u hu), fit_table htb.1 htb.2⟩
    | @put _ _ s w hs hw =>
      refine ⟨"put", _, rfl, rowFits_of (roles := ["slot", "word"]) rfl rfl ?_, stand_fun hz (by decide) (by decide) (by decide), flat _ _ rfl⟩
      simp only [List.zip_cons_cons, List.zip_nil_right, List.forall_mem_cons, List.not_mem_nil, false_imp_iff, implies_true, and_true]
      exact ⟨(fit_name (by decide)).trans (ok.slots s hs), fit_word hw⟩
    | @iff _ _ s w ts us hs hw h2 h3 h4 =>
      refine ⟨"if", _, rfl, rowFits_of (roles := ["slot", "word", "rows", "rows"]) rfl rfl ?_, stand_if hz h2, fun n x hx => ?_⟩
      · simp only [List.zip_cons_cons, List.zip_nil_right, List.forall_mem_cons, List.not_mem_nil, false_imp_iff, implies_true, and_true]
        exact ⟨(fit_name (by decide)).trans (ok.slots s hs), fit_word hw, fit_rows, fit_rows⟩
      · have hx : ([Tr.tup ts, .tup us] : List Tr)[n]? = some x := hx
        have ez : zoneIn "if" n z = z := rfl
        have ed : depthIn "if" dp = dp + 1 := rfl
        rw [ez, ed]
        match n, hx with
        | 0, hx => exact ⟨ts, (Option.some.inj hx).symm, gen_val ok d false (dp + 1) z ts (hf.iff h2) hz (fun e => by cases e) h3⟩
        | 1, hx => exact ⟨us, (Option.some.inj hx).symm, gen_val ok d false (dp + 1) z us (hf.iff h2) hz (fun e => by cases e) h4⟩
        | n + 2, hx => simp at hx
    | @later _ ts h3 =>
      have hf' : dp = 1 ∧ 4 ≤ d + 1 := hf
      refine ⟨"later", _, rfl, rowFits_of (roles := ["rows"]) rfl rfl ?_, by rw [hb rfl, hf'.1]; exact stand_later, fun n x hx => ?_⟩
      · simp only [List.zip_cons_cons, List.zip_nil_right, List.forall_mem_cons, List.not_mem_nil, false_imp_iff, implies_true, and_true]
        exact fit_rows
      · have hx : ([Tr.tup ts] : List Tr)[n]? = some x := hx
        have ez : zoneIn "later" n z = "later" := rfl
        have ed : depthIn "later" dp = 1 := rfl
        rw [ez, ed]
        match n, hx with
        | 0, hx => exact ⟨ts, (Option.some.inj hx).symm, gen_val ok d false 1 "later" ts hf.later (by decide) (fun e => by cases e) h3⟩
        | n + 1, hx => simp at hx
/-- every row that is listed is one of these -/
theorem gen_rows {W : Wd} {thr : List Str} : ∀ {d : Nat} {b : Bool} {dp : Int} {ts : List Tr} {path : List Int}, (∀ t ∈ ts, GRow W b dp t) → ∀ q ∈ rowsW thr d ts path, ∃ b' dp', GRow W b' dp' q.2
  | 0, _, _, _, _, _, q, hq => by cases hq
  | d + 1, b, dp, ts, path, h, q, hq => by
    obtain ⟨i, t, ht, hq⟩ := flat_mem _ ts q hq
    have hg := h t (List.mem_of_getElem? ht)
    unfold rowOut at hq
    rcases List.mem_cons.mp hq with e | hq
    · exact ⟨b, dp, by rw [e]; exact hg⟩
    · split at hq
      · obtain ⟨n, x, hx, hq⟩ := flat_mem _ _ q hq
        have none : ∀ k : Str, ∀ us, t = .tup (tx k :: us) → firstRows k = none → False := fun k us e h2 => by
          subst e
          have hx : (innerT k (tx k :: us))[n]? = some x := hx
          rw [inner_none h2] at hx
          simp at hx
        cases hg with
        | say _ => exact (none _ _ rfl rfl).elim
        | set _ _ => exact (none _ _ rfl rfl).elim
        | turn _ _ => exact (none _ _ rfl rfl).elim
        | write _ _ => exact (none _ _ rfl rfl).elim
        | fetch _ _ => exact (none _ _ rfl rfl).elim
        | map _ _ _ => exact (none _ _ rfl rfl).elim
        | put _ _ => exact (none _ _ rfl rfl).elim
        | @iff _ _ s w xs ys _ _ _ h3 h4 =>
          have hx : ([Tr.tup xs, .tup ys] : List Tr)[n]? = some x := hx
          match n, hx with
          | 0, hx =>
            have := Option.some.inj hx
            subst this
            exact gen_rows h3 q hq
          | 1, hx =>
            have := Option.some.inj hx
            subst this
            exact gen_rows h4 q hq
          | n + 2, hx => simp at hx
        | @later _ xs h3 =>
          have hx : ([Tr.tup xs] : List Tr)[n]? = some x := hx
          match n, hx with
          | 0, hx =>
            have := Option.some.inj hx
            subst this
            exact gen_rows h3 q hq
          | n + 1, hx => simp at hx
      · cases hq
theorem gen_kind {W : Wd} {b : Bool} {dp : Int} {t : Tr} (h : GRow W b dp t) : kOf t ∈ funKinds := by
  cases h with
  | say _ => exact (by decide : ("say" : Str) ∈ funKinds)
  | set _ _ => exact (by decide : ("set" : Str) ∈ funKinds)
  | turn _ _ => exact (by decide : ("turn" : Str) ∈ funKinds)
  | write _ _ => exact (by decide : ("write" : Str) ∈ funKinds)
  | fetch _ _ => exact (by decide : ("fetch" : Str) ∈ funKinds)
  | map _ _ _ => exact (by decide : ("map" : Str) ∈ funKinds)
  | put _ _ => exact (by decide : ("put" : Str) ∈ funKinds)
  | iff _ _ _ _ _ => exact (by decide : ("if" : Str) ∈ funKinds)
  | later _ => exact (by decide : ("later" : Str) ∈ funKinds)
theorem gen_slots {W : Wd} {b : Bool} {dp : Int} {t : Tr} (h : GRow W b dp t) : ∀ s ∈ slotsOf t, s ∈ W.slots ++ W.cells := by
  intro x hx
  rw [List.mem_append]
  have one : ∀ {s : Str}, x ∈ [s] → s ∈ W.slots → x ∈ W.slots ∨ x ∈ W.cells := fun {s} h1 h2 => by rw [List.mem_singleton] at h1; rw [h1]; exact .inl h2
  cases h with
  | @say _ _ s hs =>
    have hx : x ∈ [s] := hx
    exact one hx hs
  | @set _ _ c s hc hs =>
    have hx : x ∈ [c, s] := hx
    rcases List.mem_cons.mp hx with rfl | hx
    · exact .inr hc
    · exact one hx hs
  | @turn _ _ c tb hc _ =>
    have hx : x ∈ [c] := hx
    rw [List.mem_singleton] at hx
    rw [hx]
    exact .inr hc
  | @write _ _ c s hc hs =>
    have hx : x ∈ [s] := hx
    exact one hx hs
  | @fetch _ _ c s hc hs =>
    have hx : x ∈ [s] := hx
    exact one hx hs
  | @map _ _ s u tb hs hu _ =>
    have hx : x ∈ [s, u] := hx
    rcases List.mem_cons.mp hx with rfl | hx
    · exact .inl hs
    · exact one hx hu
  | @put _ _ s w hs hw =>
    have hx : x ∈ [s] := hx
    exact one hx hs
  | @iff _ _ s w ts us hs _ _ _ _ =>
    have hx : x ∈ [s] := hx
    exact one hx hs
  | later _ => cases hx
theorem gen_lacks {W : Wd} {b : Bool} {dp : Int} {t : Tr} (h : GRow W b dp t) {has : Str → Str → Bool} (hc : ∀ c ∈ W.cells, has "cell" c = true) (hb : ∀ c ∈ W.boxes, has "box" c = true) : lacksM (kOf t) (itemsOf t).tail has = false := by
  have c1 : ∀ k : Str, k ∉ cellKinds → k ∉ boxKinds → ∀ us, lacksM k us has = false := fun k h1 h2 us => by
    unfold lacksM
    rw [decide_eq_false h1, decide_eq_false h2]
    rfl
  cases h with
  | say _ => exact c1 "say" (by decide) (by decide) _
  | @set _ _ c s h1 _ =>
    show lacksM "set" [tx c, tx s] has = false
    unfold lacksM
    rw [decide_eq_true (by decide)]
    show (!has "cell" c) = false
    rw [hc c h1]
    rfl
  | @turn _ _ c tb h1 _ =>
    show lacksM "turn" [tx c, _] has = false
    unfold lacksM
    rw [decide_eq_true (by decide)]
    show (!has "cell" c) = false
    rw [hc c h1]
    rfl
  | @write _ _ c s h1 _ =>
    show lacksM "write" [tx c, tx s] has = false
    unfold lacksM
    rw [decide_eq_false (by decide), decide_eq_true (by decide)]
    show (!has "box" c) = false
    rw [hb c h1]
    rfl
  | @fetch _ _ c s h1 _ =>
    show lacksM "fetch" [tx c, tx s] has = false
    unfold lacksM
    rw [decide_eq_false (by decide), decide_eq_true (by decide)]
    show (!has "box" c) = false
    rw [hb c h1]
    rfl
  | map _ _ _ => exact c1 "map" (by decide) (by decide) _
  | put _ _ => exact c1 "put" (by decide) (by decide) _
  | iff _ _ _ _ _ => exact c1 "if" (by decide) (by decide) _
  | later _ => exact c1 "later" (by decide) (by decide) _
/-! ### how many rows -/
theorem mapIdx_len {α β γ : Type} (f : Nat → α → List β) (g : Nat → α → List γ) : ∀ ts : List α, (∀ i j t, t ∈ ts → (f i t).length = (g j t).length) → ((ts.mapIdx f).flatten).length = ((ts.mapIdx g).flatten).length := by
  intro ts
  induction ts generalizing f g with
  | nil => intro _; rfl
  | cons t ts ih =>
    intro h
    rw [List.mapIdx_cons, List.mapIdx_cons, List.flatten_cons, List.flatten_cons, List.length_append, List.length_append]
    rw [h 0 0 t (List.mem_cons_self ..), ih (fun i => f (i + 1)) (fun i => g (i + 1)) fun i j u hu => h (i + 1) (j + 1) u (List.mem_cons_of_mem _ hu)]
/-- the number of the rows does not hang on the path, nor on the depth that is allowed beyond theirs -/
theorem rows_len {thr : List Str} : ∀ {d : Nat} (e : Nat) {ts : List Tr} {p q : List Int}, Shp d ts → d ≤ e → (rowsW thr d ts p).length = (rowsW thr e ts q).length
  | 0, _, _, _, _, h, _ => h.elim
  | d + 1, 0, _, _, _, _, h => by omega
  | d + 1, e + 1, ts, p, q, h, he => by
    refine mapIdx_len (rowOut (rowsW thr d) p thr) (rowOut (rowsW thr e) q thr) ts fun i j t ht => ?_
    obtain ⟨k, us, rfl, hin⟩ := h t ht
    unfold rowOut
    rw [List.length_cons, List.length_cons]
    congr 1
    split
    · refine mapIdx_len _ _ _ fun n m x hx => ?_
      obtain ⟨xs, rfl, hs⟩ := hin x hx
      exact rows_len e hs (by omega)
    · rfl
/-- the number of the rows at all depths -/
def cnt (ts : List Tr) : Nat := (rowsW ifsLater 9 ts []).length
theorem cnt_snoc (ts : List Tr) (t : Tr) : cnt (ts ++ [t]) = cnt ts + (rowOut (rowsW ifsLater 8) [] ifsLater ts.length t).length := by
  show ((List.mapIdx _ (ts ++ [t])).flatten).length = ((List.mapIdx _ ts).flatten).length + _
  rw [List.mapIdx_append, List.flatten_append, List.length_append]
  simp
theorem cnt_flat {k : Str} {us : List Tr} (n : Nat) (h : firstRows k = none) : (rowOut (rowsW ifsLater 8) [] ifsLater n (.tup (tx k :: us))).length = 1 := by
  unfold rowOut
  have e : inn (Tr.tup (tx k :: us)) = innerT k (tx k :: us) := rfl
  rw [e, inner_none h]
  simp
theorem cnt_if {s w : Str} {ts us : List Tr} (n : Nat) {d : Nat} (h1 : Shp d ts) (h2 : Shp d us) (hd : d ≤ 8) : (rowOut (rowsW ifsLater 8) [] ifsLater n (.tup [tx "if", tx s, tx w, .tup ts, .tup us])).length = 1 + cnt ts + cnt us := by
  have c1 : ∀ p, (rowsW ifsLater 8 ts p).length = cnt ts := fun p => by
    rw [← rows_len (thr := ifsLater) (p := p) 8 h1 hd]
    exact rows_len 9 h1 (by omega)
  have c2 : ∀ p, (rowsW ifsLater 8 us p).length = cnt us := fun p => by
    rw [← rows_len (thr := ifsLater) (p := p) 8 h2 hd]
    exact rows_len 9 h2 (by omega)
  show ((_ :: (if ("if" : Str) ∈ ifsLater then (List.mapIdx (fun n' x => rowsW ifsLater 8 (itemsOf x) ([] ++ [(n : Int)] ++ [(n' : Int)])) [Tr.tup ts, .tup us]).flatten else [])) : List (List Int × Tr)).length = _
  rw [if_pos (by decide), List.length_cons]
  show (rowsW ifsLater 8 ts _ ++ (rowsW ifsLater 8 us _ ++ [])).length + 1 = _
  rw [List.append_nil, List.length_append, c1, c2]
  omega
theorem cnt_later {ts : List Tr} (n : Nat) {d : Nat} (h1 : Shp d ts) (hd : d ≤ 8) : (rowOut (rowsW ifsLater 8) [] ifsLater n (.tup [tx "later", .tup ts])).length = 1 + cnt ts := by
  have c1 : ∀ p, (rowsW ifsLater 8 ts p).length = cnt ts := fun p => by
    rw [← rows_len (thr := ifsLater) (p := p) 8 h1 hd]
    exact rows_len 9 h1 (by omega)
  show ((_ :: (if ("later" : Str) ∈ ifsLater then (List.mapIdx (fun n' x => rowsW ifsLater 8 (itemsOf x) ([] ++ [(n : Int)] ++ [(n' : Int)])) [Tr.tup ts]).flatten else [])) : List (List Int × Tr)).length = _
  rw [if_pos (by decide), List.length_cons]
  show (rowsW ifsLater 8 ts _ ++ []).length + 1 = _
  rw [List.append_nil, c1]
  omega
end CA
set_option maxHeartbeats 8000000
namespace CA
open PySem L2
theorem Keep.weak {st pr : Addr} {H H' : Hp} (k : Keep [st] H H') : Keep [st, pr] H H' := fun b o e n => k b o e (fun z => n (List.mem_cons.mpr (.inl (List.mem_singleton.mp z))))
theorem Keep.two {st pr a : Addr} {H H' : Hp} {o : HO} (k : Keep [st, pr] H H') (h : H a = some o) (n1 : a ≠ st) (n2 : a ≠ pr) : H' a = some o := k a o h (fun z => by
  rcases List.mem_cons.mp z with z | z
  · exact n1 z
  · exact n2 (List.mem_singleton.mp z))
/-- what the drawing of functions reads and changes -/
structure DS (H : Hp) (st scr pr pm pw ps pc pb : Addr) (r : Int) (W : Wd) : Prop where
  S : StAt H st scr
  room : H pr = some (.lst [.int r])
  menu : ∃ kvs, H pm = some (.dK kvs) ∧ valV kvs (.inr "words") = some (.ref pw) ∧ valV kvs (.inr "slots") = some (.ref ps) ∧ valV kvs (.inr "cells") = some (.ref pc) ∧ valV kvs (.inr "boxes") = some (.ref pb)
  hw : H pw = some (.tup (W.ws.map V.str))
  hs : H ps = some (.lst (W.slots.map V.str))
  hc : H pc = some (.lst (W.cells.map V.str))
  hb : H pb = some (.lst (W.boxes.map V.str))
  e1 : pr ≠ st
  e2 : ps ≠ st
  e3 : pc ≠ st
  e4 : pb ≠ st
  e5 : ps ≠ pr
  e6 : pc ≠ pr
  e7 : pb ≠ pr
  e8 : scr ≠ pr
section
variable {H H' : Hp} {st scr pr pm pw ps pc pb : Addr} {r : Int} {W : Wd}
theorem DS.nw (D : DS H st scr pr pm pw ps pc pb r W) : pw ≠ st ∧ pw ≠ pr := ⟨D.S.nlst D.hw (fun _ z => by cases z), ne_of D.hw D.room (by intro z; cases z)⟩
theorem DS.nm (D : DS H st scr pr pm pw ps pc pb r W) : pm ≠ st ∧ pm ≠ pr := by
  obtain ⟨kvs, h, _⟩ := D.menu
  exact ⟨D.S.nlst h (fun _ z => by cases z), ne_of h D.room (by intro z; cases z)⟩
theorem DS.draw (D : DS H st scr pr pm pw ps pc pb r W) (k : Keep [st] H H') (S' : StAt H' st scr) : DS H' st scr pr pm pw ps pc pb r W := by
  obtain ⟨kvs, h, h2⟩ := D.menu
  exact ⟨S', k.one D.room D.e1, ⟨kvs, k.one h D.nm.1, h2⟩, k.one D.hw D.nw.1, k.one D.hs D.e2, k.one D.hc D.e3, k.one D.hb D.e4, D.e1, D.e2, D.e3, D.e4, D.e5, D.e6, D.e7, D.e8⟩
theorem DS.same (D : DS H st scr pr pm pw ps pc pb r W) (k : Same H H') : DS H' st scr pr pm pw ps pc pb r W := by
  obtain ⟨kvs, h, h2⟩ := D.menu
  exact ⟨D.S.keep k, k _ _ D.room, ⟨kvs, k _ _ h, h2⟩, k _ _ D.hw, k _ _ D.hs, k _ _ D.hc, k _ _ D.hb, D.e1, D.e2, D.e3, D.e4, D.e5, D.e6, D.e7, D.e8⟩
theorem DS.put (D : DS H st scr pr pm pw ps pc pb r W) (r' : Int) : DS (upd H pr (.lst [.int r'])) st scr pr pm pw ps pc pb r' W := by
  obtain ⟨kvs, h, h2⟩ := D.menu
  obtain ⟨ns, i, d, seed, c, h1, h3, rr⟩ := D.S.ex
  exact ⟨⟨ns, i, d, seed, c, by rw [upd_ne D.e1.symm]; exact h1, by rw [upd_ne D.e8]; exact h3, rr⟩, upd_same, ⟨kvs, by rw [upd_ne D.nm.2]; exact h, h2⟩, by rw [upd_ne D.nw.2]; exact D.hw, by rw [upd_ne D.e5]; exact D.hs, by rw [upd_ne D.e6]; exact D.hc, by rw [upd_ne D.e7]; exact D.hb, D.e1, D.e2, D.e3, D.e4, D.e5, D.e6, D.e7, D.e8⟩
theorem DS.keepr (D : DS H st scr pr pm pw ps pc pb r W) {o : HO} : Keep [st, pr] H (upd H pr o) := fun b u e n => by
  rw [upd_ne (fun z => n (List.mem_cons.mpr (.inr (List.mem_singleton.mpr z))))]
  exact e
theorem DS.getW (D : DS H st scr pr pm pw ps pc pb r W) : DGet H pm (.str "words") (some (.ref pw)) := by
  obtain ⟨kvs, h, h1, h2, h3, h4⟩ := D.menu
  rw [← h1]; exact DGet.k (k := .inr "words") h
theorem DS.getS (D : DS H st scr pr pm pw ps pc pb r W) : DGet H pm (.str "slots") (some (.ref ps)) := by
  obtain ⟨kvs, h, h1, h2, h3, h4⟩ := D.menu
  rw [← h2]; exact DGet.k (k := .inr "slots") h
theorem DS.getC (D : DS H st scr pr pm pw ps pc pb r W) : DGet H pm (.str "cells") (some (.ref pc)) := by
  obtain ⟨kvs, h, h1, h2, h3, h4⟩ := D.menu
  rw [← h3]; exact DGet.k (k := .inr "cells") h
theorem DS.getB (D : DS H st scr pr pm pw ps pc pb r W) : DGet H pm (.str "boxes") (some (.ref pb)) := by
  obtain ⟨kvs, h, h1, h2, h3, h4⟩ := D.menu
  rw [← h4]; exact DGet.k (k := .inr "boxes") h
end
theorem rep_two (ss : List Str) : (List.replicate (2 : Int).toNat (ss.map V.str)).flatten ++ [V.str ""] = (ss ++ ss ++ [("" : Str)]).map V.str := by
  show (List.replicate 2 (ss.map V.str)).flatten ++ [V.str ""] = _
  simp [List.replicate]
theorem in_two {ss : List Str} {c : Str} (h : c ∈ ss ++ ss ++ [("" : Str)]) : c = "" ∨ c ∈ ss := by
  rcases List.mem_append.mp h with h | h
  · rcases List.mem_append.mp h with h | h
    · exact .inr h
    · exact .inr h
  · rw [List.mem_singleton] at h
    exact .inl h
def isBody (sc : Str) : Bool := decide (sc = "body")
def spFunD (m : Nat) : Sp := fun vs H Q _ => ∃ (st scr pr pm pw ps pc pb : Addr) (n : Nat) (sc : Str) (dp r0 : Int) (W : Wd), vs = [.ref st, .ref pm, .int (n : Int), .ref pr, .str sc, .int dp] ∧ DS H st scr pr pm pw ps pc pb r0 W ∧ W.Ok ∧ n ≤ 100 ∧ 0 ≤ r0 ∧ r0 ≤ 100 ∧ FC (isBody sc) dp m ∧
  ∀ (v : V) (ts : List Tr) (r1 : Int) (H' : Hp), Keep [st, pr] H H' → Gr H H' → DS H' st scr pr pm pw ps pc pb r1 W → Tw H' v (.tup ts) → (∀ t ∈ ts, GRow W (isBody sc) dp t) → (cnt ts : Int) + r1 = r0 → 0 ≤ r1 → Q v H'
structure TxtFu (K : PySem.W.Frag) (mg : Str → Option Value) (ft fp fb ff : Addr) : Prop where
  range : mg "range" = none
  g__law_take : mg "_law_take" = some (.ref ft)
  k__law_take : PySem.W.keepIn K (.ref ft) = true
  g__law_pick : mg "_law_pick" = some (.ref fp)
  k__law_pick : PySem.W.keepIn K (.ref fp) = true
  g__law_table : mg "_law_table" = some (.ref fb)
  k__law_table : PySem.W.keepIn K (.ref fb) = true
  g__law_function : mg "_law_function" = some (.ref ff)
  k__law_function : PySem.W.keepIn K (.ref ff) = true
/-- a row of texts and tables, one more -/
theorem tw_tx {H : Hp} {s : Str} (h : s.length ≤ 1000) : Tw H (.str s) (tx s) := .at (.flat rfl h)
theorem nmS_1000 {s : Str} (h : nmS s = true) : s.length ≤ 1000 := Nat.le_trans (nmS_len h) (by decide)
section
variable {P : Program} {w : World} {K : PySem.W.Frag} {mg : Str → Option Value} {base : Heap} {ft fp fb ff : Addr}
abbrev s__law_function : Stmt := topS 63
theorem sc__law_function : FnScope ["_law_state", "_law_menu", "_law_many", "_law_room", "_law_scope", "_law_depth", "_law_rows", "_law_k", "_law_kind", "_law_slot", "_law_cell", "_law_box", "_law_word", "_law_table_here", "_law_row", "_law_one"] ["_law_state", "_law_menu", "_law_many", "_law_room", "_law_scope", "_law_depth"] (defScope s__law_function) := ⟨rfl, rfl, rfl, by decide +kernel, rfl, by decide +kernel, by decide +kernel⟩
theorem ok__law_function_step {m k : Nat} (hk : 4 ≤ k) (hm8 : m ≤ 8) {fd fdt fdp fdb : FuncData} (F : Fun K "_law_function" "_law_function" s__law_function ff fd) (T : TxtFu K mg ft fp fb ff) (Gt : FnOk P w K mg base CX0 2 ft fdt ["_law_state", "_law_size"] spTake) (bt : Binds K fdt ["_law_state", "_law_size"] [])
    (Gp : FnOk P w K mg base CX0 3 fp fdp ["_law_state", "_law_names_here"] (spPick K)) (bp : Binds K fdp ["_law_state", "_law_names_here"] []) (Gb : FnOk P w K mg base CX0 4 fb fdb ["_law_state", "_law_words"] spTab) (bb : Binds K fdb ["_law_state", "_law_words"] [])
    (Gf : ∀ m' < m, FnOk P w K mg base CX0 k ff fd ["_law_state", "_law_menu", "_law_many", "_law_room", "_law_scope", "_law_depth"] (spFunD m')) (bf : Binds K fd ["_law_state", "_law_menu", "_law_many", "_law_room", "_law_scope", "_law_depth"] []) :
    FnOk P w K mg base CX0 (k + 1) ff fd ["_law_state", "_law_menu", "_law_many", "_law_room", "_law_scope", "_law_depth"] (spFunD m) := by
  refine F.ok sc__law_function (fun vs H Q E h => ?_) (fun cdv A outer s H vs Q E hr h => ?_)
  · obtain ⟨st, scr, pr, pm, pw, ps, pc, pb, n, sc, dp, r0, W, rfl, _⟩ := h
    rfl
  obtain ⟨st, scr, pr, pm, pw, ps, pc, pb, n, sc, dp, r0, W, rfl, D0, ok, hn, hr0, hr01, fc, q⟩ := h
  have hr4 : Room 4 _ := hr.mono hk
  have hr3 : Room 3 _ := hr4.mono (by decide)
  have hr2 : Room 2 _ := hr4.mono (by decide)
  obtain ⟨m1, rfl⟩ : ∃ m1, m = m1 + 1 := ⟨m - 1, by have := fc.pos; omega⟩
  have Gf := Gf m1 (Nat.lt_succ_self _)
  have hm8 : m1 ≤ 8 := by omega
  refine ⟨_, (pss_cons (ps_set (i := 6) sc__law_function.nd rfl (Or.inl rfl) (pe_tup pa_nil))
  (pss_cons (ps_for PassesOwn.never rfl (pi_range1 rfl T.range (pa_cons (pv 2) pa_nil)) (pg_name (i := 7) sc__law_function.nd rfl (Or.inl rfl))
    (pss_cons (ps_set (i := 8) sc__law_function.nd rfl (Or.inl rfl) (pe_call Gt hr2 rfl T.g__law_take T.k__law_take bt .nil pass0 (pa_cons (pv 0) (pa_cons pe_int pa_nil))))
    (pss_cons (ps_set (i := 9) sc__law_function.nd rfl (Or.inl rfl) (pe_call Gp hr3 rfl T.g__law_pick T.k__law_pick bp .nil pass0 (pa_cons (pv 0) (pa_cons (pe_dget (units2 hr) (pv 1) pe_str (fun _ _ => rfl)) pa_nil))))
    (pss_cons (ps_set (i := 10) sc__law_function.nd rfl (Or.inl rfl) (pe_call Gp hr3 rfl T.g__law_pick T.k__law_pick bp .nil pass0 (pa_cons (pv 0) (pa_cons (pe_op op_cat (pe_op op_rep (pe_dget (units2 hr) (pv 1) pe_str (fun _ _ => rfl)) pe_int) (pe_lst (pa_cons pe_str pa_nil))) pa_nil))))
    (pss_cons (ps_set (i := 11) sc__law_function.nd rfl (Or.inl rfl) (pe_call Gp hr3 rfl T.g__law_pick T.k__law_pick bp .nil pass0 (pa_cons (pv 0) (pa_cons (pe_op op_cat (pe_op op_rep (pe_dget (units2 hr) (pv 1) pe_str (fun _ _ => rfl)) pe_int) (pe_lst (pa_cons pe_str pa_nil))) pa_nil))))
    (pss_cons (ps_set (i := 12) sc__law_function.nd rfl (Or.inl rfl) (pe_call Gp hr3 rfl T.g__law_pick T.k__law_pick bp .nil pass0 (pa_cons (pv 0) (pa_cons (pe_dget (units2 hr) (pv 1) pe_str (fun _ _ => rfl)) pa_nil))))
    (pss_cons (ps_set (i := 13) sc__law_function.nd rfl (Or.inl rfl) (pe_call Gb hr4 rfl T.g__law_table T.k__law_table bb .nil pass0 (pa_cons (pv 0) (pa_cons (pe_dget (units2 hr) (pv 1) pe_str (fun _ _ => rfl)) pa_nil))))
    (pss_cons (ps_if (pt_cmpR op_eq (pe_ix ix_list (pv 3) pe_int (fun _ _ => rfl)) pe_int (nomark _)) (pss_one (ps_ret (pv 6))) pss_nil)
    (pss_cons (ps_asg (pe_op op_sub (pe_ix ix_list (pv 3) pe_int (fun _ _ => rfl)) pe_int) (pg_sub (pv 3) pe_int L2.set_list))
    (pss_cons (ps_set (i := 14) sc__law_function.nd rfl (Or.inl rfl) (pe_tup (pa_cons pe_str (pa_cons (pv 9) pa_nil))))
    (pss_cons (ps_if (PW.pt (pw_and (pt_cmpR op_lt (pv 8) pe_int (nomark _)) (pw_and1 (pt_cmpR op_ne (pv 10) pe_str (nomark _))))) (pss_one (ps_set (i := 14) sc__law_function.nd rfl (Or.inl rfl) (pe_ix ix_list (pe_lst (pa_cons (pe_tup (pa_cons pe_str (pa_cons (pv 10) (pa_cons (pv 9) pa_nil)))) (pa_cons (pe_tup (pa_cons pe_str (pa_cons (pv 10) (pa_cons (pv 13) pa_nil)))) pa_nil))) (pe_op op_fdiv (pv 8) pe_int) (fun _ _ => rfl)))) (pss_one (ps_if (PW.pt (pw_and (pt_cmpR op_in_seq (pv 8) (pe_tup (pa_cons pe_int (pa_cons pe_int pa_nil))) (by rfl)) (pw_and1 (pt_cmpR op_ne (pv 11) pe_str (nomark _))))) (pss_one (ps_set (i := 14) sc__law_function.nd rfl (Or.inl rfl) (pe_ix ix_list (pe_lst (pa_cons (pe_tup (pa_cons pe_str (pa_cons (pv 11) (pa_cons (pv 9) pa_nil)))) (pa_cons (pe_tup (pa_cons pe_str (pa_cons (pv 11) (pa_cons (pv 9) pa_nil)))) pa_nil))) (pe_op op_sub (pv 8) pe_int) (fun _ _ => rfl)))) (pss_one (ps_if (pt_cmpR op_eq (pv 8) pe_int (nomark _)) (pss_one (ps_set (i := 14) sc__law_function.nd rfl (Or.inl rfl) (pe_tup (pa_cons pe_str (pa_cons (pv 9) (pa_cons (pe_call Gp hr3 rfl T.g__law_pick T.k__law_pick bp .nil pass0 (pa_cons (pv 0) (pa_cons (pe_dget (units2 hr) (pv 1) pe_str (fun _ _ => rfl)) pa_nil))) (pa_cons (pv 13) pa_nil))))))) (pss_one (ps_if (PW.pt (pw_and (pt_cmpR op_eq (pv 8) pe_int (nomark _)) (pw_and1 (pt_cmpR op_le (pv 5) pe_int (nomark _))))) (pss_cons (ps_set (i := 15) sc__law_function.nd rfl (Or.inl rfl) (pe_call Gf hr rfl T.g__law_function T.k__law_function bf .nil pass0 (pa_cons (pv 0) (pa_cons (pv 1) (pa_cons (pe_call Gt hr2 rfl T.g__law_take T.k__law_take bt .nil pass0 (pa_cons (pv 0) (pa_cons pe_int pa_nil))) (pa_cons (pv 3) (pa_cons pe_str (pa_cons (pe_op op_add (pv 5) pe_int) pa_nil)))))))) (pss_one (ps_set (i := 14) sc__law_function.nd rfl (Or.inl rfl) (pe_tup (pa_cons pe_str (pa_cons (pv 9) (pa_cons (pv 12) (pa_cons (pv 15) (pa_cons (pe_call Gf hr rfl T.g__law_function T.k__law_function bf .nil pass0 (pa_cons (pv 0) (pa_cons (pv 1) (pa_cons (pe_call Gt hr2 rfl T.g__law_take T.k__law_take bt .nil pass0 (pa_cons (pv 0) (pa_cons pe_int pa_nil))) (pa_cons (pv 3) (pa_cons pe_str (pa_cons (pe_op op_add (pv 5) pe_int) pa_nil))))))) pa_nil))))))))) (pss_one (ps_if (PW.pt (pw_and (pt_cmpR op_eq (pv 8) pe_int (nomark _)) (pw_and1 (pt_cmpR op_eq (pv 4) pe_str (nomark _))))) (pss_one (ps_set (i := 14) sc__law_function.nd rfl (Or.inl rfl) (pe_tup (pa_cons pe_str (pa_cons (pe_call Gf hr rfl T.g__law_function T.k__law_function bf .nil pass0 (pa_cons (pv 0) (pa_cons (pv 1) (pa_cons (pe_call Gt hr2 rfl T.g__law_take T.k__law_take bt .nil pass0 (pa_cons (pv 0) (pa_cons pe_int pa_nil))) (pa_cons (pv 3) (pa_cons pe_str (pa_cons pe_int pa_nil))))))) pa_nil))))) (pss_one (ps_if (pt_cmpR op_eq (pv 8) pe_int (nomark _)) (pss_one (ps_set (i := 14) sc__law_function.nd rfl (Or.inl rfl) (pe_tup (pa_cons pe_str (pa_cons (pv 9) (pa_cons (pv 12) pa_nil)))))) pss_nil)))))))))))
    (pss_one (ps_set (i := 6) sc__law_function.nd rfl (Or.inl rfl) (pe_op op_catA (pv 6) (pe_tup (pa_cons (pv 14) pa_nil))))))))))))))))
  (pss_one (ps_ret (pv 6))))), ?_⟩
  refine ⟨by decide, fun p0 hp0 => ?_⟩
  have s0 := same_new hp0 (.tup [])
  refine ⟨_, rfl, (n : Int), rfl, by omega, by omega, for_range (lo := 0) (n := n)
    (fun i σ H' => ∃ x7 x8 x9 x10 x11 x12 x13 x14 x15 v ts r, σ = [some (.ref st), some (.ref pm), some (.int (n : Int)), some (.ref pr), some (.str sc), some (.int dp), some v, x7, x8, x9, x10, x11, x12, x13, x14, x15] ∧ Keep [st, pr] H H' ∧ Gr H H' ∧ DS H' st scr pr pm pw ps pc pb r W ∧ Tw H' v (.tup ts) ∧ (∀ t ∈ ts, GRow W (isBody sc) dp t) ∧ (cnt ts : Int) + r = r0 ∧ 0 ≤ r ∧ ts.length ≤ i)
    ⟨none, none, none, none, none, none, none, none, none, .ref p0, [], r0, rfl, Keep.of s0, Gr.of s0, D0.same s0, .tup upd_same .nil (by decide), (fun t h => by cases h), (by show ((0 : Nat) : Int) + r0 = r0; omega), hr0, Nat.le_refl _⟩ (fun i σ H' hi pv => ?_) (fun σ H' pv => ?_)⟩
  · obtain ⟨x7, x8, x9, x10, x11, x12, x13, x14, x15, v, ts, r, rfl, kp, gp, D, wv, hg, hcnt, hr', hlen⟩ := pv
    -- the draws
    refine ⟨_, rfl, st, scr, 10, rfl, D.S, by decide, by decide, fun kd H1 kd0 kd1 k1 S1 => ?_⟩
    have D1 := D.draw k1 S1
    have g1 := D.S.gr S1 k1
    refine ⟨_, rfl, _, rfl, pm, _, rfl, D1.getS, st, scr, _, rfl, S1, .inl ⟨ps, W.slots, rfl, D1.e2, .inl ⟨SqL.of D1.hs, fun H' k => SqL.of (k.one D1.hs D1.e2)⟩, ok.n1, by have := ok.n2; omega, fun sl hsl H2 k2 S2 => ?_⟩⟩
    have D2 := D1.draw k2 S2
    have g2 := g1.trans (S1.gr S2 k2)
    refine ⟨_, rfl, _, rfl, pm, _, rfl, D2.getC, pc, 2, _, rfl, rfl, D2.hc, by decide, by decide, ?_, fun p3 hp3 => ⟨(show 1 ≤ sizeLine by decide), fun p4 hp4 => ?_⟩⟩
    · rw [List.length_map]
      exact Nat.le_trans (Nat.mul_le_mul_right 2 ok.n5) (by decide)
    have s3 := same_new hp3 (.lst (List.replicate (2 : Int).toNat (W.cells.map V.str)).flatten)
    have s4 := same_new hp4 (.lst [V.str ""])
    refine ⟨p3, p4, _, _, rfl, rfl, s4 _ _ upd_same, upd_same, ?_, fun p5 hp5 => ?_⟩
    · have e := congrArg List.length (rep_two W.cells)
      rw [List.length_append] at e
      rw [e, List.length_map, List.length_append, List.length_append]
      exact Nat.le_trans (show _ ≤ 201 by have := ok.n5; simp; omega) (by decide)
    rw [rep_two]
    have s5 := same_new hp5 (.lst ((W.cells ++ W.cells ++ [("" : Str)]).map V.str))
    have S25 : Same H2 _ := fun c o e => s5 _ _ (s4 _ _ (s3 _ _ e))
    have D5 := D2.same S25
    have g5 := g2.trans (Gr.of S25)
    have np5 : p5 ≠ st := fun e => by
      obtain ⟨L, hL⟩ := (D2.same fun c o e => s4 _ _ (s3 _ _ e)).S.isL
      rw [e, hL] at hp5
      cases hp5
    refine ⟨st, scr, _, rfl, D5.S, .inl ⟨p5, W.cells ++ W.cells ++ [("" : Str)], rfl, np5, .inl ⟨SqL.of upd_same, fun H' k => SqL.of (k.one upd_same np5)⟩, by rw [List.length_append]; show 0 < _ + 1; omega, by rw [List.length_append, List.length_append]; show _ + 1 < 1000; have := ok.n5; omega, fun ce hce H6 k6 S6 => ?_⟩⟩
    have D6 := D5.draw k6 S6
    have g6 := g5.trans (D5.S.gr S6 k6)
    have K6 : Keep [st, pr] H' H6 := (k1.weak.trans k2.weak).trans ((Keep.of S25).trans k6.weak)
    clear s3 s4 s5 hp3 hp4 hp5 np5
    refine ⟨_, rfl, _, rfl, pm, _, rfl, D6.getB, pb, 2, _, rfl, rfl, D6.hb, by decide, by decide, ?_, fun p3 hp3 => ⟨(show 1 ≤ sizeLine by decide), fun p4 hp4 => ?_⟩⟩
    · rw [List.length_map]
      exact Nat.le_trans (Nat.mul_le_mul_right 2 ok.n6) (by decide)
    have s3 := same_new hp3 (.lst (List.replicate (2 : Int).toNat (W.boxes.map V.str)).flatten)
    have s4 := same_new hp4 (.lst [V.str ""])
    refine ⟨p3, p4, _, _, rfl, rfl, s4 _ _ upd_same, upd_same, ?_, fun p5 hp5 => ?_⟩
    · have e := congrArg List.length (rep_two W.boxes)
      rw [List.length_append] at e
      rw [e, List.length_map, List.length_append, List.length_append]
      exact Nat.le_trans (show _ ≤ 201 by have := ok.n6; simp; omega) (by decide)
    rw [rep_two]
    have s5 := same_new hp5 (.lst ((W.boxes ++ W.boxes ++ [("" : Str)]).map V.str))
    have S67 : Same H6 _ := fun c o e => s5 _ _ (s4 _ _ (s3 _ _ e))
    have D7 := D6.same S67
    have g7 := g6.trans (Gr.of S67)
    have np5 : p5 ≠ st := fun e => by
      obtain ⟨L, hL⟩ := (D6.same fun c o e => s4 _ _ (s3 _ _ e)).S.isL
      rw [e, hL] at hp5
      cases hp5
    refine ⟨st, scr, _, rfl, D7.S, .inl ⟨p5, W.boxes ++ W.boxes ++ [("" : Str)], rfl, np5, .inl ⟨SqL.of upd_same, fun H' k => SqL.of (k.one upd_same np5)⟩, by rw [List.length_append]; show 0 < _ + 1; omega, by rw [List.length_append, List.length_append]; show _ + 1 < 1000; have := ok.n6; omega, fun bx hbx H8 k8 S8 => ?_⟩⟩
    have D8 := D7.draw k8 S8
    have g8 := g7.trans (D7.S.gr S8 k8)
    have K8 : Keep [st, pr] H' H8 := K6.trans ((Keep.of S67).trans k8.weak)
    clear s3 s4 s5 hp3 hp4 hp5 np5
    refine ⟨_, rfl, _, rfl, pm, _, rfl, D8.getW, st, scr, _, rfl, S8, .inl ⟨pw, W.ws, rfl, D8.nw.1, .inr D8.hw, ok.n3, by have := ok.n4; omega, fun wd hwd H9 k9 S9 => ?_⟩⟩
    have D9 := D8.draw k9 S9
    have g9 := g8.trans (S8.gr S9 k9)
    refine ⟨_, rfl, _, rfl, pm, _, rfl, D9.getW, st, scr, pw, W.ws, rfl, S9, D9.hw, ok.n3, by have := ok.n4; omega, fun pt HA tb npt kA SA htb ltb mtb => ?_⟩
    have DA := D9.draw kA SA
    have gA := g9.trans (S9.gr SA kA)
    have KA : Keep [st, pr] H' HA := K8.trans (k9.weak.trans kA.weak)
    have htbl : tblOk W tb := ⟨ltb, mtb⟩
    have wtb : Tw HA (.ref pt) (.tup (tb.map tx)) := .tup htb (TwL.txs tb fun s hs => nmS_1000 (ok.ws s (mtb s hs))) (by rw [List.length_map, ltb]; have := ok.n4; omega)
    have nsl := nmS_1000 (ok.slots sl hsl)
    have nwd := nmS_1000 (ok.ws wd hwd)
    have hce := in_two hce
    have hbx := in_two hbx
    clear S25 S67 D1 D2 D5 D6 D7 D8 D9 g1 g2 g5 g6 g7 g8 g9 K6 K8 k1 k2 k6 k8 k9 kA S1 S2 S6 S8 S9
    -- the room
    refine ⟨_, rfl, pr, _, 0, .int r, rfl, rfl, SqL.of DA.room, at_of (j := 0) rfl rfl, rfl, _, rfl, ite2 (fun c0 => ?_) (fun c0 => ?_)⟩
    · refine ⟨_, rfl, ?_⟩
      exact q v ts r HA (kp.trans KA) (gp.trans gA) DA (Tw.gr gA _ _ wv) hg hcnt hr'
    have hrp : r ≠ 0 := fun e => c0 (by rw [e]; exact decide_eq_true rfl)
    refine ⟨_, rfl, pr, _, 0, .int r, rfl, rfl, SqL.of DA.room, at_of (j := 0) rfl rfl, _, _, rfl, rfl, _, rfl, pr, _, 0, 0, rfl, rfl, DA.room, rfl, ?_⟩
    have DB : DS (upd HA pr (.lst [.int (r - 1)])) st scr pr pm pw ps pc pb (r - 1) W := DA.put (r - 1)
    have gB : Gr HA (upd HA pr (.lst [.int (r - 1)])) := gr_list DA.room
    have KB : Keep [st, pr] HA (upd HA pr (.lst [.int (r - 1)])) := DA.keepr
    show _
    generalize hHB : upd HA pr (.lst [.int (r - 1)]) = HB at DB gB KB
    rw [show upd HA pr (.lst ([V.int r].set 0 (.int (r - 1)))) = HB from hHB]
    have K1 := kp.trans (KA.trans KB)
    have G1 := gA.trans gB
    have wtb := Tw.gr gB _ _ wtb
    clear hHB c0 KB gB KA gA DA
    -- the row is ("say", slot) at first
    refine ⟨_, rfl, (show 2 ≤ sizeLine by decide), fun py hpy => ?_⟩
    have sy := same_new hpy (.tup [V.str "say", .str sl])
    have DC := DB.same sy
    have GC := G1.trans (Gr.of sy)
    have KC := K1.trans (Keep.of sy)
    have wtb := Tw.gr (Gr.of sy) _ _ wtb
    have wsay : Tw (upd HB py (.tup [V.str "say", .str sl])) (.ref py) (.tup [tx "say", tx sl]) := .tup upd_same (.cons (tw_tx (by decide)) (.cons (tw_tx nsl) .nil)) (Nat.le_of_ble_eq_true rfl)
    generalize hHC : upd HB py (.tup [V.str "say", .str sl]) = HC at DC GC KC wtb wsay
    -- what is left behind the choice
    have fin : ∀ (y15 : Option V) (rowv : V) (t : Tr) (r' : Int) (HX : Hp), Keep [st, pr] H HX → Gr H HX → Gr H' HX → DS HX st scr pr pm pw ps pc pb r' W → Tw HX rowv t → GRow W (isBody sc) dp t → ((rowOut (rowsW ifsLater 8) [] ifsLater ts.length t).length : Int) + r' = r → 0 ≤ r' →
        tOp (rCatA K) (tVar 6) (tTup (tCons (tVar 14) tNil)) [some (.ref st), some (.ref pm), some (.int (n : Int)), some (.ref pr), some (.str sc), some (.int dp), some v, some (.int (0 + (i : Int))), some (.int kd), some (.str sl), some (.str ce), some (.str bx), some (.str wd), some (.ref pt), some rowv, y15] HX fun v2 H2 => 
          ∃ x7 x8 x9 x10 x11 x12 x13 x14 x15 v ts r, [some (V.ref st), some (.ref pm), some (.int (n : Int)), some (.ref pr), some (.str sc), some (.int dp), some v2, some (.int (0 + (i : Int))), some (.int kd), some (.str sl), some (.str ce), some (.str bx), some (.str wd), some (.ref pt), some rowv, y15] = [some (.ref st), some (.ref pm), some (.int (n : Int)), some (.ref pr), some (.str sc), some (.int dp), some v, x7, x8, x9, x10, x11, x12, x13, x14, x15] ∧ Keep [st, pr] H H2 ∧ Gr H H2 ∧ DS H2 st scr pr pm pw ps pc pb r W ∧ Tw H2 v (.tup ts) ∧ (∀ t ∈ ts, GRow W (isBody sc) dp t) ∧ (cnt ts : Int) + r = r0 ∧ 0 ≤ r ∧ ts.length ≤ i + 1 := fun y15 rowv t r' HX kX GX gX DX wt hgt hct hr1 => by
      have wv := Tw.gr gX _ _ wv
      cases wv with
      | @tup a vs _ ha hl hb =>
      have ln := hl.len
      refine ⟨_, rfl, _, rfl, (show 1 ≤ sizeLine by decide), fun b hb' => ?_⟩
      have s2 := same_new hb' (.tup [rowv])
      have cs : (cnt (ts ++ [t]) : Int) + r' = r0 := by
        rw [cnt_snoc]
        omega
      have done : ∀ p HY, Same (upd HX b (.tup [rowv])) HY → HY p = some (.tup (vs ++ [rowv])) → ∃ x7 x8 x9 x10 x11 x12 x13 x14 x15 v ts r, [some (V.ref st), some (.ref pm), some (.int (n : Int)), some (.ref pr), some (.str sc), some (.int dp), some (.ref p), some (.int (0 + (i : Int))), some (.int kd), some (.str sl), some (.str ce), some (.str bx), some (.str wd), some (.ref pt), some rowv, y15] = [some (.ref st), some (.ref pm), some (.int (n : Int)), some (.ref pr), some (.str sc), some (.int dp), some v, x7, x8, x9, x10, x11, x12, x13, x14, x15] ∧ Keep [st, pr] H HY ∧ Gr H HY ∧ DS HY st scr pr pm pw ps pc pb r W ∧ Tw HY v (.tup ts) ∧ (∀ t ∈ ts, GRow W (isBody sc) dp t) ∧ (cnt ts : Int) + r = r0 ∧ 0 ≤ r ∧ ts.length ≤ i + 1 := fun p HY sY eY => by
        have SY : Same HX HY := fun c o e => sY _ _ (s2 _ _ e)
        refine ⟨_, _, _, _, _, _, _, _, _, .ref p, ts ++ [t], r', rfl, kX.trans (Keep.of SY), GX.trans (Gr.of SY), DX.same SY, .tup eY (TwL.app (TwL.gr (Gr.of SY) _ _ hl) (.cons (Tw.gr (Gr.of SY) _ _ wt) .nil)) ?_, fun u hu => ?_, cs, hr1, ?_⟩
        · rw [List.length_append]
          show ts.length + 1 ≤ 1000
          omega
        · rcases List.mem_append.mp hu with hu | hu
          · exact hg u hu
          · rw [List.mem_singleton] at hu
            rw [hu]
            exact hgt
        · rw [List.length_append]
          show ts.length + 1 ≤ i + 1
          omega
      refine ⟨a, b, _, _, rfl, rfl, SqT.of (s2 _ _ ha), SqT.of upd_same, ?_, fun e => ?_, fun _ e => (by cases e), fun _ _ p hp => ?_⟩
      · rw [ln]
        exact Nat.le_trans (show ts.length + 1 ≤ 1000 by omega) (by decide)
      · exact done b _ (fun _ _ e => e) (by rw [e]; exact upd_same)
      · exact done p _ (same_new hp _) upd_same
    have hkd : kd = 0 ∨ kd = 1 ∨ kd = 2 ∨ kd = 3 ∨ kd = 4 ∨ kd = 5 ∨ kd = 6 ∨ kd = 7 ∨ kd = 8 ∨ kd = 9 := by omega
    have flat1 : ∀ {k : Str} {us : List Tr}, firstRows k = none → ((rowOut (rowsW ifsLater 8) [] ifsLater ts.length (.tup (tx k :: us))).length : Int) + (r - 1) = r := fun {k us} e => by
      rw [cnt_flat _ e]
      omega
    clear hHC wv
    rcases hkd with rfl | rfl | rfl | rfl | rfl | rfl | rfl | rfl | rfl | rfl
    · refine ⟨_, rfl, _, _, rfl, rfl, _, rfl, iteT ?_⟩
      refine ⟨_, rfl, rfl, _, rfl, ?_⟩
      rw [dec_str]
      rcases Decidable.em (ce = "") with e0 | e0
      · rw [decide_eq_true e0]
        refine iteF ?_
        refine ⟨_, rfl, (show 2 ≤ sizeLine by decide), fun pB hpB => ?_⟩
        have sB := same_new hpB (.tup [V.int 4, .int 5])
        refine ⟨pB, _, rfl, .inr (SqT.of upd_same), rfl, rfl, _, rfl, iteF ?_⟩
        refine ⟨_, rfl, rfl, _, rfl, iteF ?_⟩
        refine ⟨_, rfl, rfl, _, rfl, iteF ?_⟩
        refine ⟨_, rfl, rfl, _, rfl, iteF ?_⟩
        refine ⟨_, rfl, rfl, _, rfl, iteF ?_⟩
        exact fin _ (.ref py) _ (r - 1) _ (KC.trans (Keep.of sB)) ((gp.trans GC).trans (Gr.of sB)) (GC.trans (Gr.of sB)) (DC.same sB) (Tw.gr (Gr.of sB) _ _ wsay) (.say hsl) (flat1 rfl) (by omega)
      · have hce : ce ∈ W.cells := hce.resolve_left e0
        have nce := nmS_1000 (ok.cells ce hce)
        rw [decide_eq_false e0]
        refine iteT ?_
        refine ⟨_, rfl, _, rfl, (show 3 ≤ sizeLine by decide), fun p1 hp1 => ?_⟩
        have s1 := same_new hp1 (.tup [V.str "set", .str ce, .str sl])
        refine ⟨_, rfl, _, rfl, (show 3 ≤ sizeLine by decide), fun p2 hp2 => ?_⟩
        have s2 := same_new hp2 (.tup [V.str "turn", .str ce, .ref pt])
        refine ⟨(show 2 ≤ sizeLine by decide), fun p3 hp3 => ?_⟩
        have s3 := same_new hp3 (.lst [V.ref p1, .ref p2])
        have s13 : Same HC _ := fun c o e => s3 _ _ (s2 _ _ (s1 _ _ e))
        refine ⟨_, rfl, _, _, rfl, rfl, ⟨by decide, by decide⟩, p3, _, _, _, rfl, rfl, SqL.of upd_same, at_of (j := 0) rfl rfl, ?_⟩
        exact fin _ (.ref p1) (.tup [tx "set", tx ce, tx sl]) (r - 1) _ (KC.trans (Keep.of s13)) ((gp.trans GC).trans (Gr.of s13)) (GC.trans (Gr.of s13)) (DC.same s13) (.tup (s3 _ _ (s2 _ _ upd_same)) (.cons (tw_tx (by decide)) (.cons (tw_tx nce) (.cons (tw_tx nsl) .nil))) (Nat.le_of_ble_eq_true rfl)) (.set hce hsl) (flat1 rfl) (by omega)
    · refine ⟨_, rfl, _, _, rfl, rfl, _, rfl, iteT ?_⟩
      refine ⟨_, rfl, rfl, _, rfl, ?_⟩
      rw [dec_str]
      rcases Decidable.em (ce = "") with e0 | e0
      · rw [decide_eq_true e0]
        refine iteF ?_
        refine ⟨_, rfl, (show 2 ≤ sizeLine by decide), fun pB hpB => ?_⟩
        have sB := same_new hpB (.tup [V.int 4, .int 5])
        refine ⟨pB, _, rfl, .inr (SqT.of upd_same), rfl, rfl, _, rfl, iteF ?_⟩
        refine ⟨_, rfl, rfl, _, rfl, iteF ?_⟩
        refine ⟨_, rfl, rfl, _, rfl, iteF ?_⟩
        refine ⟨_, rfl, rfl, _, rfl, iteF ?_⟩
        refine ⟨_, rfl, rfl, _, rfl, iteF ?_⟩
        exact fin _ (.ref py) _ (r - 1) _ (KC.trans (Keep.of sB)) ((gp.trans GC).trans (Gr.of sB)) (GC.trans (Gr.of sB)) (DC.same sB) (Tw.gr (Gr.of sB) _ _ wsay) (.say hsl) (flat1 rfl) (by omega)
      · have hce : ce ∈ W.cells := hce.resolve_left e0
        have nce := nmS_1000 (ok.cells ce hce)
        rw [decide_eq_false e0]
        refine iteT ?_
        refine ⟨_, rfl, _, rfl, (show 3 ≤ sizeLine by decide), fun p1 hp1 => ?_⟩
        have s1 := same_new hp1 (.tup [V.str "set", .str ce, .str sl])
        refine ⟨_, rfl, _, rfl, (show 3 ≤ sizeLine by decide), fun p2 hp2 => ?_⟩
        have s2 := same_new hp2 (.tup [V.str "turn", .str ce, .ref pt])
        refine ⟨(show 2 ≤ sizeLine by decide), fun p3 hp3 => ?_⟩
        have s3 := same_new hp3 (.lst [V.ref p1, .ref p2])
        have s13 : Same HC _ := fun c o e => s3 _ _ (s2 _ _ (s1 _ _ e))
        refine ⟨_, rfl, _, _, rfl, rfl, ⟨by decide, by decide⟩, p3, _, _, _, rfl, rfl, SqL.of upd_same, at_of (j := 0) rfl rfl, ?_⟩
        exact fin _ (.ref p1) (.tup [tx "set", tx ce, tx sl]) (r - 1) _ (KC.trans (Keep.of s13)) ((gp.trans GC).trans (Gr.of s13)) (GC.trans (Gr.of s13)) (DC.same s13) (.tup (s3 _ _ (s2 _ _ upd_same)) (.cons (tw_tx (by decide)) (.cons (tw_tx nce) (.cons (tw_tx nsl) .nil))) (Nat.le_of_ble_eq_true rfl)) (.set hce hsl) (flat1 rfl) (by omega)
    · refine ⟨_, rfl, _, _, rfl, rfl, _, rfl, iteT ?_⟩
      refine ⟨_, rfl, rfl, _, rfl, ?_⟩
      rw [dec_str]
      rcases Decidable.em (ce = "") with e0 | e0
      · rw [decide_eq_true e0]
        refine iteF ?_
        refine ⟨_, rfl, (show 2 ≤ sizeLine by decide), fun pB hpB => ?_⟩
        have sB := same_new hpB (.tup [V.int 4, .int 5])
        refine ⟨pB, _, rfl, .inr (SqT.of upd_same), rfl, rfl, _, rfl, iteF ?_⟩
        refine ⟨_, rfl, rfl, _, rfl, iteF ?_⟩
        refine ⟨_, rfl, rfl, _, rfl, iteF ?_⟩
        refine ⟨_, rfl, rfl, _, rfl, iteF ?_⟩
        refine ⟨_, rfl, rfl, _, rfl, iteF ?_⟩
        exact fin _ (.ref py) _ (r - 1) _ (KC.trans (Keep.of sB)) ((gp.trans GC).trans (Gr.of sB)) (GC.trans (Gr.of sB)) (DC.same sB) (Tw.gr (Gr.of sB) _ _ wsay) (.say hsl) (flat1 rfl) (by omega)
      · have hce : ce ∈ W.cells := hce.resolve_left e0
        have nce := nmS_1000 (ok.cells ce hce)
        rw [decide_eq_false e0]
        refine iteT ?_
        refine ⟨_, rfl, _, rfl, (show 3 ≤ sizeLine by decide), fun p1 hp1 => ?_⟩
        have s1 := same_new hp1 (.tup [V.str "set", .str ce, .str sl])
        refine ⟨_, rfl, _, rfl, (show 3 ≤ sizeLine by decide), fun p2 hp2 => ?_⟩
        have s2 := same_new hp2 (.tup [V.str "turn", .str ce, .ref pt])
        refine ⟨(show 2 ≤ sizeLine by decide), fun p3 hp3 => ?_⟩
        have s3 := same_new hp3 (.lst [V.ref p1, .ref p2])
        have s13 : Same HC _ := fun c o e => s3 _ _ (s2 _ _ (s1 _ _ e))
        refine ⟨_, rfl, _, _, rfl, rfl, ⟨by decide, by decide⟩, p3, _, _, _, rfl, rfl, SqL.of upd_same, at_of (j := 1) rfl rfl, ?_⟩
        exact fin _ (.ref p2) (.tup [tx "turn", tx ce, .tup (tb.map tx)]) (r - 1) _ (KC.trans (Keep.of s13)) ((gp.trans GC).trans (Gr.of s13)) (GC.trans (Gr.of s13)) (DC.same s13) (.tup (s3 _ _ upd_same) (.cons (tw_tx (by decide)) (.cons (tw_tx nce) (.cons (Tw.gr (Gr.of s13) _ _ wtb) .nil))) (Nat.le_of_ble_eq_true rfl)) (.turn hce htbl) (flat1 rfl) (by omega)
    · refine ⟨_, rfl, _, _, rfl, rfl, _, rfl, iteT ?_⟩
      refine ⟨_, rfl, rfl, _, rfl, ?_⟩
      rw [dec_str]
      rcases Decidable.em (ce = "") with e0 | e0
      · rw [decide_eq_true e0]
        refine iteF ?_
        refine ⟨_, rfl, (show 2 ≤ sizeLine by decide), fun pB hpB => ?_⟩
        have sB := same_new hpB (.tup [V.int 4, .int 5])
        refine ⟨pB, _, rfl, .inr (SqT.of upd_same), rfl, rfl, _, rfl, iteF ?_⟩
        refine ⟨_, rfl, rfl, _, rfl, iteF ?_⟩
        refine ⟨_, rfl, rfl, _, rfl, iteF ?_⟩
        refine ⟨_, rfl, rfl, _, rfl, iteF ?_⟩
        refine ⟨_, rfl, rfl, _, rfl, iteF ?_⟩
        exact fin _ (.ref py) _ (r - 1) _ (KC.trans (Keep.of sB)) ((gp.trans GC).trans (Gr.of sB)) (GC.trans (Gr.of sB)) (DC.same sB) (Tw.gr (Gr.of sB) _ _ wsay) (.say hsl) (flat1 rfl) (by omega)
      · have hce : ce ∈ W.cells := hce.resolve_left e0
        have nce := nmS_1000 (ok.cells ce hce)
        rw [decide_eq_false e0]
        refine iteT ?_
        refine ⟨_, rfl, _, rfl, (show 3 ≤ sizeLine by decide), fun p1 hp1 => ?_⟩
        have s1 := same_new hp1 (.tup [V.str "set", .str ce, .str sl])
        refine ⟨_, rfl, _, rfl, (show 3 ≤ sizeLine by decide), fun p2 hp2 => ?_⟩
        have s2 := same_new hp2 (.tup [V.str "turn", .str ce, .ref pt])
        refine ⟨(show 2 ≤ sizeLine by decide), fun p3 hp3 => ?_⟩
        have s3 := same_new hp3 (.lst [V.ref p1, .ref p2])
        have s13 : Same HC _ := fun c o e => s3 _ _ (s2 _ _ (s1 _ _ e))
        refine ⟨_, rfl, _, _, rfl, rfl, ⟨by decide, by decide⟩, p3, _, _, _, rfl, rfl, SqL.of upd_same, at_of (j := 1) rfl rfl, ?_⟩
        exact fin _ (.ref p2) (.tup [tx "turn", tx ce, .tup (tb.map tx)]) (r - 1) _ (KC.trans (Keep.of s13)) ((gp.trans GC).trans (Gr.of s13)) (GC.trans (Gr.of s13)) (DC.same s13) (.tup (s3 _ _ upd_same) (.cons (tw_tx (by decide)) (.cons (tw_tx nce) (.cons (Tw.gr (Gr.of s13) _ _ wtb) .nil))) (Nat.le_of_ble_eq_true rfl)) (.turn hce htbl) (flat1 rfl) (by omega)
    · refine ⟨_, rfl, _, _, rfl, rfl, _, rfl, iteF ?_⟩
      refine ⟨_, rfl, (show 2 ≤ sizeLine by decide), fun pB hpB => ?_⟩
      have sB := same_new hpB (.tup [V.int 4, .int 5])
      refine ⟨pB, _, rfl, .inr (SqT.of upd_same), rfl, rfl, _, rfl, iteT ?_⟩
      refine ⟨_, rfl, rfl, _, rfl, ?_⟩
      rw [dec_str]
      rcases Decidable.em (bx = "") with e0 | e0
      · rw [decide_eq_true e0]
        refine iteF ?_
        refine ⟨_, rfl, rfl, _, rfl, iteF ?_⟩
        refine ⟨_, rfl, rfl, _, rfl, iteF ?_⟩
        refine ⟨_, rfl, rfl, _, rfl, iteF ?_⟩
        refine ⟨_, rfl, rfl, _, rfl, iteF ?_⟩
        exact fin _ (.ref py) _ (r - 1) _ (KC.trans (Keep.of sB)) ((gp.trans GC).trans (Gr.of sB)) (GC.trans (Gr.of sB)) (DC.same sB) (Tw.gr (Gr.of sB) _ _ wsay) (.say hsl) (flat1 rfl) (by omega)
      · have hbx : bx ∈ W.boxes := hbx.resolve_left e0
        have nbx := nmS_1000 (ok.boxes bx hbx)
        rw [decide_eq_false e0]
        refine iteT ?_
        refine ⟨_, rfl, _, rfl, (show 3 ≤ sizeLine by decide), fun p1 hp1 => ?_⟩
        have s1 := same_new hp1 (.tup [V.str "write", .str bx, .str sl])
        refine ⟨_, rfl, _, rfl, (show 3 ≤ sizeLine by decide), fun p2 hp2 => ?_⟩
        have s2 := same_new hp2 (.tup [V.str "fetch", .str bx, .str sl])
        refine ⟨(show 2 ≤ sizeLine by decide), fun p3 hp3 => ?_⟩
        have s3 := same_new hp3 (.lst [V.ref p1, .ref p2])
        have s13 : Same HC _ := fun c o e => s3 _ _ (s2 _ _ (s1 _ _ (sB _ _ e)))
        refine ⟨_, rfl, _, _, rfl, rfl, p3, _, _, _, rfl, rfl, SqL.of upd_same, at_of (j := 0) rfl rfl, ?_⟩
        exact fin _ (.ref p1) (.tup [tx "write", tx bx, tx sl]) (r - 1) _ (KC.trans (Keep.of s13)) ((gp.trans GC).trans (Gr.of s13)) (GC.trans (Gr.of s13)) (DC.same s13) (.tup (s3 _ _ (s2 _ _ upd_same)) (.cons (tw_tx (by decide)) (.cons (tw_tx nbx) (.cons (tw_tx nsl) .nil))) (Nat.le_of_ble_eq_true rfl)) (.write hbx hsl) (flat1 rfl) (by omega)
    · refine ⟨_, rfl, _, _, rfl, rfl, _, rfl, iteF ?_⟩
      refine ⟨_, rfl, (show 2 ≤ sizeLine by decide), fun pB hpB => ?_⟩
      have sB := same_new hpB (.tup [V.int 4, .int 5])
      refine ⟨pB, _, rfl, .inr (SqT.of upd_same), rfl, rfl, _, rfl, iteT ?_⟩
      refine ⟨_, rfl, rfl, _, rfl, ?_⟩
      rw [dec_str]
      rcases Decidable.em (bx = "") with e0 | e0
      · rw [decide_eq_true e0]
        refine iteF ?_
        refine ⟨_, rfl, rfl, _, rfl, iteF ?_⟩
        refine ⟨_, rfl, rfl, _, rfl, iteF ?_⟩
        refine ⟨_, rfl, rfl, _, rfl, iteF ?_⟩
        refine ⟨_, rfl, rfl, _, rfl, iteF ?_⟩
        exact fin _ (.ref py) _ (r - 1) _ (KC.trans (Keep.of sB)) ((gp.trans GC).trans (Gr.of sB)) (GC.trans (Gr.of sB)) (DC.same sB) (Tw.gr (Gr.of sB) _ _ wsay) (.say hsl) (flat1 rfl) (by omega)
      · have hbx : bx ∈ W.boxes := hbx.resolve_left e0
        have nbx := nmS_1000 (ok.boxes bx hbx)
        rw [decide_eq_false e0]
        refine iteT ?_
        refine ⟨_, rfl, _, rfl, (show 3 ≤ sizeLine by decide), fun p1 hp1 => ?_⟩
        have s1 := same_new hp1 (.tup [V.str "write", .str bx, .str sl])
        refine ⟨_, rfl, _, rfl, (show 3 ≤ sizeLine by decide), fun p2 hp2 => ?_⟩
        have s2 := same_new hp2 (.tup [V.str "fetch", .str bx, .str sl])
        refine ⟨(show 2 ≤ sizeLine by decide), fun p3 hp3 => ?_⟩
        have s3 := same_new hp3 (.lst [V.ref p1, .ref p2])
        have s13 : Same HC _ := fun c o e => s3 _ _ (s2 _ _ (s1 _ _ (sB _ _ e)))
        refine ⟨_, rfl, _, _, rfl, rfl, p3, _, _, _, rfl, rfl, SqL.of upd_same, at_of (j := 1) rfl rfl, ?_⟩
        exact fin _ (.ref p2) (.tup [tx "fetch", tx bx, tx sl]) (r - 1) _ (KC.trans (Keep.of s13)) ((gp.trans GC).trans (Gr.of s13)) (GC.trans (Gr.of s13)) (DC.same s13) (.tup (s3 _ _ upd_same) (.cons (tw_tx (by decide)) (.cons (tw_tx nbx) (.cons (tw_tx nsl) .nil))) (Nat.le_of_ble_eq_true rfl)) (.fetch hbx hsl) (flat1 rfl) (by omega)
    · refine ⟨_, rfl, _, _, rfl, rfl, _, rfl, iteF ?_⟩
      refine ⟨_, rfl, (show 2 ≤ sizeLine by decide), fun pB hpB => ?_⟩
      have sB := same_new hpB (.tup [V.int 4, .int 5])
      refine ⟨pB, _, rfl, .inr (SqT.of upd_same), rfl, rfl, _, rfl, iteF ?_⟩
      have DB2 := DC.same sB
      have KB2 := KC.trans (Keep.of sB)
      have GB2 := GC.trans (Gr.of sB)
      refine ⟨_, rfl, rfl, _, rfl, iteT ?_⟩
      refine ⟨_, rfl, _, rfl, _, rfl, pm, _, rfl, DB2.getS, st, scr, _, rfl, DB2.S, .inl ⟨ps, W.slots, rfl, DB2.e2, .inl ⟨SqL.of DB2.hs, fun H' k => SqL.of (k.one DB2.hs DB2.e2)⟩, ok.n1, by have := ok.n2; omega, fun s2 hs2 HD kD SD => ?_⟩⟩
      have DD := DB2.draw kD SD
      have gD := DB2.S.gr SD kD
      refine ⟨_, rfl, (show 4 ≤ sizeLine by decide), fun p1 hp1 => ?_⟩
      have s1 := same_new hp1 (.tup [V.str "map", .str sl, .str s2, .ref pt])
      exact fin _ (.ref p1) (.tup [tx "map", tx sl, tx s2, .tup (tb.map tx)]) (r - 1) _ ((KB2.trans kD.weak).trans (Keep.of s1)) ((gp.trans GB2).trans (gD.trans (Gr.of s1))) (GB2.trans (gD.trans (Gr.of s1))) (DD.same s1) (.tup upd_same (.cons (tw_tx (by decide)) (.cons (tw_tx nsl) (.cons (tw_tx (nmS_1000 (ok.slots s2 hs2))) (.cons (Tw.gr ((Gr.of sB).trans (gD.trans (Gr.of s1))) _ _ wtb) .nil)))) (Nat.le_of_ble_eq_true rfl)) (.map hsl hs2 htbl) (flat1 rfl) (by omega)
    · refine ⟨_, rfl, _, _, rfl, rfl, _, rfl, iteF ?_⟩
      refine ⟨_, rfl, (show 2 ≤ sizeLine by decide), fun pB hpB => ?_⟩
      have sB := same_new hpB (.tup [V.int 4, .int 5])
      refine ⟨pB, _, rfl, .inr (SqT.of upd_same), rfl, rfl, _, rfl, iteF ?_⟩
      have DB2 := DC.same sB
      have KB2 := KC.trans (Keep.of sB)
      have GB2 := GC.trans (Gr.of sB)
      refine ⟨_, rfl, rfl, _, rfl, iteF ?_⟩
      refine ⟨_, rfl, rfl, _, rfl, iteT ⟨_, rfl, _, _, rfl, rfl, _, rfl, ite2 (fun cd => ?_) (fun cd => ?_)⟩⟩
      · have hdp : dp ≤ 2 := of_decide_eq_true cd
        have fci := fc.iff hdp
        refine ⟨_, rfl, _, rfl, _, rfl, st, scr, 3, rfl, DB2.S, by decide, by decide, fun n1 HD n10 n11 kD SD => ?_⟩
        have DD := DB2.draw kD SD
        have gD := DB2.S.gr SD kD
        obtain ⟨m1n, rfl⟩ : ∃ q : Nat, n1 = (q : Int) := ⟨n1.toNat, by omega⟩
        refine ⟨_, rfl, _, rfl, _, _, rfl, rfl, st, scr, pr, pm, pw, ps, pc, pb, m1n, "if", dp + 1, r - 1, W, rfl, DD, ok, by omega, by omega, by omega, fci, fun v1 t1 r1 HE kE gE DE w1 hg1 hc1 hr1 => ?_⟩
        refine ⟨_, rfl, _, rfl, _, rfl, _, rfl, _, rfl, _, rfl, st, scr, 3, rfl, DE.S, by decide, by decide, fun n2 HF n20 n21 kF SF => ?_⟩
        have DF := DE.draw kF SF
        have gF := DE.S.gr SF kF
        obtain ⟨m2n, rfl⟩ : ∃ q : Nat, n2 = (q : Int) := ⟨n2.toNat, by omega⟩
        refine ⟨_, rfl, _, rfl, _, _, rfl, rfl, st, scr, pr, pm, pw, ps, pc, pb, m2n, "if", dp + 1, r1, W, rfl, DF, ok, by omega, by omega, by omega, fci, fun v2 t2 r2 HG kG gG DG w2 hg2 hc2 hr2 => ?_⟩
        have sh1 := (gen_val ok (es := []) m1 false (dp + 1) "body" t1 fci (by decide) (fun e => by cases e) hg1).val.shp
        have sh2 := (gen_val ok (es := []) m1 false (dp + 1) "body" t2 fci (by decide) (fun e => by cases e) hg2).val.shp
        refine ⟨(show 5 ≤ sizeLine by decide), fun p1 hp1 => ?_⟩
        have s1 := same_new hp1 (.tup [V.str "if", .str sl, .str wd, v1, v2])
        have gAll : Gr (upd HC pB (.tup [V.int 4, .int 5])) _ := gD.trans (gE.trans (gF.trans (gG.trans (Gr.of s1))))
        refine fin _ (.ref p1) (.tup [tx "if", tx sl, tx wd, .tup t1, .tup t2]) r2 _ ((KB2.trans (kD.weak.trans (kE.trans (kF.weak.trans kG)))).trans (Keep.of s1)) ((gp.trans GB2).trans gAll) (GB2.trans gAll) (DG.same s1) (.tup upd_same (.cons (tw_tx (by decide)) (.cons (tw_tx nsl) (.cons (tw_tx nwd) (.cons (Tw.gr (gF.trans (gG.trans (Gr.of s1))) _ _ w1) (.cons (Tw.gr (Gr.of s1) _ _ w2) .nil))))) (Nat.le_of_ble_eq_true rfl)) (.iff hsl hwd hdp hg1 hg2) ?_ hr2
        rw [cnt_if _ sh1 sh2 hm8]
        omega
      · refine ⟨_, rfl, rfl, _, rfl, iteF ?_⟩
        refine ⟨_, rfl, rfl, _, rfl, iteF ?_⟩
        exact fin _ (.ref py) _ (r - 1) _ (KC.trans (Keep.of sB)) ((gp.trans GC).trans (Gr.of sB)) (GC.trans (Gr.of sB)) (DC.same sB) (Tw.gr (Gr.of sB) _ _ wsay) (.say hsl) (flat1 rfl) (by omega)
    · refine ⟨_, rfl, _, _, rfl, rfl, _, rfl, iteF ?_⟩
      refine ⟨_, rfl, (show 2 ≤ sizeLine by decide), fun pB hpB => ?_⟩
      have sB := same_new hpB (.tup [V.int 4, .int 5])
      refine ⟨pB, _, rfl, .inr (SqT.of upd_same), rfl, rfl, _, rfl, iteF ?_⟩
      have DB2 := DC.same sB
      have KB2 := KC.trans (Keep.of sB)
      have GB2 := GC.trans (Gr.of sB)
      refine ⟨_, rfl, rfl, _, rfl, iteF ?_⟩
      refine ⟨_, rfl, rfl, _, rfl, iteF ?_⟩
      refine ⟨_, rfl, rfl, _, rfl, iteT ⟨_, rfl, rfl, _, rfl, ite2 (fun cd => ?_) (fun cd => ?_)⟩⟩ <;> rw [dec_str] at cd
      · have hsc : sc = "body" := of_decide_eq_true cd
        have hib : isBody sc = true := decide_eq_true hsc
        have fcl : FC false 1 m1 := by
          rw [hib] at fc
          exact fc.later
        refine ⟨_, rfl, _, rfl, _, rfl, st, scr, 3, rfl, DB2.S, by decide, by decide, fun n1 HD n10 n11 kD SD => ?_⟩
        have DD := DB2.draw kD SD
        have gD := DB2.S.gr SD kD
        obtain ⟨m1n, rfl⟩ : ∃ q : Nat, n1 = (q : Int) := ⟨n1.toNat, by omega⟩
        refine ⟨_, rfl, st, scr, pr, pm, pw, ps, pc, pb, m1n, "later", 1, r - 1, W, rfl, DD, ok, by omega, by omega, by omega, fcl, fun v1 t1 r1 HE kE gE DE w1 hg1 hc1 hr1 => ?_⟩
        have sh1 := (gen_val ok (es := []) m1 false 1 "body" t1 fcl (by decide) (fun e => by cases e) hg1).val.shp
        refine ⟨(show 2 ≤ sizeLine by decide), fun p1 hp1 => ?_⟩
        have s1 := same_new hp1 (.tup [V.str "later", v1])
        have gAll : Gr (upd HC pB (.tup [V.int 4, .int 5])) _ := gD.trans (gE.trans (Gr.of s1))
        refine fin _ (.ref p1) (.tup [tx "later", .tup t1]) r1 _ ((KB2.trans (kD.weak.trans kE)).trans (Keep.of s1)) ((gp.trans GB2).trans gAll) (GB2.trans gAll) (DE.same s1) (.tup upd_same (.cons (tw_tx (by decide)) (.cons (Tw.gr (Gr.of s1) _ _ w1) .nil)) (Nat.le_of_ble_eq_true rfl)) (by rw [hib]; exact .later hg1) ?_ hr1
        rw [cnt_later _ sh1 hm8]
        omega
      · refine ⟨_, rfl, rfl, _, rfl, iteF ?_⟩
        exact fin _ (.ref py) _ (r - 1) _ (KC.trans (Keep.of sB)) ((gp.trans GC).trans (Gr.of sB)) (GC.trans (Gr.of sB)) (DC.same sB) (Tw.gr (Gr.of sB) _ _ wsay) (.say hsl) (flat1 rfl) (by omega)
    · refine ⟨_, rfl, _, _, rfl, rfl, _, rfl, iteF ?_⟩
      refine ⟨_, rfl, (show 2 ≤ sizeLine by decide), fun pB hpB => ?_⟩
      have sB := same_new hpB (.tup [V.int 4, .int 5])
      refine ⟨pB, _, rfl, .inr (SqT.of upd_same), rfl, rfl, _, rfl, iteF ?_⟩
      have DB2 := DC.same sB
      have KB2 := KC.trans (Keep.of sB)
      have GB2 := GC.trans (Gr.of sB)
      refine ⟨_, rfl, rfl, _, rfl, iteF ?_⟩
      refine ⟨_, rfl, rfl, _, rfl, iteF ?_⟩
      refine ⟨_, rfl, rfl, _, rfl, iteF ?_⟩
      refine ⟨_, rfl, rfl, _, rfl, iteT ?_⟩
      refine ⟨_, rfl, _, rfl, (show 3 ≤ sizeLine by decide), fun p1 hp1 => ?_⟩
      have s1 := same_new hp1 (.tup [V.str "put", .str sl, .str wd])
      exact fin _ (.ref p1) (.tup [tx "put", tx sl, tx wd]) (r - 1) _ (KB2.trans (Keep.of s1)) ((gp.trans GB2).trans (Gr.of s1)) (GB2.trans (Gr.of s1)) (DB2.same s1) (.tup upd_same (.cons (tw_tx (by decide)) (.cons (tw_tx nsl) (.cons (tw_tx nwd) .nil))) (Nat.le_of_ble_eq_true rfl)) (.put hsl hwd) (flat1 rfl) (by omega)
  · obtain ⟨x7, x8, x9, x10, x11, x12, x13, x14, x15, v, ts, r, rfl, kp, gp, D, wv, hg, hcnt, hr', hlen⟩ := pv
    exact ⟨_, rfl, q v ts r H' kp gp D wv hg hcnt hr'⟩
theorem ok__law_function {fd fdt fdp fdb : FuncData} (F : Fun K "_law_function" "_law_function" s__law_function ff fd) (T : TxtFu K mg ft fp fb ff) (Gt : FnOk P w K mg base CX0 2 ft fdt ["_law_state", "_law_size"] spTake) (bt : Binds K fdt ["_law_state", "_law_size"] [])
    (Gp : FnOk P w K mg base CX0 3 fp fdp ["_law_state", "_law_names_here"] (spPick K)) (bp : Binds K fdp ["_law_state", "_law_names_here"] []) (Gb : FnOk P w K mg base CX0 4 fb fdb ["_law_state", "_law_words"] spTab) (bb : Binds K fdb ["_law_state", "_law_words"] [])
    (bf : Binds K fd ["_law_state", "_law_menu", "_law_many", "_law_room", "_law_scope", "_law_depth"] []) :
    ∀ m : Nat, m ≤ 8 → FnOk P w K mg base CX0 (m + 5) ff fd ["_law_state", "_law_menu", "_law_many", "_law_room", "_law_scope", "_law_depth"] (spFunD m)
  | 0, h => ok__law_function_step (m := 0) (by omega) h F T Gt bt Gp bp Gb bb (fun m' h => absurd h (Nat.not_lt_zero _)) bf
  | m + 1, h => ok__law_function_step (m := m + 1) (by omega) h F T Gt bt Gp bp Gb bb (fun m' hm' => (ok__law_function F T Gt bt Gp bp Gb bb bf m' (by omega)).mono (by omega)) bf
end
end CA
namespace CA
open PySem L2
/-! ### sorted texts, none twice, are told by their members -/
theorem rise_le : ∀ (l : List Str) (p : Str), PyProof.Rows.risingS p l = true → (p :: l).Pairwise fun a b => a.cps.toList ≤ b.cps.toList
  | [], p, _ => by simp
  | x :: r, p, h => by
    have h : (_ && _) = true := h
    rw [Bool.and_eq_true] at h
    have ih := rise_le r x h.2
    have hx : p.cps.toList ≤ x.cps.toList := by
      have h1 := h.1
      rw [PyProof.Rows.ltCps_eq, Bool.not_eq_true', decide_eq_false_iff_not] at h1
      exact List.not_lt.mp h1
    refine List.pairwise_cons.mpr ⟨fun b hb => ?_, ih⟩
    rcases List.mem_cons.mp hb with rfl | hb
    · exact hx
    · exact List.le_trans hx ((List.pairwise_cons.mp ih).1 b hb)
theorem sorted_le {l : List Str} (h : PyProof.Rows.sortedS l = true) : l.Pairwise fun a b => a.cps.toList ≤ b.cps.toList := by
  cases l with
  | nil => exact List.Pairwise.nil
  | cons x r => exact rise_le r x h
theorem sorted_same {a b : List Str} (ha : a.Pairwise fun x y => x.cps.toList ≤ y.cps.toList) (hb : b.Pairwise fun x y => x.cps.toList ≤ y.cps.toList) (na : a.Nodup) (nb : b.Nodup) (h : ∀ s, s ∈ a ↔ s ∈ b) : a = b := by
  have p : a.Perm b := (List.perm_ext_iff_of_nodup na nb).mpr fun s => h s
  refine p.eq_of_pairwise (fun x y _ _ h1 h2 => ?_) ha hb
  exact TL.ext_tl (List.le_antisymm h1 h2)
/-! ### all ways through the rows -/
def sayT (s : Str) : Tr := .tup [tx "say", tx s]
def secT (t : Tr) : Str := txOf' ((itemsOf t).getD 1 (tx ""))
def thiT (t : Tr) : Str := txOf' ((itemsOf t).getD 2 (tx ""))
def rowsT (t : Tr) (i : Nat) : List Tr := itemsOf ((itemsOf t).getD i (tx ""))
def armsW (rec : List Tr → List (List Tr)) (t : Tr) : List (List Tr) := if kOf t = "if" then (rec (rowsT t 3)).map (fun way => [sayT (secT t)] ++ way) ++ (rec (rowsT t 4)).map (fun way => [sayT (secT t)] ++ way) else [[t]]
def joinW (W arms : List (List Tr)) : List (List Tr) := (W.map fun way => arms.map fun arm => way ++ arm).flatten
def waysW : Nat → List Tr → List (List Tr)
  | 0, _ => [[]]
  | d + 1, ts => ts.foldl (fun W t => joinW W (armsW (waysW d) t)) [[]]
def readsT (need : List Tr → List Str) (t : Tr) : List Str :=
  if kOf t = "later" then need (rowsT t 1) else if kOf t ∈ (["set", "write", "map"] : List Str) then [thiT t] else if kOf t = "say" then [secT t] else []
def chgT (t : Tr) : List Str := (if kOf t ∈ (["put", "map"] : List Str) then [secT t] else []) ++ (if kOf t = "fetch" then [thiT t] else [])
def wayF (need : List Tr → List Str) : List Tr → List Str → List Str
  | [], _ => []
  | t :: r, ch => ((readsT need t).filter fun s => !decide (s ∈ ch)) ++ wayF need r (ch ++ chgT t)
/-- what a row does first to a slot, in a way -/
def useT (need : List Tr → List Str) (z : Str) (t : Tr) : Option Bool := if z ∈ readsT need t then some true else if z ∈ chgT t then some false else none
def useWay (need : List Tr → List Str) (z : Str) : List Tr → Option Bool
  | [] => none
  | t :: r => match useT need z t with
    | some b => some b
    | none => useWay need z r
theorem wayF_iff (need : List Tr → List Str) (z : Str) : ∀ (way : List Tr) (ch : List Str), z ∈ wayF need way ch ↔ z ∉ ch ∧ useWay need z way = some true
  | [], ch => by simp [wayF, useWay]
  | t :: r, ch => by
    have ih := wayF_iff need z r (ch ++ chgT t)
    unfold wayF useWay useT
    rw [List.mem_append, ih, List.mem_filter, List.mem_append]
    by_cases h1 : z ∈ readsT need t
    · rw [if_pos h1]
      simp only [Bool.not_eq_true', decide_eq_false_iff_not]
      constructor
      · rintro (⟨_, h⟩ | ⟨h, _⟩)
        · exact ⟨h, trivial⟩
        · exact ⟨fun q => h (.inl q), trivial⟩
      · rintro ⟨h, _⟩
        exact .inl ⟨h1, h⟩
    · rw [if_neg h1]
      by_cases h2 : z ∈ chgT t
      · rw [if_pos h2]
        constructor
        · rintro (⟨h, _⟩ | ⟨h, _⟩)
          · exact absurd h h1
          · exact absurd (.inr h2) h
        · rintro ⟨_, h⟩
          cases h
      · rw [if_neg h2]
        constructor
        · rintro (⟨h, _⟩ | ⟨h, h3⟩)
          · exact absurd h h1
          · exact ⟨fun q => h (.inl q), h3⟩
        · rintro ⟨h, h3⟩
          exact .inr ⟨fun q => q.elim h h2, h3⟩
theorem useWay_cons (need : List Tr → List Str) (z : Str) (t : Tr) (r : List Tr) : useWay need z (t :: r) = (match useT need z t with
    | some b => some b
    | none => useWay need z r) := rfl
theorem useWay_app (need : List Tr → List Str) (z : Str) : ∀ (a b : List Tr), useWay need z (a ++ b) = (match useWay need z a with
    | some u => some u
    | none => useWay need z b)
  | [], b => rfl
  | t :: a, b => by
    rw [List.cons_append, useWay_cons, useWay_cons]
    cases h : useT need z t with
    | some u => rfl
    | none => exact useWay_app need z a b
/-- the answers of all the ways of a list of ways -/
structure Ans (need : List Tr → List Str) (z : Str) (W : List (List Tr)) (u : Option Bool) : Prop where
  some_ : W ≠ []
  read : (∃ way ∈ W, useWay need z way = some true) ↔ u = some true
  chg : (∀ way ∈ W, useWay need z way = some false) ↔ u = some false
theorem Ans.join {need : List Tr → List Str} {z : Str} {W arms : List (List Tr)} {u v : Option Bool} (a : Ans need z W u) (b : Ans need z arms v) : Ans need z (joinW W arms) (match u with
    | some x => some x
    | none => v) := by
  have mem : ∀ way, way ∈ joinW W arms ↔ ∃ x ∈ W, ∃ y ∈ arms, way = x ++ y := fun way => by
    unfold joinW
    rw [List.mem_flatten]
    constructor
    · rintro ⟨l, hl, hw⟩
      obtain ⟨x, hx, rfl⟩ := List.mem_map.mp hl
      obtain ⟨y, hy, rfl⟩ := List.mem_map.mp hw
      exact ⟨x, hx, y, hy, rfl⟩
    · rintro ⟨x, hx, y, hy, rfl⟩
      exact ⟨_, List.mem_map.mpr ⟨x, hx, rfl⟩, List.mem_map.mpr ⟨y, hy, rfl⟩⟩
  obtain ⟨x0, hx0⟩ := List.exists_mem_of_ne_nil _ a.some_
  obtain ⟨y0, hy0⟩ := List.exists_mem_of_ne_nil _ b.some_
  refine ⟨fun e => ?_, ?_, ?_⟩
  · have := (mem (x0 ++ y0)).mpr ⟨x0, hx0, y0, hy0, rfl⟩
    rw [e] at this
    cases this
  · rcases u with _ | u
    · -- no way of W reads; not all change
      have na : ¬ ∃ way ∈ W, useWay need z way = some true := fun h => by have := a.read.mp h; cases this
      have nc : ¬ ∀ way ∈ W, useWay need z way = some false := fun h => by have := a.chg.mp h; cases this
      show _ ↔ v = some true
      rw [← b.read]
      constructor
      · rintro ⟨way, hw, h⟩
        obtain ⟨x, hx, y, hy, rfl⟩ := (mem way).mp hw
        rw [useWay_app] at h
        cases hu : useWay need z x with
        | some q =>
          rw [hu] at h
          exact absurd ⟨x, hx, by rw [hu]; exact h⟩ na
        | none =>
          rw [hu] at h
          exact ⟨y, hy, h⟩
      · rintro ⟨y, hy, h⟩
        have : ∃ x ∈ W, useWay need z x = none := by
          apply Classical.byContradiction
          intro no
          apply nc
          intro way hw
          cases hu : useWay need z way with
          | none => exact absurd ⟨way, hw, hu⟩ no
          | some q =>
            cases q with
            | true => exact absurd ⟨way, hw, hu⟩ na
            | false => rfl
        obtain ⟨x, hx, hu⟩ := this
        exact ⟨x ++ y, (mem _).mpr ⟨x, hx, y, hy, rfl⟩, by rw [useWay_app, hu]; exact h⟩
    · show _ ↔ some u = some true
      cases u with
      | true =>
        refine ⟨fun _ => rfl, fun _ => ?_⟩
        obtain ⟨x, hx, h⟩ := a.read.mpr rfl
        exact ⟨x ++ y0, (mem _).mpr ⟨x, hx, y0, hy0, rfl⟩, by rw [useWay_app, h]⟩
      | false =>
        refine ⟨fun h => ?_, fun h => by cases h⟩
        obtain ⟨way, hw, h⟩ := h
        obtain ⟨x, hx, y, hy, rfl⟩ := (mem way).mp hw
        rw [useWay_app, a.chg.mpr rfl x hx] at h
        cases h
  · rcases u with _ | u
    · have na : ¬ ∃ way ∈ W, useWay need z way = some true := fun h => by have := a.read.mp h; cases this
      have nc : ¬ ∀ way ∈ W, useWay need z way = some false := fun h => by have := a.chg.mp h; cases this
      show _ ↔ v = some false
      rw [← b.chg]
      constructor
      · intro h y hy
        have : ∃ x ∈ W, useWay need z x = none := by
          apply Classical.byContradiction
          intro no
          apply nc
          intro way hw
          cases hu : useWay need z way with
          | none => exact absurd ⟨way, hw, hu⟩ no
          | some q =>
            cases q with
            | true => exact absurd ⟨way, hw, hu⟩ na
            | false => rfl
        obtain ⟨x, hx, hu⟩ := this
        have := h (x ++ y) ((mem _).mpr ⟨x, hx, y, hy, rfl⟩)
        rw [useWay_app, hu] at this
        exact this
      · intro h way hw
        obtain ⟨x, hx, y, hy, rfl⟩ := (mem way).mp hw
        rw [useWay_app]
        cases hu : useWay need z x with
        | none => exact h y hy
        | some q =>
          cases q with
          | true => exact absurd ⟨x, hx, hu⟩ na
          | false => rfl
    · show _ ↔ some u = some false
      cases u with
      | true =>
        refine ⟨fun h => ?_, fun h => by cases h⟩
        obtain ⟨x, hx, hu⟩ := a.read.mpr rfl
        have := h (x ++ y0) ((mem _).mpr ⟨x, hx, y0, hy0, rfl⟩)
        rw [useWay_app, hu] at this
        cases this
      | false =>
        refine ⟨fun _ => rfl, fun _ way hw => ?_⟩
        obtain ⟨x, hx, y, hy, rfl⟩ := (mem way).mp hw
        rw [useWay_app, a.chg.mpr rfl x hx]
theorem Ans.nil {need : List Tr → List Str} {z : Str} : Ans need z [[]] none := by
  refine ⟨by simp, ⟨fun ⟨w, hw, h⟩ => ?_, fun h => by cases h⟩, ⟨fun h => ?_, fun h => by cases h⟩⟩
  · rw [List.mem_singleton] at hw
    rw [hw] at h
    cases h
  · have := h [] (List.mem_singleton.mpr rfl)
    cases this
theorem Ans.one {need : List Tr → List Str} {z : Str} {t : Tr} : Ans need z [[t]] (useT need z t) := by
  have e : useWay need z [t] = useT need z t := by
    unfold useWay
    cases useT need z t <;> rfl
  refine ⟨by simp, ?_, ?_⟩
  · constructor
    · rintro ⟨w, hw, h⟩
      rw [List.mem_singleton] at hw
      rw [hw, e] at h
      exact h
    · intro h
      exact ⟨[t], List.mem_singleton.mpr rfl, by rw [e]; exact h⟩
  · constructor
    · intro h
      have := h [t] (List.mem_singleton.mpr rfl)
      rw [e] at this
      exact this
    · intro h w hw
      rw [List.mem_singleton] at hw
      rw [hw, e]
      exact h
/-- the arms of an if row: its slot is read, then one of the two goes on -/
theorem Ans.arms {need : List Tr → List Str} {z s : Str} {A B : List (List Tr)} {u v : Option Bool} (a : Ans need z A u) (b : Ans need z B v) :
    Ans need z (A.map (fun way => [sayT s] ++ way) ++ B.map (fun way => [sayT s] ++ way)) (if s = z then some true else eitherU u v) := by
  have er : readsT need (sayT s) = [s] := by
    show (if ("say" : Str) = "later" then _ else if ("say" : Str) ∈ (["set", "write", "map"] : List Str) then _ else if ("say" : Str) = "say" then [secT (sayT s)] else []) = _
    rw [if_neg (by decide), if_neg (by decide), if_pos rfl]
    rfl
  have ec : chgT (sayT s) = [] := by
    show (if ("say" : Str) ∈ (["put", "map"] : List Str) then _ else []) ++ (if ("say" : Str) = "fetch" then _ else []) = _
    rw [if_neg (by decide), if_neg (by decide)]
    rfl
  have mem : ∀ way, way ∈ A.map (fun way => [sayT s] ++ way) ++ B.map (fun way => [sayT s] ++ way) ↔ ∃ x, (x ∈ A ∨ x ∈ B) ∧ way = sayT s :: x := fun way => by
    rw [List.mem_append, List.mem_map, List.mem_map]
    constructor
    · rintro (⟨x, hx, rfl⟩ | ⟨x, hx, rfl⟩)
      · exact ⟨x, .inl hx, rfl⟩
      · exact ⟨x, .inr hx, rfl⟩
    · rintro ⟨x, hx | hx, rfl⟩
      · exact .inl ⟨x, hx, rfl⟩
      · exact .inr ⟨x, hx, rfl⟩
  obtain ⟨x0, hx0⟩ := List.exists_mem_of_ne_nil _ a.some_
  obtain ⟨y0, hy0⟩ := List.exists_mem_of_ne_nil _ b.some_
  have ne : A.map (fun way => [sayT s] ++ way) ++ B.map (fun way => [sayT s] ++ way) ≠ [] := fun e => by
    have := (mem (sayT s :: x0)).mpr ⟨x0, .inl hx0, rfl⟩
    rw [e] at this
    cases this
  by_cases hs : s = z
  · rw [if_pos hs]
    have ev : ∀ x, useWay need z (sayT s :: x) = some true := fun x => by
      unfold useWay useT
      rw [er, if_pos (by rw [hs]; exact List.mem_singleton.mpr rfl)]
    refine ⟨ne, ⟨fun _ => rfl, fun _ => ⟨_, (mem _).mpr ⟨x0, .inl hx0, rfl⟩, ev x0⟩⟩, ⟨fun h => ?_, fun h => by cases h⟩⟩
    have := h _ ((mem _).mpr ⟨x0, .inl hx0, rfl⟩)
    rw [ev] at this
    cases this
  · rw [if_neg hs]
    have ev : ∀ x, useWay need z (sayT s :: x) = useWay need z x := fun x => by
      have e : useT need z (sayT s) = none := by
        unfold useT
        rw [er, if_neg (fun q => hs (List.mem_singleton.mp q).symm), ec, if_neg (by simp)]
      show (match useT need z (sayT s) with | some b => some b | none => useWay need z x) = _
      rw [e]
    have rd : (∃ way ∈ A.map (fun way => [sayT s] ++ way) ++ B.map (fun way => [sayT s] ++ way), useWay need z way = some true) ↔ (u = some true ∨ v = some true) := by
      rw [← a.read, ← b.read]
      constructor
      · rintro ⟨way, hw, h⟩
        obtain ⟨x, hx, rfl⟩ := (mem way).mp hw
        rw [ev] at h
        exact hx.elim (fun q => .inl ⟨x, q, h⟩) fun q => .inr ⟨x, q, h⟩
      · rintro (⟨x, hx, h⟩ | ⟨x, hx, h⟩)
        · exact ⟨_, (mem _).mpr ⟨x, .inl hx, rfl⟩, by rw [ev]; exact h⟩
        · exact ⟨_, (mem _).mpr ⟨x, .inr hx, rfl⟩, by rw [ev]; exact h⟩
    have cg : (∀ way ∈ A.map (fun way => [sayT s] ++ way) ++ B.map (fun way => [sayT s] ++ way), useWay need z way = some false) ↔ (u = some false ∧ v = some false) := by
      rw [← a.chg, ← b.chg]
      constructor
      · intro h
        exact ⟨fun x hx => by have := h _ ((mem _).mpr ⟨x, .inl hx, rfl⟩); rw [ev] at this; exact this, fun x hx => by have := h _ ((mem _).mpr ⟨x, .inr hx, rfl⟩); rw [ev] at this; exact this⟩
      · rintro ⟨h1, h2⟩ way hw
        obtain ⟨x, hx, rfl⟩ := (mem way).mp hw
        rw [ev]
        exact hx.elim (h1 x) (h2 x)
    refine ⟨ne, rd.trans ?_, cg.trans ?_⟩
    · unfold eitherU
      rcases u with _ | _ | _ <;> rcases v with _ | _ | _ <;> simp
    · unfold eitherU
      rcases u with _ | _ | _ <;> rcases v with _ | _ | _ <;> simp
end CA
namespace CA
open PySem L2
/-! ### the ways against the first use -/
theorem useR_flat {rec : List Tr → Option Bool} {k : Str} {us : List Tr} {z : Str} (h1 : k ≠ "if") (h2 : k ≠ "later") : useR rec k us z = if hits readTable k us z then some true else if hits changeTable k us z then some false else none := by
  unfold useR
  rw [if_neg h1, if_neg h2]
theorem useR_if {rec : List Tr → Option Bool} {s w z : Str} {ts us : List Tr} : useR rec "if" [tx s, tx w, .tup ts, .tup us] z = if s = z then some true else eitherU (rec ts) (rec us) := by
  have h1 : hits readTable "if" [tx s, tx w, .tup ts, .tup us] z = decide (s = z) := rfl
  have h2 : hits changeTable "if" [tx s, tx w, .tup ts, .tup us] z = false := rfl
  unfold useR
  rw [h1, h2]
  by_cases h : s = z
  · rw [decide_eq_true h, if_pos rfl, if_pos h]
  · rw [decide_eq_false h, if_neg (by decide), if_neg (by decide), if_pos rfl, if_neg h]
    rfl
theorem useR_later {rec : List Tr → Option Bool} {z : Str} {ts : List Tr} : useR rec "later" [.tup ts] z = if rec ts = some true then some true else none := by
  have h1 : hits readTable "later" [.tup ts] z = false := rfl
  have h2 : hits changeTable "later" [.tup ts] z = false := rfl
  unfold useR
  rw [h1, h2, if_neg (by decide), if_neg (by decide), if_neg (by decide), if_pos rfl]
  rfl
theorem find_congr {α β : Type} (f g : α → Option β) : ∀ l : List α, (∀ x ∈ l, f x = g x) → l.findSome? f = l.findSome? g
  | [], _ => rfl
  | x :: l, h => by
    rw [List.findSome?_cons, List.findSome?_cons, h x (List.mem_cons_self ..), find_congr f g l fun y hy => h y (List.mem_cons_of_mem _ hy)]
theorem use_fuel {W : Wd} {z : Str} : ∀ (d e : Nat) (b : Bool) (dp : Int) (ts : List Tr), FC b dp d → d ≤ e → (∀ t ∈ ts, GRow W b dp t) → useL z d ts = useL z e ts
  | 0, _, b, dp, _, h, _, _ => by have := h.pos; omega
  | d + 1, 0, _, _, _, _, h, _ => by omega
  | d + 1, e + 1, b, dp, ts, h, he, hg => by
    refine find_congr _ _ ts fun t ht => ?_
    cases hg t ht with
    | say _ => rfl
    | set _ _ => rfl
    | turn _ _ => rfl
    | write _ _ => rfl
    | fetch _ _ => rfl
    | map _ _ _ => rfl
    | put _ _ => rfl
    | @iff _ _ s w xs ys _ _ h2 h3 h4 =>
      show useR (useL z d) "if" [tx s, tx w, .tup xs, .tup ys] z = useR (useL z e) "if" [tx s, tx w, .tup xs, .tup ys] z
      rw [useR_if, useR_if, use_fuel d e false (dp + 1) xs (h.iff h2) (by omega) h3, use_fuel d e false (dp + 1) ys (h.iff h2) (by omega) h4]
    | @later _ xs h3 =>
      show useR (useL z d) "later" [.tup xs] z = useR (useL z e) "later" [.tup xs] z
      rw [useR_later, useR_later, use_fuel d e false 1 xs h.later (by omega) h3]
theorem Ans.fold {need : List Tr → List Str} {z : Str} {rec : List Tr → List (List Tr)} {f : Tr → Option Bool} : ∀ (ts : List Tr) (W : List (List Tr)) (u : Option Bool), Ans need z W u → (∀ t ∈ ts, Ans need z (armsW rec t) (f t)) →
    Ans need z (ts.foldl (fun W t => joinW W (armsW rec t)) W) (match u with
      | some x => some x
      | none => ts.findSome? f)
  | [], W, u, a, _ => by cases u <;> exact a
  | t :: ts, W, u, a, h => by
    have h1 := a.join (h t (List.mem_cons_self ..))
    have h2 := Ans.fold ts _ _ h1 fun x hx => h x (List.mem_cons_of_mem _ hx)
    rw [List.foldl_cons]
    cases u with
    | some x => exact h2
    | none =>
      have e : (t :: ts).findSome? f = (match f t with
        | some x => some x
        | none => ts.findSome? f) := by
        rw [List.findSome?_cons]
        cases f t <;> rfl
      show Ans need z _ ((t :: ts).findSome? f)
      rw [e]
      exact h2
theorem mem_one {z s : Str} : z ∈ [s] ↔ s = z := by
  rw [List.mem_singleton]
  exact ⟨fun h => h.symm, fun h => h.symm⟩
theorem readsT_k (need : List Tr → List Str) (k : Str) (us : List Tr) : readsT need (.tup (tx k :: us)) = if k = "later" then need (rowsT (.tup (tx k :: us)) 1) else if k ∈ (["set", "write", "map"] : List Str) then [thiT (.tup (tx k :: us))] else if k = "say" then [secT (.tup (tx k :: us))] else [] := rfl
theorem chgT_k (k : Str) (us : List Tr) : chgT (.tup (tx k :: us)) = (if k ∈ (["put", "map"] : List Str) then [secT (.tup (tx k :: us))] else []) ++ (if k = "fetch" then [thiT (.tup (tx k :: us))] else []) := rfl
/-- one row that is no if row -/
theorem gen_use {W : Wd} {need : List Tr → List Str} {z : Str} {d : Nat} {b : Bool} {dp : Int} {t : Tr} (hf : FC b dp (d + 1)) (h9 : d ≤ 9) (hg : GRow W b dp t) (hk : kOf t ≠ "if") (hn : ∀ xs, (∀ t ∈ xs, GRow W false 1 t) → (z ∈ need xs ↔ useL z 9 xs = some true)) :
    useT need z t = useR (useL z d) (kOf t) (itemsOf t).tail z := by
  unfold useT
  cases hg with
  | @say _ _ s hs =>
    have r : readsT need (.tup [tx "say", tx s]) = [s] := by
      rw [readsT_k]
      rw [if_neg (by decide), if_neg (by decide), if_pos (by decide)]
      rfl
    have c : chgT (.tup [tx "say", tx s]) = [] := by
      rw [chgT_k]
      rw [if_neg (by decide), if_neg (by decide)]
      rfl
    show _ = useR (useL z d) "say" [tx s] z
    rw [r, c, useR_flat (by decide) (by decide)]
    have h1 : hits readTable "say" [tx s] z = decide (s = z) := rfl
    have h2 : hits changeTable "say" [tx s] z = false := rfl
    rw [h1, h2]
    simp only [mem_one, decide_eq_true_eq, List.not_mem_nil, Bool.false_eq_true]
  | @set _ _ c s hc hs =>
    have r : readsT need (.tup [tx "set", tx c, tx s]) = [s] := by
      rw [readsT_k]
      rw [if_neg (by decide), if_pos (by decide)]
      rfl
    have c' : chgT (.tup [tx "set", tx c, tx s]) = [] := by
      rw [chgT_k]
      rw [if_neg (by decide), if_neg (by decide)]
      rfl
    show _ = useR (useL z d) "set" [tx c, tx s] z
    rw [r, c', useR_flat (by decide) (by decide)]
    have h1 : hits readTable "set" [tx c, tx s] z = decide (s = z) := rfl
    have h2 : hits changeTable "set" [tx c, tx s] z = false := rfl
    rw [h1, h2]
    simp only [mem_one, decide_eq_true_eq, List.not_mem_nil, Bool.false_eq_true]
  | @turn _ _ c tb hc htb =>
    have r : readsT need (.tup [tx "turn", tx c, .tup (tb.map tx)]) = [] := by
      rw [readsT_k]
      rw [if_neg (by decide), if_neg (by decide), if_neg (by decide)]
    have c' : chgT (.tup [tx "turn", tx c, .tup (tb.map tx)]) = [] := by
      rw [chgT_k]
      rw [if_neg (by decide), if_neg (by decide)]
      rfl
    show _ = useR (useL z d) "turn" [tx c, .tup (tb.map tx)] z
    rw [r, c', useR_flat (by decide) (by decide)]
    have h1 : hits readTable "turn" [tx c, .tup (tb.map tx)] z = false := rfl
    have h2 : hits changeTable "turn" [tx c, .tup (tb.map tx)] z = false := rfl
    rw [h1, h2]
    simp
  | @write _ _ c s hc hs =>
    have r : readsT need (.tup [tx "write", tx c, tx s]) = [s] := by
      rw [readsT_k]
      rw [if_neg (by decide), if_pos (by decide)]
      rfl
    have c' : chgT (.tup [tx "write", tx c, tx s]) = [] := by
      rw [chgT_k]
      rw [if_neg (by decide), if_neg (by decide)]
      rfl
    show _ = useR (useL z d) "write" [tx c, tx s] z
    rw [r, c', useR_flat (by decide) (by decide)]
    have h1 : hits readTable "write" [tx c, tx s] z = decide (s = z) := rfl
    have h2 : hits changeTable "write" [tx c, tx s] z = false := rfl
    rw [h1, h2]
    simp only [mem_one, decide_eq_true_eq, List.not_mem_nil, Bool.false_eq_true]
  | @fetch _ _ c s hc hs =>
    have r : readsT need (.tup [tx "fetch", tx c, tx s]) = [] := by
      rw [readsT_k]
      rw [if_neg (by decide), if_neg (by decide), if_neg (by decide)]
    have c' : chgT (.tup [tx "fetch", tx c, tx s]) = [s] := by
      rw [chgT_k]
      rw [if_neg (by decide), if_pos (by decide)]
      rfl
    show _ = useR (useL z d) "fetch" [tx c, tx s] z
    rw [r, c', useR_flat (by decide) (by decide)]
    have h1 : hits readTable "fetch" [tx c, tx s] z = false := rfl
    have h2 : hits changeTable "fetch" [tx c, tx s] z = decide (s = z) := rfl
    rw [h1, h2]
    simp only [mem_one, decide_eq_true_eq, List.not_mem_nil, Bool.false_eq_true, if_false]
  | @map _ _ s u tb hs hu htb =>
    have r : readsT need (.tup [tx "map", tx s, tx u, .tup (tb.map tx)]) = [u] := by
      rw [readsT_k]
      rw [if_neg (by decide), if_pos (by decide)]
      rfl
    have c' : chgT (.tup [tx "map", tx s, tx u, .tup (tb.map tx)]) = [s] := by
      rw [chgT_k]
      rw [if_pos (by decide), if_neg (by decide)]
      rfl
    show _ = useR (useL z d) "map" [tx s, tx u, .tup (tb.map tx)] z
    rw [r, c', useR_flat (by decide) (by decide)]
    have h1 : hits readTable "map" [tx s, tx u, .tup (tb.map tx)] z = decide (u = z) := rfl
    have h2 : hits changeTable "map" [tx s, tx u, .tup (tb.map tx)] z = decide (s = z) := rfl
    rw [h1, h2]
    simp only [mem_one, decide_eq_true_eq]
  | @put _ _ s w hs hw =>
    have r : readsT need (.tup [tx "put", tx s, tx w]) = [] := by
      rw [readsT_k]
      rw [if_neg (by decide), if_neg (by decide), if_neg (by decide)]
    have c' : chgT (.tup [tx "put", tx s, tx w]) = [s] := by
      rw [chgT_k]
      rw [if_pos (by decide), if_neg (by decide)]
      rfl
    show _ = useR (useL z d) "put" [tx s, tx w] z
    rw [r, c', useR_flat (by decide) (by decide)]
    have h1 : hits readTable "put" [tx s, tx w] z = false := rfl
    have h2 : hits changeTable "put" [tx s, tx w] z = decide (s = z) := rfl
    rw [h1, h2]
    simp only [mem_one, decide_eq_true_eq, List.not_mem_nil, Bool.false_eq_true, if_false]
  | iff _ _ _ _ _ => exact absurd rfl hk
  | @later _ xs h3 =>
    have r : readsT need (.tup [tx "later", .tup xs]) = need xs := by
      rw [readsT_k]
      rw [if_pos (by decide)]
      rfl
    have c' : chgT (.tup [tx "later", .tup xs]) = [] := by
      rw [chgT_k]
      rw [if_neg (by decide), if_neg (by decide)]
      rfl
    show _ = useR (useL z d) "later" [.tup xs] z
    rw [r, c', useR_later, use_fuel d 9 false 1 xs hf.later h9 h3]
    simp only [hn xs h3, List.not_mem_nil, if_false]
theorem gen_ans {W : Wd} {need : List Tr → List Str} {z : Str} (hn : ∀ xs, (∀ t ∈ xs, GRow W false 1 t) → (z ∈ need xs ↔ useL z 9 xs = some true)) : ∀ (d : Nat) (b : Bool) (dp : Int) (ts : List Tr), FC b dp d → d ≤ 9 → (∀ t ∈ ts, GRow W b dp t) → Ans need z (waysW d ts) (useL z d ts)
  | 0, _, _, _, h, _, _ => by have := h.pos; omega
  | d + 1, b, dp, ts, h, h9, hg => by
    refine Ans.fold (rec := waysW d) (f := fun t => useR (useL z d) (kOf t) (itemsOf t).tail z) ts [[]] none Ans.nil fun t ht => ?_
    have hgt := hg t ht
    by_cases hk : kOf t = "if"
    · unfold armsW
      rw [if_pos hk]
      cases hgt with
      | @iff _ _ s w xs ys _ _ h2 h3 h4 =>
        have a := gen_ans hn d false (dp + 1) xs (h.iff h2) (by omega) h3
        have b := gen_ans hn d false (dp + 1) ys (h.iff h2) (by omega) h4
        show Ans need z _ (useR (useL z d) "if" [tx s, tx w, .tup xs, .tup ys] z)
        rw [useR_if]
        exact Ans.arms (s := s) a b
      | say _ => exact absurd (show ("say" : Str) = "if" from hk) (by decide)
      | set _ _ => exact absurd (show ("set" : Str) = "if" from hk) (by decide)
      | turn _ _ => exact absurd (show ("turn" : Str) = "if" from hk) (by decide)
      | write _ _ => exact absurd (show ("write" : Str) = "if" from hk) (by decide)
      | fetch _ _ => exact absurd (show ("fetch" : Str) = "if" from hk) (by decide)
      | map _ _ _ => exact absurd (show ("map" : Str) = "if" from hk) (by decide)
      | put _ _ => exact absurd (show ("put" : Str) = "if" from hk) (by decide)
      | later _ => exact absurd (show ("later" : Str) = "if" from hk) (by decide)
    · unfold armsW
      rw [if_neg hk]
      rw [← gen_use (need := need) h (by omega) hgt hk hn]
      exact Ans.one
/-- all that the ways read before they change it -/
def foundW (need : List Tr → List Str) (W : List (List Tr)) : List Str := (W.map fun way => wayF need way []).flatten
theorem found_iff {need : List Tr → List Str} {z : Str} {W : List (List Tr)} {u : Option Bool} (a : Ans need z W u) : z ∈ foundW need W ↔ u = some true := by
  rw [← a.read]
  unfold foundW
  rw [List.mem_flatten]
  constructor
  · rintro ⟨l, hl, h⟩
    obtain ⟨way, hw, rfl⟩ := List.mem_map.mp hl
    exact ⟨way, hw, ((wayF_iff need z way []).mp h).2⟩
  · rintro ⟨way, hw, h⟩
    exact ⟨_, List.mem_map.mpr ⟨way, hw, rfl⟩, (wayF_iff need z way []).mpr ⟨by simp, h⟩⟩
/-- a slot that is read is named -/
theorem use_named {W : Wd} {z : Str} {thr : List Str} (hthr : ∀ k ∈ ifsLater, k ∈ thr) : ∀ (d : Nat) (b : Bool) (dp : Int) (ts : List Tr) (path : List Int), (∀ t ∈ ts, GRow W b dp t) → useL z d ts = some true → ∃ q ∈ rowsW thr d ts path, z ∈ slotsOf q.2
  | 0, _, _, _, _, _, h => by cases h
  | d + 1, b, dp, ts, path, hg, h => by
    obtain ⟨t, ht, h⟩ := List.exists_of_findSome?_eq_some h
    obtain ⟨i, hi⟩ := List.mem_iff_getElem?.mp ht
    have here : z ∈ slotsOf t → ∃ q ∈ rowsW thr (d + 1) ts path, z ∈ slotsOf q.2 := fun hz => by
      refine ⟨(path ++ [(i : Int)], t), List.mem_flatten.mpr ⟨rowOut (rowsW thr d) path thr i t, List.mem_iff_getElem?.mpr ⟨i, by rw [List.getElem?_mapIdx, hi]; rfl⟩, ?_⟩, hz⟩
      unfold rowOut
      exact List.mem_cons_self ..
    have deep : ∀ (n : Nat) (xs : List Tr), (inn t)[n]? = some (.tup xs) → kOf t ∈ thr → (∃ q ∈ rowsW thr d xs (path ++ [(i : Int)] ++ [(n : Int)]), z ∈ slotsOf q.2) → ∃ q ∈ rowsW thr (d + 1) ts path, z ∈ slotsOf q.2 := fun n xs hn hk ⟨q, hq, hz⟩ => by
      refine ⟨q, List.mem_flatten.mpr ⟨rowOut (rowsW thr d) path thr i t, List.mem_iff_getElem?.mpr ⟨i, by rw [List.getElem?_mapIdx, hi]; rfl⟩, ?_⟩, hz⟩
      unfold rowOut
      rw [if_pos hk]
      exact List.mem_cons_of_mem _ (List.mem_flatten.mpr ⟨_, List.mem_iff_getElem?.mpr ⟨n, by rw [List.getElem?_mapIdx, hn]; rfl⟩, hq⟩)
    have flat : ∀ {k : Str} {us : List Tr} {s : Str}, k ≠ "if" → k ≠ "later" → useR (useL z d) k us z = some true → hits readTable k us z = decide (s = z) → s = z := fun {k us s} h1 h2 h3 h4 => by
      rw [useR_flat h1 h2, h4] at h3
      by_cases e : s = z
      · exact e
      · rw [decide_eq_false e, if_neg (by decide)] at h3
        split at h3 <;> cases h3
    have flat0 : ∀ {k : Str} {us : List Tr}, k ≠ "if" → k ≠ "later" → useR (useL z d) k us z = some true → hits readTable k us z = false → False := fun {k us} h1 h2 h3 h4 => by
      rw [useR_flat h1 h2, h4, if_neg (by decide)] at h3
      split at h3 <;> cases h3
    cases hg t ht with
    | @say _ _ s hs =>
      have e := flat (us := [tx s]) (s := s) (by decide : ("say" : Str) ≠ "if") (by decide) h rfl
      exact here (by rw [← e]; exact List.mem_singleton.mpr rfl)
    | @set _ _ c s hc hs =>
      have e := flat (us := [tx c, tx s]) (s := s) (by decide : ("set" : Str) ≠ "if") (by decide) h rfl
      exact here (by rw [← e]; show s ∈ [c, s]; simp)
    | @turn _ _ c tb hc htb => exact (flat0 (us := [tx c, .tup (tb.map tx)]) (by decide : ("turn" : Str) ≠ "if") (by decide) h rfl).elim
    | @write _ _ c s hc hs =>
      have e := flat (us := [tx c, tx s]) (s := s) (by decide : ("write" : Str) ≠ "if") (by decide) h rfl
      exact here (by rw [← e]; exact List.mem_singleton.mpr rfl)
    | @fetch _ _ c s hc hs => exact (flat0 (us := [tx c, tx s]) (by decide : ("fetch" : Str) ≠ "if") (by decide) h rfl).elim
    | @map _ _ s u tb hs hu htb =>
      have e := flat (us := [tx s, tx u, .tup (tb.map tx)]) (s := u) (by decide : ("map" : Str) ≠ "if") (by decide) h rfl
      exact here (by rw [← e]; show u ∈ [s, u]; simp)
    | @put _ _ s w hs hw => exact (flat0 (us := [tx s, tx w]) (by decide : ("put" : Str) ≠ "if") (by decide) h rfl).elim
    | @iff _ _ s w xs ys _ _ h2 h3 h4 =>
      have h : useR (useL z d) "if" [tx s, tx w, .tup xs, .tup ys] z = some true := h
      rw [useR_if] at h
      by_cases e : s = z
      · exact here (by rw [← e]; exact List.mem_singleton.mpr rfl)
      · rw [if_neg e] at h
        have hor : useL z d xs = some true ∨ useL z d ys = some true := by
          unfold eitherU at h
          split at h
          · assumption
          · rename_i hno
            split at h
            · exact absurd (.inl h) hno
            · cases h
        rcases hor with h | h
        · exact deep 0 xs rfl (hthr _ (show ("if" : Str) ∈ ifsLater by decide)) (use_named hthr d false (dp + 1) xs _ h3 h)
        · exact deep 1 ys rfl (hthr _ (show ("if" : Str) ∈ ifsLater by decide)) (use_named hthr d false (dp + 1) ys _ h4 h)
    | @later _ xs h3 =>
      have h : useR (useL z d) "later" [.tup xs] z = some true := h
      rw [useR_later] at h
      by_cases e : useL z d xs = some true
      · exact deep 0 xs rfl (hthr _ (show ("later" : Str) ∈ ifsLater by decide)) (use_named hthr d false 1 xs _ h3 e)
      · rw [if_neg e] at h
        cases h
end CA
namespace CA
open PySem L2
/-! ### how many ways there are, and how long they are -/
theorem ways_snoc (d : Nat) (ts : List Tr) (t : Tr) : waysW (d + 1) (ts ++ [t]) = joinW (waysW (d + 1) ts) (armsW (waysW d) t) := by
  show (ts ++ [t]).foldl _ _ = _
  rw [List.foldl_append]
  rfl
structure WB (W : List (List Tr)) (n : Nat) : Prop where
  len : W.length ≤ 2 ^ n
  each : ∀ way ∈ W, way.length ≤ n
theorem joinW_len (W arms : List (List Tr)) : (joinW W arms).length = W.length * arms.length := by
  unfold joinW
  induction W with
  | nil => simp
  | cons a W ih => rw [List.map_cons, List.flatten_cons, List.length_append, ih, List.length_map, List.length_cons, Nat.succ_mul, Nat.add_comm]
theorem WB.join {W arms : List (List Tr)} {m n : Nat} (a : WB W m) (b : WB arms n) : WB (joinW W arms) (m + n) := by
  refine ⟨?_, fun way hw => ?_⟩
  · rw [joinW_len, Nat.pow_add]
    exact Nat.mul_le_mul a.len b.len
  · unfold joinW at hw
    obtain ⟨l, hl, hw⟩ := List.mem_flatten.mp hw
    obtain ⟨x, hx, rfl⟩ := List.mem_map.mp hl
    obtain ⟨y, hy, rfl⟩ := List.mem_map.mp hw
    rw [List.length_append]
    have := a.each x hx
    have := b.each y hy
    omega
def wtT (n : Nat) (t : Tr) : Nat := (rowOut (rowsW ifsLater 8) [] ifsLater n t).length
theorem ways_wb {W : Wd} (ok : W.Ok) : ∀ (d : Nat) (b : Bool) (dp : Int) (ts : List Tr), FC b dp d → d ≤ 9 → (∀ t ∈ ts, GRow W b dp t) → WB (waysW d ts) (cnt ts) ∧ ∀ t ∈ ts, ∀ n, ∀ d', d = d' + 1 → WB (armsW (waysW d') t) (wtT n t)
  | 0, _, _, _, h, _, _ => by have := h.pos; omega
  | d + 1, b, dp, ts, h, h9, hg => by
    have arm : ∀ t ∈ ts, ∀ n, ∀ d', d + 1 = d' + 1 → WB (armsW (waysW d') t) (wtT n t) := by
      intro t ht n d' hd
      obtain rfl : d' = d := by omega
      have hgt := hg t ht
      by_cases hk : kOf t = "if"
      · unfold armsW
        rw [if_pos hk]
        cases hgt with
        | @iff _ _ s w xs ys _ _ h2 h3 h4 =>
          have f := h.iff h2
          have sx := (gen_val ok (es := []) _ false (dp + 1) "body" xs f (by decide) (fun e => by cases e) h3).val.shp
          have sy := (gen_val ok (es := []) _ false (dp + 1) "body" ys f (by decide) (fun e => by cases e) h4).val.shp
          have a := (ways_wb ok d' false (dp + 1) xs f (by omega) h3).1
          have b := (ways_wb ok d' false (dp + 1) ys f (by omega) h4).1
          have e : wtT n (.tup [tx "if", tx s, tx w, .tup xs, .tup ys]) = 1 + cnt xs + cnt ys := cnt_if n sx sy (by omega)
          rw [e]
          show WB ((waysW d' xs).map (fun way => [sayT s] ++ way) ++ (waysW d' ys).map (fun way => [sayT s] ++ way)) _
          refine ⟨?_, fun way hw => ?_⟩
          · rw [List.length_append, List.length_map, List.length_map]
            have p1 : 2 ^ cnt xs ≤ 2 ^ (cnt xs + cnt ys) := Nat.pow_le_pow_right (by decide) (by omega)
            have p2 : 2 ^ cnt ys ≤ 2 ^ (cnt xs + cnt ys) := Nat.pow_le_pow_right (by decide) (by omega)
            have p3 : 2 ^ (1 + cnt xs + cnt ys) = 2 ^ (cnt xs + cnt ys) * 2 := by
              rw [show 1 + cnt xs + cnt ys = (cnt xs + cnt ys) + 1 by omega, Nat.pow_succ]
            have := a.len
            have := b.len
            omega
          · rcases List.mem_append.mp hw with hw | hw
            · obtain ⟨x, hx, rfl⟩ := List.mem_map.mp hw
              have := a.each x hx
              rw [List.length_append]
              show 1 + _ ≤ _
              omega
            · obtain ⟨x, hx, rfl⟩ := List.mem_map.mp hw
              have := b.each x hx
              rw [List.length_append]
              show 1 + _ ≤ _
              omega
        | say _ => exact absurd (show ("say" : Str) = "if" from hk) (by decide)
        | set _ _ => exact absurd (show ("set" : Str) = "if" from hk) (by decide)
        | turn _ _ => exact absurd (show ("turn" : Str) = "if" from hk) (by decide)
        | write _ _ => exact absurd (show ("write" : Str) = "if" from hk) (by decide)
        | fetch _ _ => exact absurd (show ("fetch" : Str) = "if" from hk) (by decide)
        | map _ _ _ => exact absurd (show ("map" : Str) = "if" from hk) (by decide)
        | put _ _ => exact absurd (show ("put" : Str) = "if" from hk) (by decide)
        | later _ => exact absurd (show ("later" : Str) = "if" from hk) (by decide)
      · unfold armsW
        rw [if_neg hk]
        have h1 : 1 ≤ wtT n t := by
          unfold wtT rowOut
          rw [List.length_cons]
          omega
        refine ⟨?_, fun way hw => ?_⟩
        · exact Nat.one_le_two_pow
        · rw [List.mem_singleton] at hw
          rw [hw]
          exact h1
    refine ⟨?_, arm⟩
    have pre : ∀ n, n ≤ ts.length → WB (waysW (d + 1) (ts.take n)) (cnt (ts.take n)) := by
      intro n
      induction n with
      | zero => exact fun _ => ⟨Nat.le_refl 1, fun way hw => by
          have hw : way ∈ [([] : List Tr)] := hw
          rw [List.mem_singleton] at hw
          rw [hw]
          exact Nat.zero_le _⟩
      | succ n ih =>
        intro hn
        have hlt : n < ts.length := by omega
        have e : ts.take (n + 1) = ts.take n ++ [ts[n]] := by rw [List.take_add_one, List.getElem?_eq_getElem hlt]; rfl
        rw [e, ways_snoc, cnt_snoc]
        exact (ih (by omega)).join (arm _ (List.getElem_mem hlt) _ d rfl)
    have := pre ts.length (Nat.le_refl _)
    rw [List.take_length] at this
    exact this
theorem cnt_take_le (ts : List Tr) (n : Nat) : cnt (ts.take n) ≤ cnt ts := by
  have h : ∀ (a b : List Tr), cnt a ≤ cnt (a ++ b) := fun a b => by
    show ((List.mapIdx _ a).flatten).length ≤ ((List.mapIdx _ (a ++ b)).flatten).length
    rw [List.mapIdx_append, List.flatten_append, List.length_append]
    omega
  have := h (ts.take n) (ts.drop n)
  rw [List.take_append_drop] at this
  exact this
theorem cnt_at_le (ts : List Tr) (n : Nat) (t : Tr) (h : ts[n]? = some t) : cnt (ts.take n) + wtT (ts.take n).length t ≤ cnt ts := by
  have e : ts.take (n + 1) = ts.take n ++ [t] := by rw [List.take_add_one, h]; rfl
  have := cnt_take_le ts (n + 1)
  rw [e, cnt_snoc] at this
  exact this
/-! ### lists of ways in the heap -/
inductive WL (H : Hp) : List V → List (List Tr) → Prop
  | nil : WL H [] []
  | cons {q : Addr} {us vs : List V} {way : List Tr} {W : List (List Tr)} : H q = some (.lst us) → TwL H us way → WL H vs W → WL H (.ref q :: vs) (way :: W)
theorem WL.same {H H' : Hp} (s : Same H H') : ∀ {vs W}, WL H vs W → WL H' vs W
  | _, _, .nil => .nil
  | _, _, .cons e t w => .cons (s _ _ e) (TwL.gr (Gr.of s) _ _ t) (WL.same s w)
theorem WL.len {H : Hp} : ∀ {vs W}, WL H vs W → vs.length = W.length
  | _, _, .nil => rfl
  | _, _, .cons _ _ w => by rw [List.length_cons, List.length_cons, WL.len w]
theorem WL.app {H : Hp} : ∀ {vs us : List V} {W U : List (List Tr)}, WL H vs W → WL H us U → WL H (vs ++ us) (W ++ U)
  | _, _, _, _, .nil, r => r
  | _, _, _, _, .cons e t w, r => .cons e t (WL.app w r)
theorem WL.get {H : Hp} : ∀ {vs : List V} {W : List (List Tr)} {i : Nat} {v : V}, WL H vs W → vs[i]? = some v → ∃ way q us, W[i]? = some way ∧ v = .ref q ∧ H q = some (.lst us) ∧ TwL H us way
  | _, _, _, _, .nil, h => by simp at h
  | _, _, 0, _, .cons e t w, h => by simp at h; subst h; exact ⟨_, _, _, rfl, rfl, e, t⟩
  | _, _, i + 1, _, .cons e t w, h => by
    obtain ⟨way, q, us, e1, r⟩ := WL.get (i := i) w (by simpa using h)
    exact ⟨way, q, us, by simpa using e1, r⟩
theorem wl_upd {H : Hp} {D : Addr} {o : HO} (g : Gr H (upd H D o)) : ∀ {vs : List V} {W : List (List Tr)}, WL H vs W → (∀ v ∈ vs, v ≠ .ref D) → WL (upd H D o) vs W
  | _, _, .nil, _ => .nil
  | _, _, .cons (q := q) e t w, h => .cons (by
      have n : q ≠ D := fun z => h _ (List.mem_cons_self ..) (by rw [z])
      rw [upd_ne n]
      exact e) (TwL.gr g _ _ t) (wl_upd g w fun v hv => h v (List.mem_cons_of_mem _ hv))
/-- [te for v in a list of ways], each te a new way -/
theorem lcm_ways {K : PySem.W.Frag} {wi : TI} {j : Nat} {te : TE} {vs : List Nat} {σ : L2.St} {H : Hp} {Q : VK} {Ws : List (List Tr)} {f : List Tr → List Tr} (hl : Ws.length ≤ 1000)
    (hwi : ∀ R' : It → Hp → Prop, (∀ p1 H1 ls, Same H H1 → H1 p1 = some (.lst ls) → WL H1 ls Ws → R' (Itl K p1) H1) → wi σ H R')
    (hj : ∀ x, wipe ((wipe σ vs).set j (some x)) vs = wipe σ vs)
    (he : ∀ way ∈ Ws, ∀ (q : Addr) (us : List V) (H' : Hp) (Q' : VK), Same H H' → H' q = some (.lst us) → TwL H' us way → (∀ (q' : Addr) (us' : List V) (H'' : Hp), Same H' H'' → H' q' = none → H'' q' = some (.lst us') → TwL H'' us' (f way) → Q' (.ref q') H'') → te ((wipe σ vs).set j (some (.ref q))) H' Q')
    (q : ∀ (D : Addr) (H' : Hp) (ls : List V), Same H H' → H D = none → H' D = some (.lst ls) → WL H' ls (Ws.map f) → Q (.ref D) H') : tLc wi (gName j) tYes te vs σ H Q := by
  refine hwi _ fun p1 H1 ls s1 e1 w1 D hD => ?_
  have hDH : H D = none := by
    cases e : H D with
    | none => rfl
    | some o => rw [s1 _ _ e] at hD; cases hD
  have lw := w1.len
  refine walk_list (xs := ls) (fun i H' => Same H1 H' ∧ ∃ ms, H' D = some (.lst ms) ∧ WL H' ms ((Ws.take i).map f) ∧ ∀ v ∈ ms, v ≠ .ref D) ⟨same_new hD _, [], upd_same, by rw [List.take_zero]; exact .nil, fun _ h => by cases h⟩ (fun i H' _ pv => SqL.of (pv.1 _ _ e1)) (fun i x H' hx pv => ?_) (fun H' pv => ?_)
  · obtain ⟨sm, ms, hDs, hms, hnd⟩ := pv
    obtain ⟨way, qa, us, hw, rfl, hq, hus⟩ := w1.get hx
    have lm := hms.len
    rw [List.length_map, List.length_take] at lm
    unfold gName
    refine ⟨hj _, ?_⟩
    unfold tYes
    refine iteT ?_
    refine he way (List.mem_of_getElem? hw) qa us H' _ (fun c o e => sm _ _ (s1 _ _ e)) (sm _ _ hq) (TwL.gr (Gr.of sm) _ _ hus) fun q2 us2 H2 s2 n2 e2 w2 => ?_
    have nq : q2 ≠ D := fun e => by rw [e, hDs] at n2; cases n2
    have hD2 := s2 _ _ hDs
    refine ⟨_, hD2, Nat.lt_of_le_of_lt (show _ ≤ 1000 by omega) (by decide), same_upd hD (fun c o e => s2 _ _ (sm _ _ e)), ms ++ [.ref q2], upd_same, ?_⟩
    have hnd2 : ∀ v ∈ ms ++ [V.ref q2], v ≠ .ref D := fun v hv => by
      rcases List.mem_append.mp hv with hv | hv
      · exact hnd v hv
      · rw [List.mem_singleton] at hv
        rw [hv]
        exact fun e => nq (by injection e)
    refine ⟨?_, hnd2⟩
    rw [List.take_add_one, hw, List.map_append]
    exact wl_upd (gr_list hD2) ((hms.same s2).app (.cons e2 w2 .nil)) hnd2
  · obtain ⟨sm, ms, hDs, hms, _⟩ := pv
    rw [List.take_of_length_le (by omega)] at hms
    exact q D H' ms (fun c o e => sm _ _ (s1 _ _ e)) hDH hDs hms
end CA
namespace CA
open PySem L2
def spWays (W : Wd) (d : Nat) : Sp := fun vs H Q _ => ∃ (rv : V) (ts : List Tr) (b : Bool) (dp : Int), vs = [rv] ∧ Tw H rv (.tup ts) ∧ FC b dp d ∧ (∀ t ∈ ts, GRow W b dp t) ∧ cnt ts ≤ 8 ∧ ∀ (p : Addr) (H' : Hp) (ls : List V), Same H H' → H p = none → H' p = some (.lst ls) → WL H' ls (waysW d ts) → Q (.ref p) H'
structure TxtWy (K : PySem.W.Frag) (mg : Str → Option Value) (fw : Addr) : Prop where
  g__law_ways : mg "_law_ways" = some (.ref fw)
  k__law_ways : PySem.W.keepIn K (.ref fw) = true
theorem pow8 {n : Nat} (h : n ≤ 8) : 2 ^ n ≤ 256 := Nat.le_trans (Nat.pow_le_pow_right (by decide) h) (by decide)
theorem grow_if {W : Wd} {b : Bool} {dp : Int} {t : Tr} (h : GRow W b dp t) (hk : kOf t = "if") : ∃ s w ts us, t = .tup [tx "if", tx s, tx w, .tup ts, .tup us] ∧ s ∈ W.slots ∧ dp ≤ 2 ∧ (∀ t ∈ ts, GRow W false (dp + 1) t) ∧ (∀ t ∈ us, GRow W false (dp + 1) t) := by
  cases h with
  | @iff _ _ s w xs ys hs _ h2 h3 h4 => exact ⟨s, w, xs, ys, rfl, hs, h2, h3, h4⟩
  | say _ => exact absurd (show ("say" : Str) = "if" from hk) (by decide)
  | set _ _ => exact absurd (show ("set" : Str) = "if" from hk) (by decide)
  | turn _ _ => exact absurd (show ("turn" : Str) = "if" from hk) (by decide)
  | write _ _ => exact absurd (show ("write" : Str) = "if" from hk) (by decide)
  | fetch _ _ => exact absurd (show ("fetch" : Str) = "if" from hk) (by decide)
  | map _ _ _ => exact absurd (show ("map" : Str) = "if" from hk) (by decide)
  | put _ _ => exact absurd (show ("put" : Str) = "if" from hk) (by decide)
  | later _ => exact absurd (show ("later" : Str) = "if" from hk) (by decide)
/-- what is done behind the arms -/
theorem rest_ways {K : PySem.W.Frag} {D : Ends} {rv x2 : V} {p pA : Addr} {y3 y5 y6 : Option V} {H : Hp} {ls lA : List V} {Ws As : List (List Tr)} (hp : H p = some (.lst ls)) (hls : WL H ls Ws) (hA : H pA = some (.lst lA)) (hlA : WL H lA As) (b1 : Ws.length ≤ 256) (b2 : As.length ≤ 256) (e1 : ∀ way ∈ Ws, way.length ≤ 8) (e2 : ∀ way ∈ As, way.length ≤ 8)
    (q : ∀ (z3 z5 : Option V) (pN : Addr) (lN : List V) (HN : Hp), Same H HN → H pN = none → HN pN = some (.lst lN) → WL HN lN (joinW Ws As) → D.nx [some rv, some (.ref pN), some x2, z3, some (.ref pA), z5, y6] HN) :
    tSeq (tAsg (tLst tNil) (gName 5)) (tSeq (tFor (iList K (tVar 1)) (gName 3) (tAsg (tOp rCat (tVar 5) (tLc (iList K (tVar 4)) (gName 6) tYes (tOp rCat (tVar 3) (tVar 6)) [6])) (gName 5))) (tAsg (tVar 5) (gName 1))) D [some rv, some (.ref p), some x2, y3, some (.ref pA), y5, y6] H := by
  refine ⟨by decide, fun p5 hp5 => ?_⟩
  have s5 := same_new hp5 (.lst [])
  have ll := hls.len
  refine ⟨_, rfl, p, rfl, ⟨ls, SqL.of (s5 _ _ hp)⟩, for_list (K := K) (a := p) (xs := ls)
    (fun i σ H' => ∃ z3 pL lL, σ = [some rv, some (.ref p), some x2, z3, some (.ref pA), some (.ref pL), y6] ∧ Same H H' ∧ H pL = none ∧ H' pL = some (.lst lL) ∧ WL H' lL (joinW (Ws.take i) As))
    ⟨y3, p5, [], rfl, s5, hp5, upd_same, by rw [List.take_zero]; exact .nil⟩ (fun i σ H' _ ⟨_, _, _, _, sm, _⟩ => SqL.of (sm _ _ hp)) (fun i x σ H' hx pv => ?_) (fun σ H' pv => ?_)⟩
  · obtain ⟨z3, pL, lL, rfl, sm, npL, hpL, hlL⟩ := pv
    obtain ⟨way, qw, uw, hway, rfl, hqw, huw⟩ := (hls.same sm).get hx
    have hwm := List.mem_of_getElem? hway
    have lw := e1 way hwm
    have lL' := hlL.len
    have lT : (Ws.take i).length ≤ 256 := by rw [List.length_take]; omega
    have lJ : (joinW (Ws.take i) As).length ≤ 65536 := by
      rw [joinW_len]
      exact Nat.mul_le_mul lT b2
    refine ⟨_, rfl, ?_⟩
    refine lcm_ways (K := K) (j := 6) (vs := [6]) (Ws := As) (f := fun arm => way ++ arm) (by omega) (fun R' h => ?_) (fun _ => rfl) (fun arm harm qa us H2 Q2 s2 e2' w2 kk => ?_) fun Dn H3 lsD s3 nD eD wD => ?_
    · exact ⟨_, rfl, pA, rfl, ⟨lA, SqL.of (sm _ _ hA)⟩, h pA H' lA (fun _ _ e => e) (sm _ _ hA) (hlA.same sm)⟩
    · have l2 := e2 arm harm
      have t1 := huw.len
      have t2 := w2.len
      refine ⟨_, rfl, _, rfl, qw, qa, uw, us, rfl, rfl, s2 _ _ hqw, e2', Nat.le_trans (show _ ≤ 16 by omega) (by decide), fun pn hpn => ?_⟩
      have sn := same_new hpn (.lst (uw ++ us))
      exact kk pn _ _ sn hpn upd_same (TwL.app (TwL.gr ((Gr.of s2).trans (Gr.of sn)) _ _ huw) (TwL.gr (Gr.of sn) _ _ w2))
    · have lD := wD.len
      rw [List.length_map] at lD
      refine ⟨pL, Dn, lL, lsD, rfl, rfl, s3 _ _ hpL, eD, Nat.le_trans (show _ ≤ 70000 by omega) (by decide), fun pn hpn => ?_⟩
      have sn := same_new hpn (.lst (lL ++ lsD))
      have npn : H pn = none := by
        cases e : H pn with
        | none => rfl
        | some o => rw [s3 _ _ (sm _ _ e)] at hpn; cases hpn
      refine ⟨_, pn, lL ++ lsD, rfl, fun c o e => sn _ _ (s3 _ _ (sm _ _ e)), npn, upd_same, ?_⟩
      have ej : joinW (Ws.take (i + 1)) As = joinW (Ws.take i) As ++ As.map (fun arm => way ++ arm) := by
        unfold joinW
        rw [List.take_add_one, hway, List.map_append, List.flatten_append]
        simp
      rw [ej]
      exact ((hlL.same s3).same sn).app (wD.same sn)
  · obtain ⟨z3, pL, lL, rfl, sm, npL, hpL, hlL⟩ := pv
    have e : Ws.take ls.length = Ws := List.take_of_length_le (by omega)
    rw [e] at hlL
    exact ⟨_, rfl, q _ _ pL lL H' sm npL hpL hlL⟩
section
variable {P : Program} {w : World} {K : PySem.W.Frag} {mg : Str → Option Value} {base : Heap} {fw : Addr}
abbrev s__law_ways : Stmt := topS 65
theorem sc__law_ways : FnScope ["_law_rows", "_law_ways_here", "_law_row", "_law_way", "_law_arms", "_law_longer", "_law_arm"] ["_law_rows"] (defScope s__law_ways) := ⟨rfl, rfl, rfl, by decide +kernel, rfl, by decide +kernel, by decide +kernel⟩
theorem ok__law_ways_step {W : Wd} (ok : W.Ok) {d k : Nat} (h9 : d + 1 ≤ 9) {fd : FuncData} (F : Fun K "_law_ways" "_law_ways" s__law_ways fw fd) (T : TxtWy K mg fw) (Gw : FnOk P w K mg base CX0 k fw fd ["_law_rows"] (spWays W d)) (bw : Binds K fd ["_law_rows"] []) :
    FnOk P w K mg base CX0 (k + 1) fw fd ["_law_rows"] (spWays W (d + 1)) := by
  refine F.ok sc__law_ways (fun vs H Q E h => ?_) (fun cdv A outer s H vs Q E hr h => ?_)
  · obtain ⟨rv, ts, b, dp, rfl, _⟩ := h
    rfl
  obtain ⟨rv, ts, b, dp, rfl, wt, fc, hg, hc8, q⟩ := h
  refine ⟨_, (pss_cons (ps_set (i := 1) sc__law_ways.nd rfl (Or.inl rfl) (pe_lst (pa_cons (pe_lst pa_nil) pa_nil)))
  (pss_cons (ps_for PassesOwn.never rfl (pi_tup (pv 0)) (pg_name (i := 2) sc__law_ways.nd rfl (Or.inr rfl))
    (pss_cons (ps_if (pt_cmpR op_eq (pe_ix ix_tup (pv 2) pe_int (fun _ _ => rfl)) pe_str (nomark _))
        (pss_cons (ps_setLc (i := 4) (own := [("_law_way", 3)]) (g := gName 3) (tt := tYes) (te := tOp rCat (tLst (tCons (tTup (tCons (tC (.str "say")) (tCons (tOp (rIxT K) (tVar 2) (tC (.int 1))) tNil))) tNil)) (tVar 3)) rfl sc__law_ways.nd rfl rfl rfl
            (pi_list (pe_call Gw hr rfl T.g__law_ways T.k__law_ways bw .nil pass0 (pa_cons (pe_ix ix_tup (pv 2) pe_int (fun _ _ => rfl)) pa_nil)))
            (blkOk_by (own := [("_law_way", 3)]) (N := ["_law_rows", "_law_ways_here", "_law_row", "_law_way", "_law_arms", "_law_longer", "_law_arm"]) (sc := defScope s__law_ways) (by decide +kernel))
            (fun s H C cl fp => pg_name (i := 3) sc__law_ways.nd rfl (Or.inl rfl)) (fun s H C cl fp => pts_nil) (fun s H C cl fp => pe_op op_cat (pe_lst (pa_cons (pe_tup (pa_cons pe_str (pa_cons (pe_ix ix_tup (pv 2) pe_int (fun _ _ => rfl)) pa_nil))) pa_nil)) (pv 3)))
          (pss_one (ps_set (i := 4) sc__law_ways.nd rfl (Or.inl rfl) (pe_op op_cat (pv 4)
            (pe_lc (own := [("_law_way", 3)]) (g := gName 3) (tt := tYes) (te := tOp rCat (tLst (tCons (tTup (tCons (tC (.str "say")) (tCons (tOp (rIxT K) (tVar 2) (tC (.int 1))) tNil))) tNil)) (tVar 3)) rfl sc__law_ways.nd
              (pi_list (pe_call Gw hr rfl T.g__law_ways T.k__law_ways bw .nil pass0 (pa_cons (pe_ix ix_tup (pv 2) pe_int (fun _ _ => rfl)) pa_nil)))
              (blkOk_by (own := [("_law_way", 3)]) (N := ["_law_rows", "_law_ways_here", "_law_row", "_law_way", "_law_arms", "_law_longer", "_law_arm"]) (sc := defScope s__law_ways) (by decide +kernel))
              (fun s H C cl fp => pg_name (i := 3) sc__law_ways.nd rfl (Or.inl rfl)) (fun s H C cl fp => pts_nil) (fun s H C cl fp => pe_op op_cat (pe_lst (pa_cons (pe_tup (pa_cons pe_str (pa_cons (pe_ix ix_tup (pv 2) pe_int (fun _ _ => rfl)) pa_nil))) pa_nil)) (pv 3)))))))
        (pss_one (ps_set (i := 4) sc__law_ways.nd rfl (Or.inl rfl) (pe_lst (pa_cons (pe_lst (pa_cons (pv 2) pa_nil)) pa_nil)))))
      (pss_cons (ps_set (i := 5) sc__law_ways.nd rfl (Or.inl rfl) (pe_lst pa_nil))
      (pss_cons (ps_for PassesOwn.never rfl (pi_list (pv 1)) (pg_name (i := 3) sc__law_ways.nd rfl (Or.inr rfl))
        (pss_one (ps_set (i := 5) sc__law_ways.nd rfl (Or.inl rfl) (pe_op op_cat (pv 5)
          (pe_lc (own := [("_law_arm", 6)]) (wi := iList K (tVar 4)) (g := gName 6) (tt := tYes) (te := tOp rCat (tVar 3) (tVar 6)) rfl sc__law_ways.nd (pi_list (pv 4))
            (blkOk_by (own := [("_law_arm", 6)]) (N := ["_law_rows", "_law_ways_here", "_law_row", "_law_way", "_law_arms", "_law_longer", "_law_arm"]) (sc := defScope s__law_ways) (by decide +kernel))
            (fun s H C cl fp => pg_name (i := 6) sc__law_ways.nd rfl (Or.inl rfl)) (fun s H C cl fp => pts_nil) (fun s H C cl fp => pe_op op_cat (pv 3) (pv 6)))))))
      (pss_one (ps_set (i := 1) sc__law_ways.nd rfl (Or.inl rfl) (pv 5)))))))
  (pss_one (ps_ret (pv 1))))), ?_⟩
  cases wt with
  | @tup a vs _ ha hl hb =>
  have ln := hl.len
  have wbs := ways_wb ok (d + 1) b dp ts fc h9 hg
  have pre : ∀ n, n ≤ ts.length → WB (waysW (d + 1) (ts.take n)) (cnt (ts.take n)) := fun n hn => (ways_wb ok (d + 1) b dp (ts.take n) fc h9 fun t ht => hg t (List.mem_of_mem_take ht)).1
  refine ⟨by decide, fun p1 hp1 => ⟨(show 1 ≤ sizeLine by decide), fun p2 hp2 => ?_⟩⟩
  have s1 := same_new hp1 (.lst [])
  have s2 := same_new hp2 (.lst [V.ref p1])
  refine ⟨_, rfl, a, rfl, ⟨vs, SqT.of (s2 _ _ (s1 _ _ ha))⟩, for_tup (K := K) (a := a) (xs := vs)
    (fun i σ H' => ∃ x2 x3 x4 x5 x6 p ls, σ = [some (.ref a), some (.ref p), x2, x3, x4, x5, x6] ∧ Same H H' ∧ H p = none ∧ H' p = some (.lst ls) ∧ WL H' ls (waysW (d + 1) (ts.take i)))
    ⟨none, none, none, none, none, p2, [.ref p1], rfl, fun c o e => s2 _ _ (s1 _ _ e), ?_, upd_same, .cons (s2 _ _ upd_same) .nil .nil⟩ (fun i σ H' _ ⟨_, _, _, _, _, _, _, _, sm, _⟩ => SqT.of (sm _ _ ha)) (fun i x σ H' hx pv => ?_) (fun σ H' pv => ?_)⟩
  · cases e : H p2 with
    | none => rfl
    | some o => rw [s1 _ _ e] at hp2; cases hp2
  · obtain ⟨x2, x3, x4, x5, x6, p, ls, rfl, sm, hpH, hp, hls⟩ := pv
    obtain ⟨t, ht, wx⟩ := hl.get hx
    have hgt := hg t (List.mem_of_getElem? ht)
    have hi := (List.getElem?_eq_some_iff.mp ht).1
    have eW : waysW (d + 1) (ts.take (i + 1)) = joinW (waysW (d + 1) (ts.take i)) (armsW (waysW d) t) := by
      rw [show ts.take (i + 1) = ts.take i ++ [t] by rw [List.take_add_one, ht]; rfl, ways_snoc]
    have hwb := pre i (by omega)
    have hab := wbs.2 t (List.mem_of_getElem? ht) (ts.take i).length d rfl
    have hcc := cnt_at_le ts i t ht
    have lW := hwb.len
    have lA := hab.len
    have b1 : 2 ^ cnt (ts.take i) ≤ 256 := pow8 (by omega)
    have b2 : 2 ^ wtT (ts.take i).length t ≤ 256 := pow8 (by omega)
    have wx := Tw.gr (Gr.of sm) _ _ wx
    obtain ⟨k', us, rfl⟩ : ∃ k us, t = .tup (tx k :: us) := by cases hgt <;> exact ⟨_, _, rfl⟩
    obtain ⟨ax, ux, rfl, hax, hux, hbx, nx⟩ := row_of wx
    have at0 : atI (V.str k' :: ux) 0 = some (.str k') := at_of (j := 0) rfl rfl
    have e1 : ∀ way ∈ waysW (d + 1) (ts.take i), way.length ≤ 8 := fun way hw => Nat.le_trans (hwb.each way hw) (by omega)
    have e2 : ∀ way ∈ armsW (waysW d) (.tup (tx k' :: us)), way.length ≤ 8 := fun way hw => Nat.le_trans (hab.each way hw) (by omega)
    have fin : ∀ (HA : Hp), Same H' HA → ∀ (y : Option V) (z3 z5 : Option V) (pA pN : Addr) (lN : List V) (HN : Hp), Same HA HN → HA pN = none → HN pN = some (.lst lN) → WL HN lN (joinW (waysW (d + 1) (ts.take i)) (armsW (waysW d) (.tup (tx k' :: us)))) →
        ∃ x2 x3 x4 x5 x6 p ls, [some (V.ref a), some (.ref pN), some (.ref ax), z3, some (.ref pA), z5, y] = [some (.ref a), some (.ref p), x2, x3, x4, x5, x6] ∧ Same H HN ∧ H p = none ∧ HN p = some (.lst ls) ∧ WL HN ls (waysW (d + 1) (ts.take (i + 1))) := fun HA sA y z3 z5 pA pN lN HN sN nN eN wN => by
      refine ⟨_, _, _, _, _, pN, lN, rfl, fun c o e => sN _ _ (sA _ _ (sm _ _ e)), ?_, eN, by rw [eW]; exact wN⟩
      cases e : H pN with
      | none => rfl
      | some o => rw [sA _ _ (sm _ _ e)] at nN; cases nN
    refine ⟨_, rfl, ax, _, 0, _, rfl, rfl, SqT.of hax, at0, rfl, _, rfl, ?_⟩
    rw [dec_str]
    by_cases hk : k' = "if"
    · subst hk
      obtain ⟨z, wd, xs, ys, et, hz, h2, h3, h4⟩ := grow_if hgt rfl
      injection et with et
      injection et with _ et
      subst et
      have fci := fc.iff h2
      have ew : wtT (ts.take i).length (.tup [tx "if", tx z, tx wd, .tup xs, .tup ys]) = 1 + cnt xs + cnt ys := by
        have sx := (gen_val ok (es := []) _ false (dp + 1) "body" xs fci (by decide) (fun e => by cases e) h3).val.shp
        have sy := (gen_val ok (es := []) _ false (dp + 1) "body" ys fci (by decide) (fun e => by cases e) h4).val.shp
        exact cnt_if _ sx sy (by omega)
      rw [ew] at hcc
      have nz := nmS_1000 (ok.slots z hz)
      obtain ⟨vz, hvz, wvz⟩ := hux.get' (i := 0) (t := tx z) rfl
      obtain ⟨v3, hv3, wv3⟩ := hux.get' (i := 2) (t := .tup xs) rfl
      obtain ⟨v4, hv4, wv4⟩ := hux.get' (i := 3) (t := .tup ys) rfl
      have evz : vz = .str z := by cases wvz; rfl
      subst evz
      have at1 : atI (V.str "if" :: ux) 1 = some (.str z) := at_of (j := 1) rfl (by simpa using hvz)
      have at3 : atI (V.str "if" :: ux) 3 = some v3 := at_of (j := 3) rfl (by simpa using hv3)
      have at4 : atI (V.str "if" :: ux) 4 = some v4 := at_of (j := 4) rfl (by simpa using hv4)
      have wb3 := (ways_wb ok d false (dp + 1) xs fci (by omega) h3).1
      have wb4 := (ways_wb ok d false (dp + 1) ys fci (by omega) h4).1
      have p3 : 2 ^ cnt xs ≤ 256 := pow8 (by omega)
      have p4 : 2 ^ cnt ys ≤ 256 := pow8 (by omega)
      have l3 := wb3.len
      have l4 := wb4.len
      -- one arm
      have arm : ∀ (W' : List (List Tr)) (HB : Hp), Same H' HB → (∀ way ∈ W', way.length ≤ 8) → ∀ way ∈ W', ∀ (qa : Addr) (us' : List V) (H2 : Hp) (Q2 : VK) (σ2 : L2.St), Same HB H2 → H2 qa = some (.lst us') → TwL H2 us' way → σ2[2]? = some (some (.ref ax)) → σ2[3]? = some (some (.ref qa)) → (∀ (q' : Addr) (us2 : List V) (H3 : Hp), Same H2 H3 → H2 q' = none → H3 q' = some (.lst us2) → TwL H3 us2 ([sayT z] ++ way) → Q2 (.ref q') H3) →
          tOp rCat (tLst (tCons (tTup (tCons (tC (.str "say")) (tCons (tOp (rIxT K) (tVar 2) (tC (.int 1))) tNil))) tNil)) (tVar 3) σ2 H2 Q2 := fun W' HB sB lW way hw qa us' H2 Q2 σ2 s2 e2' w2 g2 g3 kk => by
        have hax2 := s2 _ _ (sB _ _ hax)
        have lw' := lW way hw
        have t2 := w2.len
        refine ⟨_, g2, ax, _, 1, _, rfl, rfl, SqT.of hax2, at1, (show 2 ≤ sizeLine by decide), fun q1 hq1 => ⟨(show 1 ≤ sizeLine by decide), fun q2 hq2 => ?_⟩⟩
        have n1 := same_new hq1 (.tup [V.str "say", .str z])
        have n2 := same_new hq2 (.lst [V.ref q1])
        refine ⟨_, g3, q2, qa, _, us', rfl, rfl, upd_same, n2 _ _ (n1 _ _ e2'), Nat.le_trans (show 1 + us'.length ≤ 16 by omega) (by decide), fun q3 hq3 => ?_⟩
        have n3 := same_new hq3 (.lst ([V.ref q1] ++ us'))
        have S3 : Same H2 _ := fun c o e => n3 _ _ (n2 _ _ (n1 _ _ e))
        refine kk q3 _ _ S3 ?_ upd_same (TwL.app (.cons (.tup (n3 _ _ (n2 _ _ upd_same)) (.cons (tw_tx (by decide)) (.cons (tw_tx nz) .nil)) (Nat.le_of_ble_eq_true rfl)) .nil) (TwL.gr (Gr.of S3) _ _ w2))
        cases e : H2 q3 with
        | none => rfl
        | some o => rw [n2 _ _ (n1 _ _ e)] at hq3; cases hq3
      rw [decide_eq_true rfl]
      refine iteT ?_
      dsimp only [tSeq, tAsg]
      refine lcm_ways (K := K) (j := 3) (vs := [3]) (Ws := waysW d xs) (f := fun way => [sayT z] ++ way) (by omega) (fun R' h => ?_) (fun _ => rfl) (fun way hw qa us' H2 Q2 s2 e2' w2 kk => arm (waysW d xs) H' (fun _ _ e => e) (fun way hw => Nat.le_trans (wb3.each way hw) (by omega)) way hw qa us' H2 Q2 _ s2 e2' w2 rfl rfl kk) fun DA H3 lsA s3 nA eA wA => ?_
      · exact ⟨_, rfl, ax, _, 3, _, rfl, rfl, SqT.of hax, at3, v3, xs, false, dp + 1, rfl, wv3, fci, h3, by omega, fun p' H2 ls' s' n' e' w' => ⟨p', rfl, ⟨_, SqL.of e'⟩, h p' H2 ls' s' e' w'⟩⟩
      have hax3 := s3 _ _ hax
      dsimp only [gName]
      refine ⟨_, rfl, ?_⟩
      refine lcm_ways (K := K) (j := 3) (vs := [3]) (Ws := waysW d ys) (f := fun way => [sayT z] ++ way) (by omega) (fun R' h => ?_) (fun _ => rfl) (fun way hw qa us' H2 Q2 s2 e2' w2 kk => arm (waysW d ys) H3 s3 (fun way hw => Nat.le_trans (wb4.each way hw) (by omega)) way hw qa us' H2 Q2 _ s2 e2' w2 rfl rfl kk) fun DB H4 lsB s4 nB eB wB => ?_
      · exact ⟨_, rfl, ax, _, 4, _, rfl, rfl, SqT.of hax3, at4, v4, ys, false, dp + 1, rfl, Tw.gr (Gr.of s3) _ _ wv4, fci, h4, by omega, fun p' H2 ls' s' n' e' w' => ⟨p', rfl, ⟨_, SqL.of e'⟩, h p' H2 ls' s' e' w'⟩⟩
      have lA := wA.len
      have lB := wB.len
      rw [List.length_map] at lA lB
      refine ⟨DA, DB, lsA, lsB, rfl, rfl, s4 _ _ eA, eB, Nat.le_trans (show _ ≤ 600 by omega) (by decide), fun pn hpn => ?_⟩
      have s5 := same_new hpn (.lst (lsA ++ lsB))
      have SA : Same H' (upd H4 pn (.lst (lsA ++ lsB))) := fun c o e => s5 _ _ (s4 _ _ (s3 _ _ e))
      have wAB : WL (upd H4 pn (.lst (lsA ++ lsB))) (lsA ++ lsB) (armsW (waysW d) (.tup [tx "if", tx z, tx wd, .tup xs, .tup ys])) := ((wA.same s4).same s5).app (wB.same s5)
      exact rest_ways (K := K) (SA _ _ hp) (hls.same SA) upd_same wAB (by omega) (by omega) e1 e2 (fun z3 z5 pN lN HN sN nN eN wN => fin _ SA _ z3 z5 pn pN lN HN sN nN eN wN)
    · rw [decide_eq_false hk]
      refine iteF ?_
      refine ⟨_, rfl, (show 1 ≤ sizeLine by decide), fun q1 hq1 => ⟨(show 1 ≤ sizeLine by decide), fun q2 hq2 => ?_⟩⟩
      have n1 := same_new hq1 (.lst [V.ref ax])
      have n2 := same_new hq2 (.lst [V.ref q1])
      have SA : Same H' (upd (upd H' q1 (.lst [V.ref ax])) q2 (.lst [V.ref q1])) := fun c o e => n2 _ _ (n1 _ _ e)
      have wA : WL (upd (upd H' q1 (.lst [V.ref ax])) q2 (.lst [V.ref q1])) [V.ref q1] (armsW (waysW d) (.tup (tx k' :: us))) := by
        have e : armsW (waysW d) (.tup (tx k' :: us)) = [[.tup (tx k' :: us)]] := by
          unfold armsW
          exact if_neg hk
        rw [e]
        exact .cons (n2 _ _ upd_same) (.cons (Tw.gr (Gr.of SA) _ _ wx) .nil) .nil
      exact rest_ways (K := K) (SA _ _ hp) (hls.same SA) upd_same wA (by omega) (by omega) e1 e2 (fun z3 z5 pN lN HN sN nN eN wN => fin _ SA _ z3 z5 q2 pN lN HN sN nN eN wN)
  · obtain ⟨x2, x3, x4, x5, x6, p, ls, rfl, sm, hpH, hp, hls⟩ := pv
    have e : ts.take vs.length = ts := List.take_of_length_le (by omega)
    rw [e] at hls
    exact ⟨_, rfl, q p _ ls sm hpH hp hls⟩
theorem ok__law_ways {W : Wd} (ok : W.Ok) {fd : FuncData} (F : Fun K "_law_ways" "_law_ways" s__law_ways fw fd) (T : TxtWy K mg fw) (bw : Binds K fd ["_law_rows"] []) : ∀ d : Nat, d ≤ 9 → FnOk P w K mg base CX0 (d + 1) fw fd ["_law_rows"] (spWays W d)
  | 0, _ => by
    have no : ∀ vs H Q E, ¬ spWays W 0 vs H Q E := fun vs H Q E h => by
      obtain ⟨_, _, _, _, _, _, z, _⟩ := h
      have := z.pos
      omega
    refine ⟨?_, ?_⟩
    · intro vs H Q E h
      exact (no _ _ _ _ h).elim
    · intros
      rename_i h
      exact (no _ _ _ _ h).elim
  | d + 1, h => ok__law_ways_step ok h F T (ok__law_ways ok F T bw d (by omega)) bw
end
end CA
namespace CA
open PySem L2
def gT (t : Tr) : Nat := if kOf t = "later" then cnt (rowsT t 1) else 1
structure WS (W : Wd) (b : Bool) (n : Nat) (way : List Tr) : Prop where
  sum : (way.map gT).sum ≤ n
  rows : ∀ t ∈ way, ∃ b' dp', GRow W b' dp' t ∧ (b' = true → b = true) ∧ kOf t ≠ "if"
theorem WS.app {W : Wd} {b : Bool} {m n : Nat} {x y : List Tr} (a : WS W b m x) (c : WS W b n y) : WS W b (m + n) (x ++ y) := by
  refine ⟨?_, fun t ht => ?_⟩
  · rw [List.map_append, List.sum_append]
    have := a.sum
    have := c.sum
    omega
  · rcases List.mem_append.mp ht with ht | ht
    · exact a.rows t ht
    · exact c.rows t ht
theorem WS.mono {W : Wd} {b : Bool} {m n : Nat} {x : List Tr} (a : WS W b m x) (h : m ≤ n) : WS W b n x := ⟨Nat.le_trans a.sum h, a.rows⟩
theorem grow_flat {W : Wd} {b : Bool} {dp : Int} {t : Tr} (h : GRow W b dp t) (hk : kOf t ≠ "if") : (b = true → True) ∧ ∀ n, gT t ≤ wtT n t ∨ kOf t = "later" := by
  refine ⟨fun _ => trivial, fun n => ?_⟩
  by_cases hl : kOf t = "later"
  · exact .inr hl
  · left
    unfold gT wtT rowOut
    rw [if_neg hl, List.length_cons]
    omega
theorem ways_sum {W : Wd} (ok : W.Ok) : ∀ (d : Nat) (b : Bool) (dp : Int) (ts : List Tr), FC b dp d → d ≤ 9 → (∀ t ∈ ts, GRow W b dp t) → ∀ way ∈ waysW d ts, WS W b (cnt ts) way
  | 0, b, dp, ts, h, _, _ => by have := h.pos; omega
  | d + 1, b, dp, ts, h, h9, hg => by
    have arm : ∀ t ∈ ts, ∀ n, ∀ way ∈ armsW (waysW d) t, WS W b (wtT n t) way := by
      intro t ht n way hw
      have hgt := hg t ht
      by_cases hk : kOf t = "if"
      · obtain ⟨s, w, xs, ys, rfl, hs, h2, h3, h4⟩ := grow_if hgt hk
        have f := h.iff h2
        have sx := (gen_val ok (es := []) _ false (dp + 1) "body" xs f (by decide) (fun e => by cases e) h3).val.shp
        have sy := (gen_val ok (es := []) _ false (dp + 1) "body" ys f (by decide) (fun e => by cases e) h4).val.shp
        have e : wtT n (.tup [tx "if", tx s, tx w, .tup xs, .tup ys]) = 1 + cnt xs + cnt ys := cnt_if n sx sy (by omega)
        rw [e]
        have hw : way ∈ (waysW d xs).map (fun way => [sayT s] ++ way) ++ (waysW d ys).map (fun way => [sayT s] ++ way) := hw
        have say : WS W b 1 [sayT s] := ⟨by
          show [gT (sayT s)].sum ≤ 1
          have : gT (sayT s) = 1 := rfl
          rw [this]
          decide, fun t ht => by
          rw [List.mem_singleton] at ht
          rw [ht]
          exact ⟨false, 1, .say hs, (fun e => nomatch e), (by decide : ("say" : Str) ≠ "if")⟩⟩
        have up : ∀ {m : Nat} {x : List Tr}, WS W false m x → WS W b m x := fun a => ⟨a.sum, fun t ht => by
          obtain ⟨b', dp', g, hb, hk⟩ := a.rows t ht
          exact ⟨b', dp', g, (fun e => nomatch hb e), hk⟩⟩
        rcases List.mem_append.mp hw with hw | hw
        · obtain ⟨x, hx, rfl⟩ := List.mem_map.mp hw
          exact (say.app (up (ways_sum ok d false (dp + 1) xs f (by omega) h3 x hx))).mono (by omega)
        · obtain ⟨x, hx, rfl⟩ := List.mem_map.mp hw
          exact (say.app (up (ways_sum ok d false (dp + 1) ys f (by omega) h4 x hx))).mono (by omega)
      · have e : armsW (waysW d) t = [[t]] := by
          unfold armsW
          exact if_neg hk
        rw [e, List.mem_singleton] at hw
        rw [hw]
        refine ⟨?_, fun u hu => ?_⟩
        · show gT t + 0 ≤ _
          by_cases hl : kOf t = "later"
          · cases hgt with
            | @later _ xs h3 =>
              have f := h.later
              have sx := (gen_val ok (es := []) _ false 1 "body" xs f (by decide) (fun e => by cases e) h3).val.shp
              have e2 : wtT n (.tup [tx "later", .tup xs]) = 1 + cnt xs := cnt_later n sx (by omega)
              have e3 : gT (.tup [tx "later", .tup xs]) = cnt xs := rfl
              rw [e2, e3]
              omega
            | iff _ _ _ _ _ => exact absurd rfl hk
            | say _ => exact absurd (show ("say" : Str) = "later" from hl) (by decide)
            | set _ _ => exact absurd (show ("set" : Str) = "later" from hl) (by decide)
            | turn _ _ => exact absurd (show ("turn" : Str) = "later" from hl) (by decide)
            | write _ _ => exact absurd (show ("write" : Str) = "later" from hl) (by decide)
            | fetch _ _ => exact absurd (show ("fetch" : Str) = "later" from hl) (by decide)
            | map _ _ _ => exact absurd (show ("map" : Str) = "later" from hl) (by decide)
            | put _ _ => exact absurd (show ("put" : Str) = "later" from hl) (by decide)
          · have := ((grow_flat hgt hk).2 n).resolve_right hl
            omega
        · rw [List.mem_singleton] at hu
          rw [hu]
          exact ⟨b, dp, hgt, id, hk⟩
    have pre : ∀ n, n ≤ ts.length → ∀ way ∈ waysW (d + 1) (ts.take n), WS W b (cnt (ts.take n)) way := by
      intro n
      induction n with
      | zero =>
        intro _ way hw
        have hw : way ∈ [([] : List Tr)] := hw
        rw [List.mem_singleton] at hw
        rw [hw]
        exact ⟨Nat.zero_le _, fun t ht => by cases ht⟩
      | succ n ih =>
        intro hn way hw
        have hlt : n < ts.length := by omega
        have e : ts.take (n + 1) = ts.take n ++ [ts[n]] := by rw [List.take_add_one, List.getElem?_eq_getElem hlt]; rfl
        rw [e, ways_snoc] at hw
        rw [e, cnt_snoc]
        unfold joinW at hw
        obtain ⟨l, hl, hw⟩ := List.mem_flatten.mp hw
        obtain ⟨x, hx, rfl⟩ := List.mem_map.mp hl
        obtain ⟨y, hy, rfl⟩ := List.mem_map.mp hw
        exact (ih (by omega) x hx).app (arm _ (List.getElem_mem hlt) _ y hy)
    have := pre ts.length (Nat.le_refl _)
    rw [List.take_length] at this
    exact this
/-- what a row reads, one slot at most -/
def rd1 (t : Tr) : List Str := if kOf t ∈ (["say", "if"] : List Str) then [secT t] else if kOf t ∈ (["set", "write", "map"] : List Str) then [thiT t] else []
theorem rd1_len (t : Tr) : (rd1 t).length ≤ 1 := by
  unfold rd1
  split
  · exact Nat.le_refl _
  · split
    · exact Nat.le_refl _
    · exact Nat.zero_le _
theorem rd1_k (k : Str) (us : List Tr) : rd1 (.tup (tx k :: us)) = if k ∈ (["say", "if"] : List Str) then [secT (.tup (tx k :: us))] else if k ∈ (["set", "write", "map"] : List Str) then [thiT (.tup (tx k :: us))] else [] := rfl
theorem use_rd1 {W : Wd} {z : Str} : ∀ (d : Nat) (b : Bool) (dp : Int) (ts : List Tr) (path : List Int), (∀ t ∈ ts, GRow W b dp t) → useL z d ts = some true → ∃ q ∈ rowsW ifsLater d ts path, z ∈ rd1 q.2
  | 0, _, _, _, _, _, h => by cases h
  | d + 1, b, dp, ts, path, hg, h => by
    obtain ⟨t, ht, h⟩ := List.exists_of_findSome?_eq_some h
    obtain ⟨i, hi⟩ := List.mem_iff_getElem?.mp ht
    have here : z ∈ rd1 t → ∃ q ∈ rowsW ifsLater (d + 1) ts path, z ∈ rd1 q.2 := fun hz => by
      refine ⟨(path ++ [(i : Int)], t), List.mem_flatten.mpr ⟨rowOut (rowsW ifsLater d) path ifsLater i t, List.mem_iff_getElem?.mpr ⟨i, by rw [List.getElem?_mapIdx, hi]; rfl⟩, ?_⟩, hz⟩
      unfold rowOut
      exact List.mem_cons_self ..
    have deep : ∀ (n : Nat) (xs : List Tr), (inn t)[n]? = some (.tup xs) → kOf t ∈ ifsLater → (∃ q ∈ rowsW ifsLater d xs (path ++ [(i : Int)] ++ [(n : Int)]), z ∈ rd1 q.2) → ∃ q ∈ rowsW ifsLater (d + 1) ts path, z ∈ rd1 q.2 := fun n xs hn hk ⟨q, hq, hz⟩ => by
      refine ⟨q, List.mem_flatten.mpr ⟨rowOut (rowsW ifsLater d) path ifsLater i t, List.mem_iff_getElem?.mpr ⟨i, by rw [List.getElem?_mapIdx, hi]; rfl⟩, ?_⟩, hz⟩
      unfold rowOut
      rw [if_pos hk]
      exact List.mem_cons_of_mem _ (List.mem_flatten.mpr ⟨_, List.mem_iff_getElem?.mpr ⟨n, by rw [List.getElem?_mapIdx, hn]; rfl⟩, hq⟩)
    have flat : ∀ {k : Str} {us : List Tr} {s : Str}, k ≠ "if" → k ≠ "later" → useR (useL z d) k us z = some true → hits readTable k us z = decide (s = z) → s = z := fun {k us s} h1 h2 h3 h4 => by
      rw [useR_flat h1 h2, h4] at h3
      by_cases e : s = z
      · exact e
      · rw [decide_eq_false e, if_neg (by decide)] at h3
        split at h3 <;> cases h3
    have flat0 : ∀ {k : Str} {us : List Tr}, k ≠ "if" → k ≠ "later" → useR (useL z d) k us z = some true → hits readTable k us z = false → False := fun {k us} h1 h2 h3 h4 => by
      rw [useR_flat h1 h2, h4, if_neg (by decide)] at h3
      split at h3 <;> cases h3
    cases hg t ht with
    | @say _ _ s hs =>
      have e := flat (us := [tx s]) (s := s) (by decide : ("say" : Str) ≠ "if") (by decide) h rfl
      exact here (by rw [← e, rd1_k, if_pos (by decide)]; exact List.mem_singleton.mpr rfl)
    | @set _ _ c s hc hs =>
      have e := flat (us := [tx c, tx s]) (s := s) (by decide : ("set" : Str) ≠ "if") (by decide) h rfl
      exact here (by rw [← e, rd1_k, if_neg (by decide), if_pos (by decide)]; exact List.mem_singleton.mpr rfl)
    | @turn _ _ c tb hc htb => exact (flat0 (us := [tx c, .tup (tb.map tx)]) (by decide : ("turn" : Str) ≠ "if") (by decide) h rfl).elim
    | @write _ _ c s hc hs =>
      have e := flat (us := [tx c, tx s]) (s := s) (by decide : ("write" : Str) ≠ "if") (by decide) h rfl
      exact here (by rw [← e, rd1_k, if_neg (by decide), if_pos (by decide)]; exact List.mem_singleton.mpr rfl)
    | @fetch _ _ c s hc hs => exact (flat0 (us := [tx c, tx s]) (by decide : ("fetch" : Str) ≠ "if") (by decide) h rfl).elim
    | @map _ _ s u tb hs hu htb =>
      have e := flat (us := [tx s, tx u, .tup (tb.map tx)]) (s := u) (by decide : ("map" : Str) ≠ "if") (by decide) h rfl
      exact here (by rw [← e, rd1_k, if_neg (by decide), if_pos (by decide)]; exact List.mem_singleton.mpr rfl)
    | @put _ _ s w hs hw => exact (flat0 (us := [tx s, tx w]) (by decide : ("put" : Str) ≠ "if") (by decide) h rfl).elim
    | @iff _ _ s w xs ys _ _ h2 h3 h4 =>
      have h : useR (useL z d) "if" [tx s, tx w, .tup xs, .tup ys] z = some true := h
      rw [useR_if] at h
      by_cases e : s = z
      · exact here (by rw [← e, rd1_k, if_pos (by decide)]; exact List.mem_singleton.mpr rfl)
      · rw [if_neg e] at h
        have hor : useL z d xs = some true ∨ useL z d ys = some true := by
          unfold eitherU at h
          split at h
          · assumption
          · rename_i hno
            split at h
            · exact absurd (.inl h) hno
            · cases h
        rcases hor with h | h
        · exact deep 0 xs rfl (show ("if" : Str) ∈ ifsLater by decide) (use_rd1 d false (dp + 1) xs _ h3 h)
        · exact deep 1 ys rfl (show ("if" : Str) ∈ ifsLater by decide) (use_rd1 d false (dp + 1) ys _ h4 h)
    | @later _ xs h3 =>
      have h : useR (useL z d) "later" [.tup xs] z = some true := h
      rw [useR_later] at h
      by_cases e : useL z d xs = some true
      · exact deep 0 xs rfl (show ("later" : Str) ∈ ifsLater by decide) (use_rd1 d false 1 xs _ h3 e)
      · rw [if_neg e] at h
        cases h
/-- no more slots are read than there are rows -/
theorem reads_le {W : Wd} {b : Bool} {dp : Int} {ts : List Tr} {ys : List Str} (hg : ∀ t ∈ ts, GRow W b dp t) (hn : ys.Nodup) (h : ∀ z ∈ ys, useL z 9 ts = some true) : ys.length ≤ cnt ts := by
  have hb := flat_bound (fun q : List Int × Tr => rd1 q.2) 1 (rowsW ifsLater 9 ts []) fun q _ => rd1_len q.2
  have hs : ys.length ≤ (((rowsW ifsLater 9 ts []).map fun q => rd1 q.2).flatten).length := List.Nodup.length_le_of_subset hn fun z hz => by
    obtain ⟨q, hq, hz⟩ := use_rd1 9 b dp ts [] hg (h z hz)
    exact List.mem_flatten.mpr ⟨_, List.mem_map.mpr ⟨q, hq, rfl⟩, hz⟩
  have e : cnt ts = (rowsW ifsLater 9 ts []).length := rfl
  omega
/-- some list of what is needed -/
def need9 (xs : List Tr) : List Str := (heldAll 9 xs).filter fun z => decide (useL z 9 xs = some true)
theorem need9_iff {W : Wd} {b : Bool} {dp : Int} {xs : List Tr} (hg : ∀ t ∈ xs, GRow W b dp t) (z : Str) : z ∈ need9 xs ↔ useL z 9 xs = some true := by
  unfold need9
  rw [List.mem_filter]
  constructor
  · rintro ⟨_, h⟩
    exact of_decide_eq_true h
  · intro h
    refine ⟨?_, decide_eq_true h⟩
    obtain ⟨q, hq, hz⟩ := use_named (thr := ifsLater) (fun _ h => h) 9 b dp xs [] hg h
    exact List.mem_flatten.mpr ⟨_, List.mem_map.mpr ⟨q, hq, rfl⟩, hz⟩
end CA
namespace CA
open PySem L2
theorem wayF_snoc (need : List Tr → List Str) (t : Tr) : ∀ (l : List Tr) (ch : List Str), wayF need (l ++ [t]) ch = wayF need l ch ++ (readsT need t).filter fun s => !decide (s ∈ ch ++ (l.map chgT).flatten)
  | [], ch => by
    show (readsT need t).filter _ ++ [] = [] ++ _
    rw [List.append_nil, List.nil_append]
    simp
  | u :: l, ch => by
    rw [List.cons_append]
    show (readsT need u).filter _ ++ wayF need (l ++ [t]) (ch ++ chgT u) = (readsT need u).filter _ ++ wayF need l (ch ++ chgT u) ++ _
    rw [wayF_snoc need t l (ch ++ chgT u), List.map_cons, List.flatten_cons, List.append_assoc, List.append_assoc]
def putK2 : List Str := ["put", "map"]
theorem chg_k2 (k : Str) (us : List Tr) : chgT (.tup (tx k :: us)) = (if k ∈ putK2 then [secT (.tup (tx k :: us))] else []) ++ (if k = "fetch" then [thiT (.tup (tx k :: us))] else []) := rfl
/-- what is done behind the reads of a row -/
theorem rest_need {K : PySem.W.Frag} {D : Ends} {rv vw : V} {x6 : Option V} {pf pch pr ax : Addr} {fs ch rs : List Str} {k' : Str} {ux : List V} {us : List Tr} {H : Hp} (hf : H pf = some (.lst (fs.map V.str))) (hch : H pch = some (.lst (ch.map V.str))) (hr : H pr = some (.lst (rs.map V.str))) (ha : H ax = some (.tup (.str k' :: ux)))
    (l1 : fs.length ≤ 3000) (l2 : rs.length ≤ 100) (l3 : ch.length ≤ 100) (hsec : k' ∈ putK2 → ux[0]? = some (.str (secT (.tup (tx k' :: us))))) (hthi : k' = "fetch" → ux[1]? = some (.str (thiT (.tup (tx k' :: us)))))
    (q : ∀ (pf' : Addr) (H' : Hp), Keep [pch] H H' → H pf' = none → H' pf' = some (.lst ((fs ++ rs.filter fun s => !decide (s ∈ ch)).map V.str)) → H' pch = some (.lst ((ch ++ chgT (.tup (tx k' :: us))).map V.str)) → D.nx [some rv, some (.ref pf'), some vw, some (.ref pch), some (.ref ax), some (.ref pr), x6] H') :
    tSeq (tAsg (tOp rCat (tVar 1) (tLc (iList K (tVar 5)) (gName 6) (tTest (tOp (rInT K true) (tVar 6) (tVar 3))) (tVar 6) [6])) (gName 1)) (tSeq (tIfS (tTest (tOp (rInT K false) (tOp (rIxT K) (tVar 4) (tC (.int 0))) (tTup (tCons (tC (.str "put")) (tCons (tC (.str "map")) tNil))))) (tDrop (tBM K "list" rAppend (tVar 3) (tCons (tOp (rIxT K) (tVar 4) (tC (.int 1))) tNil))) tNext)
      (tIfS (tTest (tOp rEq (tOp (rIxT K) (tVar 4) (tC (.int 0))) (tC (.str "fetch")))) (tDrop (tBM K "list" rAppend (tVar 3) (tCons (tOp (rIxT K) (tVar 4) (tC (.int 2))) tNil))) tNext)) D [some rv, some (.ref pf), some vw, some (.ref pch), some (.ref ax), some (.ref pr), x6] H := by
  refine ⟨_, rfl, ?_⟩
  refine ⟨_, rfl, pr, rfl, ⟨_, SqL.of hr⟩, fun D2 hD2 => ?_⟩
  have at0 : atI (V.str k' :: ux) 0 = some (.str k') := at_of (j := 0) rfl rfl
  refine walk_list (xs := rs.map V.str) (fun i H' => Same H H' ∧ H' D2 = some (.lst (((rs.take i).filter fun s => !decide (s ∈ ch)).map V.str))) ⟨same_new hD2 _, by rw [List.take_zero]; exact upd_same⟩ (fun i H' _ pv => SqL.of (pv.1 _ _ hr)) (fun i y H' hy pv => ?_) (fun H' pv => ?_)
  · obtain ⟨sm, hDs⟩ := pv
    rw [List.getElem?_map] at hy
    cases hz : rs[i]? with
    | none => rw [hz] at hy; cases hy
    | some z =>
      rw [hz] at hy
      cases hy
      have etake : (rs.take (i + 1)).filter (fun s => !decide (s ∈ ch)) = (rs.take i).filter (fun s => !decide (s ∈ ch)) ++ (if (!decide (z ∈ ch)) = true then [z] else []) := by
        rw [List.take_add_one, hz, List.filter_append]
        show _ ++ List.filter _ [z] = _
        rw [List.filter_cons, List.filter_nil]
      refine ⟨rfl, ?_⟩
      refine ⟨_, rfl, _, rfl, pch, ch, rfl, .inl (SqL.of (sm _ _ hch)), .flat rfl, _, rfl, ?_⟩
      rw [memT_str]
      cases hu : decide (z ∈ ch) with
      | true =>
        refine iteF ⟨sm, ?_⟩
        rw [etake, hu]
        simpa using hDs
      | false =>
        refine iteT ⟨_, rfl, _, hDs, ?_, same_upd hD2 sm, ?_⟩
        · rw [List.length_map]
          refine Nat.lt_of_le_of_lt (show _ ≤ 100 from ?_) (by decide)
          have h1 := List.length_filter_le (fun s => !decide (s ∈ ch)) (rs.take i)
          rw [List.length_take] at h1
          omega
        · rw [upd_same, etake, hu, List.map_append]
          rfl
  · obtain ⟨sm, hDs⟩ := pv
    rw [List.length_map, List.take_length] at hDs
    have h1 := List.length_filter_le (fun s => !decide (s ∈ ch)) rs
    refine ⟨pf, D2, _, _, rfl, rfl, sm _ _ hf, hDs, ?_, fun pn hpn => ?_⟩
    · rw [List.length_map, List.length_map]
      exact Nat.le_trans (show _ ≤ 4000 by omega) (by decide)
    rw [← List.map_append]
    have sn := same_new hpn (.lst ((fs ++ rs.filter fun s => !decide (s ∈ ch)).map V.str))
    have S1 : Same H (upd H' pn (.lst ((fs ++ rs.filter fun s => !decide (s ∈ ch)).map V.str))) := fun c o e => sn _ _ (sm _ _ e)
    have nH : H pn = none := by
      cases e : H pn with
      | none => rfl
      | some o => rw [sm _ _ e] at hpn; cases hpn
    have npc : pn ≠ pch := fun e => by rw [e, hch] at nH; cases nH
    have e1 : (upd H' pn (.lst ((fs ++ rs.filter fun s => !decide (s ∈ ch)).map V.str))) pn = some (.lst ((fs ++ rs.filter fun s => !decide (s ∈ ch)).map V.str)) := upd_same
    generalize upd H' pn (.lst ((fs ++ rs.filter fun s => !decide (s ∈ ch)).map V.str)) = H1 at S1 e1
    dsimp only [gName]
    refine ⟨_, rfl, ax, _, 0, _, rfl, rfl, SqT.of (S1 _ _ ha), at0, (show 2 ≤ sizeLine by decide), fun p2 hp2 => ⟨p2, putK2, rfl, .inr (SqT.of upd_same), .flat rfl, _, rfl, ?_⟩⟩
    have s2 := same_new hp2 (.tup (putK2.map V.str))
    have S2 : Same H (upd H1 p2 (.tup (putK2.map V.str))) := fun c o e => s2 _ _ (S1 _ _ e)
    have e2 := s2 _ _ e1
    rw [inT_str]
    have hch2 := S2 _ _ hch
    have lc : (ch.map V.str).length < sizeLine := by
      rw [List.length_map]
      exact Nat.lt_of_le_of_lt l3 (by decide)
    cases hk : decide (k' ∈ putK2) with
    | true =>
      have hk := of_decide_eq_true hk
      have hs := hsec hk
      have at1 : atI (V.str k' :: ux) 1 = some (.str (secT (.tup (tx k' :: us)))) := at_of (j := 1) rfl (by simpa using hs)
      refine iteT ⟨_, rfl, .inl ⟨rfl, _, SqL.of hch2⟩, _, rfl, ax, _, 1, _, rfl, rfl, SqT.of (S2 _ _ ha), at1, pch, _, _, rfl, rfl, hch2, lc, ?_⟩
      have kf : k' ≠ "fetch" := fun e => by rw [e] at hk; exact absurd hk (by decide)
      have hax3 : (upd (upd H1 p2 (.tup (putK2.map V.str))) pch (.lst (ch.map V.str ++ [V.str (secT (.tup (tx k' :: us)))]))) ax = some (.tup (.str k' :: ux)) := by
        rw [upd_ne (ne_of ha hch (by intro z; cases z))]
        exact S2 _ _ ha
      refine ⟨_, rfl, ax, _, 0, _, rfl, rfl, SqT.of hax3, at0, rfl, _, rfl, ?_⟩
      rw [dec_str, decide_eq_false kf]
      refine iteF (q pn _ (fun b o e n => ?_) nH ?_ ?_)
      · rw [upd_ne (fun z => n (List.mem_singleton.mpr z))]
        exact S2 _ _ e
      · rw [upd_ne npc]
        exact e2
      · rw [upd_same, chg_k2, if_pos hk, if_neg kf, List.append_nil, List.map_append]
        rfl
    | false =>
      have hk := of_decide_eq_false hk
      refine iteF ⟨_, rfl, ax, _, 0, _, rfl, rfl, SqT.of (S2 _ _ ha), at0, rfl, _, rfl, ?_⟩
      rw [dec_str]
      by_cases kf : k' = "fetch"
      · rw [decide_eq_true kf]
        have hs := hthi kf
        have at2 : atI (V.str k' :: ux) 2 = some (.str (thiT (.tup (tx k' :: us)))) := at_of (j := 2) rfl (by simpa using hs)
        refine iteT ⟨_, rfl, .inl ⟨rfl, _, SqL.of hch2⟩, _, rfl, ax, _, 2, _, rfl, rfl, SqT.of (S2 _ _ ha), at2, pch, _, _, rfl, rfl, hch2, lc, ?_⟩
        refine q pn _ (fun b o e n => ?_) nH ?_ ?_
        · rw [upd_ne (fun z => n (List.mem_singleton.mpr z))]
          exact S2 _ _ e
        · rw [upd_ne npc]
          exact e2
        · rw [upd_same, chg_k2, if_neg hk, if_pos kf, List.nil_append, List.map_append]
          rfl
      · rw [decide_eq_false kf]
        refine iteF (q pn _ (fun b o e n => S2 _ _ e) nH e2 ?_)
        rw [chg_k2, if_neg hk, if_neg kf, List.append_nil, List.append_nil]
        exact hch2
end CA
namespace CA
open PySem L2
def spNeed (W : Wd) (d : Nat) : Sp := fun vs H Q _ => ∃ (rv : V) (ts : List Tr) (b : Bool) (dp : Int), vs = [rv] ∧ Tw H rv (.tup ts) ∧ FC b dp d ∧ (∀ t ∈ ts, GRow W b dp t) ∧ cnt ts ≤ 8 ∧
  ∀ (p : Addr) (H' : Hp) (ys : List Str), Same H H' → H p = none → H' p = some (.lst (ys.map V.str)) → PyProof.Rows.sortedS ys = true → ys.Nodup → (∀ z, z ∈ ys ↔ useL z 9 ts = some true) → Q (.ref p) H'
structure TxtNd (K : PySem.W.Frag) (mg : Str → Option Value) (fw fn : Addr) : Prop where
  g__law_ways : mg "_law_ways" = some (.ref fw)
  k__law_ways : PySem.W.keepIn K (.ref fw) = true
  g__law_needed : mg "_law_needed" = some (.ref fn)
  k__law_needed : PySem.W.keepIn K (.ref fn) = true
  sorted : mg "sorted" = none
  set : mg "set" = none
def swm : List Str := ["set", "write", "map"]
theorem reads_k2 (need : List Tr → List Str) (k : Str) (us : List Tr) : readsT need (.tup (tx k :: us)) = if k = "later" then need (rowsT (.tup (tx k :: us)) 1) else if k ∈ swm then [thiT (.tup (tx k :: us))] else if k = "say" then [secT (.tup (tx k :: us))] else [] := rfl
/-- the texts of a drawn row where they are asked for -/
structure RowTx (k' : Str) (ux : List V) (us : List Tr) : Prop where
  sec : k' ∈ putK2 ∨ k' = "say" → ux[0]? = some (.str (secT (.tup (tx k' :: us))))
  thi : k' = "fetch" ∨ k' ∈ swm → ux[1]? = some (.str (thiT (.tup (tx k' :: us))))
theorem row_txs {W : Wd} {b : Bool} {dp : Int} {H : Hp} {k' : Str} {us : List Tr} {ux : List V} (hg : GRow W b dp (.tup (tx k' :: us))) (h : TwL H ux us) : RowTx k' ux us := by
  have one : ∀ (i : Nat) (s : Str), us[i]? = some (tx s) → ux[i]? = some (.str s) := fun i s e => by
    obtain ⟨v, hv, wv⟩ := h.get' e
    cases wv
    exact hv
  generalize ht : Tr.tup (tx k' :: us) = t at hg
  cases hg with
  | @say _ _ s hs =>
    injection ht with ht
    injection ht with h1 h2
    injection h1 with h1
    injection h1 with h1
    subst h1 h2
    exact ⟨fun _ => one 0 s rfl, fun e => by rcases e with e | e <;> exact absurd e (by decide)⟩
  | @set _ _ c s hc hs =>
    injection ht with ht
    injection ht with h1 h2
    injection h1 with h1
    injection h1 with h1
    subst h1 h2
    exact ⟨fun e => (by rcases e with e | e <;> exact absurd e (by decide)), fun _ => one 1 s rfl⟩
  | @turn _ _ c tb hc htb =>
    injection ht with ht
    injection ht with h1 h2
    injection h1 with h1
    injection h1 with h1
    subst h1 h2
    exact ⟨fun e => (by rcases e with e | e <;> exact absurd e (by decide)), fun e => by rcases e with e | e <;> exact absurd e (by decide)⟩
  | @write _ _ c s hc hs =>
    injection ht with ht
    injection ht with h1 h2
    injection h1 with h1
    injection h1 with h1
    subst h1 h2
    exact ⟨fun e => (by rcases e with e | e <;> exact absurd e (by decide)), fun _ => one 1 s rfl⟩
  | @fetch _ _ c s hc hs =>
    injection ht with ht
    injection ht with h1 h2
    injection h1 with h1
    injection h1 with h1
    subst h1 h2
    exact ⟨fun e => (by rcases e with e | e <;> exact absurd e (by decide)), fun _ => one 1 s rfl⟩
  | @map _ _ s u tb hs hu htb =>
    injection ht with ht
    injection ht with h1 h2
    injection h1 with h1
    injection h1 with h1
    subst h1 h2
    exact ⟨fun _ => one 0 s rfl, fun _ => one 1 u rfl⟩
  | @put _ _ s w hs hw =>
    injection ht with ht
    injection ht with h1 h2
    injection h1 with h1
    injection h1 with h1
    subst h1 h2
    exact ⟨fun _ => one 0 s rfl, fun e => by rcases e with e | e <;> exact absurd e (by decide)⟩
  | @iff _ _ s w xs ys _ _ _ _ _ =>
    injection ht with ht
    injection ht with h1 h2
    injection h1 with h1
    injection h1 with h1
    subst h1 h2
    exact ⟨fun e => (by rcases e with e | e <;> exact absurd e (by decide)), fun e => by rcases e with e | e <;> exact absurd e (by decide)⟩
  | @later _ xs _ =>
    injection ht with ht
    injection ht with h1 h2
    injection h1 with h1
    injection h1 with h1
    subst h1 h2
    exact ⟨fun e => (by rcases e with e | e <;> exact absurd e (by decide)), fun e => by rcases e with e | e <;> exact absurd e (by decide)⟩
theorem chg_len (t : Tr) : (chgT t).length ≤ 2 := by
  unfold chgT
  rw [List.length_append]
  have h1 : (if kOf t ∈ (["put", "map"] : List Str) then [secT t] else []).length ≤ 1 := by split <;> simp
  have h2 : (if kOf t = "fetch" then [thiT t] else []).length ≤ 1 := by split <;> simp
  omega
section
variable {P : Program} {w : World} {K : PySem.W.Frag} {mg : Str → Option Value} {base : Heap} {fw fn : Addr}
abbrev s__law_needed : Stmt := topS 66
theorem sc__law_needed : FnScope ["_law_rows", "_law_found", "_law_way", "_law_changed", "_law_row", "_law_reads", "_law_slot"] ["_law_rows"] (defScope s__law_needed) := ⟨rfl, rfl, rfl, by decide +kernel, rfl, by decide +kernel, by decide +kernel⟩
theorem ok__law_needed_step {W : Wd} (ok : W.Ok) {d k : Nat} (h9 : d + 1 ≤ 9) {fd fdw : FuncData} (F : Fun K "_law_needed" "_law_needed" s__law_needed fn fd) (T : TxtNd K mg fw fn) (Gw : FnOk P w K mg base CX0 k fw fdw ["_law_rows"] (spWays W (d + 1))) (bw : Binds K fdw ["_law_rows"] [])
    (Gn : FnOk P w K mg base CX0 k fn fd ["_law_rows"] (spNeed W d)) (bn : Binds K fd ["_law_rows"] []) : FnOk P w K mg base CX0 (k + 1) fn fd ["_law_rows"] (spNeed W (d + 1)) := by
  refine F.ok sc__law_needed (fun vs H Q E h => ?_) (fun cdv A outer s H vs Q E hr h => ?_)
  · obtain ⟨rv, ts, b, dp, rfl, _⟩ := h
    rfl
  obtain ⟨rv, ts, b, dp, rfl, wt, fc, hg, hc8, q⟩ := h
  refine ⟨_, (pss_cons (ps_set (i := 1) sc__law_needed.nd rfl (Or.inl rfl) (pe_lst pa_nil))
  (pss_cons (ps_for PassesOwn.never rfl (pi_list (pe_call Gw hr rfl T.g__law_ways T.k__law_ways bw .nil pass0 (pa_cons (pv 0) pa_nil))) (pg_name (i := 2) sc__law_needed.nd rfl (Or.inl rfl))
    (pss_cons (ps_set (i := 3) sc__law_needed.nd rfl (Or.inr rfl) (pe_lst pa_nil))
      (pss_one (ps_for PassesOwn.never rfl (pi_list (pv 2)) (pg_name (i := 4) sc__law_needed.nd rfl (Or.inl rfl))
        (pss_cons (ps_set (i := 5) sc__law_needed.nd rfl (Or.inl rfl) (pe_lst pa_nil))
          (pss_cons (ps_if (pt_cmpR op_eq (pe_ix ix_tup (pv 4) pe_int (fun _ _ => rfl)) pe_str (nomark _))
            (pss_one (ps_set (i := 5) sc__law_needed.nd rfl (Or.inl rfl) (pe_lst (pa_cons (pe_ix ix_tup (pv 4) pe_int (fun _ _ => rfl)) pa_nil))))
            pss_nil)
          (pss_cons (ps_if (pt_cmpR (op_inT (units2 hr)) (pe_ix ix_tup (pv 4) pe_int (fun _ _ => rfl)) (pe_tup (pa_cons pe_str (pa_cons pe_str (pa_cons pe_str pa_nil)))) (by rfl))
            (pss_one (ps_set (i := 5) sc__law_needed.nd rfl (Or.inl rfl) (pe_lst (pa_cons (pe_ix ix_tup (pv 4) pe_int (fun _ _ => rfl)) pa_nil))))
            pss_nil)
          (pss_cons (ps_if (pt_cmpR op_eq (pe_ix ix_tup (pv 4) pe_int (fun _ _ => rfl)) pe_str (nomark _))
            (pss_one (ps_set (i := 5) sc__law_needed.nd rfl (Or.inl rfl) (pe_call Gn hr rfl T.g__law_needed T.k__law_needed bn .nil pass0 (pa_cons (pe_ix ix_tup (pv 4) pe_int (fun _ _ => rfl)) pa_nil))))
            pss_nil)
          (pss_cons (ps_set (i := 1) sc__law_needed.nd rfl (Or.inl rfl) (pe_op op_cat (pv 1) (pe_lc (own := [("_law_slot", 6)]) (wi := iList K (tVar 5)) (g := gName 6) (tt := tTest (tOp (rInT K true) (tVar 6) (tVar 3))) (te := tVar 6) rfl sc__law_needed.nd (pi_list (pv 5))
            (blkOk_by (own := [("_law_slot", 6)]) (N := ["_law_rows", "_law_found", "_law_way", "_law_changed", "_law_row", "_law_reads", "_law_slot"]) (sc := defScope s__law_needed) (by decide +kernel))
            (fun s H C cl fp => pg_name (i := 6) sc__law_needed.nd rfl (Or.inl rfl)) (fun s H C cl fp => pts_one (pt_cmpR (op_notInT (Nat.lt_of_le_of_lt (Nat.add_le_add_left (by decide) _) hr.units)) (pv 6) (pv 3) (by rfl))) (fun s H C cl fp => pv 6))))
          (pss_cons (ps_if (pt_cmpR (op_inT (units2 hr)) (pe_ix ix_tup (pv 4) pe_int (fun _ _ => rfl)) (pe_tup (pa_cons pe_str (pa_cons pe_str pa_nil))) (by rfl))
            (pss_one (ps_expr (pe_bm PySem.F.plainAttrs_list PySem.F.slot_list_append PySem.F.type_list_append mt_append (pv 3) (pa_cons (pe_ix ix_tup (pv 4) pe_int (fun _ _ => rfl)) pa_nil))))
            pss_nil)
          (pss_one (ps_if (pt_cmpR op_eq (pe_ix ix_tup (pv 4) pe_int (fun _ _ => rfl)) pe_str (nomark _))
            (pss_one (ps_expr (pe_bm PySem.F.plainAttrs_list PySem.F.slot_list_append PySem.F.type_list_append mt_append (pv 3) (pa_cons (pe_ix ix_tup (pv 4) pe_int (fun _ _ => rfl)) pa_nil))))
            pss_nil))))))))))))
  (pss_one (ps_ret (pe_callB (cr_sortSetS rfl) (by rfl) T.sorted (by decide +kernel) (pa_cons (pe_callTy (cr_setTx rfl) (by rfl) T.set (by decide +kernel) (pa_cons (pv 1) pa_nil)) pa_nil)))))), ?_⟩
  have wsum := ways_sum ok (d + 1) b dp ts fc h9 hg
  have wlen : (waysW (d + 1) ts).length ≤ 256 := Nat.le_trans (ways_wb ok (d + 1) b dp ts fc h9 hg).1.len (pow8 hc8)
  refine ⟨by decide, fun p0 hp0 => ?_⟩
  have s0 := same_new hp0 (.lst [])
  refine ⟨_, rfl, rv, ts, b, dp, rfl, Tw.gr (Gr.of s0) _ _ wt, fc, hg, hc8, fun pW Hw ls sW nW eW wW => ?_⟩
  have S0 : Same H Hw := fun c o e => sW _ _ (s0 _ _ e)
  have lW := wW.len
  refine ⟨pW, rfl, ⟨ls, SqL.of eW⟩, for_list (K := K) (a := pW) (xs := ls)
    (fun i σ H' => ∃ x2 x3 x4 x5 x6 pf, ∃ fs : List Str, σ = [some rv, some (.ref pf), x2, x3, x4, x5, x6] ∧ Same Hw H' ∧ H' pf = some (.lst (fs.map V.str)) ∧ (∀ z, z ∈ fs ↔ z ∈ foundW need9 ((waysW (d + 1) ts).take i)) ∧ fs.length ≤ 8 * i)
    ⟨none, none, none, none, none, p0, [], rfl, (fun _ _ e => e), sW _ _ upd_same, fun z => by rw [List.take_zero]; exact Iff.rfl, Nat.le_refl _⟩ (fun i σ H' _ ⟨_, _, _, _, _, _, _, _, sm, _⟩ => SqL.of (sm _ _ eW)) (fun i x σ H' hx pv => ?_) (fun σ H' pv => ?_)⟩
  · obtain ⟨x2, x3, x4, x5, x6, pf, fs, rfl, sm, hpf, hmem, hfl⟩ := pv
    obtain ⟨way, qw, uw, hway, rfl, hqw, huw⟩ := wW.get hx
    have hi := (List.getElem?_eq_some_iff.mp hway).1
    have ws := wsum way (List.mem_of_getElem? hway)
    have luw := huw.len
    refine ⟨by decide, fun pc hpc => ?_⟩
    have sc := same_new hpc (.lst [])
    have nHw : Hw pc = none := by
      cases e : Hw pc with
      | none => rfl
      | some o => rw [sm _ _ e] at hpc; cases hpc
    have npf : pf ≠ pc := fun e => by rw [e, hpc] at hpf; cases hpf
    refine ⟨_, rfl, qw, rfl, ⟨uw, SqL.of (sc _ _ (sm _ _ hqw))⟩, for_list (K := K) (a := qw) (xs := uw)
      (fun m σ H' => ∃ x4 x5 pf, ∃ fs2 : List Str, σ = [some rv, some (.ref pf), some (.ref qw), some (.ref pc), x4, x5, x6] ∧ Same Hw H' ∧ H' pf = some (.lst (fs2.map V.str)) ∧ pf ≠ pc ∧ H' pc = some (.lst ((((way.take m).map chgT).flatten).map V.str)) ∧
        (∀ z, z ∈ fs2 ↔ z ∈ fs ∨ z ∈ wayF need9 (way.take m) []) ∧ fs2.length ≤ fs.length + ((way.take m).map gT).sum)
      ⟨x4, x5, pf, fs, rfl, fun c o e => sc _ _ (sm _ _ e), sc _ _ hpf, npf, by rw [List.take_zero]; exact upd_same, fun z => by rw [List.take_zero]; simp [wayF], by rw [List.take_zero]; exact Nat.le_refl _⟩ (fun m σ H' _ ⟨_, _, _, _, _, sm2, _⟩ => SqL.of (sm2 _ _ hqw)) (fun m y σ H2 hy pv => ?_) (fun σ H2 pv => ?_)⟩
    · obtain ⟨y4, y5, pf2, fs2, rfl, sm2, hpf2, npf2, hpc2, hmem2, hfl2⟩ := pv
      obtain ⟨t, ht, wy⟩ := huw.get hy
      have hmt := List.mem_of_getElem? ht
      obtain ⟨b', dp', hgt, hbb, hkif⟩ := ws.rows t hmt
      have esum : ((way.take (m + 1)).map gT).sum = ((way.take m).map gT).sum + gT t := by
        rw [List.take_add_one, ht, List.map_append, List.sum_append]
        simp
      have lsum : ((way.take (m + 1)).map gT).sum ≤ cnt ts := by
        have e : (way.map gT).sum = ((way.take (m + 1)).map gT).sum + ((way.drop (m + 1)).map gT).sum := by rw [← List.sum_append, ← List.map_append, List.take_append_drop]
        have := ws.sum
        omega
      have wy := Tw.gr (Gr.of sm2) _ _ wy
      obtain ⟨k', us, rfl⟩ : ∃ k us, t = .tup (tx k :: us) := by cases hgt <;> exact ⟨_, _, rfl⟩
      obtain ⟨ax, ux, rfl, hax, hux, hbx, nx⟩ := row_of wy
      have rt := row_txs hgt hux
      have at0 : atI (V.str k' :: ux) 0 = some (.str k') := at_of (j := 0) rfl rfl
      have lwy : way.length ≤ 8 := Nat.le_trans ((ways_wb ok (d + 1) b dp ts fc h9 hg).1.each way (List.mem_of_getElem? hway)) hc8
      have lch : (((way.take m).map chgT).flatten).length ≤ 100 := by
        have h1 := flat_bound chgT 2 (way.take m) fun t _ => chg_len t
        have h2 : (way.take m).length ≤ 8 := by rw [List.length_take]; omega
        omega
      have lfs2 : fs2.length ≤ 3000 := by omega
      have hsec : k' ∈ putK2 → ux[0]? = some (.str (secT (.tup (tx k' :: us)))) := fun h => rt.sec (.inl h)
      have hthi : k' = "fetch" → ux[1]? = some (.str (thiT (.tup (tx k' :: us)))) := fun h => rt.thi (.inl h)
      have fin : ∀ (pr : Addr) (rs : List Str) (H4 : Hp), Same H2 H4 → rs.length ≤ gT (.tup (tx k' :: us)) → (∀ z, z ∈ rs ↔ z ∈ readsT need9 (.tup (tx k' :: us))) → ∀ (pf' : Addr) (H' : Hp), Keep [pc] H4 H' → H4 pf' = none → H' pf' = some (.lst ((fs2 ++ rs.filter fun s => !decide (s ∈ ((way.take m).map chgT).flatten)).map V.str)) → H' pc = some (.lst ((((way.take m).map chgT).flatten ++ chgT (.tup (tx k' :: us))).map V.str)) →
          ∃ x4 x5 pf, ∃ fs2 : List Str, [some rv, some (V.ref pf'), some (.ref qw), some (.ref pc), some (.ref ax), some (.ref pr), x6] = [some rv, some (.ref pf), some (.ref qw), some (.ref pc), x4, x5, x6] ∧ Same Hw H' ∧ H' pf = some (.lst (fs2.map V.str)) ∧ pf ≠ pc ∧ H' pc = some (.lst ((((way.take (m + 1)).map chgT).flatten).map V.str)) ∧
            (∀ z, z ∈ fs2 ↔ z ∈ fs ∨ z ∈ wayF need9 (way.take (m + 1)) []) ∧ fs2.length ≤ fs.length + ((way.take (m + 1)).map gT).sum := fun pr rs H4 s4 lrs mrs pf' H' k5 n5 e5 c5 => by
        have et : way.take (m + 1) = way.take m ++ [.tup (tx k' :: us)] := by rw [List.take_add_one, ht]; rfl
        refine ⟨_, _, pf', _, rfl, fun c o e => k5 c o (s4 _ _ (sm2 _ _ e)) (fun z => ?_), e5, fun e => ?_, ?_, fun z => ?_, ?_⟩
        · rw [List.mem_singleton] at z
          rw [z, nHw] at e
          cases e
        · rw [e, s4 _ _ hpc2] at n5
          cases n5
        · rw [c5, et]
          simp
        · rw [List.mem_append, hmem2 z, et, wayF_snoc, List.mem_append, List.mem_filter, List.mem_filter, mrs z, List.nil_append, or_assoc]
        · rw [List.length_append, esum]
          have := List.length_filter_le (fun s => !decide (s ∈ ((way.take m).map chgT).flatten)) rs
          omega
      have lg : ((way.take m).map gT).sum + gT (.tup (tx k' :: us)) ≤ 8 := by omega
      refine ⟨by decide, fun pr hpr => ?_⟩
      have s3 := same_new hpr (.lst [])
      have hax3 := s3 _ _ hax
      refine ⟨_, rfl, ax, _, 0, _, rfl, rfl, SqT.of hax3, at0, rfl, _, rfl, ?_⟩
      rw [dec_str]
      by_cases k1 : k' = "say"
      · rw [decide_eq_true k1]
        have hs := rt.sec (.inr k1)
        have at1 : atI (V.str k' :: ux) 1 = some (.str (secT (.tup (tx k' :: us)))) := at_of (j := 1) rfl (by simpa using hs)
        refine iteT ⟨_, rfl, ax, _, 1, _, rfl, rfl, SqT.of hax3, at1, (show 1 ≤ sizeLine by decide), fun pq hpq => ?_⟩
        have s4 := same_new hpq (.lst [V.str (secT (.tup (tx k' :: us)))])
        refine ⟨_, rfl, ax, _, 0, _, rfl, rfl, SqT.of (s4 _ _ hax3), at0, (show 3 ≤ sizeLine by decide), fun p3 hp3 => ⟨p3, swm, rfl, .inr (SqT.of upd_same), .flat rfl, _, rfl, ?_⟩⟩
        have s5 := same_new hp3 (.tup (swm.map V.str))
        rw [inT_str, decide_eq_false (by rw [k1]; decide)]
        refine iteF ⟨_, rfl, ax, _, 0, _, rfl, rfl, SqT.of (s5 _ _ (s4 _ _ hax3)), at0, rfl, _, rfl, ?_⟩
        rw [dec_str, decide_eq_false (by rw [k1]; decide)]
        refine iteF ?_
        have S25 : Same H2 _ := fun c o e => s5 _ _ (s4 _ _ (s3 _ _ e))
        exact rest_need (K := K) (us := us) (rs := [secT (.tup (tx k' :: us))]) (S25 _ _ hpf2) (S25 _ _ hpc2) (s5 _ _ upd_same) (S25 _ _ hax) lfs2 (Nat.le_of_ble_eq_true rfl) lch hsec hthi (fin pq _ _ S25 (by
          show 1 ≤ gT _
          rw [k1]
          exact Nat.le_refl _) (fun z => by rw [reads_k2, if_neg (by rw [k1]; decide), if_neg (by rw [k1]; decide), if_pos k1]))
      rw [decide_eq_false k1]
      refine iteF ⟨_, rfl, ax, _, 0, _, rfl, rfl, SqT.of hax3, at0, (show 3 ≤ sizeLine by decide), fun p3 hp3 => ⟨p3, swm, rfl, .inr (SqT.of upd_same), .flat rfl, _, rfl, ?_⟩⟩
      have s4 := same_new hp3 (.tup (swm.map V.str))
      have hax4 := s4 _ _ hax3
      rw [inT_str]
      by_cases k2 : k' ∈ swm
      · rw [decide_eq_true k2]
        have hs := rt.thi (.inr k2)
        have at2 : atI (V.str k' :: ux) 2 = some (.str (thiT (.tup (tx k' :: us)))) := at_of (j := 2) rfl (by simpa using hs)
        have k3 : k' ≠ "later" := fun e => by rw [e] at k2; exact absurd k2 (by decide)
        refine iteT ⟨_, rfl, ax, _, 2, _, rfl, rfl, SqT.of hax4, at2, (show 1 ≤ sizeLine by decide), fun pq hpq => ?_⟩
        have s5 := same_new hpq (.lst [V.str (thiT (.tup (tx k' :: us)))])
        refine ⟨_, rfl, ax, _, 0, _, rfl, rfl, SqT.of (s5 _ _ hax4), at0, rfl, _, rfl, ?_⟩
        rw [dec_str, decide_eq_false k3]
        refine iteF ?_
        have S25 : Same H2 _ := fun c o e => s5 _ _ (s4 _ _ (s3 _ _ e))
        exact rest_need (K := K) (us := us) (rs := [thiT (.tup (tx k' :: us))]) (S25 _ _ hpf2) (S25 _ _ hpc2) upd_same (S25 _ _ hax) lfs2 (Nat.le_of_ble_eq_true rfl) lch hsec hthi (fin pq _ _ S25 (by
          have e : gT (.tup (tx k' :: us)) = 1 := if_neg k3
          rw [e]
          exact Nat.le_refl _) (fun z => by rw [reads_k2, if_neg k3, if_pos k2]))
      rw [decide_eq_false k2]
      refine iteF ⟨_, rfl, ax, _, 0, _, rfl, rfl, SqT.of hax4, at0, rfl, _, rfl, ?_⟩
      rw [dec_str]
      by_cases k3 : k' = "later"
      · rw [decide_eq_true k3]
        subst k3
        generalize ht' : Tr.tup (tx "later" :: us) = tt at hgt
        cases hgt with
        | @later _ xs h3 =>
          injection ht' with ht'
          injection ht' with _ ht'
          subst ht'
          have hb : b = true := hbb rfl
          have fcl : FC false 1 d := by
            rw [hb] at fc
            exact fc.later
          obtain ⟨vx, hvx, wvx⟩ := hux.get' (i := 0) (t := .tup xs) rfl
          have at1 : atI (V.str "later" :: ux) 1 = some vx := at_of (j := 1) rfl (by simpa using hvx)
          have eg : gT (.tup [tx "later", .tup xs]) = cnt xs := rfl
          rw [eg] at lg
          refine iteT ⟨_, rfl, ax, _, 1, _, rfl, rfl, SqT.of hax4, at1, vx, xs, false, 1, rfl, Tw.gr ((Gr.of s3).trans (Gr.of s4)) _ _ wvx, fcl, h3, by omega, fun pq H5 ys s5 n5 e5 srt nd mem => ?_⟩
          have S25 : Same H2 H5 := fun c o e => s5 _ _ (s4 _ _ (s3 _ _ e))
          have ly := reads_le h3 nd fun z hz => (mem z).mp hz
          exact rest_need (K := K) (us := [.tup xs]) (rs := ys) (S25 _ _ hpf2) (S25 _ _ hpc2) e5 (S25 _ _ hax) lfs2 (by omega) lch hsec hthi (fin pq _ _ S25 ly (fun z => by
            rw [reads_k2, if_pos rfl]
            show _ ↔ z ∈ need9 xs
            rw [need9_iff h3 z]
            exact mem z))
        | say _ => injection ht' with ht'; injection ht' with h1 _; injection h1 with h1; injection h1 with h1; exact absurd h1 (by decide)
        | set _ _ => injection ht' with ht'; injection ht' with h1 _; injection h1 with h1; injection h1 with h1; exact absurd h1 (by decide)
        | turn _ _ => injection ht' with ht'; injection ht' with h1 _; injection h1 with h1; injection h1 with h1; exact absurd h1 (by decide)
        | write _ _ => injection ht' with ht'; injection ht' with h1 _; injection h1 with h1; injection h1 with h1; exact absurd h1 (by decide)
        | fetch _ _ => injection ht' with ht'; injection ht' with h1 _; injection h1 with h1; injection h1 with h1; exact absurd h1 (by decide)
        | map _ _ _ => injection ht' with ht'; injection ht' with h1 _; injection h1 with h1; injection h1 with h1; exact absurd h1 (by decide)
        | put _ _ => injection ht' with ht'; injection ht' with h1 _; injection h1 with h1; injection h1 with h1; exact absurd h1 (by decide)
        | iff _ _ _ _ _ => injection ht' with ht'; injection ht' with h1 _; injection h1 with h1; injection h1 with h1; exact absurd h1 (by decide)
      rw [decide_eq_false k3]
      refine iteF ?_
      have S24 : Same H2 _ := fun c o e => s4 _ _ (s3 _ _ e)
      exact rest_need (K := K) (us := us) (rs := []) (S24 _ _ hpf2) (S24 _ _ hpc2) (s4 _ _ upd_same) (S24 _ _ hax) lfs2 (Nat.zero_le _) lch hsec hthi (fin pr _ _ S24 (Nat.zero_le _) (fun z => by rw [reads_k2, if_neg k3, if_neg k2, if_neg k1]))
    · obtain ⟨y4, y5, pf2, fs2, rfl, sm2, hpf2, npf2, hpc2, hmem2, hfl2⟩ := pv
      have et : way.take uw.length = way := List.take_of_length_le (by omega)
      rw [et] at hmem2 hfl2
      have hsum := ws.sum
      refine ⟨_, _, _, _, _, pf2, fs2, rfl, sm2, hpf2, fun z => ?_, by omega⟩
      have ew : foundW need9 ((waysW (d + 1) ts).take (i + 1)) = foundW need9 ((waysW (d + 1) ts).take i) ++ wayF need9 way [] := by
        unfold foundW
        rw [List.take_add_one, hway, List.map_append, List.flatten_append]
        simp
      rw [ew, List.mem_append, hmem2 z, hmem z]
  · obtain ⟨x2, x3, x4, x5, x6, pf, fs, rfl, sm, hpf, hmem, hfl⟩ := pv
    have et : (waysW (d + 1) ts).take ls.length = waysW (d + 1) ts := List.take_of_length_le (by omega)
    rw [et] at hmem
    have mem : ∀ z, z ∈ fs ↔ useL z 9 ts = some true := fun z => by
      rw [hmem z, found_iff (gen_ans (fun xs hx => need9_iff hx z) (d + 1) b dp ts fc h9 hg), use_fuel (d + 1) 9 b dp ts fc h9 hg]
    have nda : (addAll [] fs).Nodup := addAll_nodup List.nodup_nil
    have mema : ∀ z, z ∈ addAll [] fs ↔ useL z 9 ts = some true := fun z => by
      rw [addAll_mem, mem z]
      exact ⟨fun h => h.elim (fun h => by cases h) id, .inr⟩
    have l8 := reads_le hg nda fun z hz => (mema z).mp hz
    refine ⟨_, rfl, pf, fs, rfl, .inr (SqL.of hpf), by omega, fun ps hps => ⟨ps, _, rfl, upd_same, by omega, fun ys pz hperm hsrt hpz => ?_⟩⟩
    have s5 := same_new hps (SetSO P w ps (addAll [] fs))
    have s6 := same_new hpz (.lst (ys.map V.str))
    have S6 : Same H _ := fun c o e => s6 _ _ (s5 _ _ (sm _ _ (S0 _ _ e)))
    refine q pz _ ys S6 ?_ upd_same hsrt (hperm.nodup_iff.mpr nda) fun z => by rw [hperm.mem_iff, mema z]
    cases e : H pz with
    | none => rfl
    | some o =>
      have z := s5 _ _ (sm _ _ (S0 _ _ e))
      exact absurd (hpz.symm.trans z) (fun h => by cases h)
theorem ok__law_needed {W : Wd} (ok : W.Ok) {k : Nat} {fd fdw : FuncData} (F : Fun K "_law_needed" "_law_needed" s__law_needed fn fd) (T : TxtNd K mg fw fn) (Gw : ∀ d ≤ 9, FnOk P w K mg base CX0 k fw fdw ["_law_rows"] (spWays W d)) (bw : Binds K fdw ["_law_rows"] []) (bn : Binds K fd ["_law_rows"] []) :
    ∀ d : Nat, d ≤ 9 → FnOk P w K mg base CX0 (k + d) fn fd ["_law_rows"] (spNeed W d)
  | 0, _ => by
    have no : ∀ vs H Q E, ¬ spNeed W 0 vs H Q E := fun vs H Q E h => by
      obtain ⟨_, _, _, _, _, _, z, _⟩ := h
      have := z.pos
      omega
    refine ⟨?_, ?_⟩
    · intro vs H Q E h
      exact (no _ _ _ _ h).elim
    · intros
      rename_i h
      exact (no _ _ _ _ h).elim
  | d + 1, h => ok__law_needed_step ok h F T ((Gw (d + 1) h).mono (Nat.le_add_right k d)) bw (ok__law_needed ok F T Gw bw bn d (by omega)) bn
end
end CA
namespace CA
open PySem L2
/-- trees of texts, numbers and None, down to a depth -/
def okT : Nat → Tr → Prop
  | 0, _ => False
  | d + 1, .tup ts => ∀ t ∈ ts, okT d t
  | _ + 1, .at .non => True
  | _ + 1, .at (.str _) => True
  | _ + 1, .at (.int _) => True
  | _ + 1, .at _ => False
def spSameT (d : Nat) : Sp := fun vs H Q _ => ∃ (tv dv : V) (T : Tr), vs = [tv, dv] ∧ Tw H tv T ∧ Tw H dv T ∧ okT d T ∧ ∀ H', Same H H' → Q (.bl true) H'
structure TxtSm (K : PySem.W.Frag) (mg : Str → Option Value) (fs : Addr) : Prop where
  range : mg "range" = none
  g__law_same : mg "_law_same" = some (.ref fs)
  k__law_same : PySem.W.keepIn K (.ref fs) = true
theorem inV_true : ∀ n : Nat, inV (.bl false) (List.replicate n (V.bl true)) = false
  | 0 => rfl
  | n + 1 => by
    show (eqV (.bl true) (.bl false) || inV (.bl false) (List.replicate n (V.bl true))) = false
    rw [inV_true n]
    rfl
theorem flat_true : ∀ n : Nat, (List.replicate n (V.bl true)).all flatV = true
  | 0 => rfl
  | n + 1 => by
    show (flatV (.bl true) && (List.replicate n (V.bl true)).all flatV) = true
    rw [flat_true n]
    rfl
section
variable {P : Program} {w : World} {K : PySem.W.Frag} {mg : Str → Option Value} {base : Heap} {fs : Addr}
abbrev s__law_same : Stmt := topS 64
theorem sc__law_same : FnScope ["_law_told", "_law_due", "_law_k"] ["_law_told", "_law_due"] (defScope s__law_same) := ⟨rfl, rfl, rfl, by decide +kernel, rfl, by decide +kernel, by decide +kernel⟩
theorem ok__law_same_step {d k : Nat} (hk : 1 ≤ k) {fd : FuncData} (F : Fun K "_law_same" "_law_same" s__law_same fs fd) (B : Blt mg) (T : TxtSm K mg fs) (Gs : FnOk P w K mg base CX0 k fs fd ["_law_told", "_law_due"] (spSameT d)) (bs : Binds K fd ["_law_told", "_law_due"] []) :
    FnOk P w K mg base CX0 (k + 1) fs fd ["_law_told", "_law_due"] (spSameT (d + 1)) := by
  refine F.ok sc__law_same (fun vs H Q E h => ?_) (fun cdv A outer s H vs Q E hr h => ?_)
  · obtain ⟨tv, dv, TT, rfl, _⟩ := h
    rfl
  obtain ⟨tv, dv, TT, rfl, wt, wd, ok, q⟩ := h
  have ISI : ∀ (i : Nat) (ty : String), True := fun _ _ => trivial
  refine ⟨_, (pss_cons (ps_if (pt_val (pe_callB call_isi (by rfl) B.isinstance (by decide +kernel) (pa_cons (pv 1) (pa_cons (pe_bltn (v := .ty "tuple") (by rfl) B.tuple (by decide +kernel) rfl) pa_nil))))
    (pss_cons (ps_if (PW.pt (pw_or (pt_not (pt_val (pe_callB call_isi (by rfl) B.isinstance (by decide +kernel) (pa_cons (pv 0) (pa_cons (pe_bltn (v := .ty "tuple") (by rfl) B.tuple (by decide +kernel) rfl) pa_nil))))) (pw_or1 (pt_cmpR op_ne (pe_callB call_len_seq (by rfl) B.len (by decide +kernel) (pa_cons (pv 0) pa_nil)) (pe_callB call_len_seq (by rfl) B.len (by decide +kernel) (pa_cons (pv 1) pa_nil)) (nomark _)))))
        (pss_one (ps_ret pe_bl))
        pss_nil)
      (pss_one (ps_ret (pe_cmpR op_notIn_seq pe_bl (pe_lc (own := [("_law_k", 2)]) (g := gName 2) (tt := tYes) (te := tCall (spSameT d) [] E0 (tCons (tOp (rIxT K) (tVar 0) (tVar 2)) (tCons (tOp (rIxT K) (tVar 1) (tVar 2)) tNil))) rfl sc__law_same.nd (pi_range1 rfl T.range (pa_cons (pe_callB call_len_seq (by rfl) B.len (by decide +kernel) (pa_cons (pv 1) pa_nil)) pa_nil))
        (blkOk_by (own := [("_law_k", 2)]) (N := ["_law_told", "_law_due", "_law_k"]) (sc := defScope s__law_same) (by decide +kernel))
        (fun s H C cl fp => pg_name (i := 2) sc__law_same.nd rfl (Or.inl rfl)) (fun s H C cl fp => pts_nil) (fun s H C cl fp => pe_call Gs hr rfl T.g__law_same T.k__law_same bs .nil pass0 (pa_cons (pe_ix ix_tup (pv 0) (pv 2) (fun _ _ => rfl)) (pa_cons (pe_ix ix_tup (pv 1) (pv 2) (fun _ _ => rfl)) pa_nil)))) (by rfl)))))
    pss_nil)
  (pss_cons (ps_if (pt_cmpR op_isN (pv 1) pe_non (nomark _))
    (pss_one (ps_ret (pe_cmpR op_isN (pv 0) pe_non (nomark _))))
    pss_nil)
  (pss_cons (ps_if (pt_val (pe_callB call_isi (by rfl) B.isinstance (by decide +kernel) (pa_cons (pv 1) (pa_cons (pe_bltn (v := .ty "str") (by rfl) B.str (by decide +kernel) rfl) pa_nil))))
    (pss_one (ps_ret (pe_and (pe_callB call_isi (by rfl) B.isinstance (by decide +kernel) (pa_cons (pv 0) (pa_cons (pe_bltn (v := .ty "str") (by rfl) B.str (by decide +kernel) rfl) pa_nil))) (pe_one (pe_cmpR op_eq (pv 0) (pv 1) (nomark _))))))
    pss_nil)
  (pss_one (ps_ret (pe_and (pe_callB call_isi (by rfl) B.isinstance (by decide +kernel) (pa_cons (pv 0) (pa_cons (pe_bltn (v := .ty "int") (by rfl) B.int (by decide +kernel) rfl) pa_nil))) (pe_and (pe_not (pe_callB call_isi (by rfl) B.isinstance (by decide +kernel) (pa_cons (pv 0) (pa_cons (pe_bltn (v := .ty "bool") (by rfl) B.bool (by decide +kernel) rfl) pa_nil)))) (pe_one (pe_cmpR op_eq (pv 0) (pv 1) (nomark _)))))))))), ?_⟩
  refine tisi_tup (K := K) (v := dv) rfl wd ⟨_, rfl, ?_⟩
  have here : Same H H := fun _ _ e => e
  cases TT with
  | tup ts =>
    refine iteT ?_
    refine tisi_tup (K := K) (v := tv) rfl wt ⟨_, rfl, ?_⟩
    refine iteF ?_
    cases wt with
    | @tup a us _ ha hl hb =>
    cases wd with
    | @tup a2 us2 _ ha2 hl2 _ =>
    have l1 := hl.len
    have l2 := hl2.len
    refine ⟨_, rfl, a, us, rfl, .inr (SqT.of ha), _, rfl, a2, us2, rfl, .inr (SqT.of ha2), rfl, _, rfl, ?_⟩
    have e : decide (V.int (us.length : Int) = V.int (us2.length : Int)) = true := by rw [l1, l2]; simp
    rw [e]
    refine iteF ?_
    dsimp only [tRet, tOp, tC]
    refine ⟨_, rfl, a2, us2, rfl, .inr (SqT.of ha2), (us2.length : Int), rfl, by omega, by omega, fun D hD => ?_⟩
    have e2 : ((us2.length : Int)).toNat = us2.length := rfl
    rw [e2]
    refine walk_range (lo := 0) (n := us2.length) (fun i H' => Same H H' ∧ H' D = some (.lst (List.replicate i (V.bl true)))) ⟨same_new hD _, upd_same⟩ (fun i H' hi pv => ?_) (fun H' pv => ?_)
    · obtain ⟨sm, hDs⟩ := pv
      have hi1 : i < us.length := by omega
      obtain ⟨t1, ht1, w1⟩ := hl.get (List.getElem?_eq_getElem hi1)
      obtain ⟨t2, ht2, w2⟩ := hl2.get (List.getElem?_eq_getElem hi)
      have et : t2 = t1 := by rw [ht1] at ht2; injection ht2 with z; exact z.symm
      subst et
      have e0 : (0 : Int) + (i : Int) = (i : Int) := by omega
      refine ⟨rfl, ?_⟩
      unfold tYes
      refine iteT ⟨_, rfl, _, rfl, a, us, _, us[i], rfl, rfl, SqT.of (sm _ _ ha), at_of (j := i) e0 (List.getElem?_eq_getElem hi1), _, rfl, _, rfl, a2, us2, _, us2[i], rfl, rfl, SqT.of (sm _ _ ha2), at_of (j := i) e0 (List.getElem?_eq_getElem hi), _, _, t2, rfl, Tw.gr (Gr.of sm) _ _ w1, Tw.gr (Gr.of sm) _ _ w2, ok t2 (List.mem_of_getElem? ht1), fun H2 s2 => ?_⟩
      refine ⟨_, s2 _ _ hDs, ?_, same_upd hD fun c o e => s2 _ _ (sm _ _ e), ?_⟩
      · rw [List.length_replicate]
        exact Nat.lt_of_lt_of_le (show i < 1001 by omega) (by decide)
      · rw [upd_same, List.replicate_succ']
    · obtain ⟨sm, hDs⟩ := pv
      refine ⟨D, _, rfl, .inl (SqL.of hDs), rfl, flat_true _, ?_⟩
      rw [inV_true]
      exact q H' sm
  | «at» v =>
    have e1 : tv = v := by cases wt; rfl
    have e2 : dv = v := by cases wd; rfl
    subst e1 e2
    refine iteF ?_
    cases dv with
    | non =>
      refine ⟨_, rfl, rfl, _, rfl, iteT ?_⟩
      exact ⟨_, rfl, rfl, q H here⟩
    | str z =>
      refine ⟨_, rfl, rfl, _, rfl, iteF ?_⟩
      refine tisi_str (K := K) (v := .str z) rfl wd ⟨_, rfl, iteT ?_⟩
      refine tisi_str (K := K) (v := .str z) rfl wt ⟨_, rfl, iteT ?_⟩
      refine ⟨_, rfl, _, rfl, rfl, ?_⟩
      rw [decide_eq_true rfl]
      exact q H here
    | int z =>
      refine ⟨_, rfl, rfl, _, rfl, iteF ?_⟩
      refine tisi_str (K := K) (v := .int z) rfl wd ⟨_, rfl, iteF ?_⟩
      refine tisi_int (K := K) (v := .int z) rfl wt ⟨_, rfl, iteT ?_⟩
      refine tisi_bool (K := K) (v := .int z) rfl wt ⟨_, rfl, ⟨_, rfl, iteT ?_⟩⟩
      refine ⟨_, rfl, _, rfl, rfl, ?_⟩
      rw [decide_eq_true rfl]
      exact q H here
    | _ => exact ok.elim
theorem ok__law_same {fd : FuncData} (F : Fun K "_law_same" "_law_same" s__law_same fs fd) (B : Blt mg) (T : TxtSm K mg fs) (bs : Binds K fd ["_law_told", "_law_due"] []) : ∀ d : Nat, FnOk P w K mg base CX0 (d + 1) fs fd ["_law_told", "_law_due"] (spSameT d)
  | 0 => by
    have no : ∀ vs H Q E, ¬ spSameT 0 vs H Q E := fun vs H Q E h => by
      obtain ⟨_, _, _, _, _, _, z, _⟩ := h
      exact z
    refine ⟨?_, ?_⟩
    · intro vs H Q E h
      exact (no _ _ _ _ h).elim
    · intros
      rename_i h
      exact (no _ _ _ _ h).elim
  | d + 1 => ok__law_same_step (Nat.le_add_left 1 d) F B T (ok__law_same F B T bs d) bs
end
end CA
namespace CA
open PySem L2
/-! ### the part that is drawn is good -/
theorem names_tr {ss : List Str} {a b : Int} (h1 : ∀ s ∈ ss, nmS s = true) (h2 : ss.Nodup) (h3 : a ≤ (ss.length : Int)) (h4 : (ss.length : Int) ≤ b) : trNames (.tup (ss.map tx)) a b = true := by
  show (_ && _ && _ && _) = true
  rw [List.length_map, decide_eq_true h3, decide_eq_true h4]
  have e1 : (((ss.map tx).map trName).all id) = true := by
    rw [List.all_eq_true]
    intro x hx
    obtain ⟨t, ht, rfl⟩ := List.mem_map.mp hx
    obtain ⟨s, hs, rfl⟩ := List.mem_map.mp ht
    exact h1 s hs
  have e2 : (ss.map tx).map txOf' = ss := by
    rw [List.map_map]
    exact List.map_id' ss
  rw [e1, e2]
  have := (addAll_full (xs := ss) (l := [])).mpr ⟨h2, fun _ _ h => by cases h⟩
  rw [decide_eq_true (by simpa using this)]
  rfl
theorem fun_all : ∀ k ∈ funKinds, (k ∈ allThr ↔ k ∈ ifsLater) := by decide
/-- in drawn rows only if rows and later rows contain rows -/
theorem gen_inner {W : Wd} {b : Bool} {dp : Int} {t : Tr} (h : GRow W b dp t) : (∃ s w xs ys, t = .tup [tx "if", tx s, tx w, .tup xs, .tup ys] ∧ (∀ t ∈ xs, GRow W false (dp + 1) t) ∧ (∀ t ∈ ys, GRow W false (dp + 1) t)) ∨ (∃ xs, t = .tup [tx "later", .tup xs] ∧ b = true ∧ ∀ t ∈ xs, GRow W false 1 t) ∨ (kOf t ∉ allThr ∧ inn t = []) := by
  have no : ∀ (k : Str) (us : List Tr), firstRows k = none → inn (.tup (tx k :: us)) = [] := fun k us e => inner_none (k := k) e
  cases h with
  | @iff _ _ s w xs ys _ _ _ h3 h4 => exact .inl ⟨s, w, xs, ys, rfl, h3, h4⟩
  | @later _ xs h3 => exact .inr (.inl ⟨xs, rfl, rfl, h3⟩)
  | say _ => exact .inr (.inr ⟨(by decide : ("say" : Str) ∉ allThr), no _ _ rfl⟩)
  | set _ _ => exact .inr (.inr ⟨(by decide : ("set" : Str) ∉ allThr), no _ _ rfl⟩)
  | turn _ _ => exact .inr (.inr ⟨(by decide : ("turn" : Str) ∉ allThr), no _ _ rfl⟩)
  | write _ _ => exact .inr (.inr ⟨(by decide : ("write" : Str) ∉ allThr), no _ _ rfl⟩)
  | fetch _ _ => exact .inr (.inr ⟨(by decide : ("fetch" : Str) ∉ allThr), no _ _ rfl⟩)
  | map _ _ _ => exact .inr (.inr ⟨(by decide : ("map" : Str) ∉ allThr), no _ _ rfl⟩)
  | put _ _ => exact .inr (.inr ⟨(by decide : ("put" : Str) ∉ allThr), no _ _ rfl⟩)
theorem mapIdx_eq {α β : Type} (f g : Nat → α → β) : ∀ ts : List α, (∀ i t, t ∈ ts → f i t = g i t) → ts.mapIdx f = ts.mapIdx g := by
  intro ts
  induction ts generalizing f g with
  | nil => intro _; rfl
  | cons t ts ih =>
    intro h
    rw [List.mapIdx_cons, List.mapIdx_cons, h 0 t (List.mem_cons_self ..), ih (fun i => f (i + 1)) (fun i => g (i + 1)) fun i u hu => h (i + 1) u (List.mem_cons_of_mem _ hu)]
theorem rows_all {W : Wd} : ∀ (d : Nat) (b : Bool) (dp : Int) (ts : List Tr) (path : List Int), (∀ t ∈ ts, GRow W b dp t) → rowsW allThr d ts path = rowsW ifsLater d ts path
  | 0, _, _, _, _, _ => rfl
  | d + 1, b, dp, ts, path, hg => by
    show (ts.mapIdx (rowOut (rowsW allThr d) path allThr)).flatten = (ts.mapIdx (rowOut (rowsW ifsLater d) path ifsLater)).flatten
    rw [mapIdx_eq (rowOut (rowsW allThr d) path allThr) (rowOut (rowsW ifsLater d) path ifsLater) ts fun i t ht => ?_]
    have hgt := hg t ht
    have hk := fun_all _ (gen_kind hgt)
    unfold rowOut
    congr 1
    by_cases h : kOf t ∈ allThr
    · rw [if_pos h, if_pos (hk.mp h)]
      rcases gen_inner hgt with ⟨s, w, xs, ys, rfl, h3, h4⟩ | ⟨xs, rfl, _, h3⟩ | ⟨hn, _⟩
      · congr 1
        show [rowsW allThr d xs _, rowsW allThr d ys _] = [rowsW ifsLater d xs _, rowsW ifsLater d ys _]
        rw [rows_all d false (dp + 1) xs _ h3, rows_all d false (dp + 1) ys _ h4]
        rfl
      · congr 1
        show [rowsW allThr d xs _] = [rowsW ifsLater d xs _]
        rw [rows_all d false 1 xs _ h3]
      · exact absurd h hn
    · rw [if_neg h, if_neg fun z => h (hk.mpr z)]
/-- what is listed as a function of drawn rows -/
theorem gen_funs {W : Wd} (ok : W.Ok) : ∀ (d : Nat) (b : Bool) (dp : Int) (ts : List Tr) (path : List Int), FC b dp d → d ≤ 8 → (∀ t ∈ ts, GRow W b dp t) → ∀ q ∈ funsW d ts path, ∃ xs, q.2 = .tup xs ∧ (∀ t ∈ xs, GRow W false 1 t) ∧ cnt xs ≤ cnt ts
  | 0, b, dp, ts, _, h, _, _ => by have := h.pos; omega
  | d + 1, b, dp, ts, path, h, h8, hg => by
    intro q hq
    obtain ⟨i, t, ht, hq⟩ := flat_mem _ ts q hq
    have hgt := hg t (List.mem_of_getElem? ht)
    have hc := cnt_at_le ts i t ht
    obtain ⟨n, x, hx, hq⟩ := flat_mem _ _ q hq
    unfold funOut1 at hq
    rcases gen_inner hgt with ⟨s, w, xs, ys, rfl, h3, h4⟩ | ⟨xs, rfl, hb, h3⟩ | ⟨_, hn⟩
    · have h2 : dp ≤ 2 := by obtain ⟨_, _, _, _, e, _, h2, _, _⟩ := grow_if hgt rfl; exact h2
      have f := h.iff h2
      have sx := (gen_val ok (es := []) _ false (dp + 1) "body" xs f (by decide) (fun e => by cases e) h3).val.shp
      have sy := (gen_val ok (es := []) _ false (dp + 1) "body" ys f (by decide) (fun e => by cases e) h4).val.shp
      have e : wtT (ts.take i).length (.tup [tx "if", tx s, tx w, .tup xs, .tup ys]) = 1 + cnt xs + cnt ys := cnt_if _ sx sy (by omega)
      rw [e] at hc
      rw [if_pos (show kOf (Tr.tup [tx "if", tx s, tx w, .tup xs, .tup ys]) = "if" from rfl), List.nil_append] at hq
      have hx : ([Tr.tup xs, .tup ys] : List Tr)[n]? = some x := hx
      match n, hx with
      | 0, hx =>
        have := Option.some.inj hx
        subst this
        obtain ⟨zs, e1, e2, e3⟩ := gen_funs ok d false (dp + 1) xs _ f (by omega) h3 q hq
        exact ⟨zs, e1, e2, by omega⟩
      | 1, hx =>
        have := Option.some.inj hx
        subst this
        obtain ⟨zs, e1, e2, e3⟩ := gen_funs ok d false (dp + 1) ys _ f (by omega) h4 q hq
        exact ⟨zs, e1, e2, by omega⟩
      | n + 2, hx => simp at hx
    · subst hb
      have f := h.later
      have sx := (gen_val ok (es := []) _ false 1 "body" xs f (by decide) (fun e => by cases e) h3).val.shp
      have e : wtT (ts.take i).length (.tup [tx "later", .tup xs]) = 1 + cnt xs := cnt_later _ sx (by omega)
      rw [e] at hc
      rw [if_neg (show kOf (Tr.tup [tx "later", .tup xs]) ≠ "if" from (by decide : ("later" : Str) ≠ "if"))] at hq
      have hx : ([Tr.tup xs] : List Tr)[n]? = some x := hx
      match n, hx with
      | 0, hx =>
        have := Option.some.inj hx
        subst this
        rcases List.mem_append.mp hq with hq | hq
        · rw [List.mem_singleton] at hq
          rw [hq]
          exact ⟨xs, rfl, h3, by omega⟩
        · obtain ⟨zs, e1, e2, e3⟩ := gen_funs ok d false 1 xs _ f (by omega) h3 q hq
          exact ⟨zs, e1, e2, by omega⟩
      | n + 1, hx => simp at hx
    · rw [hn] at hx
      simp at hx
/-- a later row of drawn rows is listed -/
theorem later_listed {W : Wd} {d : Nat} {b : Bool} {dp : Int} {ts : List Tr} {path : List Int} {i : Nat} {xs : List Tr} (h : ts[i]? = some (.tup [tx "later", .tup xs])) : (path ++ [(i : Int), (0 : Int)], Tr.tup xs) ∈ funsW (d + 1) ts path := by
  refine List.mem_flatten.mpr ⟨funOut (funsW d) path i (.tup [tx "later", .tup xs]), List.mem_iff_getElem?.mpr ⟨i, by rw [List.getElem?_mapIdx, h]; rfl⟩, ?_⟩
  refine List.mem_flatten.mpr ⟨funOut1 (funsW d) path i "later" 0 (.tup xs), List.mem_iff_getElem?.mpr ⟨0, rfl⟩, ?_⟩
  unfold funOut1
  rw [if_neg (by decide)]
  exact List.mem_append.mpr (.inl (List.mem_singleton.mpr rfl))
/-- the rows of the part -/
def partRows (n0 w0 b0 w1 : Str) (A B : List Tr) : List Tr := [.tup [tx "cell", tx n0, tx w0], .tup [tx "box", tx b0, tx w1], .tup [tx "effect", .at .non, .tup A, .tup B]]
theorem fit_none {ws es : List Str} : itemFits "list or none" (.at .non) ws es = true := by
  unfold itemFits
  rw [if_neg (by decide), if_neg (by decide), if_neg (by decide), if_neg (by decide), if_pos rfl]
  rfl
structure Half (W : Wd) (z : Str) (A : List Tr) : Prop where
  ex : A = [] ∨ ∃ b, (b = true → z = "body") ∧ ∀ t ∈ A, GRow W b 1 t
  cnt : CA.cnt A ≤ 8
theorem Half.rows {W : Wd} {z : Str} {A : List Tr} (h : Half W z A) : ∃ b, (b = true → z = "body") ∧ ∀ t ∈ A, GRow W b 1 t := by
  rcases h.ex with rfl | h
  · exact ⟨false, (fun e => by cases e), fun t ht => by cases ht⟩
  · exact h
theorem fc1 (b : Bool) {d : Nat} (h : 4 ≤ d) : FC b 1 d := by
  cases b with
  | true => exact ⟨rfl, h⟩
  | false =>
    show (1 : Int) ≤ 1 ∧ 4 - 1 ≤ (d : Int) ∧ 1 ≤ d
    omega
end CA
namespace CA
open PySem L2
section
variable {W : Wd} {n0 w0 b0 w1 : Str} {A B : List Tr}
theorem effect_inner : innerT "effect" [tx "effect", Tr.at .non, .tup A, .tup B] = [.tup A, .tup B] := rfl
theorem part_rows (thr : List Str) (d : Nat) (h1 : ("cell" : Str) ∉ thr) (h2 : ("box" : Str) ∉ thr) : rowsW thr (d + 1) (partRows n0 w0 b0 w1 A B) [] = ([(0 : Int)], .tup [tx "cell", tx n0, tx w0]) :: ([(1 : Int)], .tup [tx "box", tx b0, tx w1]) :: ([(2 : Int)], .tup [tx "effect", .at .non, .tup A, .tup B]) ::
    (if ("effect" : Str) ∈ thr then rowsW thr d A [2, 0] ++ rowsW thr d B [2, 1] else []) := by
  have r0 : rowOut (rowsW thr d) [] thr 0 (.tup [tx "cell", tx n0, tx w0]) = [([(0 : Int)], .tup [tx "cell", tx n0, tx w0])] := by
    unfold rowOut
    rw [if_neg (show kOf (Tr.tup [tx "cell", tx n0, tx w0]) ∉ thr from h1)]
    rfl
  have r1 : rowOut (rowsW thr d) [] thr 1 (.tup [tx "box", tx b0, tx w1]) = [([(1 : Int)], .tup [tx "box", tx b0, tx w1])] := by
    unfold rowOut
    rw [if_neg (show kOf (Tr.tup [tx "box", tx b0, tx w1]) ∉ thr from h2)]
    rfl
  have r2 : rowOut (rowsW thr d) [] thr 2 (.tup [tx "effect", .at .non, .tup A, .tup B]) = ([(2 : Int)], .tup [tx "effect", .at .non, .tup A, .tup B]) :: (if ("effect" : Str) ∈ thr then rowsW thr d A [2, 0] ++ rowsW thr d B [2, 1] else []) := by
    unfold rowOut
    by_cases h : ("effect" : Str) ∈ thr
    · rw [if_pos h, if_pos (show kOf (Tr.tup [tx "effect", .at .non, .tup A, .tup B]) ∈ thr from h)]
      show _ :: (rowsW thr d A [2, 0] ++ (rowsW thr d B [2, 1] ++ [])) = _
      rw [List.append_nil]
      rfl
    · rw [if_neg h, if_neg (show kOf (Tr.tup [tx "effect", .at .non, .tup A, .tup B]) ∉ thr from h)]
      rfl
  show rowOut (rowsW thr d) [] thr 0 (.tup [tx "cell", tx n0, tx w0]) ++ (rowOut (rowsW thr d) [] thr 1 (.tup [tx "box", tx b0, tx w1]) ++ (rowOut (rowsW thr d) [] thr 2 (.tup [tx "effect", .at .non, .tup A, .tup B]) ++ [])) = _
  rw [r0, r1, r2, List.append_nil]
  rfl
theorem part_funs (d : Nat) : funsW (d + 1) (partRows n0 w0 b0 w1 A B) [] = (([(2 : Int), 0], Tr.tup A) :: funsW d A [2, 0]) ++ (([(2 : Int), 1], Tr.tup B) :: funsW d B [2, 1]) := by
  show (funOut (funsW d) [] 0 (.tup [tx "cell", tx n0, tx w0]) ++ (funOut (funsW d) [] 1 (.tup [tx "box", tx b0, tx w1]) ++ (funOut (funsW d) [] 2 (.tup [tx "effect", .at .non, .tup A, .tup B]) ++ []))) = _
  have r0 : funOut (funsW d) [] 0 (.tup [tx "cell", tx n0, tx w0]) = [] := rfl
  have r1 : funOut (funsW d) [] 1 (.tup [tx "box", tx b0, tx w1]) = [] := rfl
  rw [r0, r1, List.append_nil]
  show funOut1 (funsW d) [] 2 "effect" 0 (.tup A) ++ (funOut1 (funsW d) [] 2 "effect" 1 (.tup B) ++ []) = _
  rw [List.append_nil]
  unfold funOut1
  rw [if_neg (by decide)]
  rfl
theorem mapIdx_le2 {α β γ : Type} (f : Nat → α → List β) (g : Nat → α → List γ) (e : Nat) (ts : List α) (h : ∀ i t, ts[i]? = some t → (f i t).length ≤ e * (g i t).length) : ((ts.mapIdx f).flatten).length ≤ e * ((ts.mapIdx g).flatten).length := by
  have := mapIdx_le f g 0 e ts fun i t ht => by rw [Nat.zero_add]; exact h i t ht
  omega
theorem funs_le {ws es : List Str} : ∀ {d : Nat} {ts : List Tr} {path : List Int}, Val ws es d ts → (funsW d ts path).length ≤ 2 * (rowsW allThr d ts path).length
  | 0, _, _, h => h.elim
  | d + 1, ts, path, h => by
    refine mapIdx_le2 (funOut (funsW d) path) (rowOut (rowsW allThr d) path allThr) 2 ts fun i t ht => ?_
    obtain ⟨k, us, rfl, hf, hin⟩ := h t (List.mem_of_getElem? ht)
    obtain ⟨h2, h3⟩ := inner_two hf
    unfold funOut rowOut
    rw [List.length_cons]
    have ek : kOf (Tr.tup (tx k :: us)) = k := rfl
    have ei : inn (Tr.tup (tx k :: us)) = innerT k (tx k :: us) := rfl
    rw [ek, ei]
    by_cases hk : k ∈ allThr
    · rw [if_pos hk]
      have h4 := mapIdx_le (funOut1 (funsW d) path i k) (fun n x => rowsW allThr d (itemsOf x) (path ++ [(i : Int)] ++ [(n : Int)])) 1 2 (innerT k (tx k :: us)) fun n x hx => by
        obtain ⟨xs, rfl, hv⟩ := hin x (List.mem_of_getElem? hx)
        unfold funOut1
        rw [List.length_append]
        have e1 : (if k = "if" then [] else [(path ++ [(i : Int), (n : Int)], Tr.tup xs)] : List (List Int × Tr)).length ≤ 1 := by split <;> simp
        have e2 := funs_le (path := path ++ [(i : Int), (n : Int)]) hv
        have e3 : (rowsW allThr d xs (path ++ [(i : Int), (n : Int)])).length = (rowsW allThr d (itemsOf (.tup xs)) (path ++ [(i : Int)] ++ [(n : Int)])).length := rows_len d hv.shp (Nat.le_refl _)
        have e4 : (itemsOf (Tr.tup xs)) = xs := rfl
        rw [e4] at e3 ⊢
        omega
      omega
    · rw [h3 hk]
      simp
/-- the drawn part passes every check -/
theorem part_ok (ok : W.Ok) (ew : W.ws = [w0, w1]) (ec : W.cells = [n0]) (eb : W.boxes = [b0]) (hn0 : n0 ∈ W.slots) (nd : W.ws.Nodup) (ha : Half W "body" A) (hb : Half W "clean" B) (hab : cnt A + cnt B ≤ 8) : PartOk W.ws [] [] 6 (partRows n0 w0 b0 w1 A B) := by
  obtain ⟨ba, hba, hga⟩ := ha.rows
  obtain ⟨bb, hbb, hgb⟩ := hb.rows
  have va := gen_val ok (es := []) 5 ba 1 "body" A (fc1 ba (by decide)) (by decide) hba hga
  have vb := gen_val ok (es := []) 5 bb 1 "clean" B (fc1 bb (by decide)) (by decide) hbb hgb
  have ra := rows_all 5 ba 1 A [2, 0] hga
  have rb := rows_all 5 bb 1 B [2, 1] hgb
  have la : (rowsW ifsLater 5 A [2, 0]).length = cnt A := rows_len 9 va.val.shp (by decide)
  have lb : (rowsW ifsLater 5 B [2, 1]).length = cnt B := rows_len 9 vb.val.shp (by decide)
  have hw0 : w0 ∈ W.ws := by rw [ew]; simp
  have hw1 : w1 ∈ W.ws := by rw [ew]; simp
  have nn0 := ok.slots n0 hn0
  have nb0 := ok.boxes b0 (by rw [eb]; simp)
  have f0 : rowFits (.tup [tx "cell", tx n0, tx w0]) W.ws [] = true := rowFits_of (roles := ["slot", "word"]) rfl rfl (by
    simp only [List.zip_cons_cons, List.zip_nil_right, List.forall_mem_cons, List.not_mem_nil, false_imp_iff, implies_true, and_true]
    exact ⟨(fit_name (by decide)).trans nn0, fit_word hw0⟩)
  have f1 : rowFits (.tup [tx "box", tx b0, tx w1]) W.ws [] = true := rowFits_of (roles := ["box", "word"]) rfl rfl (by
    simp only [List.zip_cons_cons, List.zip_nil_right, List.forall_mem_cons, List.not_mem_nil, false_imp_iff, implies_true, and_true]
    exact ⟨(fit_name (by decide)).trans nb0, fit_word hw1⟩)
  have f2 : rowFits (.tup [tx "effect", .at .non, .tup A, .tup B]) W.ws [] = true := rowFits_of (roles := ["list or none", "rows", "rows"]) rfl rfl (by
    simp only [List.zip_cons_cons, List.zip_nil_right, List.forall_mem_cons, List.not_mem_nil, false_imp_iff, implies_true, and_true]
    exact ⟨fit_none, fit_rows, fit_rows⟩)
  have vz : ValZ W.ws [] 6 "call" 1 (partRows n0 w0 b0 w1 A B) := by
    intro t ht
    have ht : t = .tup [tx "cell", tx n0, tx w0] ∨ t = .tup [tx "box", tx b0, tx w1] ∨ t = .tup [tx "effect", .at .non, .tup A, .tup B] := by
      unfold partRows at ht
      simpa using ht
    rcases ht with rfl | rfl | rfl
    · exact ⟨"cell", _, rfl, f0, by decide, fun n x hx => by rw [inner_none rfl] at hx; simp at hx⟩
    · exact ⟨"box", _, rfl, f1, by decide, fun n x hx => by rw [inner_none rfl] at hx; simp at hx⟩
    · refine ⟨"effect", _, rfl, f2, by decide, fun n x hx => ?_⟩
      have hx : ([Tr.tup A, .tup B] : List Tr)[n]? = some x := hx
      match n, hx with
      | 0, hx => exact ⟨A, (Option.some.inj hx).symm, va⟩
      | 1, hx => exact ⟨B, (Option.some.inj hx).symm, vb⟩
      | n + 2, hx => simp at hx
  have eI : rowsW ifsOnly 6 (partRows n0 w0 b0 w1 A B) [] = [([(0 : Int)], .tup [tx "cell", tx n0, tx w0]), ([(1 : Int)], .tup [tx "box", tx b0, tx w1]), ([(2 : Int)], .tup [tx "effect", .at .non, .tup A, .tup B])] := by
    rw [part_rows ifsOnly 5 (by decide) (by decide), if_neg (by decide)]
  have eA : rowsW allThr 6 (partRows n0 w0 b0 w1 A B) [] = ([(0 : Int)], .tup [tx "cell", tx n0, tx w0]) :: ([(1 : Int)], .tup [tx "box", tx b0, tx w1]) :: ([(2 : Int)], .tup [tx "effect", .at .non, .tup A, .tup B]) :: (rowsW allThr 5 A [2, 0] ++ rowsW allThr 5 B [2, 1]) := by
    rw [part_rows allThr 5 (by decide) (by decide), if_pos (by decide)]
  have eM : makersOf (rowsW ifsOnly 6 (partRows n0 w0 b0 w1 A B) []) = [((("cell" : Str), n0), [(0 : Int)]), ((("box" : Str), b0), [(1 : Int)])] := by
    rw [eI]
    have s0 : makersStep [] ([(0 : Int)], .tup [tx "cell", tx n0, tx w0]) = [((("cell" : Str), n0), [(0 : Int)])] := by
      unfold makersStep
      rw [if_pos (show kOf (Tr.tup [tx "cell", tx n0, tx w0]) ∈ makeKinds from (by decide : ("cell" : Str) ∈ makeKinds))]
      rfl
    have nk : ((("box" : Str), b0) : Str × Str) ≠ (("cell" : Str), n0) := fun (e : (("box" : Str), b0) = (("cell" : Str), n0)) => by
      have := congrArg Prod.fst e
      exact absurd (show ("box" : Str) = "cell" from this) (by decide)
    have s1 : makersStep [((("cell" : Str), n0), [(0 : Int)])] ([(1 : Int)], .tup [tx "box", tx b0, tx w1]) = [((("cell" : Str), n0), [(0 : Int)]), ((("box" : Str), b0), [(1 : Int)])] := by
      unfold makersStep
      rw [if_pos (show kOf (Tr.tup [tx "box", tx b0, tx w1]) ∈ makeKinds from (by decide : ("box" : Str) ∈ makeKinds))]
      have el : List.lookup (("box", b0) : Str × Str) [((("cell" : Str), n0), [(0 : Int)])] = none := by
        have hb : (((("box" : Str), b0) : Str × Str) == (("cell" : Str), n0)) = false := beq_false_of_ne nk
        simp [List.lookup, hb]
      show (match List.lookup (("box", b0) : Str × Str) [((("cell" : Str), n0), [(0 : Int)])] with
        | none => [((("cell" : Str), n0), [(0 : Int)])] ++ [((("box" : Str), b0), [(1 : Int)])]
        | some _ => [((("cell" : Str), n0), [(0 : Int)])]) = _
      rw [el]
      rfl
    have s2 : ∀ ms, makersStep ms ([(2 : Int)], .tup [tx "effect", .at .non, .tup A, .tup B]) = ms := fun ms => by
      unfold makersStep
      rw [if_neg (show kOf (Tr.tup [tx "effect", .at .non, .tup A, .tup B]) ∉ makeKinds from (by decide : ("effect" : Str) ∉ makeKinds))]
    unfold makersOf
    rw [List.foldl_cons, List.foldl_cons, List.foldl_cons, List.foldl_nil, s0, s1, s2]
  have lkC : List.lookup (("cell", n0) : Str × Str) [((("cell" : Str), n0), [(0 : Int)]), ((("box" : Str), b0), [(1 : Int)])] = some [(0 : Int)] := by simp [List.lookup]
  have lkB : List.lookup (("box", b0) : Str × Str) [((("cell" : Str), n0), [(0 : Int)]), ((("box" : Str), b0), [(1 : Int)])] = some [(1 : Int)] := by
    have hb : (((("box" : Str), b0) : Str × Str) == (("cell" : Str), n0)) = false := beq_false_of_ne fun (e : (("box" : Str), b0) = (("cell" : Str), n0)) => by
      have := congrArg Prod.fst e
      exact absurd (show ("box" : Str) = "cell" from this) (by decide)
    simp [List.lookup, hb]
  have ePaths : (rowsW ifsOnly 6 (partRows n0 w0 b0 w1 A B) []).map (·.1) = [[(0 : Int)], [1], [2]] := by rw [eI]; rfl
  refine { words := names_tr ok.ws nd (by rw [ew]; show (2 : Int) ≤ ((2 : Nat) : Int); decide) (by rw [ew]; show ((2 : Nat) : Int) ≤ (4 : Int); decide), inputs := rfl, events := rfl, rows := vz, uses := fun q hq => ?_, calls := by rw [eI]; exact (by decide : 3 ≤ 16), funs := ?_, many := fun q hq => ?_, all := ?_, deep := by decide }
  · rw [ePaths, eM]
    rw [eA] at hq
    rcases List.mem_cons.mp hq with rfl | hq
    · refine ⟨?_, rfl⟩
      show madeTwice [(0 : Int)] "cell" [tx n0, tx w0] _ = false
      unfold madeTwice
      rw [if_pos (by decide)]
      show (!decide (List.lookup (("cell", n0) : Str × Str) _ = some [(0 : Int)])) = false
      rw [lkC]
      simp
    · rcases List.mem_cons.mp hq with rfl | hq
      · refine ⟨?_, rfl⟩
        show madeTwice [(1 : Int)] "box" [tx b0, tx w1] _ = false
        unfold madeTwice
        rw [if_pos (by decide)]
        show (!decide (List.lookup (("box", b0) : Str × Str) _ = some [(1 : Int)])) = false
        rw [lkB]
        simp
      · rcases List.mem_cons.mp hq with rfl | hq
        · exact ⟨rfl, rfl⟩
        · have inner : ∀ (n : Int) (X : List Tr) (b : Bool), (∀ t ∈ X, GRow W b 1 t) → q ∈ rowsW allThr 5 X [2, n] → useOk (decide (q.1 ∈ [[(0 : Int)], [1], [2]])) [((("cell" : Str), n0), [(0 : Int)]), ((("box" : Str), b0), [(1 : Int)])] [] q.1 (kOf q.2) (itemsOf q.2).tail := fun n X b hX hqX => by
            obtain ⟨b', dp', g⟩ := gen_rows hX q hqX
            obtain ⟨i, rest, e⟩ := rows_pre q hqX
            have hnot : q.1 ∉ [[(0 : Int)], [1], [2]] := by
              rw [e]
              simp
            rw [decide_eq_false hnot]
            show lacksM _ _ _ = false
            refine gen_lacks g (fun c hc => ?_) (fun c hc => ?_)
            · rw [ec, List.mem_singleton] at hc
              rw [hc, lkC]
              rfl
            · rw [eb, List.mem_singleton] at hc
              rw [hc, lkB]
              rfl
          rcases List.mem_append.mp hq with hq | hq
          · exact inner 0 A ba hga hq
          · exact inner 1 B bb hgb hq
  · have h1 := funs_le (path := []) vz.val
    rw [eA] at h1
    simp only [List.length_cons, List.length_append] at h1
    rw [ra, rb, la, lb] at h1
    omega
  · have c6 : ∀ (X : List Tr) (b : Bool), (∀ t ∈ X, GRow W b 1 t) → (rowsW ifsLater 6 X []).length = cnt X := fun X b hX => by
      have v := gen_val ok (es := []) 6 b 1 "body" X (fc1 b (by decide)) (by decide) (fun _ => rfl) hX
      exact rows_len 9 v.val.shp (by decide)
    rw [part_funs 5] at hq
    have sub : ∀ (n : Int) (X : List Tr) (b : Bool), (∀ t ∈ X, GRow W b 1 t) → cnt X ≤ 8 → q ∈ (([(2 : Int), n], Tr.tup X) :: funsW 5 X [2, n]) → (rowsW ifsLater 6 (itemsOf q.2) []).length ≤ 8 := fun n X b hX hc hqX => by
      rcases List.mem_cons.mp hqX with rfl | hqX
      · show (rowsW ifsLater 6 X []).length ≤ 8
        rw [c6 X b hX]
        exact hc
      · obtain ⟨xs, e, hx, hcx⟩ := gen_funs ok 5 b 1 X _ (fc1 b (by decide)) (by decide) hX q hqX
        rw [e]
        show (rowsW ifsLater 6 xs []).length ≤ 8
        rw [c6 xs false hx]
        omega
    rcases List.mem_append.mp hq with hq | hq
    · exact sub 0 A ba hga ha.cnt hq
    · exact sub 1 B bb hgb hb.cnt hq
  · rw [eA]
    simp only [List.length_cons, List.length_append]
    rw [ra, rb, la, lb]
    omega
theorem part_named (ok : W.Ok) (ec : W.cells = [n0]) (hn0 : n0 ∈ W.slots) (ha : Half W "body" A) (hb : Half W "clean" B) : (addAll [] (namedAll (rowsW allThr 6 (partRows n0 w0 b0 w1 A B) []))).length ≤ (W.slots ++ W.cells).length := by
  obtain ⟨ba, hba, hga⟩ := ha.rows
  obtain ⟨bb, hbb, hgb⟩ := hb.rows
  refine named_le fun q hq s hs => ?_
  rw [part_rows allThr 5 (by decide) (by decide), if_pos (by decide)] at hq
  rcases List.mem_cons.mp hq with rfl | hq
  · have hs : s ∈ [n0] := hs
    rw [List.mem_singleton] at hs
    rw [hs]
    exact List.mem_append.mpr (.inl hn0)
  · rcases List.mem_cons.mp hq with rfl | hq
    · cases hs
    · rcases List.mem_cons.mp hq with rfl | hq
      · cases hs
      · rcases List.mem_append.mp hq with hq | hq
        · obtain ⟨b', dp', g⟩ := gen_rows hga q hq
          exact gen_slots g s hs
        · obtain ⟨b', dp', g⟩ := gen_rows hgb q hq
          exact gen_slots g s hs
theorem part_rows_le (ok : W.Ok) (ha : Half W "body" A) (hb : Half W "clean" B) : (rowsW allThr 6 (partRows n0 w0 b0 w1 A B) []).length ≤ 400 := by
  obtain ⟨ba, hba, hga⟩ := ha.rows
  obtain ⟨bb, hbb, hgb⟩ := hb.rows
  have va := gen_val ok (es := []) 5 ba 1 "body" A (fc1 ba (by decide)) (by decide) hba hga
  have vb := gen_val ok (es := []) 5 bb 1 "clean" B (fc1 bb (by decide)) (by decide) hbb hgb
  have la : (rowsW ifsLater 5 A [2, 0]).length = cnt A := rows_len 9 va.val.shp (by decide)
  have lb : (rowsW ifsLater 5 B [2, 1]).length = cnt B := rows_len 9 vb.val.shp (by decide)
  have ca := ha.cnt
  have cb := hb.cnt
  rw [part_rows allThr 5 (by decide) (by decide), if_pos (by decide)]
  simp only [List.length_cons, List.length_append]
  rw [rows_all 5 ba 1 A [2, 0] hga, rows_all 5 bb 1 B [2, 1] hgb, la, lb]
  omega
end
/-- what held tells is what all ways need -/
theorem held_needed {W : Wd} {b : Bool} {dp : Int} {X : List Tr} {ys zs : List Str} (fc : FC b dp 6) (hg : ∀ t ∈ X, GRow W b dp t) (hp : ys.Perm (addAll [] (heldAll 6 X))) (hs : PyProof.Rows.sortedS ys = true) (zs1 : PyProof.Rows.sortedS zs = true) (zs2 : zs.Nodup) (zs3 : ∀ z, z ∈ zs ↔ useL z 9 X = some true) :
    (ys.filter fun s => decide (useL s 6 X = some true)) = zs := by
  have nda : (addAll [] (heldAll 6 X)).Nodup := addAll_nodup List.nodup_nil
  refine sorted_same ((sorted_le hs).filter _) (sorted_le zs1) ((hp.nodup_iff.mpr nda).filter _) zs2 fun z => ?_
  rw [List.mem_filter, zs3 z, hp.mem_iff, addAll_mem]
  have e : useL z 6 X = useL z 9 X := use_fuel 6 9 b dp X fc (by decide) hg
  constructor
  · rintro ⟨_, h⟩
    rw [← e]
    exact of_decide_eq_true h
  · intro h
    rw [← e] at h
    obtain ⟨q, hq, hz⟩ := use_named (thr := ifsLater) (fun _ h => h) 6 b dp X [] hg h
    exact ⟨.inr (List.mem_flatten.mpr ⟨_, List.mem_map.mpr ⟨q, hq, rfl⟩, hz⟩), decide_eq_true h⟩
end CA
namespace CA
open PySem L2
/-- held(path) where the path is that of a function -/
def spHeldM (C : Addr) (D : Nat) : Sp := fun vs H Q _ => ∃ (x pa dx ph : Addr) (fs : List (Str × V)) (kh : List (List Key × V)) (path : List Int) (ts : List Tr) (q : List Int × Tr), vs = [.ref x, .ref pa] ∧ H x = some (.ins C dx fs) ∧ fs.lookup ("held_table" : Str) = some (.ref ph) ∧ H ph = some (.dT kh) ∧ DR (HeldRel D) H kh (funsW D ts []) ∧
  H pa = some (.tup (path.map V.int)) ∧ path.length ≤ 1000 ∧ q ∈ funsW D ts [] ∧ q.1 = path ∧ ∀ v H', Same H H' → HeldRel D H' q v → Q v H'
structure TxtM (K : PySem.W.Frag) (mg : Str → Option Value) (C fp : Addr) : Prop where
  cl : Cls K C
  nHeld : NoAttr K C "held_table"
  g_is_path : mg "is_path" = some (.ref fp)
  k_is_path : PySem.W.keepIn K (.ref fp) = true
section
variable {P : Program} {w : World} {K : PySem.W.Frag} {mg : Str → Option Value} {base : Heap} {C fp : Addr}
abbrev s_Part_held : Stmt := inClass (topS 54) 5
theorem sc_Part_held : FnScope ["self", "path"] ["self", "path"] (defScope s_Part_held) := ⟨rfl, rfl, rfl, by decide +kernel, rfl, by decide +kernel, by decide +kernel⟩
theorem path_ok : ∀ is : List Int, ((is.map intT).map trInteger).all id = true
  | [] => rfl
  | _ :: r => by
    rw [List.map_cons, List.map_cons, List.all_cons, path_ok r]
    rfl
theorem ok_Part_held {D : Nat} {f : Addr} {fd fdp : FuncData} (F : Fun K "held" "Part.held" s_Part_held f fd) (T : TxtM K mg C fp) (Gp : FnOk P w K mg base CX0 2 fp fdp ["value"] spPath) (bp : Binds K fdp ["value"] []) : FnOk P w K mg base CX0 3 f fd ["self", "path"] (spHeldM C D) := by
  refine F.ok sc_Part_held (fun vs H Q E h => ?_) (fun cdv A outer s H vs Q E hr h => ?_)
  · obtain ⟨x, pa, dx, ph, fs, kh, path, ts, q, rfl, _⟩ := h
    rfl
  obtain ⟨x, pa, dx, ph, fs, kh, path, ts, q, rfl, hx, hl, hh, dr, hpa, hpl, hq, rfl, k⟩ := h
  refine ⟨_, (pss_cons (ps_if (PW.pt (pw_or (pt_not (pt_val (pe_call Gp hr rfl T.g_is_path T.k_is_path bp .nil pass0 (pa_cons (pv 1) pa_nil)))) (pw_or1 (pt_cmp (pc_dnotin (units2 hr) (pv 1) (pe_fld (pv 0) rfl)) (by rfl)))))
    pss_never
    pss_nil)
  (pss_one (ps_ret (pe_dget (units2 hr) (pe_fld (pv 0) rfl) (pv 1) (fun _ _ => rfl))))), ?_⟩
  obtain ⟨v, hv, rel⟩ := dr.at funs_nodup hq
  refine ⟨_, rfl, .ref pa, .tup (q.1.map intT), rfl, .tup hpa (TwL.ints _) (by rw [List.length_map]; exact hpl), fun H1 s1 => ⟨_, rfl, ?_⟩⟩
  have e : trPath (.tup (q.1.map intT)) = true := path_ok _
  rw [e]
  have g := DGet.t (k := q.1.map Sum.inl) (s1 _ _ hh) (by rw [kV_ints]; exact s1 _ _ hpa)
  rw [hv] at g
  refine iteF ⟨_, rfl, _, rfl, x, C, dx, fs, _, rfl, s1 _ _ hx, T.cl, T.nHeld, hl, ph, _, rfl, g, _, rfl, iteF ?_⟩
  refine ⟨_, rfl, x, C, dx, fs, _, rfl, s1 _ _ hx, T.cl, T.nHeld, hl, _, rfl, ph, v, rfl, g, ?_⟩
  exact k v H1 s1 (HeldRel.gr _ _ _ _ (Gr.of s1) rel)
end
end CA
set_option maxHeartbeats 8000000
namespace CA
open PySem L2
def spLaw (K : PySem.W.Frag) : Sp := fun vs H Q _ => ∃ (a : Addr) (ns : List Int), vs = [.ref a] ∧ SqL K H a (ns.map V.int) ∧ ns.length ≤ 63 ∧ ∀ H', Q (.bl true) H'
structure TxtLw (K : PySem.W.Frag) (mg : Str → Option Value) (C fs0 fn0 ft ff fP fsm fnd fh : Addr) : Prop where
  tuple : mg "tuple" = none
  range : mg "range" = none
  len : mg "len" = none
  g__law_start : mg "_law_start" = some (.ref fs0)
  k__law_start : PySem.W.keepIn K (.ref fs0) = true
  g__law_names : mg "_law_names" = some (.ref fn0)
  k__law_names : PySem.W.keepIn K (.ref fn0) = true
  g__law_take : mg "_law_take" = some (.ref ft)
  k__law_take : PySem.W.keepIn K (.ref ft) = true
  g__law_function : mg "_law_function" = some (.ref ff)
  k__law_function : PySem.W.keepIn K (.ref ff) = true
  g__law_same : mg "_law_same" = some (.ref fsm)
  k__law_same : PySem.W.keepIn K (.ref fsm) = true
  g__law_needed : mg "_law_needed" = some (.ref fnd)
  k__law_needed : PySem.W.keepIn K (.ref fnd) = true
  gP : mg "Part" = some (.ref C)
  cl : Cls K C
  mkP : Mk K C fP
  mHeld : Meth K C "held" fh
theorem fnok_any {ι : Type} {P : Program} {w : World} {K : PySem.W.Frag} {mg : Str → Option Value} {base : Heap} {CX : CXT} {k : Nat} {f : Addr} {fd : FuncData} {ps : List Str} {p : ι → Prop} {sp : ι → Sp} (h : ∀ i, p i → FnOk P w K mg base CX k f fd ps (sp i)) : FnOk P w K mg base CX k f fd ps (fun vs H Q E => ∃ i, p i ∧ sp i vs H Q E) :=
  ⟨fun vs H Q E ⟨i, hi, s⟩ => (h i hi).len vs H Q E s, fun A outer s H args us vs Q E hr he hb hv ⟨i, hi, hs⟩ => (h i hi).run A outer s H args us vs Q E hr he hb hv hs⟩
/-- the drawn rows stand in the one half or in the other -/
structure Drawn (W : Wd) (num : Int) (ts A B : List Tr) : Prop where
  half : (num = 0 ∧ A = ts ∧ B = []) ∨ (num = 1 ∧ A = [] ∧ B = ts)
  rows : ∃ b, (b = true → num = 0) ∧ ∀ t ∈ ts, GRow W b 1 t
  cnt : CA.cnt ts ≤ 8
theorem Drawn.A {W : Wd} {num : Int} {ts A B : List Tr} (h : Drawn W num ts A B) : Half W "body" A := by
  obtain ⟨b, hb, hg⟩ := h.rows
  rcases h.half with ⟨_, rfl, _⟩ | ⟨_, rfl, _⟩
  · exact ⟨.inr ⟨b, fun _ => rfl, hg⟩, h.cnt⟩
  · exact ⟨.inl rfl, Nat.zero_le _⟩
theorem Drawn.B {W : Wd} {num : Int} {ts A B : List Tr} (h : Drawn W num ts A B) : Half W "clean" B := by
  obtain ⟨b, hb, hg⟩ := h.rows
  rcases h.half with ⟨_, _, rfl⟩ | ⟨e, _, rfl⟩
  · exact ⟨.inl rfl, Nat.zero_le _⟩
  · refine ⟨.inr ⟨b, fun q => ?_, hg⟩, h.cnt⟩
    have := hb q
    omega
theorem Drawn.both {W : Wd} {num : Int} {ts A B : List Tr} (h : Drawn W num ts A B) : CA.cnt A + CA.cnt B ≤ 8 := by
  have c0 : CA.cnt [] = 0 := rfl
  have := h.cnt
  rcases h.half with ⟨_, rfl, rfl⟩ | ⟨_, rfl, rfl⟩ <;> omega
theorem needs_short {W : Wd} (ok : W.Ok) {b : Bool} {dp : Int} {X : List Tr} {zs : List Str} (hg : ∀ t ∈ X, GRow W b dp t) (h : ∀ z, z ∈ zs ↔ useL z 9 X = some true) : ∀ z ∈ zs, z.length ≤ 1000 := fun z hz => by
  obtain ⟨q, hq, hz⟩ := use_named (thr := ifsLater) (fun _ h => h) 9 b dp X [] hg ((h z).mp hz)
  obtain ⟨b', dp', g⟩ := gen_rows hg q hq
  rcases List.mem_append.mp (gen_slots g z hz) with h1 | h1
  · exact nmS_1000 (ok.slots z h1)
  · exact nmS_1000 (ok.cells z h1)
theorem tw_txs {H : Hp} {p : Addr} {zs : List Str} (e : H p = some (.tup (zs.map V.str))) (h1 : ∀ z ∈ zs, z.length ≤ 1000) (h2 : zs.length ≤ 1000) : Tw H (.ref p) (.tup (zs.map tx)) := .tup e (TwL.txs zs h1) (by rw [List.length_map]; exact h2)
/-- held against needed -/
theorem rel_needed {W : Wd} (ok : W.Ok) {b : Bool} {H H' : Hp} {X : List Tr} {path : List Int} {v : V} {zs : List Str} (fc : FC b 1 6) (hg : ∀ t ∈ X, GRow W b 1 t) (hr : HeldRel 6 H (path, .tup X) v) (s : Same H H') (z1 : PyProof.Rows.sortedS zs = true) (z2 : zs.Nodup) (z3 : ∀ z, z ∈ zs ↔ useL z 9 X = some true) (hc : cnt X ≤ 1000) : Tw H' v (.tup (zs.map tx)) := by
  obtain ⟨pv, ys, rfl, hp, hs, e⟩ := hr
  have e2 : (ys.filter fun s => decide (useL s 6 X = some true)) = zs := held_needed fc hg hp hs z1 z2 z3
  have e : H pv = some (.tup ((ys.filter fun s => decide (useL s 6 X = some true)).map V.str)) := e
  rw [e2] at e
  have := reads_le hg z2 fun z hz => (z3 z).mp hz
  exact tw_txs (s _ _ e) (needs_short ok hg z3) (by omega)
theorem gen_head {W : Wd} {b : Bool} {dp : Int} {t : Tr} (h : GRow W b dp t) : ∃ k us, t = .tup (tx k :: us) ∧ (k = "later" → ∃ xs, us = [.tup xs] ∧ b = true ∧ ∀ t ∈ xs, GRow W false 1 t) := by
  cases h with
  | @iff _ _ s w xs ys _ _ _ h3 h4 => exact ⟨_, _, rfl, fun e => absurd e (by decide)⟩
  | @later _ xs h3 => exact ⟨_, _, rfl, fun _ => ⟨xs, rfl, rfl, h3⟩⟩
  | say _ => exact ⟨_, _, rfl, fun e => absurd e (by decide)⟩
  | set _ _ => exact ⟨_, _, rfl, fun e => absurd e (by decide)⟩
  | turn _ _ => exact ⟨_, _, rfl, fun e => absurd e (by decide)⟩
  | write _ _ => exact ⟨_, _, rfl, fun e => absurd e (by decide)⟩
  | fetch _ _ => exact ⟨_, _, rfl, fun e => absurd e (by decide)⟩
  | map _ _ _ => exact ⟨_, _, rfl, fun e => absurd e (by decide)⟩
  | put _ _ => exact ⟨_, _, rfl, fun e => absurd e (by decide)⟩
theorem len_one {l : List Str} (h : l.length = 1) : ∃ a, l = [a] := by
  match l, h with
  | [a], _ => exact ⟨a, rfl⟩
theorem len_two {l : List Str} (h : l.length = 2) : ∃ a b, l = [a, b] := by
  match l, h with
  | [a, b], _ => exact ⟨a, b, rfl⟩
theorem len_five {l : List Str} (h : l.length = 5) : ∃ a b c d e, l = [a, b, c, d, e] := by
  match l, h with
  | [a, b, c, d, e], _ => exact ⟨a, b, c, d, e, rfl⟩
theorem fresh_ne {H : Hp} {st scr p : Addr} (S : StAt H st scr) (h : H p = none) : p ≠ st := fun e => by
  obtain ⟨L, hL⟩ := S.isL
  rw [e, hL] at h
  cases h
theorem menu_at (a b c d : V) : valV (mergeK [] [(.inr ("words" : Str), a), (.inr ("slots" : Str), b), (.inr ("cells" : Str), c), (.inr ("boxes" : Str), d)]) (.inr ("words" : Str)) = some a ∧ valV (mergeK [] [(.inr ("words" : Str), a), (.inr ("slots" : Str), b), (.inr ("cells" : Str), c), (.inr ("boxes" : Str), d)]) (.inr ("slots" : Str)) = some b ∧
    valV (mergeK [] [(.inr ("words" : Str), a), (.inr ("slots" : Str), b), (.inr ("cells" : Str), c), (.inr ("boxes" : Str), d)]) (.inr ("cells" : Str)) = some c ∧ valV (mergeK [] [(.inr ("words" : Str), a), (.inr ("slots" : Str), b), (.inr ("cells" : Str), c), (.inr ("boxes" : Str), d)]) (.inr ("boxes" : Str)) = some d := by
  unfold mergeK
  simp only [List.foldl_cons, List.foldl_nil, valV_put]
  exact ⟨rfl, rfl, rfl, rfl⟩
theorem okT_names (l : List Str) : okT 2 (.tup (l.map tx)) := fun t ht => by
  obtain ⟨s, _, rfl⟩ := List.mem_map.mp ht
  exact True.intro
section
variable {P : Program} {w : World} {K : PySem.W.Frag} {mg : Str → Option Value} {base : Heap} {C fs0 fn0 ft ff fP fsm fnd fh : Addr}
abbrev s_law : Stmt := topS 67
theorem sc_law : FnScope ["_law_script", "_law_state", "_law_words", "_law_names_here", "_law_boxes", "_law_menu", "_law_scope", "_law_body", "_law_pair", "_law_number", "_law_front", "_law_part", "_law_k"] ["_law_script"] (defScope s_law) := ⟨rfl, rfl, rfl, by decide +kernel, rfl, by decide +kernel, by decide +kernel⟩
theorem ok_law {k : Nat} (hk : 20 ≤ k) {f : Addr} {fd fds fdn fdt fdf fdP fdsm fdnd fdh : FuncData} (F : Fun K "law" "law" s_law f fd) (T : TxtLw K mg C fs0 fn0 ft ff fP fsm fnd fh)
    (Gs : FnOk P w K mg base CX0 1 fs0 fds ["_law_script"] (spStart K)) (bs : Binds K fds ["_law_script"] []) (Gn : FnOk P w K mg base CX0 4 fn0 fdn ["_law_state", "_law_many"] spLNames) (bn : Binds K fdn ["_law_state", "_law_many"] [])
    (Gt : FnOk P w K mg base CX0 2 ft fdt ["_law_state", "_law_size"] spTake) (bt : Binds K fdt ["_law_state", "_law_size"] [])
    (Gf : FnOk P w K mg base CX0 k ff fdf ["_law_state", "_law_menu", "_law_many", "_law_room", "_law_scope", "_law_depth"] (spFunD 4)) (bf : Binds K fdf ["_law_state", "_law_menu", "_law_many", "_law_room", "_law_scope", "_law_depth"] [])
    (GP : FnOk P w K mg base CX0 k fP fdP ["self", "words", "inputs", "events", "rows"] (spPartI C 6)) (bP : Binds K fdP ["self", "words", "inputs", "events", "rows"] [])
    (Gsm : FnOk P w K mg base CX0 3 fsm fdsm ["_law_told", "_law_due"] (spSameT 2)) (bsm : Binds K fdsm ["_law_told", "_law_due"] [])
    (Gnd : FnOk P w K mg base CX0 k fnd fdnd ["_law_rows"] (fun vs H Q E => ∃ W : Wd, W.Ok ∧ spNeed W 6 vs H Q E)) (bnd : Binds K fdnd ["_law_rows"] [])
    (Gh : FnOk P w K mg base CX0 3 fh fdh ["self", "path"] (spHeldM C 6)) (bh : Binds K fdh ["self", "path"] []) : FnOk P w K mg base CX0 (k + 2) f fd ["_law_script"] (spLaw K) := by
  refine F.ok sc_law (fun vs H Q E h => ?_) (fun cdv A outer s H vs Q E hr h => ?_)
  · obtain ⟨a, ns, rfl, _⟩ := h
    rfl
  obtain ⟨a, ns, rfl, hsq, h63, q⟩ := h
  have hrk : Room k _ := hr.mono (Nat.le_succ k)
  have hr4 : Room 4 _ := hrk.mono (Nat.le_trans (by decide) hk)
  have hr3 : Room 3 _ := hr4.mono (by decide)
  have hr2 : Room 2 _ := hr4.mono (by decide)
  have hr1 : Room 1 _ := hr4.mono (by decide)
  obtain ⟨tt, htail, hp⟩ : ∃ tt : TS, PSs (cxOf CX0 P w K mg base ["_law_script", "_law_state", "_law_words", "_law_names_here", "_law_boxes", "_law_menu", "_law_scope", "_law_body", "_law_pair", "_law_number", "_law_front", "_law_part", "_law_k"] "law" (defScope s_law) f cdv A outer s H E).nox ((defBody s_law).drop 10) tt ∧
      ∀ (D : Ends) (HX : Hp) (v0 v1 v2 v3 v4 v5 bv : V) (pw p3 p4 pp : Addr) (num : Int) (W : Wd) (w0 w1 n0 b0 : Str) (nr : List Str) (ts A B : List Tr), (∀ H', D.rt (.bl true) H') → W.Ok → W.ws = [w0, w1] → W.cells = [n0] → W.boxes = [b0] → W.slots = n0 :: nr → W.ws.Nodup → (W.slots ++ W.cells).length < 60 → Drawn W num ts A B →
        HX pw = some (.tup (W.ws.map V.str)) → HX p3 = some (.lst ((n0 :: nr).map V.str)) → HX p4 = some (.lst [.str b0]) → HX pp = some (.tup [v0, v1]) → Tw HX v0 (.tup A) → Tw HX v1 (.tup B) → Tw HX bv (.tup ts) → (∀ s ∈ W.ws, s.length ≤ 1000) →
        tt D [some v2, some v3, some (.ref pw), some (.ref p3), some (.ref p4), some v4, some v5, some bv, some (.ref pp), some (.int num), none, none, none] HX := by
    refine ⟨_, (pss_cons (ps_set (i := 10) sc_law.nd rfl (Or.inl rfl) (pe_tup (pa_cons (pe_tup (pa_cons pe_str (pa_cons (pe_ix ix_list (pv 3) pe_int (fun _ _ => rfl)) (pa_cons (pe_ix ix_tup (pv 2) pe_int (fun _ _ => rfl)) pa_nil)))) (pa_cons (pe_tup (pa_cons pe_str (pa_cons (pe_ix ix_list (pv 4) pe_int (fun _ _ => rfl)) (pa_cons (pe_ix ix_tup (pv 2) pe_int (fun _ _ => rfl)) pa_nil)))) pa_nil))))
    (pss_cons (ps_set (i := 11) sc_law.nd rfl (Or.inl rfl) (pe_make T.mkP GP hr rfl T.gP bP .nil pass0 (pa_cons (pv 2) (pa_cons (pe_tup pa_nil) (pa_cons (pe_tup pa_nil) (pa_cons (pe_op op_catA (pv 10) (pe_tup (pa_cons (pe_tup (pa_cons pe_str (pa_cons pe_non (pa_cons (pe_ix ix_tup (pv 8) pe_int (fun _ _ => rfl)) (pa_cons (pe_ix ix_tup (pv 8) pe_int (fun _ _ => rfl)) pa_nil))))) pa_nil))) pa_nil))))))
    (pss_cons (ps_if (PW.pt (pw_or (pt_not (pt_val (pe_call Gsm hr3 rfl T.g__law_same T.k__law_same bsm .nil pass0 (pa_cons (pe_meth (pv 11) T.cl T.mHeld Gh hr3 bh .nil pass0 (pa_cons (pe_tup (pa_cons pe_int (pa_cons (pv 9) pa_nil))) pa_nil)) (pa_cons (pe_callTy call_tuple_of (by rfl) T.tuple (by decide +kernel) (pa_cons (pe_call Gnd hrk rfl T.g__law_needed T.k__law_needed bnd .nil pass0 (pa_cons (pv 7) pa_nil)) pa_nil)) pa_nil))))) (pw_or1 (pt_cmpR (op_neD hr.units) (pe_meth (pv 11) T.cl T.mHeld Gh hr3 bh .nil pass0 (pa_cons (pe_tup (pa_cons pe_int (pa_cons (pe_op op_sub pe_int (pv 9)) pa_nil))) pa_nil)) (pe_tup pa_nil) (nomark _))))) (pss_one (ps_ret pe_bl)) pss_nil)
    (pss_cons (ps_for PassesOwn.never rfl (pi_range1 rfl T.range (pa_cons (pe_callB call_len_seq (by rfl) T.len (by decide +kernel) (pa_cons (pv 7) pa_nil)) pa_nil)) (pg_name (i := 12) sc_law.nd rfl (Or.inl rfl)) (pss_one (ps_if (pt_cmpR op_eq (pe_ix ix_tup (pe_ix ix_tup (pv 7) (pv 12) (fun _ _ => rfl)) pe_int (fun _ _ => rfl)) pe_str (nomark _)) (pss_one (ps_if (pt_not (pt_val (pe_call Gsm hr3 rfl T.g__law_same T.k__law_same bsm .nil pass0 (pa_cons (pe_meth (pv 11) T.cl T.mHeld Gh hr3 bh .nil pass0 (pa_cons (pe_tup (pa_cons pe_int (pa_cons pe_int (pa_cons (pv 12) (pa_cons pe_int pa_nil))))) pa_nil)) (pa_cons (pe_callTy call_tuple_of (by rfl) T.tuple (by decide +kernel) (pa_cons (pe_call Gnd hrk rfl T.g__law_needed T.k__law_needed bnd .nil pass0 (pa_cons (pe_ix ix_tup (pe_ix ix_tup (pv 7) (pv 12) (fun _ _ => rfl)) pe_int (fun _ _ => rfl)) pa_nil)) pa_nil)) pa_nil))))) (pss_one (ps_ret pe_bl)) pss_nil)) pss_nil)))
    (pss_one (ps_ret pe_bl)))))), fun D HX v0 v1 v2 v3 v4 v5 bv pw p3 p4 pp num W w0 w1 n0 b0 nr ts A B q ok ew ec eb es nd l60 dr hw h3 h4 hpp wA wB wb smw => ?_⟩
    obtain ⟨b, hb0, hg⟩ := dr.rows
    have fc6 := fc1 b (show 4 ≤ 6 by decide)
    have hw' : HX pw = some (.tup [V.str w0, .str w1]) := by rw [hw, ew]; rfl
    have hn0 : n0 ∈ W.slots := by rw [es]; exact List.mem_cons_self ..
    have sn0 := nmS_1000 (ok.slots n0 hn0)
    have sb0 := nmS_1000 (ok.boxes b0 (by rw [eb]; exact List.mem_singleton.mpr rfl))
    have sw0 := smw w0 (by rw [ew]; simp)
    have sw1 := smw w1 (by rw [ew]; simp)
    -- the front
    refine ⟨_, rfl, p3, _, 0, .str n0, rfl, rfl, SqL.of h3, at_of (j := 0) rfl rfl, _, rfl, pw, _, 0, .str w0, rfl, rfl, SqT.of hw', at_of (j := 0) rfl rfl, (show 3 ≤ sizeLine by decide), fun q1 hq1 => ?_⟩
    have s1 := same_new hq1 (.tup [V.str "cell", .str n0, .str w0])
    refine ⟨_, rfl, p4, _, 0, .str b0, rfl, rfl, SqL.of (s1 _ _ h4), at_of (j := 0) rfl rfl, _, rfl, pw, _, 1, .str w1, rfl, rfl, SqT.of (s1 _ _ hw'), at_of (j := 1) rfl rfl, (show 3 ≤ sizeLine by decide), fun q2 hq2 => ⟨(show 2 ≤ sizeLine by decide), fun q3 hq3 => ?_⟩⟩
    have s2 := same_new hq2 (.tup [V.str "box", .str b0, .str w1])
    have s3 := same_new hq3 (.tup [V.ref q1, .ref q2])
    -- the part
    refine ⟨_, rfl, by decide, fun e1 he1 => ⟨by decide, fun e2 he2 => ?_⟩⟩
    have s4 := same_new he1 (.tup [])
    have s5 := same_new he2 (.tup [])
    have S5 : Same HX _ := fun c o e => s5 _ _ (s4 _ _ (s3 _ _ (s2 _ _ (s1 _ _ e))))
    refine ⟨_, rfl, _, rfl, pp, _, 0, v0, rfl, rfl, SqT.of (S5 _ _ hpp), at_of (j := 0) rfl rfl, _, rfl, pp, _, 1, v1, rfl, rfl, SqT.of (S5 _ _ hpp), at_of (j := 1) rfl rfl, (show 4 ≤ sizeLine by decide), fun q4 hq4 => ⟨(show 1 ≤ sizeLine by decide), fun q5 hq5 => ?_⟩⟩
    have s6 := same_new hq4 (.tup [V.str "effect", .non, v0, v1])
    have s7 := same_new hq5 (.tup [V.ref q4])
    refine ⟨q3, q5, _, _, rfl, rfl, SqT.of (s7 _ _ (s6 _ _ (s5 _ _ (s4 _ _ upd_same)))), SqT.of upd_same, (show 3 ≤ sizeLine by decide), (fun e => by cases e), (fun _ e => by cases e), fun _ _ q6 hq6 => ?_⟩
    have s8 := same_new hq6 (.tup ([V.ref q1, .ref q2] ++ [V.ref q4]))
    have S28 : Same (upd HX q1 (.tup [V.str "cell", .str n0, .str w0])) _ := fun c o e => s8 _ _ (s7 _ _ (s6 _ _ (s5 _ _ (s4 _ _ (s3 _ _ (s2 _ _ e))))))
    have S38 : Same (upd (upd HX q1 (.tup [V.str "cell", .str n0, .str w0])) q2 (.tup [V.str "box", .str b0, .str w1])) _ := fun c o e => s8 _ _ (s7 _ _ (s6 _ _ (s5 _ _ (s4 _ _ (s3 _ _ e)))))
    have S8 : Same HX _ := fun c o e => S28 _ _ (s1 _ _ e)
    have wrows : Tw _ (.ref q6) (.tup (partRows n0 w0 b0 w1 A B)) := .tup (H := _) upd_same (.cons (.tup (S28 _ _ upd_same) (.cons (tw_tx (by decide)) (.cons (tw_tx sn0) (.cons (tw_tx sw0) .nil))) (Nat.le_of_ble_eq_true rfl))
      (.cons (.tup (S38 _ _ upd_same) (.cons (tw_tx (by decide)) (.cons (tw_tx sb0) (.cons (tw_tx sw1) .nil))) (Nat.le_of_ble_eq_true rfl))
      (.cons (.tup (s8 _ _ (s7 _ _ upd_same)) (.cons (tw_tx (by decide)) (.cons (.at (.flat rfl trivial)) (.cons (Tw.gr (Gr.of S8) _ _ wA) (.cons (Tw.gr (Gr.of S8) _ _ wB) .nil)))) (Nat.le_of_ble_eq_true rfl)) .nil))) (Nat.le_of_ble_eq_true rfl)
    have he1' := s8 _ _ (s7 _ _ (s6 _ _ (s5 _ _ (upd_same (a := e1) (o := .tup [])))))
    have he2' := s8 _ _ (s7 _ _ (s6 _ _ (upd_same (a := e2) (o := .tup []))))
    refine fun x dx hx hdx nex => ?_
    have t1 := same_new hdx (.own x)
    have S9 := fun c o e => same_new (H := upd _ dx (.own x)) (p := x) (by rw [upd_ne (Ne.symm nex)]; exact hx) (.ins C dx []) c o (t1 c o e)
    refine ⟨x, pw, e1, e2, dx, .ref q6, W.ws, [], [], partRows n0 w0 b0 w1 A B, rfl, upd_same, S9 _ _ (S8 _ _ hw), S9 _ _ he1', S9 _ _ he2', Tw.gr (Gr.of fun c o e => S9 c o e) _ _ wrows, part_ok ok ew ec eb hn0 nd dr.A dr.B dr.both, part_rows_le ok dr.A dr.B, Nat.lt_of_le_of_lt (part_named ok ec hn0 dr.A dr.B) l60, fun H' fs pr ph pl ps kr kh kl ys kp pa => ⟨rfl, ?_⟩⟩
    have SP : Same HX H' := fun c o e => kp c o (ne_of_none (S8 _ _ e) hx) (S9 _ _ (S8 _ _ e))
    have dh6 : DR (HeldRel 6) H' kh (funsW 6 (partRows n0 w0 b0 w1 A B) []) := pa.dh
    have efn := part_funs (n0 := n0) (w0 := w0) (b0 := b0) (w1 := w1) (A := A) (B := B) 5
    clear S9 t1 wrows he1' he2' S8 S28 S38 s8 s7 s6 S5 s5 s4 s3 s2 s1
    have hno : fs.lookup ("held" : Str) = none := pa.no _ (by decide)
    have f6 : ([(2 : Int), num], Tr.tup ts) ∈ funsW 6 (partRows n0 w0 b0 w1 A B) [] := by
      rw [efn]
      rcases dr.half with ⟨e1, e2, e3⟩ | ⟨e1, e2, e3⟩
      · rw [e1, e2]
        exact List.mem_append.mpr (.inl (List.mem_cons_self ..))
      · rw [e1, e3]
        exact List.mem_append.mpr (.inr (List.mem_cons_self ..))
    have f7 : ([(2 : Int), 1 - num], Tr.tup []) ∈ funsW 6 (partRows n0 w0 b0 w1 A B) [] := by
      rw [efn]
      rcases dr.half with ⟨e1, e2, e3⟩ | ⟨e1, e2, e3⟩
      · rw [e1, e3]
        exact List.mem_append.mpr (.inr (List.mem_cons_self ..))
      · rw [e1, e2]
        exact List.mem_append.mpr (.inl (List.mem_cons_self ..))
    have wb' : Tw H' bv (.tup ts) := Tw.gr (Gr.of SP) _ _ wb
    -- the first test
    refine ⟨_, rfl, x, dx, fs, rfl, pa.at_, hno, _, rfl, (show 2 ≤ sizeLine by decide), fun qa hqa => ?_⟩
    have sa := same_new hqa (.tup [V.int 2, V.int num])
    refine ⟨x, qa, dx, ph, fs, kh, [2, num], _, ([2, num], .tup ts), rfl, sa _ _ pa.at_, pa.held, sa _ _ pa.th, DR.gr HeldRel.gr (Gr.of sa) dh6, upd_same, (Nat.le_of_ble_eq_true rfl), f6, rfl, fun v Hb sb rel => ?_⟩
    refine ⟨_, rfl, W, ok, bv, ts, b, 1, rfl, Tw.gr (Gr.of fun c o e => sb _ _ (sa _ _ e)) _ _ wb', fc6, hg, dr.cnt, fun p H2 zs s2 hp0 hp z1 z2 z3 => ⟨p, _, rfl, .inl ⟨SqL.of hp, fun l hl => ?_⟩⟩⟩
    have sl := same_new hl (.tup (zs.map V.str))
    have zle : zs.length ≤ 1000 := by have := reads_le hg z2 fun z hz => (z3 z).mp hz; have := dr.cnt; omega
    refine ⟨v, .ref l, .tup (zs.map tx), rfl, rel_needed ok fc6 hg rel (fun c o e => sl _ _ (s2 _ _ e)) z1 z2 z3 (by have := dr.cnt; omega), tw_txs upd_same (needs_short ok hg z3) zle, okT_names zs, fun H3 s3 => ⟨_, rfl, iteF ?_⟩⟩
    have S3 : Same H' H3 := fun c o e => s3 _ _ (sl _ _ (s2 _ _ (sb _ _ (sa _ _ e))))
    clear s3 sl s2 sb sa
    -- the second test
    refine ⟨_, rfl, x, dx, fs, rfl, S3 _ _ pa.at_, hno, _, rfl, _, _, rfl, rfl, (show 2 ≤ sizeLine by decide), fun qb hqb => ?_⟩
    have sa := same_new hqb (.tup [V.int 2, V.int (1 - num)])
    refine ⟨x, qb, dx, ph, fs, kh, [2, 1 - num], _, ([2, 1 - num], .tup []), rfl, sa _ _ (S3 _ _ pa.at_), pa.held, sa _ _ (S3 _ _ pa.th), DR.gr HeldRel.gr (Gr.of fun c o e => sa _ _ (S3 _ _ e)) dh6, upd_same, (Nat.le_of_ble_eq_true rfl), f7, rfl, fun v2' Hc sc rel2 => ?_⟩
    obtain ⟨pv2, ys2, rfl, hp2, _, e2⟩ := rel2
    have y0 : ys2 = [] := List.perm_nil.mp hp2
    rw [y0] at e2
    refine ⟨(show 0 ≤ sizeLine by decide), fun qe hqe => ?_⟩
    have se := same_new hqe (.tup [])
    refine ⟨intsD [], intsD [], .tup (SqT.of (se _ _ e2)) (dp_ints []), .tup (SqT.of upd_same) (dp_ints []), shaped_ints [], shaped_ints [], ?_⟩
    have ee : (!PyData.eqv (intsD []) (intsD [])) = false := by rw [eqv_ints]; rfl
    rw [ee]
    refine ⟨_, rfl, iteF ?_⟩
    have S4 : Same H' _ := fun c o e => se _ _ (sc _ _ (sa _ _ (S3 _ _ e)))
    have wb4 := Tw.gr (Gr.of S4) _ _ wb'
    clear wb
    obtain ⟨ab, us, rfl, hab, hus, hbu⟩ : ∃ ab us, bv = .ref ab ∧ H' ab = some (.tup us) ∧ TwL H' us ts ∧ ts.length ≤ 1000 := by
      cases wb' with
      | @tup a us _ ha hl hb => exact ⟨a, us, rfl, ha, hl, hb⟩
    have lus := hus.len
    refine ⟨_, rfl, ab, us, rfl, .inr (SqT.of (S4 _ _ hab)), (us.length : Int), rfl, by omega, by omega, for_range (lo := 0) (n := us.length)
      (fun i σ H2 => ∃ x12, σ = [some v2, some v3, some (.ref pw), some (.ref p3), some (.ref p4), some v4, some v5, some (.ref ab), some (.ref pp), some (.int num), some (.ref q3), some (.ref x), x12] ∧ Same H' H2)
      ⟨none, rfl, S4⟩ (fun i σ H2 hi pv => ?_) (fun σ H2 pv => ?_)⟩
    · obtain ⟨x12, rfl, sm⟩ := pv
      have e0 : (0 : Int) + (i : Int) = (i : Int) := by omega
      rw [e0]
      obtain ⟨t, ht, wt⟩ := hus.get (List.getElem?_eq_getElem hi)
      obtain ⟨k', us', rfl, hlater⟩ := gen_head (hg t (List.mem_of_getElem? ht))
      obtain ⟨ai, ui, ei, hai, hui, _, _⟩ := row_of wt
      have ati : atI us (i : Int) = some (.ref ai) := by rw [← ei]; exact at_of (j := i) rfl (List.getElem?_eq_getElem hi)
      refine ⟨_, rfl, _, rfl, ab, us, _, _, rfl, rfl, SqT.of (sm _ _ hab), ati, ai, _, 0, .str k', rfl, rfl, SqT.of (sm _ _ hai), at_of (j := 0) rfl rfl, rfl, ?_⟩
      refine ⟨_, rfl, ?_⟩
      by_cases hk' : k' = "later"
      · obtain ⟨xs, rfl, hb, hx⟩ := hlater hk'
        subst hk'
        have n0' : num = 0 := hb0 hb
        have eA : A = ts := by
          rcases dr.half with ⟨_, e, _⟩ | ⟨e, _, _⟩
          · exact e
          · omega
        refine iteT ?_
        have f8 : ([(2 : Int), 0, (i : Int), 0], Tr.tup xs) ∈ funsW 6 (partRows n0 w0 b0 w1 A B) [] := by
          rw [efn, eA]
          exact List.mem_append.mpr (.inl (List.mem_cons_of_mem _ (later_listed (W := W) (b := b) (dp := 1) (path := [2, 0]) ht)))
        have sx := (gen_val ok (es := []) 5 false 1 "body" xs (fc1 false (by decide)) (by decide) (fun e => by cases e) hx).val.shp
        have hc := cnt_at_le ts i _ ht
        have ec1 : wtT (ts.take i).length (.tup [tx "later", .tup xs]) = 1 + cnt xs := cnt_later _ sx (by decide)
        rw [ec1] at hc
        have c8 : cnt xs ≤ 8 := by have := dr.cnt; omega
        cases hui with
        | @cons u1 ur _ _ w1' hr' =>
        cases hr'
        refine ⟨_, rfl, x, dx, fs, rfl, sm _ _ pa.at_, hno, _, rfl, (show 4 ≤ sizeLine by decide), fun qa hqa => ?_⟩
        have sa := same_new hqa (.tup [V.int 2, V.int 0, V.int (i : Int), V.int 0])
        refine ⟨x, qa, dx, ph, fs, kh, [2, 0, (i : Int), 0], _, ([2, 0, (i : Int), 0], .tup xs), rfl, sa _ _ (sm _ _ pa.at_), pa.held, sa _ _ (sm _ _ pa.th), DR.gr HeldRel.gr (Gr.of fun c o e => sa _ _ (sm _ _ e)) dh6, upd_same, (Nat.le_of_ble_eq_true rfl), f8, rfl, fun v Hb sb rel => ?_⟩
        have sb2 : Same H' Hb := fun c o e => sb _ _ (sa _ _ (sm _ _ e))
        refine ⟨_, rfl, _, rfl, ab, us, _, _, rfl, rfl, SqT.of (sb2 _ _ hab), ati, ai, _, 1, u1, rfl, rfl, SqT.of (sb2 _ _ hai), at_of (j := 1) rfl rfl, W, ok, u1, xs, false, 1, rfl, Tw.gr (Gr.of sb2) _ _ w1', fc1 false (by decide), hx, c8, fun p H4 zs s2 hp0 hp z1 z2 z3 => ⟨p, _, rfl, .inl ⟨SqL.of hp, fun l hl => ?_⟩⟩⟩
        have sl := same_new hl (.tup (zs.map V.str))
        have zle : zs.length ≤ 1000 := by have := reads_le hx z2 fun z hz => (z3 z).mp hz; omega
        refine ⟨v, .ref l, .tup (zs.map tx), rfl, rel_needed ok (fc1 false (by decide)) hx rel (fun c o e => sl _ _ (s2 _ _ e)) z1 z2 z3 (by omega), tw_txs upd_same (needs_short ok hx z3) zle, okT_names zs, fun H5 s5 => ⟨_, rfl, iteF ?_⟩⟩
        exact ⟨_, rfl, fun c o e => s5 _ _ (sl _ _ (s2 _ _ (sb2 _ _ e)))⟩
      · have ne : decide (V.str k' = V.str "later") = false := by
          rw [decide_eq_false_iff_not]
          intro z
          injection z with z
          exact hk' z
        rw [ne]
        refine iteF ?_
        exact ⟨_, rfl, sm⟩
    · exact q H2
  refine ⟨_, (pss_cons (ps_set (i := 1) sc_law.nd rfl (Or.inl rfl) (pe_call Gs hr1 rfl T.g__law_start T.k__law_start bs .nil pass0 (pa_cons (pv 0) pa_nil)))
    (pss_cons (ps_set (i := 2) sc_law.nd rfl (Or.inl rfl) (pe_callTy call_tuple_of (by rfl) T.tuple (by decide +kernel) (pa_cons (pe_call Gn hr4 rfl T.g__law_names T.k__law_names bn .nil pass0 (pa_cons (pv 1) (pa_cons pe_int pa_nil))) pa_nil)))
    (pss_cons (ps_set (i := 3) sc_law.nd rfl (Or.inl rfl) (pe_call Gn hr4 rfl T.g__law_names T.k__law_names bn .nil pass0 (pa_cons (pv 1) (pa_cons pe_int pa_nil))))
    (pss_cons (ps_set (i := 4) sc_law.nd rfl (Or.inl rfl) (pe_call Gn hr4 rfl T.g__law_names T.k__law_names bn .nil pass0 (pa_cons (pv 1) (pa_cons pe_int pa_nil))))
    (pss_cons (ps_set (i := 5) sc_law.nd rfl (Or.inl rfl) (pe_disp (pps_cons pe_str (pv 2) (pps_cons pe_str (pv 3) (pps_cons pe_str (pe_slice sl_list (pv 3) po_none (po_some pe_int)) (pps_cons pe_str (pv 4) pps_nil)))) rfl rfl (by simp) (by decide)))
    (pss_cons (ps_set (i := 6) sc_law.nd rfl (Or.inl rfl) (pe_ix ix_list (pe_lst (pa_cons pe_str (pa_cons pe_str pa_nil))) (pe_call Gt hr2 rfl T.g__law_take T.k__law_take bt .nil pass0 (pa_cons (pv 1) (pa_cons pe_int pa_nil))) (fun _ _ => rfl)))
    (pss_cons (ps_set (i := 7) sc_law.nd rfl (Or.inl rfl) (pe_call Gf hrk rfl T.g__law_function T.k__law_function bf .nil pass0 (pa_cons (pv 1) (pa_cons (pv 5) (pa_cons (pe_op op_add pe_int (pe_call Gt hr2 rfl T.g__law_take T.k__law_take bt .nil pass0 (pa_cons (pv 1) (pa_cons pe_int pa_nil)))) (pa_cons (pe_lst (pa_cons pe_int pa_nil)) (pa_cons (pv 6) (pa_cons pe_int pa_nil))))))))
    (pss_cons (ps_set (i := 8) sc_law.nd rfl (Or.inl rfl) (pe_tup (pa_cons (pv 7) (pa_cons (pe_tup pa_nil) pa_nil))))
    (pss_cons (ps_set (i := 9) sc_law.nd rfl (Or.inl rfl) pe_int)
    (pss_cons (ps_if (pt_cmpR op_eq (pv 6) pe_str (nomark _)) (pss_cons (ps_set (i := 8) sc_law.nd rfl (Or.inl rfl) (pe_tup (pa_cons (pe_tup pa_nil) (pa_cons (pv 7) pa_nil)))) (pss_one (ps_set (i := 9) sc_law.nd rfl (Or.inl rfl) pe_int))) pss_nil)
    htail)))))))))), ?_⟩
  refine ⟨_, rfl, a, ns, rfl, hsq, h63, fun st scr H1 hst s1 S1 => ?_⟩
  -- names
  refine ⟨_, rfl, st, scr, 2, rfl, S1, by decide, fun p1 H2 ws np1 k2 S2 hp1 l2 nm2 nd2 => ⟨p1, _, rfl, .inl ⟨SqL.of hp1, fun pw hpw => ?_⟩⟩⟩
  have s3 := same_new hpw (.tup (ws.map V.str))
  have S3 := S2.keep s3
  refine ⟨_, rfl, st, scr, 5, rfl, S3, by decide, fun p3 H4 ns5 np3 k4 S4 hp3 l5 nm5 nd5 => ?_⟩
  refine ⟨_, rfl, st, scr, 1, rfl, S4, by decide, fun p4 H5 bs1 np4 k5 S5 hp4 l1 nm1 nd1 => ?_⟩
  obtain ⟨w0, w1, rfl⟩ := len_two l2
  obtain ⟨n0, n1, n2, n3, n4, rfl⟩ := len_five l5
  obtain ⟨b0, rfl⟩ := len_one l1
  have e3 : p3 ≠ st := fresh_ne S3 np3
  have e4 : p4 ≠ st := fresh_ne S4 np4
  have ew : pw ≠ st := fresh_ne S2 hpw
  have hw5 : H5 pw = some (.tup ([w0, w1].map V.str)) := k5.one (k4.one upd_same ew) ew
  have h35 : H5 p3 = some (.lst ([n0, n1, n2, n3, n4].map V.str)) := k5.one hp3 e3
  -- the menu
  refine fun pm hpm => ?_
  have em : pm ≠ st := fresh_ne S5 hpm
  have s6 := same_new hpm (.dK [])
  refine ⟨_, rfl, _, rfl, _, rfl, 1, rfl, p3, _, rfl, SqL.of (s6 _ _ h35), fun pc hpc => ⟨_, rfl, ?_⟩⟩
  have s7 := same_new hpc (.lst [V.str n0])
  have ec : pc ≠ st := fresh_ne (S5.keep s6) hpc
  refine ⟨s7 _ _ upd_same, [(.inr "words", .ref pw), (.inr "slots", .ref p3), (.inr "cells", .ref pc), (.inr "boxes", .ref p4)], rfl, (Nat.le_of_ble_eq_true rfl), ?_⟩
  have ecm : pc ≠ pm := fun e => by
    rw [e, upd_same] at hpc
    cases hpc
  rw [show cutV (List.map V.str [n0, n1, n2, n3, n4]) none (some 1) = [V.str n0] from rfl]
  obtain ⟨g1, g2, g3, g4⟩ := menu_at (.ref pw) (.ref p3) (.ref pc) (.ref p4)
  have s58 : Same H5 (upd (upd (upd H5 pm (.dK [])) pc (.lst [V.str n0])) pm (.dK (mergeK [] [(.inr ("words" : Str), .ref pw), (.inr ("slots" : Str), .ref p3), (.inr ("cells" : Str), .ref pc), (.inr ("boxes" : Str), .ref p4)]))) := fun c o e => by
    rw [upd_ne (ne_of_none e hpm)]
    exact s7 _ _ (s6 _ _ e)
  have hm8 := upd_same (H := upd (upd H5 pm (.dK [])) pc (.lst [V.str n0])) (a := pm) (o := .dK (mergeK [] [(.inr ("words" : Str), .ref pw), (.inr ("slots" : Str), .ref p3), (.inr ("cells" : Str), .ref pc), (.inr ("boxes" : Str), .ref p4)]))
  have hc8 : upd (upd (upd H5 pm (.dK [])) pc (.lst [V.str n0])) pm (.dK (mergeK [] [(.inr ("words" : Str), .ref pw), (.inr ("slots" : Str), .ref p3), (.inr ("cells" : Str), .ref pc), (.inr ("boxes" : Str), .ref p4)])) pc = some (.lst [V.str n0]) := by rw [upd_ne ecm, upd_same]
  generalize upd (upd (upd H5 pm (.dK [])) pc (.lst [V.str n0])) pm (.dK (mergeK [] [(.inr ("words" : Str), .ref pw), (.inr ("slots" : Str), .ref p3), (.inr ("cells" : Str), .ref pc), (.inr ("boxes" : Str), .ref p4)])) = H8 at s58 hm8 hc8 ⊢
  have hw8 := s58 _ _ hw5
  have h38 := s58 _ _ h35
  have h48 := s58 _ _ hp4
  have S8 := S5.keep s58
  clear s58 s6 s7 hpc hpm
  -- the scope
  refine ⟨(show 2 ≤ sizeLine by decide), fun pz hpz => ?_⟩
  have s9 := same_new hpz (.lst [V.str "body", V.str "clean"])
  have S9 := S8.keep s9
  have ez : pz ≠ st := fresh_ne S8 hpz
  refine ⟨_, rfl, st, scr, 2, rfl, S9, by decide, by decide, fun r H10 r0 r1 k10 S10 => ?_⟩
  obtain ⟨sc, hsc, hat⟩ : ∃ sc : Str, (sc = "body" ∨ sc = "clean") ∧ atI [V.str "body", V.str "clean"] r = some (.str sc) := by
    have hr : r = 0 ∨ r = 1 := by omega
    rcases hr with e | e
    · exact ⟨"body", .inl rfl, at_of (j := 0) e rfl⟩
    · exact ⟨"clean", .inr rfl, at_of (j := 1) e rfl⟩
  refine ⟨pz, _, r, .str sc, rfl, rfl, SqL.of (k10.one upd_same ez), hat, ?_⟩
  -- the function
  refine ⟨_, rfl, _, rfl, _, rfl, st, scr, 7, rfl, S10, by decide, by decide, fun r7 H11 q0 q1 k11 S11 => ⟨_, _, rfl, rfl, (show 1 ≤ sizeLine by decide), fun pr hpr => ⟨_, rfl, ?_⟩⟩⟩
  have s12 := same_new hpr (.lst [V.int 8])
  have epr : pr ≠ st := fresh_ne S11 hpr
  have up11 : ∀ {c : Addr} {o : HO}, H8 c = some o → c ≠ st → H11 c = some o := fun e n => k11.one (k10.one (s9 _ _ e) n) n
  have up : ∀ {c : Addr} {o : HO}, H8 c = some o → c ≠ st → upd H11 pr (.lst [V.int 8]) c = some o := fun e n => s12 _ _ (up11 e n)
  have S12 := S11.keep s12
  have escr : scr ≠ pr := by
    obtain ⟨_, _, _, _, _, _, hx, _⟩ := S11.ex
    exact ne_of_none hx hpr
  obtain ⟨m, rfl⟩ := Int.eq_ofNat_of_zero_le q0
  have D12 : DS (upd H11 pr (.lst [V.int 8])) st scr pr pm pw p3 pc p4 8 ⟨[w0, w1], [n0, n1, n2, n3, n4], [n0], [b0]⟩ := ⟨S12, upd_same, ⟨_, up hm8 em, g1, g2, g3, g4⟩, up hw8 ew, up h38 e3, up hc8 ec, up h48 e4, epr, e3, ec, e4, ne_of_none (up11 h38 e3) hpr, ne_of_none (up11 hc8 ec) hpr, ne_of_none (up11 h48 e4) hpr, escr⟩
  have okW : Wd.Ok ⟨[w0, w1], [n0, n1, n2, n3, n4], [n0], [b0]⟩ := ⟨nm5, fun s hs => nm5 s (by rw [List.mem_singleton] at hs; rw [hs]; exact List.mem_cons_self ..), nm1, nm2, (Nat.le_of_ble_eq_true rfl), (Nat.le_of_ble_eq_true rfl), (Nat.le_of_ble_eq_true rfl), (Nat.le_of_ble_eq_true rfl), (Nat.le_of_ble_eq_true rfl), (Nat.le_of_ble_eq_true rfl)⟩
  refine ⟨st, scr, pr, pm, pw, p3, pc, p4, 1 + m, sc, 1, 8, _, rfl, D12, okW, by omega, by decide, by decide, fc1 _ (by decide), fun v ts r8 H13 k13 gr13 D13 wv hg hcnt hr8 => ?_⟩
  -- the pair
  refine ⟨_, rfl, (show 0 ≤ sizeLine by decide), fun pe hpe => ⟨(show 2 ≤ sizeLine by decide), fun pp hpp => ?_⟩⟩
  have sA := same_new hpe (.tup [])
  have sB := same_new hpp (.tup [v, .ref pe])
  have DB := (D13.same sA).same sB
  have wvB : Tw (upd (upd H13 pe (.tup [])) pp (.tup [v, .ref pe])) v (.tup ts) := Tw.gr (Gr.of sB) _ _ (Tw.gr (Gr.of sA) _ _ wv)
  have smw : ∀ s ∈ [w0, w1], s.length ≤ 1000 := fun s hs => nmS_1000 (nm2 s hs)
  refine ⟨_, rfl, rfl, _, rfl, ?_⟩
  rcases hsc with rfl | rfl
  · refine iteF ?_
    exact hp _ _ v (.ref pe) (.ref a) (.ref st) (.ref pm) (.str "body") v pw p3 p4 pp 0 ⟨[w0, w1], [n0, n1, n2, n3, n4], [n0], [b0]⟩ w0 w1 n0 b0 [n1, n2, n3, n4] ts ts [] q okW rfl rfl rfl rfl nd2 (Nat.le_of_ble_eq_true rfl) ⟨.inl ⟨rfl, rfl, rfl⟩, ⟨_, fun _ => rfl, hg⟩, by omega⟩ DB.hw DB.hs DB.hb upd_same wvB (.tup (sB _ _ upd_same) .nil (by decide)) wvB smw
  · refine iteT ?_
    refine ⟨(show 0 ≤ sizeLine by decide), fun pe2 hpe2 => ⟨_, rfl, (show 2 ≤ sizeLine by decide), fun pp2 hpp2 => ?_⟩⟩
    have sC := same_new hpe2 (.tup [])
    have sD := same_new hpp2 (.tup [.ref pe2, v])
    have DD := (DB.same sC).same sD
    have wvD : Tw (upd (upd (upd (upd H13 pe (.tup [])) pp (.tup [v, .ref pe])) pe2 (.tup [])) pp2 (.tup [.ref pe2, v])) v (.tup ts) := Tw.gr (Gr.of sD) _ _ (Tw.gr (Gr.of sC) _ _ wvB)
    exact hp _ _ (.ref pe2) v (.ref a) (.ref st) (.ref pm) (.str "clean") v pw p3 p4 pp2 1 ⟨[w0, w1], [n0, n1, n2, n3, n4], [n0], [b0]⟩ w0 w1 n0 b0 [n1, n2, n3, n4] ts [] ts q okW rfl rfl rfl rfl nd2 (Nat.le_of_ble_eq_true rfl) ⟨.inr ⟨rfl, rfl, rfl⟩, ⟨_, fun e => absurd e (by decide), hg⟩, by omega⟩ DD.hw DD.hs DD.hb upd_same (.tup (sD _ _ upd_same) .nil (by decide)) wvD wvD smw
end
end CA
namespace CA
open PySem L2
/-! ### a written dict against a table -/
inductive Ents {α : Type} (R : Value → α → Prop) : List DictEntry → List (Str × α) → Prop
  | nil : Ents R [] []
  | cons {en : DictEntry} {es : List DictEntry} {x : Str} {t : Tok} {a : α} {tab : List (Str × α)} : en.key = .str x t → R en.val a → Ents R es tab → Ents R (en :: es) ((x, a) :: tab)
section
variable {α : Type} {R : Value → α → Prop}
theorem Ents.any {es : List DictEntry} {tab : List (Str × α)} (h : Ents R es tab) : es.any (·.refKey) = false := by
  induction h with
  | nil => rfl
  | @cons en es x t a tab hk hv _ ih =>
    rw [List.any_cons, ih]
    unfold DictEntry.refKey
    rw [hk]
    rfl
theorem key_is {en : DictEntry} {x : Str} {t : Tok} (hk : en.key = .str x t) (z : Str) : en.key.isStr z = decide (x = z) := by
  rw [hk]
  show (x == z) = _
  by_cases e : x = z
  · subst e
    simp
  · rw [decide_eq_false e]
    simp [e]
theorem Ents.no {es : List DictEntry} {tab : List (Str × α)} (h : Ents R es tab) {z : Str} (hz : tab.lookup z = none) : es.find? (·.key.isStr z) = none := by
  induction h with
  | nil => rfl
  | @cons en es x t a tab hk hv _ ih =>
    rw [List.lookup_cons] at hz
    by_cases e : z = x
    · rw [e] at hz
      simp at hz
    · have e1 : (z == x) = false := by simp [e]
      rw [e1] at hz
      rw [List.find?_cons, key_is hk, decide_eq_false (fun q => e q.symm)]
      exact ih hz
theorem Ents.yes {es : List DictEntry} {tab : List (Str × α)} (h : Ents R es tab) {z : Str} {a : α} (hz : tab.lookup z = some a) : ∃ en, es.find? (·.key.isStr z) = some en ∧ R en.val a := by
  induction h with
  | nil => cases hz
  | @cons en es x t b tab hk hv _ ih =>
    rw [List.lookup_cons] at hz
    by_cases e : z = x
    · rw [e] at hz
      simp at hz
      rw [List.find?_cons, key_is hk, decide_eq_true e.symm]
      exact ⟨en, rfl, hz ▸ hv⟩
    · have e1 : (z == x) = false := by simp [e]
      rw [e1] at hz
      rw [List.find?_cons, key_is hk, decide_eq_false (fun q => e q.symm)]
      exact ih hz
theorem Ents.noK {K : PySem.W.Frag} {d : Addr} {o : Option Addr} {c : Value} {es : Array DictEntry} {n : Nat} {sl : Array (Option Value)} {tab : List (Str × α)} (h : Ents R es.toList tab) (e : K.lookup d = some ⟨c, o, .dict es n, sl⟩) {z : Str} (hz : tab.lookup z = none) : PySem.W.nsIn K d z = some none := by
  unfold PySem.W.nsIn
  rw [e]
  dsimp only
  rw [h.no hz]
  dsimp only
  rw [h.any]
  rfl
theorem Ents.yesK {K : PySem.W.Frag} {d : Addr} {o : Option Addr} {c : Value} {es : Array DictEntry} {n : Nat} {sl : Array (Option Value)} {tab : List (Str × α)} (h : Ents R es.toList tab) (e : K.lookup d = some ⟨c, o, .dict es n, sl⟩) {z : Str} {a : α} (hz : tab.lookup z = some a) : ∃ v, PySem.W.nsIn K d z = some (some v) ∧ R v a := by
  obtain ⟨en, h1, h2⟩ := h.yes hz
  refine ⟨en.val, ?_, h2⟩
  unfold PySem.W.nsIn
  rw [e]
  dsimp only
  rw [h1]
end
/-- the value is a tuple of these texts -/
def isWordsV (K : PySem.W.Frag) (v : Value) (l : List Str) : Prop := ∃ p, v = .ref p ∧ ∀ H, SqT K H p (l.map V.str)
def isIntV (v : Value) (n : Nat) : Prop := ∃ tk, v = .int (n : Nat) tk
def firstTable : List (Str × Nat) := [("if", 3), ("effect", 2), ("handler", 3), ("later", 1)]
theorem first_tab (z : Str) : firstTable.lookup z = firstRows z := by
  by_cases h1 : z = "if"
  · subst h1
    rfl
  · by_cases h2 : z = "effect"
    · subst h2
      rfl
    · by_cases h3 : z = "handler"
      · subst h3
        rfl
      · by_cases h4 : z = "later"
        · subst h4
          rfl
        · have b1 : (z == ("if" : Str)) = false := by simp [h1]
          have b2 : (z == ("effect" : Str)) = false := by simp [h2]
          have b3 : (z == ("handler" : Str)) = false := by simp [h3]
          have b4 : (z == ("later" : Str)) = false := by simp [h4]
          unfold firstRows firstTable
          rw [if_neg h1, if_neg h2, if_neg h3, if_neg h4, List.lookup_cons, b1, List.lookup_cons, b2, List.lookup_cons, b3, List.lookup_cons, b4]
          rfl
end CA
set_option maxHeartbeats 8000000
namespace CA
open PySem L2
theorem all_mk {l : PySem.W.OpenLaw} {w : World} {K : PySem.W.Frag} {h : Heap} {mg : Str → Option Value} {fa : Addr} (X : K.In h) (G : h.Ns mainGlobals mg) (hfa : mg "law" = some (.ref fa))
    {C f_int f_name f_names f_wrds f_path f_item f_stand f_zone f_dep f_inner f_rowf f_slots f_rows f_funs f_tups f_either f_use f_user f_heldS f_links f_covers f_lacks f_makers f_twice f_cnames f_crows f_ccounts f_cuses f_cpart f_other f_start f_mixed f_take f_pick f_lnames f_table f_func f_same f_ways f_need f_law f_init f_held a_CALL_KINDS a_FUNCTION_KINDS a_IFS a_IFS_AND_LATER a_ALL_ROWS p_0 p_1 p_2 p_3 p_4 p_5 p_6 p_7 p_8 p_9 p_10 p_11 p_12 p_13 p_14 a_FORMS a_FIRST_ROWS a_READS a_CHANGES : Addr} {od_int an_int od_name an_name od_names an_names od_wrds an_wrds od_path an_path od_item an_item od_stand an_stand od_zone an_zone od_dep an_dep od_inner an_inner od_rowf an_rowf od_slots an_slots od_rows an_rows od_funs an_funs od_tups an_tups od_either an_either od_use an_use od_user an_user od_heldS an_heldS od_links an_links od_covers an_covers od_lacks an_lacks od_makers an_makers od_twice an_twice od_cnames an_cnames od_crows an_crows od_ccounts an_ccounts od_cuses an_cuses od_cpart an_cpart od_other an_other od_start an_start od_mixed an_mixed od_take an_take od_pick an_pick od_lnames an_lnames od_table an_table od_func an_func od_same an_same od_ways an_ways od_need an_need od_law an_law od_init an_init od_held an_held od_CALL_KINDS od_FUNCTION_KINDS od_IFS od_IFS_AND_LATER od_ALL_ROWS od_F0 od_F1 od_F2 od_F3 od_F4 od_F5 od_F6 od_F7 od_F8 od_F9 od_F10 od_F11 od_F12 od_F13 od_F14 : Option Addr} {sl_int sl_name sl_names sl_wrds sl_path sl_item sl_stand sl_zone sl_dep sl_inner sl_rowf sl_slots sl_rows sl_funs sl_tups sl_either sl_use sl_user sl_heldS sl_links sl_covers sl_lacks sl_makers sl_twice sl_cnames sl_crows sl_ccounts sl_cuses sl_cpart sl_other sl_start sl_mixed sl_take sl_pick sl_lnames sl_table sl_func sl_same sl_ways sl_need sl_law sl_init sl_held sl_CALL_KINDS sl_FUNCTION_KINDS sl_IFS sl_IFS_AND_LATER sl_ALL_ROWS sl_F0 sl_F1 sl_F2 sl_F3 sl_F4 sl_F5 sl_F6 sl_F7 sl_F8 sl_F9 sl_F10 sl_F11 sl_F12 sl_F13 sl_F14 : Array (Option Value)} {oc_int kV_int dc_int pm_int cd_int ct_int oc_name kV_name dc_name pm_name cd_name ct_name oc_names kV_names dc_names pm_names cd_names ct_names oc_wrds kV_wrds dc_wrds pm_wrds cd_wrds ct_wrds oc_path kV_path dc_path pm_path cd_path ct_path oc_item kV_item dc_item pm_item cd_item ct_item oc_stand kV_stand dc_stand pm_stand cd_stand ct_stand oc_zone kV_zone dc_zone pm_zone cd_zone ct_zone oc_dep kV_dep dc_dep pm_dep cd_dep ct_dep oc_inner kV_inner dc_inner pm_inner cd_inner ct_inner oc_rowf kV_rowf dc_rowf pm_rowf cd_rowf ct_rowf oc_slots kV_slots dc_slots pm_slots cd_slots ct_slots oc_rows kV_rows dc_rows pm_rows cd_rows ct_rows oc_funs kV_funs dc_funs pm_funs cd_funs ct_funs oc_tups kV_tups dc_tups pm_tups cd_tups ct_tups oc_either kV_either dc_either pm_either cd_either ct_either oc_use kV_use dc_use pm_use cd_use ct_use oc_user kV_user dc_user pm_user cd_user ct_user oc_heldS kV_heldS dc_heldS pm_heldS cd_heldS ct_heldS oc_links kV_links dc_links pm_links cd_links ct_links oc_covers kV_covers dc_covers pm_covers cd_covers ct_covers oc_lacks kV_lacks dc_lacks pm_lacks cd_lacks ct_lacks oc_makers kV_makers dc_makers pm_makers cd_makers ct_makers oc_twice kV_twice dc_twice pm_twice cd_twice ct_twice oc_cnames kV_cnames dc_cnames pm_cnames cd_cnames ct_cnames oc_crows kV_crows dc_crows pm_crows cd_crows ct_crows oc_ccounts kV_ccounts dc_ccounts pm_ccounts cd_ccounts ct_ccounts oc_cuses kV_cuses dc_cuses pm_cuses cd_cuses ct_cuses oc_cpart kV_cpart dc_cpart pm_cpart cd_cpart ct_cpart oc_other kV_other dc_other pm_other cd_other ct_other oc_start kV_start dc_start pm_start cd_start ct_start oc_mixed kV_mixed dc_mixed pm_mixed cd_mixed ct_mixed oc_take kV_take dc_take pm_take cd_take ct_take oc_pick kV_pick dc_pick pm_pick cd_pick ct_pick oc_lnames kV_lnames dc_lnames pm_lnames cd_lnames ct_lnames oc_table kV_table dc_table pm_table cd_table ct_table oc_func kV_func dc_func pm_func cd_func ct_func oc_same kV_same dc_same pm_same cd_same ct_same oc_ways kV_ways dc_ways pm_ways cd_ways ct_ways oc_need kV_need dc_need pm_need cd_need ct_need oc_law kV_law dc_law pm_law cd_law ct_law oc_init kV_init dc_init pm_init cd_init ct_init oc_held kV_held dc_held pm_held cd_held ct_held : Value} {t_CALL_KINDS_0 t_CALL_KINDS_1 t_CALL_KINDS_2 t_CALL_KINDS_3 t_CALL_KINDS_4 t_CALL_KINDS_5 t_CALL_KINDS_6 t_CALL_KINDS_7 t_CALL_KINDS_8 t_FUNCTION_KINDS_0 t_FUNCTION_KINDS_1 t_FUNCTION_KINDS_2 t_FUNCTION_KINDS_3 t_FUNCTION_KINDS_4 t_FUNCTION_KINDS_5 t_FUNCTION_KINDS_6 t_FUNCTION_KINDS_7 t_FUNCTION_KINDS_8 t_IFS_0 t_IFS_AND_LATER_0 t_IFS_AND_LATER_1 t_ALL_ROWS_0 t_ALL_ROWS_1 t_ALL_ROWS_2 t_ALL_ROWS_3 t_MOST_LIST t_DEEPEST_CALL_IF t_DEEPEST_FUNCTION_IF t_MOST_CALL_ROWS t_MOST_FUNCTION_ROWS kt_FORMS_0 kt_FORMS_1 kt_FORMS_2 kt_FORMS_3 kt_FORMS_4 kt_FORMS_5 kt_FORMS_6 kt_FORMS_7 kt_FORMS_8 kt_FORMS_9 kt_FORMS_10 kt_FORMS_11 kt_FORMS_12 kt_FORMS_13 kt_FORMS_14 t_F0_0 t_F0_1 t_F1_0 t_F1_1 t_F2_0 t_F2_1 t_F2_2 t_F2_3 t_F3_0 t_F3_1 t_F3_2 t_F4_0 t_F4_1 t_F4_2 t_F5_0 t_F5_1 t_F6_0 t_F6_1 t_F6_2 t_F7_0 t_F7_1 t_F7_2 t_F7_3 t_F8_0 t_F9_0 t_F10_0 t_F10_1 t_F11_0 t_F11_1 t_F12_0 t_F12_1 t_F13_0 t_F13_1 t_F14_0 vt_FIRST_ROWS_0 vt_FIRST_ROWS_1 vt_FIRST_ROWS_2 vt_FIRST_ROWS_3 kt_FIRST_ROWS_0 kt_FIRST_ROWS_1 kt_FIRST_ROWS_2 kt_FIRST_ROWS_3 vt_READS_0 vt_READS_1 vt_READS_2 vt_READS_3 vt_READS_4 kt_READS_0 kt_READS_1 kt_READS_2 kt_READS_3 kt_READS_4 vt_CHANGES_0 vt_CHANGES_1 vt_CHANGES_2 kt_CHANGES_0 kt_CHANGES_1 kt_CHANGES_2 : Tok} {n_CALL_KINDS n_FUNCTION_KINDS n_IFS n_IFS_AND_LATER n_ALL_ROWS n_FORMS n_F0 n_F1 n_F2 n_F3 n_F4 n_F5 n_F6 n_F7 n_F8 n_F9 n_F10 n_F11 n_F12 n_F13 n_F14 n_FIRST_ROWS n_READS n_CHANGES : Nat} {hs_FORMS_0 hs_FORMS_1 hs_FORMS_2 hs_FORMS_3 hs_FORMS_4 hs_FORMS_5 hs_FORMS_6 hs_FORMS_7 hs_FORMS_8 hs_FORMS_9 hs_FORMS_10 hs_FORMS_11 hs_FORMS_12 hs_FORMS_13 hs_FORMS_14 hs_FIRST_ROWS_0 hs_FIRST_ROWS_1 hs_FIRST_ROWS_2 hs_FIRST_ROWS_3 hs_READS_0 hs_READS_1 hs_READS_2 hs_READS_3 hs_READS_4 hs_CHANGES_0 hs_CHANGES_1 hs_CHANGES_2 : Int}
    (g_C : PySem.W.nsIn K mainGlobals "Part" = some (some (.ref C)))
    (a_int : PySem.W.nsIn K mainGlobals "is_integer" = some (some (.ref f_int)))
    (l_int : K.lookup f_int = some ⟨oc_int, od_int, .func (PySem.W.fnOf "is_integer" "is_integer" (defArgs s_is_integer) (defBody s_is_integer) (defScope s_is_integer) .none kV_int dc_int pm_int an_int cd_int ct_int), sl_int⟩)
    (c_int : PySem.W.codeIn K cd_int "is_integer" = true)
    (k_int : PySem.W.keepIn K (.ref f_int) = true)
    (a_name : PySem.W.nsIn K mainGlobals "is_name" = some (some (.ref f_name)))
    (l_name : K.lookup f_name = some ⟨oc_name, od_name, .func (PySem.W.fnOf "is_name" "is_name" (defArgs s_is_name) (defBody s_is_name) (defScope s_is_name) .none kV_name dc_name pm_name an_name cd_name ct_name), sl_name⟩)
    (c_name : PySem.W.codeIn K cd_name "is_name" = true)
    (k_name : PySem.W.keepIn K (.ref f_name) = true)
    (a_names : PySem.W.nsIn K mainGlobals "are_names" = some (some (.ref f_names)))
    (l_names : K.lookup f_names = some ⟨oc_names, od_names, .func (PySem.W.fnOf "are_names" "are_names" (defArgs s_are_names) (defBody s_are_names) (defScope s_are_names) .none kV_names dc_names pm_names an_names cd_names ct_names), sl_names⟩)
    (c_names : PySem.W.codeIn K cd_names "are_names" = true)
    (k_names : PySem.W.keepIn K (.ref f_names) = true)
    (a_wrds : PySem.W.nsIn K mainGlobals "are_words" = some (some (.ref f_wrds)))
    (l_wrds : K.lookup f_wrds = some ⟨oc_wrds, od_wrds, .func (PySem.W.fnOf "are_words" "are_words" (defArgs s_are_words) (defBody s_are_words) (defScope s_are_words) .none kV_wrds dc_wrds pm_wrds an_wrds cd_wrds ct_wrds), sl_wrds⟩)
    (c_wrds : PySem.W.codeIn K cd_wrds "are_words" = true)
    (k_wrds : PySem.W.keepIn K (.ref f_wrds) = true)
    (a_path : PySem.W.nsIn K mainGlobals "is_path" = some (some (.ref f_path)))
    (l_path : K.lookup f_path = some ⟨oc_path, od_path, .func (PySem.W.fnOf "is_path" "is_path" (defArgs s_is_path) (defBody s_is_path) (defScope s_is_path) .none kV_path dc_path pm_path an_path cd_path ct_path), sl_path⟩)
    (c_path : PySem.W.codeIn K cd_path "is_path" = true)
    (k_path : PySem.W.keepIn K (.ref f_path) = true)
    (a_item : PySem.W.nsIn K mainGlobals "item_fits" = some (some (.ref f_item)))
    (l_item : K.lookup f_item = some ⟨oc_item, od_item, .func (PySem.W.fnOf "item_fits" "item_fits" (defArgs s_item_fits) (defBody s_item_fits) (defScope s_item_fits) .none kV_item dc_item pm_item an_item cd_item ct_item), sl_item⟩)
    (c_item : PySem.W.codeIn K cd_item "item_fits" = true)
    (k_item : PySem.W.keepIn K (.ref f_item) = true)
    (a_stand : PySem.W.nsIn K mainGlobals "may_stand" = some (some (.ref f_stand)))
    (l_stand : K.lookup f_stand = some ⟨oc_stand, od_stand, .func (PySem.W.fnOf "may_stand" "may_stand" (defArgs s_may_stand) (defBody s_may_stand) (defScope s_may_stand) .none kV_stand dc_stand pm_stand an_stand cd_stand ct_stand), sl_stand⟩)
    (c_stand : PySem.W.codeIn K cd_stand "may_stand" = true)
    (k_stand : PySem.W.keepIn K (.ref f_stand) = true)
    (a_zone : PySem.W.nsIn K mainGlobals "zone_inside" = some (some (.ref f_zone)))
    (l_zone : K.lookup f_zone = some ⟨oc_zone, od_zone, .func (PySem.W.fnOf "zone_inside" "zone_inside" (defArgs s_zone_inside) (defBody s_zone_inside) (defScope s_zone_inside) .none kV_zone dc_zone pm_zone an_zone cd_zone ct_zone), sl_zone⟩)
    (c_zone : PySem.W.codeIn K cd_zone "zone_inside" = true)
    (k_zone : PySem.W.keepIn K (.ref f_zone) = true)
    (a_dep : PySem.W.nsIn K mainGlobals "depth_inside" = some (some (.ref f_dep)))
    (l_dep : K.lookup f_dep = some ⟨oc_dep, od_dep, .func (PySem.W.fnOf "depth_inside" "depth_inside" (defArgs s_depth_inside) (defBody s_depth_inside) (defScope s_depth_inside) .none kV_dep dc_dep pm_dep an_dep cd_dep ct_dep), sl_dep⟩)
    (c_dep : PySem.W.codeIn K cd_dep "depth_inside" = true)
    (k_dep : PySem.W.keepIn K (.ref f_dep) = true)
    (a_inner : PySem.W.nsIn K mainGlobals "inner_rows" = some (some (.ref f_inner)))
    (l_inner : K.lookup f_inner = some ⟨oc_inner, od_inner, .func (PySem.W.fnOf "inner_rows" "inner_rows" (defArgs s_inner_rows) (defBody s_inner_rows) (defScope s_inner_rows) .none kV_inner dc_inner pm_inner an_inner cd_inner ct_inner), sl_inner⟩)
    (c_inner : PySem.W.codeIn K cd_inner "inner_rows" = true)
    (k_inner : PySem.W.keepIn K (.ref f_inner) = true)
    (a_rowf : PySem.W.nsIn K mainGlobals "row_fits" = some (some (.ref f_rowf)))
    (l_rowf : K.lookup f_rowf = some ⟨oc_rowf, od_rowf, .func (PySem.W.fnOf "row_fits" "row_fits" (defArgs s_row_fits) (defBody s_row_fits) (defScope s_row_fits) .none kV_rowf dc_rowf pm_rowf an_rowf cd_rowf ct_rowf), sl_rowf⟩)
    (c_rowf : PySem.W.codeIn K cd_rowf "row_fits" = true)
    (k_rowf : PySem.W.keepIn K (.ref f_rowf) = true)
    (a_slots : PySem.W.nsIn K mainGlobals "slots_in" = some (some (.ref f_slots)))
    (l_slots : K.lookup f_slots = some ⟨oc_slots, od_slots, .func (PySem.W.fnOf "slots_in" "slots_in" (defArgs s_slots_in) (defBody s_slots_in) (defScope s_slots_in) .none kV_slots dc_slots pm_slots an_slots cd_slots ct_slots), sl_slots⟩)
    (c_slots : PySem.W.codeIn K cd_slots "slots_in" = true)
    (k_slots : PySem.W.keepIn K (.ref f_slots) = true)
    (a_rows : PySem.W.nsIn K mainGlobals "rows_within" = some (some (.ref f_rows)))
    (l_rows : K.lookup f_rows = some ⟨oc_rows, od_rows, .func (PySem.W.fnOf "rows_within" "rows_within" (defArgs s_rows_within) (defBody s_rows_within) (defScope s_rows_within) .none kV_rows dc_rows pm_rows an_rows cd_rows ct_rows), sl_rows⟩)
    (c_rows : PySem.W.codeIn K cd_rows "rows_within" = true)
    (k_rows : PySem.W.keepIn K (.ref f_rows) = true)
    (a_funs : PySem.W.nsIn K mainGlobals "functions_within" = some (some (.ref f_funs)))
    (l_funs : K.lookup f_funs = some ⟨oc_funs, od_funs, .func (PySem.W.fnOf "functions_within" "functions_within" (defArgs s_functions_within) (defBody s_functions_within) (defScope s_functions_within) .none kV_funs dc_funs pm_funs an_funs cd_funs ct_funs), sl_funs⟩)
    (c_funs : PySem.W.codeIn K cd_funs "functions_within" = true)
    (k_funs : PySem.W.keepIn K (.ref f_funs) = true)
    (a_tups : PySem.W.nsIn K mainGlobals "tuples_within" = some (some (.ref f_tups)))
    (l_tups : K.lookup f_tups = some ⟨oc_tups, od_tups, .func (PySem.W.fnOf "tuples_within" "tuples_within" (defArgs s_tuples_within) (defBody s_tuples_within) (defScope s_tuples_within) .none kV_tups dc_tups pm_tups an_tups cd_tups ct_tups), sl_tups⟩)
    (c_tups : PySem.W.codeIn K cd_tups "tuples_within" = true)
    (k_tups : PySem.W.keepIn K (.ref f_tups) = true)
    (a_either : PySem.W.nsIn K mainGlobals "use_of_either" = some (some (.ref f_either)))
    (l_either : K.lookup f_either = some ⟨oc_either, od_either, .func (PySem.W.fnOf "use_of_either" "use_of_either" (defArgs s_use_of_either) (defBody s_use_of_either) (defScope s_use_of_either) .none kV_either dc_either pm_either an_either cd_either ct_either), sl_either⟩)
    (c_either : PySem.W.codeIn K cd_either "use_of_either" = true)
    (k_either : PySem.W.keepIn K (.ref f_either) = true)
    (a_use : PySem.W.nsIn K mainGlobals "first_use" = some (some (.ref f_use)))
    (l_use : K.lookup f_use = some ⟨oc_use, od_use, .func (PySem.W.fnOf "first_use" "first_use" (defArgs s_first_use) (defBody s_first_use) (defScope s_first_use) .none kV_use dc_use pm_use an_use cd_use ct_use), sl_use⟩)
    (c_use : PySem.W.codeIn K cd_use "first_use" = true)
    (k_use : PySem.W.keepIn K (.ref f_use) = true)
    (a_user : PySem.W.nsIn K mainGlobals "first_use_in_row" = some (some (.ref f_user)))
    (l_user : K.lookup f_user = some ⟨oc_user, od_user, .func (PySem.W.fnOf "first_use_in_row" "first_use_in_row" (defArgs s_first_use_in_row) (defBody s_first_use_in_row) (defScope s_first_use_in_row) .none kV_user dc_user pm_user an_user cd_user ct_user), sl_user⟩)
    (c_user : PySem.W.codeIn K cd_user "first_use_in_row" = true)
    (k_user : PySem.W.keepIn K (.ref f_user) = true)
    (a_heldS : PySem.W.nsIn K mainGlobals "held_slots" = some (some (.ref f_heldS)))
    (l_heldS : K.lookup f_heldS = some ⟨oc_heldS, od_heldS, .func (PySem.W.fnOf "held_slots" "held_slots" (defArgs s_held_slots) (defBody s_held_slots) (defScope s_held_slots) .none kV_heldS dc_heldS pm_heldS an_heldS cd_heldS ct_heldS), sl_heldS⟩)
    (c_heldS : PySem.W.codeIn K cd_heldS "held_slots" = true)
    (k_heldS : PySem.W.keepIn K (.ref f_heldS) = true)
    (a_links : PySem.W.nsIn K mainGlobals "links_of" = some (some (.ref f_links)))
    (l_links : K.lookup f_links = some ⟨oc_links, od_links, .func (PySem.W.fnOf "links_of" "links_of" (defArgs s_links_of) (defBody s_links_of) (defScope s_links_of) .none kV_links dc_links pm_links an_links cd_links ct_links), sl_links⟩)
    (c_links : PySem.W.codeIn K cd_links "links_of" = true)
    (k_links : PySem.W.keepIn K (.ref f_links) = true)
    (a_covers : PySem.W.nsIn K mainGlobals "covers_input" = some (some (.ref f_covers)))
    (l_covers : K.lookup f_covers = some ⟨oc_covers, od_covers, .func (PySem.W.fnOf "covers_input" "covers_input" (defArgs s_covers_input) (defBody s_covers_input) (defScope s_covers_input) .none kV_covers dc_covers pm_covers an_covers cd_covers ct_covers), sl_covers⟩)
    (c_covers : PySem.W.codeIn K cd_covers "covers_input" = true)
    (k_covers : PySem.W.keepIn K (.ref f_covers) = true)
    (a_lacks : PySem.W.nsIn K mainGlobals "lacks_maker" = some (some (.ref f_lacks)))
    (l_lacks : K.lookup f_lacks = some ⟨oc_lacks, od_lacks, .func (PySem.W.fnOf "lacks_maker" "lacks_maker" (defArgs s_lacks_maker) (defBody s_lacks_maker) (defScope s_lacks_maker) .none kV_lacks dc_lacks pm_lacks an_lacks cd_lacks ct_lacks), sl_lacks⟩)
    (c_lacks : PySem.W.codeIn K cd_lacks "lacks_maker" = true)
    (k_lacks : PySem.W.keepIn K (.ref f_lacks) = true)
    (a_makers : PySem.W.nsIn K mainGlobals "first_makers" = some (some (.ref f_makers)))
    (l_makers : K.lookup f_makers = some ⟨oc_makers, od_makers, .func (PySem.W.fnOf "first_makers" "first_makers" (defArgs s_first_makers) (defBody s_first_makers) (defScope s_first_makers) .none kV_makers dc_makers pm_makers an_makers cd_makers ct_makers), sl_makers⟩)
    (c_makers : PySem.W.codeIn K cd_makers "first_makers" = true)
    (k_makers : PySem.W.keepIn K (.ref f_makers) = true)
    (a_twice : PySem.W.nsIn K mainGlobals "is_made_twice" = some (some (.ref f_twice)))
    (l_twice : K.lookup f_twice = some ⟨oc_twice, od_twice, .func (PySem.W.fnOf "is_made_twice" "is_made_twice" (defArgs s_is_made_twice) (defBody s_is_made_twice) (defScope s_is_made_twice) .none kV_twice dc_twice pm_twice an_twice cd_twice ct_twice), sl_twice⟩)
    (c_twice : PySem.W.codeIn K cd_twice "is_made_twice" = true)
    (k_twice : PySem.W.keepIn K (.ref f_twice) = true)
    (a_cnames : PySem.W.nsIn K mainGlobals "check_names" = some (some (.ref f_cnames)))
    (l_cnames : K.lookup f_cnames = some ⟨oc_cnames, od_cnames, .func (PySem.W.fnOf "check_names" "check_names" (defArgs s_check_names) (defBody s_check_names) (defScope s_check_names) .none kV_cnames dc_cnames pm_cnames an_cnames cd_cnames ct_cnames), sl_cnames⟩)
    (c_cnames : PySem.W.codeIn K cd_cnames "check_names" = true)
    (k_cnames : PySem.W.keepIn K (.ref f_cnames) = true)
    (a_crows : PySem.W.nsIn K mainGlobals "check_rows" = some (some (.ref f_crows)))
    (l_crows : K.lookup f_crows = some ⟨oc_crows, od_crows, .func (PySem.W.fnOf "check_rows" "check_rows" (defArgs s_check_rows) (defBody s_check_rows) (defScope s_check_rows) .none kV_crows dc_crows pm_crows an_crows cd_crows ct_crows), sl_crows⟩)
    (c_crows : PySem.W.codeIn K cd_crows "check_rows" = true)
    (k_crows : PySem.W.keepIn K (.ref f_crows) = true)
    (a_ccounts : PySem.W.nsIn K mainGlobals "check_counts" = some (some (.ref f_ccounts)))
    (l_ccounts : K.lookup f_ccounts = some ⟨oc_ccounts, od_ccounts, .func (PySem.W.fnOf "check_counts" "check_counts" (defArgs s_check_counts) (defBody s_check_counts) (defScope s_check_counts) .none kV_ccounts dc_ccounts pm_ccounts an_ccounts cd_ccounts ct_ccounts), sl_ccounts⟩)
    (c_ccounts : PySem.W.codeIn K cd_ccounts "check_counts" = true)
    (k_ccounts : PySem.W.keepIn K (.ref f_ccounts) = true)
    (a_cuses : PySem.W.nsIn K mainGlobals "check_uses" = some (some (.ref f_cuses)))
    (l_cuses : K.lookup f_cuses = some ⟨oc_cuses, od_cuses, .func (PySem.W.fnOf "check_uses" "check_uses" (defArgs s_check_uses) (defBody s_check_uses) (defScope s_check_uses) .none kV_cuses dc_cuses pm_cuses an_cuses cd_cuses ct_cuses), sl_cuses⟩)
    (c_cuses : PySem.W.codeIn K cd_cuses "check_uses" = true)
    (k_cuses : PySem.W.keepIn K (.ref f_cuses) = true)
    (a_cpart : PySem.W.nsIn K mainGlobals "check_part" = some (some (.ref f_cpart)))
    (l_cpart : K.lookup f_cpart = some ⟨oc_cpart, od_cpart, .func (PySem.W.fnOf "check_part" "check_part" (defArgs s_check_part) (defBody s_check_part) (defScope s_check_part) .none kV_cpart dc_cpart pm_cpart an_cpart cd_cpart ct_cpart), sl_cpart⟩)
    (c_cpart : PySem.W.codeIn K cd_cpart "check_part" = true)
    (k_cpart : PySem.W.keepIn K (.ref f_cpart) = true)
    (a_other : PySem.W.nsIn K mainGlobals "other_slots" = some (some (.ref f_other)))
    (l_other : K.lookup f_other = some ⟨oc_other, od_other, .func (PySem.W.fnOf "other_slots" "other_slots" (defArgs s_other_slots) (defBody s_other_slots) (defScope s_other_slots) .none kV_other dc_other pm_other an_other cd_other ct_other), sl_other⟩)
    (c_other : PySem.W.codeIn K cd_other "other_slots" = true)
    (k_other : PySem.W.keepIn K (.ref f_other) = true)
    (a_start : PySem.W.nsIn K mainGlobals "_law_start" = some (some (.ref f_start)))
    (l_start : K.lookup f_start = some ⟨oc_start, od_start, .func (PySem.W.fnOf "_law_start" "_law_start" (defArgs s__law_start) (defBody s__law_start) (defScope s__law_start) .none kV_start dc_start pm_start an_start cd_start ct_start), sl_start⟩)
    (c_start : PySem.W.codeIn K cd_start "_law_start" = true)
    (k_start : PySem.W.keepIn K (.ref f_start) = true)
    (a_mixed : PySem.W.nsIn K mainGlobals "_law_mixed" = some (some (.ref f_mixed)))
    (l_mixed : K.lookup f_mixed = some ⟨oc_mixed, od_mixed, .func (PySem.W.fnOf "_law_mixed" "_law_mixed" (defArgs s__law_mixed) (defBody s__law_mixed) (defScope s__law_mixed) .none kV_mixed dc_mixed pm_mixed an_mixed cd_mixed ct_mixed), sl_mixed⟩)
    (c_mixed : PySem.W.codeIn K cd_mixed "_law_mixed" = true)
    (k_mixed : PySem.W.keepIn K (.ref f_mixed) = true)
    (a_take : PySem.W.nsIn K mainGlobals "_law_take" = some (some (.ref f_take)))
    (l_take : K.lookup f_take = some ⟨oc_take, od_take, .func (PySem.W.fnOf "_law_take" "_law_take" (defArgs s__law_take) (defBody s__law_take) (defScope s__law_take) .none kV_take dc_take pm_take an_take cd_take ct_take), sl_take⟩)
    (c_take : PySem.W.codeIn K cd_take "_law_take" = true)
    (k_take : PySem.W.keepIn K (.ref f_take) = true)
    (a_pick : PySem.W.nsIn K mainGlobals "_law_pick" = some (some (.ref f_pick)))
    (l_pick : K.lookup f_pick = some ⟨oc_pick, od_pick, .func (PySem.W.fnOf "_law_pick" "_law_pick" (defArgs s__law_pick) (defBody s__law_pick) (defScope s__law_pick) .none kV_pick dc_pick pm_pick an_pick cd_pick ct_pick), sl_pick⟩)
    (c_pick : PySem.W.codeIn K cd_pick "_law_pick" = true)
    (k_pick : PySem.W.keepIn K (.ref f_pick) = true)
    (a_lnames : PySem.W.nsIn K mainGlobals "_law_names" = some (some (.ref f_lnames)))
    (l_lnames : K.lookup f_lnames = some ⟨oc_lnames, od_lnames, .func (PySem.W.fnOf "_law_names" "_law_names" (defArgs s__law_names) (defBody s__law_names) (defScope s__law_names) .none kV_lnames dc_lnames pm_lnames an_lnames cd_lnames ct_lnames), sl_lnames⟩)
    (c_lnames : PySem.W.codeIn K cd_lnames "_law_names" = true)
    (k_lnames : PySem.W.keepIn K (.ref f_lnames) = true)
    (a_table : PySem.W.nsIn K mainGlobals "_law_table" = some (some (.ref f_table)))
    (l_table : K.lookup f_table = some ⟨oc_table, od_table, .func (PySem.W.fnOf "_law_table" "_law_table" (defArgs s__law_table) (defBody s__law_table) (defScope s__law_table) .none kV_table dc_table pm_table an_table cd_table ct_table), sl_table⟩)
    (c_table : PySem.W.codeIn K cd_table "_law_table" = true)
    (k_table : PySem.W.keepIn K (.ref f_table) = true)
    (a_func : PySem.W.nsIn K mainGlobals "_law_function" = some (some (.ref f_func)))
    (l_func : K.lookup f_func = some ⟨oc_func, od_func, .func (PySem.W.fnOf "_law_function" "_law_function" (defArgs s__law_function) (defBody s__law_function) (defScope s__law_function) .none kV_func dc_func pm_func an_func cd_func ct_func), sl_func⟩)
    (c_func : PySem.W.codeIn K cd_func "_law_function" = true)
    (k_func : PySem.W.keepIn K (.ref f_func) = true)
    (a_same : PySem.W.nsIn K mainGlobals "_law_same" = some (some (.ref f_same)))
    (l_same : K.lookup f_same = some ⟨oc_same, od_same, .func (PySem.W.fnOf "_law_same" "_law_same" (defArgs s__law_same) (defBody s__law_same) (defScope s__law_same) .none kV_same dc_same pm_same an_same cd_same ct_same), sl_same⟩)
    (c_same : PySem.W.codeIn K cd_same "_law_same" = true)
    (k_same : PySem.W.keepIn K (.ref f_same) = true)
    (a_ways : PySem.W.nsIn K mainGlobals "_law_ways" = some (some (.ref f_ways)))
    (l_ways : K.lookup f_ways = some ⟨oc_ways, od_ways, .func (PySem.W.fnOf "_law_ways" "_law_ways" (defArgs s__law_ways) (defBody s__law_ways) (defScope s__law_ways) .none kV_ways dc_ways pm_ways an_ways cd_ways ct_ways), sl_ways⟩)
    (c_ways : PySem.W.codeIn K cd_ways "_law_ways" = true)
    (k_ways : PySem.W.keepIn K (.ref f_ways) = true)
    (a_need : PySem.W.nsIn K mainGlobals "_law_needed" = some (some (.ref f_need)))
    (l_need : K.lookup f_need = some ⟨oc_need, od_need, .func (PySem.W.fnOf "_law_needed" "_law_needed" (defArgs s__law_needed) (defBody s__law_needed) (defScope s__law_needed) .none kV_need dc_need pm_need an_need cd_need ct_need), sl_need⟩)
    (c_need : PySem.W.codeIn K cd_need "_law_needed" = true)
    (k_need : PySem.W.keepIn K (.ref f_need) = true)
    (a_law : PySem.W.nsIn K mainGlobals "law" = some (some (.ref f_law)))
    (l_law : K.lookup f_law = some ⟨oc_law, od_law, .func (PySem.W.fnOf "law" "law" (defArgs s_law) (defBody s_law) (defScope s_law) .none kV_law dc_law pm_law an_law cd_law ct_law), sl_law⟩)
    (c_law : PySem.W.codeIn K cd_law "law" = true)
    (k_law : PySem.W.keepIn K (.ref f_law) = true)
    (a_init : PySem.W.findIn K (.ref C) "__init__" = some (some (.ref f_init)))
    (l_init : K.lookup f_init = some ⟨oc_init, od_init, .func (PySem.W.fnOf "__init__" "Part.__init__" (defArgs s_Part_init) (defBody s_Part_init) (defScope s_Part_init) .none kV_init dc_init pm_init an_init cd_init ct_init), sl_init⟩)
    (c_init : PySem.W.codeIn K cd_init "Part.__init__" = true)
    (k_init : PySem.W.keepIn K (.ref f_init) = true)
    (n_init : PySem.W.isFn K (.ref f_init) = true)
    (a_held : PySem.W.findIn K (.ref C) "held" = some (some (.ref f_held)))
    (l_held : K.lookup f_held = some ⟨oc_held, od_held, .func (PySem.W.fnOf "held" "Part.held" (defArgs s_Part_held) (defBody s_Part_held) (defScope s_Part_held) .none kV_held dc_held pm_held an_held cd_held ct_held), sl_held⟩)
    (c_held : PySem.W.codeIn K cd_held "Part.held" = true)
    (k_held : PySem.W.keepIn K (.ref f_held) = true)
    (n_held : PySem.W.isFn K (.ref f_held) = true)
    (g_CALL_KINDS : PySem.W.nsIn K mainGlobals "CALL_KINDS" = some (some (.ref a_CALL_KINDS)))
    (l_CALL_KINDS : K.lookup a_CALL_KINDS = some ⟨.type "tuple", od_CALL_KINDS, .seq #[.str "cell" t_CALL_KINDS_0, .str "box" t_CALL_KINDS_1, .str "kept" t_CALL_KINDS_2, .str "effect" t_CALL_KINDS_3, .str "handler" t_CALL_KINDS_4, .str "put" t_CALL_KINDS_5, .str "map" t_CALL_KINDS_6, .str "if" t_CALL_KINDS_7, .str "show" t_CALL_KINDS_8] n_CALL_KINDS, sl_CALL_KINDS⟩)
    (g_FUNCTION_KINDS : PySem.W.nsIn K mainGlobals "FUNCTION_KINDS" = some (some (.ref a_FUNCTION_KINDS)))
    (l_FUNCTION_KINDS : K.lookup a_FUNCTION_KINDS = some ⟨.type "tuple", od_FUNCTION_KINDS, .seq #[.str "say" t_FUNCTION_KINDS_0, .str "set" t_FUNCTION_KINDS_1, .str "turn" t_FUNCTION_KINDS_2, .str "write" t_FUNCTION_KINDS_3, .str "fetch" t_FUNCTION_KINDS_4, .str "put" t_FUNCTION_KINDS_5, .str "map" t_FUNCTION_KINDS_6, .str "if" t_FUNCTION_KINDS_7, .str "later" t_FUNCTION_KINDS_8] n_FUNCTION_KINDS, sl_FUNCTION_KINDS⟩)
    (g_IFS : PySem.W.nsIn K mainGlobals "IFS" = some (some (.ref a_IFS)))
    (l_IFS : K.lookup a_IFS = some ⟨.type "tuple", od_IFS, .seq #[.str "if" t_IFS_0] n_IFS, sl_IFS⟩)
    (g_IFS_AND_LATER : PySem.W.nsIn K mainGlobals "IFS_AND_LATER" = some (some (.ref a_IFS_AND_LATER)))
    (l_IFS_AND_LATER : K.lookup a_IFS_AND_LATER = some ⟨.type "tuple", od_IFS_AND_LATER, .seq #[.str "if" t_IFS_AND_LATER_0, .str "later" t_IFS_AND_LATER_1] n_IFS_AND_LATER, sl_IFS_AND_LATER⟩)
    (g_ALL_ROWS : PySem.W.nsIn K mainGlobals "ALL_ROWS" = some (some (.ref a_ALL_ROWS)))
    (l_ALL_ROWS : K.lookup a_ALL_ROWS = some ⟨.type "tuple", od_ALL_ROWS, .seq #[.str "if" t_ALL_ROWS_0, .str "effect" t_ALL_ROWS_1, .str "handler" t_ALL_ROWS_2, .str "later" t_ALL_ROWS_3] n_ALL_ROWS, sl_ALL_ROWS⟩)
    (g_MOST_LIST : PySem.W.nsIn K mainGlobals "MOST_LIST" = some (some (.int 4 t_MOST_LIST)))
    (g_DEEPEST_CALL_IF : PySem.W.nsIn K mainGlobals "DEEPEST_CALL_IF" = some (some (.int 3 t_DEEPEST_CALL_IF)))
    (g_DEEPEST_FUNCTION_IF : PySem.W.nsIn K mainGlobals "DEEPEST_FUNCTION_IF" = some (some (.int 2 t_DEEPEST_FUNCTION_IF)))
    (g_MOST_CALL_ROWS : PySem.W.nsIn K mainGlobals "MOST_CALL_ROWS" = some (some (.int 16 t_MOST_CALL_ROWS)))
    (g_MOST_FUNCTION_ROWS : PySem.W.nsIn K mainGlobals "MOST_FUNCTION_ROWS" = some (some (.int 8 t_MOST_FUNCTION_ROWS)))
    (g_FORMS : PySem.W.nsIn K mainGlobals "FORMS" = some (some (.ref a_FORMS)))
    (l_FORMS : K.lookup a_FORMS = some ⟨.type "dict", none, .dict #[⟨hs_FORMS_0, .str "cell" kt_FORMS_0, .ref p_0⟩, ⟨hs_FORMS_1, .str "box" kt_FORMS_1, .ref p_1⟩, ⟨hs_FORMS_2, .str "kept" kt_FORMS_2, .ref p_2⟩, ⟨hs_FORMS_3, .str "effect" kt_FORMS_3, .ref p_3⟩, ⟨hs_FORMS_4, .str "handler" kt_FORMS_4, .ref p_4⟩, ⟨hs_FORMS_5, .str "put" kt_FORMS_5, .ref p_5⟩, ⟨hs_FORMS_6, .str "map" kt_FORMS_6, .ref p_6⟩, ⟨hs_FORMS_7, .str "if" kt_FORMS_7, .ref p_7⟩, ⟨hs_FORMS_8, .str "show" kt_FORMS_8, .ref p_8⟩, ⟨hs_FORMS_9, .str "say" kt_FORMS_9, .ref p_9⟩, ⟨hs_FORMS_10, .str "set" kt_FORMS_10, .ref p_10⟩, ⟨hs_FORMS_11, .str "turn" kt_FORMS_11, .ref p_11⟩, ⟨hs_FORMS_12, .str "write" kt_FORMS_12, .ref p_12⟩, ⟨hs_FORMS_13, .str "fetch" kt_FORMS_13, .ref p_13⟩, ⟨hs_FORMS_14, .str "later" kt_FORMS_14, .ref p_14⟩] n_FORMS, #[]⟩)
    (q_FORMS : PySem.W.KeysLit w.params [⟨hs_FORMS_0, .str "cell" kt_FORMS_0, .ref p_0⟩, ⟨hs_FORMS_1, .str "box" kt_FORMS_1, .ref p_1⟩, ⟨hs_FORMS_2, .str "kept" kt_FORMS_2, .ref p_2⟩, ⟨hs_FORMS_3, .str "effect" kt_FORMS_3, .ref p_3⟩, ⟨hs_FORMS_4, .str "handler" kt_FORMS_4, .ref p_4⟩, ⟨hs_FORMS_5, .str "put" kt_FORMS_5, .ref p_5⟩, ⟨hs_FORMS_6, .str "map" kt_FORMS_6, .ref p_6⟩, ⟨hs_FORMS_7, .str "if" kt_FORMS_7, .ref p_7⟩, ⟨hs_FORMS_8, .str "show" kt_FORMS_8, .ref p_8⟩, ⟨hs_FORMS_9, .str "say" kt_FORMS_9, .ref p_9⟩, ⟨hs_FORMS_10, .str "set" kt_FORMS_10, .ref p_10⟩, ⟨hs_FORMS_11, .str "turn" kt_FORMS_11, .ref p_11⟩, ⟨hs_FORMS_12, .str "write" kt_FORMS_12, .ref p_12⟩, ⟨hs_FORMS_13, .str "fetch" kt_FORMS_13, .ref p_13⟩, ⟨hs_FORMS_14, .str "later" kt_FORMS_14, .ref p_14⟩])
    (s_FORMS : (a_FORMS == sysModules) = false)
    (l_F0 : K.lookup p_0 = some ⟨.type "tuple", od_F0, .seq #[.str "slot" t_F0_0, .str "word" t_F0_1] n_F0, sl_F0⟩)
    (l_F1 : K.lookup p_1 = some ⟨.type "tuple", od_F1, .seq #[.str "box" t_F1_0, .str "word" t_F1_1] n_F1, sl_F1⟩)
    (l_F2 : K.lookup p_2 = some ⟨.type "tuple", od_F2, .seq #[.str "slot" t_F2_0, .str "from" t_F2_1, .str "table" t_F2_2, .str "list" t_F2_3] n_F2, sl_F2⟩)
    (l_F3 : K.lookup p_3 = some ⟨.type "tuple", od_F3, .seq #[.str "list or none" t_F3_0, .str "rows" t_F3_1, .str "rows" t_F3_2] n_F3, sl_F3⟩)
    (l_F4 : K.lookup p_4 = some ⟨.type "tuple", od_F4, .seq #[.str "event" t_F4_0, .str "list or none" t_F4_1, .str "rows" t_F4_2] n_F4, sl_F4⟩)
    (l_F5 : K.lookup p_5 = some ⟨.type "tuple", od_F5, .seq #[.str "slot" t_F5_0, .str "word" t_F5_1] n_F5, sl_F5⟩)
    (l_F6 : K.lookup p_6 = some ⟨.type "tuple", od_F6, .seq #[.str "slot" t_F6_0, .str "from" t_F6_1, .str "table" t_F6_2] n_F6, sl_F6⟩)
    (l_F7 : K.lookup p_7 = some ⟨.type "tuple", od_F7, .seq #[.str "slot" t_F7_0, .str "word" t_F7_1, .str "rows" t_F7_2, .str "rows" t_F7_3] n_F7, sl_F7⟩)
    (l_F8 : K.lookup p_8 = some ⟨.type "tuple", od_F8, .seq #[.str "slot" t_F8_0] n_F8, sl_F8⟩)
    (l_F9 : K.lookup p_9 = some ⟨.type "tuple", od_F9, .seq #[.str "slot" t_F9_0] n_F9, sl_F9⟩)
    (l_F10 : K.lookup p_10 = some ⟨.type "tuple", od_F10, .seq #[.str "cell" t_F10_0, .str "slot" t_F10_1] n_F10, sl_F10⟩)
    (l_F11 : K.lookup p_11 = some ⟨.type "tuple", od_F11, .seq #[.str "cell" t_F11_0, .str "table" t_F11_1] n_F11, sl_F11⟩)
    (l_F12 : K.lookup p_12 = some ⟨.type "tuple", od_F12, .seq #[.str "box" t_F12_0, .str "slot" t_F12_1] n_F12, sl_F12⟩)
    (l_F13 : K.lookup p_13 = some ⟨.type "tuple", od_F13, .seq #[.str "box" t_F13_0, .str "slot" t_F13_1] n_F13, sl_F13⟩)
    (l_F14 : K.lookup p_14 = some ⟨.type "tuple", od_F14, .seq #[.str "rows" t_F14_0] n_F14, sl_F14⟩)
    (g_FIRST_ROWS : PySem.W.nsIn K mainGlobals "FIRST_ROWS" = some (some (.ref a_FIRST_ROWS)))
    (l_FIRST_ROWS : K.lookup a_FIRST_ROWS = some ⟨.type "dict", none, .dict #[⟨hs_FIRST_ROWS_0, .str "if" kt_FIRST_ROWS_0, .int 3 vt_FIRST_ROWS_0⟩, ⟨hs_FIRST_ROWS_1, .str "effect" kt_FIRST_ROWS_1, .int 2 vt_FIRST_ROWS_1⟩, ⟨hs_FIRST_ROWS_2, .str "handler" kt_FIRST_ROWS_2, .int 3 vt_FIRST_ROWS_2⟩, ⟨hs_FIRST_ROWS_3, .str "later" kt_FIRST_ROWS_3, .int 1 vt_FIRST_ROWS_3⟩] n_FIRST_ROWS, #[]⟩)
    (q_FIRST_ROWS : PySem.W.KeysLit w.params [⟨hs_FIRST_ROWS_0, .str "if" kt_FIRST_ROWS_0, .int 3 vt_FIRST_ROWS_0⟩, ⟨hs_FIRST_ROWS_1, .str "effect" kt_FIRST_ROWS_1, .int 2 vt_FIRST_ROWS_1⟩, ⟨hs_FIRST_ROWS_2, .str "handler" kt_FIRST_ROWS_2, .int 3 vt_FIRST_ROWS_2⟩, ⟨hs_FIRST_ROWS_3, .str "later" kt_FIRST_ROWS_3, .int 1 vt_FIRST_ROWS_3⟩])
    (s_FIRST_ROWS : (a_FIRST_ROWS == sysModules) = false)
    (g_READS : PySem.W.nsIn K mainGlobals "READS" = some (some (.ref a_READS)))
    (l_READS : K.lookup a_READS = some ⟨.type "dict", none, .dict #[⟨hs_READS_0, .str "say" kt_READS_0, .int 1 vt_READS_0⟩, ⟨hs_READS_1, .str "set" kt_READS_1, .int 2 vt_READS_1⟩, ⟨hs_READS_2, .str "write" kt_READS_2, .int 2 vt_READS_2⟩, ⟨hs_READS_3, .str "map" kt_READS_3, .int 2 vt_READS_3⟩, ⟨hs_READS_4, .str "if" kt_READS_4, .int 1 vt_READS_4⟩] n_READS, #[]⟩)
    (q_READS : PySem.W.KeysLit w.params [⟨hs_READS_0, .str "say" kt_READS_0, .int 1 vt_READS_0⟩, ⟨hs_READS_1, .str "set" kt_READS_1, .int 2 vt_READS_1⟩, ⟨hs_READS_2, .str "write" kt_READS_2, .int 2 vt_READS_2⟩, ⟨hs_READS_3, .str "map" kt_READS_3, .int 2 vt_READS_3⟩, ⟨hs_READS_4, .str "if" kt_READS_4, .int 1 vt_READS_4⟩])
    (s_READS : (a_READS == sysModules) = false)
    (g_CHANGES : PySem.W.nsIn K mainGlobals "CHANGES" = some (some (.ref a_CHANGES)))
    (l_CHANGES : K.lookup a_CHANGES = some ⟨.type "dict", none, .dict #[⟨hs_CHANGES_0, .str "put" kt_CHANGES_0, .int 1 vt_CHANGES_0⟩, ⟨hs_CHANGES_1, .str "map" kt_CHANGES_1, .int 1 vt_CHANGES_1⟩, ⟨hs_CHANGES_2, .str "fetch" kt_CHANGES_2, .int 2 vt_CHANGES_2⟩] n_CHANGES, #[]⟩)
    (q_CHANGES : PySem.W.KeysLit w.params [⟨hs_CHANGES_0, .str "put" kt_CHANGES_0, .int 1 vt_CHANGES_0⟩, ⟨hs_CHANGES_1, .str "map" kt_CHANGES_1, .int 1 vt_CHANGES_1⟩, ⟨hs_CHANGES_2, .str "fetch" kt_CHANGES_2, .int 2 vt_CHANGES_2⟩])
    (s_CHANGES : (a_CHANGES == sysModules) = false)
    (r_pg : PySem.W.plainGet K C Str.empty = true)
    (r_hd : PySem.W.hasDictIn K C = true)
    (r_po : PySem.W.plainOver K C = true)
    (r_sa : PySem.W.findIn K (.ref C) "__setattr__" = some (some (.builtin "object.__setattr__")))
    (r_mk : PySem.W.makesIn K C = true)
    (r_kp : PySem.W.keepIn K (.ref C) = true)
    (no_words : PySem.W.findIn K (.ref C) "words" = some none)
    (no_inputs : PySem.W.findIn K (.ref C) "inputs" = some none)
    (no_events : PySem.W.findIn K (.ref C) "events" = some none)
    (no_rows : PySem.W.findIn K (.ref C) "rows" = some none)
    (no_placed_rows : PySem.W.findIn K (.ref C) "placed_rows" = some none)
    (no_row_table : PySem.W.findIn K (.ref C) "row_table" = some none)
    (no_held_table : PySem.W.findIn K (.ref C) "held_table" = some none)
    (no_link_table : PySem.W.findIn K (.ref C) "link_table" = some none)
    (no_slot_names : PySem.W.findIn K (.ref C) "slot_names" = some none)
    (z_isinstance : PySem.W.nsIn K mainGlobals "isinstance" = some none)
    (z_int : PySem.W.nsIn K mainGlobals "int" = some none)
    (z_bool : PySem.W.nsIn K mainGlobals "bool" = some none)
    (z_str : PySem.W.nsIn K mainGlobals "str" = some none)
    (z_tuple : PySem.W.nsIn K mainGlobals "tuple" = some none)
    (z_len : PySem.W.nsIn K mainGlobals "len" = some none)
    (z_all : PySem.W.nsIn K mainGlobals "all" = some none)
    (z_set : PySem.W.nsIn K mainGlobals "set" = some none)
    (z_zip : PySem.W.nsIn K mainGlobals "zip" = some none)
    (z_sorted : PySem.W.nsIn K mainGlobals "sorted" = some none)
    (z_enumerate : PySem.W.nsIn K mainGlobals "enumerate" = some none)
    (z_list : PySem.W.nsIn K mainGlobals "list" = some none)
    (z_abs : PySem.W.nsIn K mainGlobals "abs" = some none)
    (z_range : PySem.W.nsIn K mainGlobals "range" = some none)
    : ∃ fd : FuncData, (∀ (s : Shared) (v : Value), BindsTo s fd ⟨[v], []⟩ [("_law_script", v)]) ∧ ∀ base : Heap, K.In base → base.Ns mainGlobals mg → FnOk l.prog w K mg base CX0 22 fa fd ["_law_script"] (spLaw K) := by
  have e := hfa.symm.trans (PySem.W.mg_of X G a_law)
  cases e
  have g := fun {x : Str} {a : Addr} (h : PySem.W.nsIn K mainGlobals x = some (some (.ref a))) => PySem.W.mg_of X G h
  have gi := fun {x : Str} {v : Value} (h : PySem.W.nsIn K mainGlobals x = some (some v)) => PySem.W.mg_of X G h
  have z := fun {x : Str} (h : PySem.W.nsIn K mainGlobals x = some none) => PySem.W.mg_none_of X G h
  have B : Blt mg := ⟨z z_isinstance, z z_int, z z_bool, z z_str, z z_tuple, z z_len, z z_all, z z_set, z z_zip, z z_sorted, z z_enumerate, z z_list⟩
  have sCALL_KINDS : ∀ H, SqT K H a_CALL_KINDS (callKinds.map V.str) := fun _ => .inr ⟨_, _, _, l_CALL_KINDS, rfl, rfl, (show 9 ≤ sizeLine by decide), .cons ⟨_, rfl⟩ (.cons ⟨_, rfl⟩ (.cons ⟨_, rfl⟩ (.cons ⟨_, rfl⟩ (.cons ⟨_, rfl⟩ (.cons ⟨_, rfl⟩ (.cons ⟨_, rfl⟩ (.cons ⟨_, rfl⟩ (.cons ⟨_, rfl⟩ (.nil)))))))))⟩
  have sFUNCTION_KINDS : ∀ H, SqT K H a_FUNCTION_KINDS (funKinds.map V.str) := fun _ => .inr ⟨_, _, _, l_FUNCTION_KINDS, rfl, rfl, (show 9 ≤ sizeLine by decide), .cons ⟨_, rfl⟩ (.cons ⟨_, rfl⟩ (.cons ⟨_, rfl⟩ (.cons ⟨_, rfl⟩ (.cons ⟨_, rfl⟩ (.cons ⟨_, rfl⟩ (.cons ⟨_, rfl⟩ (.cons ⟨_, rfl⟩ (.cons ⟨_, rfl⟩ (.nil)))))))))⟩
  have sIFS : ∀ H, SqT K H a_IFS (ifsOnly.map V.str) := fun _ => .inr ⟨_, _, _, l_IFS, rfl, rfl, (show 1 ≤ sizeLine by decide), .cons ⟨_, rfl⟩ (.nil)⟩
  have sIFS_AND_LATER : ∀ H, SqT K H a_IFS_AND_LATER (ifsLater.map V.str) := fun _ => .inr ⟨_, _, _, l_IFS_AND_LATER, rfl, rfl, (show 2 ≤ sizeLine by decide), .cons ⟨_, rfl⟩ (.cons ⟨_, rfl⟩ (.nil))⟩
  have sALL_ROWS : ∀ H, SqT K H a_ALL_ROWS (allThr.map V.str) := fun _ => .inr ⟨_, _, _, l_ALL_ROWS, rfl, rfl, (show 4 ≤ sizeLine by decide), .cons ⟨_, rfl⟩ (.cons ⟨_, rfl⟩ (.cons ⟨_, rfl⟩ (.cons ⟨_, rfl⟩ (.nil))))⟩
  have EF : Ents (isWordsV K) (#[⟨hs_FORMS_0, .str "cell" kt_FORMS_0, .ref p_0⟩, ⟨hs_FORMS_1, .str "box" kt_FORMS_1, .ref p_1⟩, ⟨hs_FORMS_2, .str "kept" kt_FORMS_2, .ref p_2⟩, ⟨hs_FORMS_3, .str "effect" kt_FORMS_3, .ref p_3⟩, ⟨hs_FORMS_4, .str "handler" kt_FORMS_4, .ref p_4⟩, ⟨hs_FORMS_5, .str "put" kt_FORMS_5, .ref p_5⟩, ⟨hs_FORMS_6, .str "map" kt_FORMS_6, .ref p_6⟩, ⟨hs_FORMS_7, .str "if" kt_FORMS_7, .ref p_7⟩, ⟨hs_FORMS_8, .str "show" kt_FORMS_8, .ref p_8⟩, ⟨hs_FORMS_9, .str "say" kt_FORMS_9, .ref p_9⟩, ⟨hs_FORMS_10, .str "set" kt_FORMS_10, .ref p_10⟩, ⟨hs_FORMS_11, .str "turn" kt_FORMS_11, .ref p_11⟩, ⟨hs_FORMS_12, .str "write" kt_FORMS_12, .ref p_12⟩, ⟨hs_FORMS_13, .str "fetch" kt_FORMS_13, .ref p_13⟩, ⟨hs_FORMS_14, .str "later" kt_FORMS_14, .ref p_14⟩] : Array DictEntry).toList formTable := .cons rfl ⟨_, rfl, fun _ => .inr ⟨_, _, _, l_F0, rfl, rfl, (show 2 ≤ sizeLine by decide), .cons ⟨_, rfl⟩ (.cons ⟨_, rfl⟩ (.nil))⟩⟩ (.cons rfl ⟨_, rfl, fun _ => .inr ⟨_, _, _, l_F1, rfl, rfl, (show 2 ≤ sizeLine by decide), .cons ⟨_, rfl⟩ (.cons ⟨_, rfl⟩ (.nil))⟩⟩ (.cons rfl ⟨_, rfl, fun _ => .inr ⟨_, _, _, l_F2, rfl, rfl, (show 4 ≤ sizeLine by decide), .cons ⟨_, rfl⟩ (.cons ⟨_, rfl⟩ (.cons ⟨_, rfl⟩ (.cons ⟨_, rfl⟩ (.nil))))⟩⟩ (.cons rfl ⟨_, rfl, fun _ => .inr ⟨_, _, _, l_F3, rfl, rfl, (show 3 ≤ sizeLine by decide), .cons ⟨_, rfl⟩ (.cons ⟨_, rfl⟩ (.cons ⟨_, rfl⟩ (.nil)))⟩⟩ (.cons rfl ⟨_, rfl, fun _ => .inr ⟨_, _, _, l_F4, rfl, rfl, (show 3 ≤ sizeLine by decide), .cons ⟨_, rfl⟩ (.cons ⟨_, rfl⟩ (.cons ⟨_, rfl⟩ (.nil)))⟩⟩ (.cons rfl ⟨_, rfl, fun _ => .inr ⟨_, _, _, l_F5, rfl, rfl, (show 2 ≤ sizeLine by decide), .cons ⟨_, rfl⟩ (.cons ⟨_, rfl⟩ (.nil))⟩⟩ (.cons rfl ⟨_, rfl, fun _ => .inr ⟨_, _, _, l_F6, rfl, rfl, (show 3 ≤ sizeLine by decide), .cons ⟨_, rfl⟩ (.cons ⟨_, rfl⟩ (.cons ⟨_, rfl⟩ (.nil)))⟩⟩ (.cons rfl ⟨_, rfl, fun _ => .inr ⟨_, _, _, l_F7, rfl, rfl, (show 4 ≤ sizeLine by decide), .cons ⟨_, rfl⟩ (.cons ⟨_, rfl⟩ (.cons ⟨_, rfl⟩ (.cons ⟨_, rfl⟩ (.nil))))⟩⟩ (.cons rfl ⟨_, rfl, fun _ => .inr ⟨_, _, _, l_F8, rfl, rfl, (show 1 ≤ sizeLine by decide), .cons ⟨_, rfl⟩ (.nil)⟩⟩ (.cons rfl ⟨_, rfl, fun _ => .inr ⟨_, _, _, l_F9, rfl, rfl, (show 1 ≤ sizeLine by decide), .cons ⟨_, rfl⟩ (.nil)⟩⟩ (.cons rfl ⟨_, rfl, fun _ => .inr ⟨_, _, _, l_F10, rfl, rfl, (show 2 ≤ sizeLine by decide), .cons ⟨_, rfl⟩ (.cons ⟨_, rfl⟩ (.nil))⟩⟩ (.cons rfl ⟨_, rfl, fun _ => .inr ⟨_, _, _, l_F11, rfl, rfl, (show 2 ≤ sizeLine by decide), .cons ⟨_, rfl⟩ (.cons ⟨_, rfl⟩ (.nil))⟩⟩ (.cons rfl ⟨_, rfl, fun _ => .inr ⟨_, _, _, l_F12, rfl, rfl, (show 2 ≤ sizeLine by decide), .cons ⟨_, rfl⟩ (.cons ⟨_, rfl⟩ (.nil))⟩⟩ (.cons rfl ⟨_, rfl, fun _ => .inr ⟨_, _, _, l_F13, rfl, rfl, (show 2 ≤ sizeLine by decide), .cons ⟨_, rfl⟩ (.cons ⟨_, rfl⟩ (.nil))⟩⟩ (.cons rfl ⟨_, rfl, fun _ => .inr ⟨_, _, _, l_F14, rfl, rfl, (show 1 ≤ sizeLine by decide), .cons ⟨_, rfl⟩ (.nil)⟩⟩ (.nil)))))))))))))))
  have EFIRST_ROWS : Ents isIntV (#[⟨hs_FIRST_ROWS_0, .str "if" kt_FIRST_ROWS_0, .int 3 vt_FIRST_ROWS_0⟩, ⟨hs_FIRST_ROWS_1, .str "effect" kt_FIRST_ROWS_1, .int 2 vt_FIRST_ROWS_1⟩, ⟨hs_FIRST_ROWS_2, .str "handler" kt_FIRST_ROWS_2, .int 3 vt_FIRST_ROWS_2⟩, ⟨hs_FIRST_ROWS_3, .str "later" kt_FIRST_ROWS_3, .int 1 vt_FIRST_ROWS_3⟩] : Array DictEntry).toList firstTable := .cons rfl ⟨_, rfl⟩ (.cons rfl ⟨_, rfl⟩ (.cons rfl ⟨_, rfl⟩ (.cons rfl ⟨_, rfl⟩ (.nil))))
  have EREADS : Ents isIntV (#[⟨hs_READS_0, .str "say" kt_READS_0, .int 1 vt_READS_0⟩, ⟨hs_READS_1, .str "set" kt_READS_1, .int 2 vt_READS_1⟩, ⟨hs_READS_2, .str "write" kt_READS_2, .int 2 vt_READS_2⟩, ⟨hs_READS_3, .str "map" kt_READS_3, .int 2 vt_READS_3⟩, ⟨hs_READS_4, .str "if" kt_READS_4, .int 1 vt_READS_4⟩] : Array DictEntry).toList readTable := .cons rfl ⟨_, rfl⟩ (.cons rfl ⟨_, rfl⟩ (.cons rfl ⟨_, rfl⟩ (.cons rfl ⟨_, rfl⟩ (.cons rfl ⟨_, rfl⟩ (.nil)))))
  have ECHANGES : Ents isIntV (#[⟨hs_CHANGES_0, .str "put" kt_CHANGES_0, .int 1 vt_CHANGES_0⟩, ⟨hs_CHANGES_1, .str "map" kt_CHANGES_1, .int 1 vt_CHANGES_1⟩, ⟨hs_CHANGES_2, .str "fetch" kt_CHANGES_2, .int 2 vt_CHANGES_2⟩] : Array DictEntry).toList changeTable := .cons rfl ⟨_, rfl⟩ (.cons rfl ⟨_, rfl⟩ (.cons rfl ⟨_, rfl⟩ (.nil)))
  have TN : TxtN K mg f_name f_int := ⟨g a_name, k_name, g a_int, k_int⟩
  have TF : TxtF K mg f_wrds f_names f_name a_CALL_KINDS a_FUNCTION_KINDS := ⟨g a_wrds, k_wrds, g a_names, k_names, g a_name, k_name, ⟨_, gi g_MOST_LIST⟩, ⟨_, gi g_DEEPEST_CALL_IF⟩, ⟨_, gi g_DEEPEST_FUNCTION_IF⟩, g g_CALL_KINDS, g g_FUNCTION_KINDS, sCALL_KINDS, sFUNCTION_KINDS⟩
  have TR : TxtR K w mg a_FORMS a_FIRST_ROWS _ _ _ _ := ⟨g g_FORMS, g g_FIRST_ROWS, ⟨l_FORMS, q_FORMS, s_FORMS⟩, ⟨l_FIRST_ROWS, q_FIRST_ROWS, s_FIRST_ROWS⟩, fun y hy => EF.noK l_FORMS hy,
    fun y l hy => by
      obtain ⟨v, h1, p, rfl, h2⟩ := EF.yesK l_FORMS hy
      exact ⟨p, h1, h2⟩,
    fun y hy => EFIRST_ROWS.noK l_FIRST_ROWS (by rw [first_tab]; exact hy),
    fun y n hy => by
      obtain ⟨v, h1, tk, rfl⟩ := EFIRST_ROWS.yesK l_FIRST_ROWS (z := y) (a := n) (by rw [first_tab]; exact hy)
      exact ⟨tk, h1⟩⟩
  have TH : TxtH K w mg f_user f_use f_either a_READS a_CHANGES _ _ _ _ := ⟨g a_user, k_user, g a_use, k_use, g a_either, k_either, g g_READS, g g_CHANGES, ⟨l_READS, q_READS, s_READS⟩, ⟨l_CHANGES, q_CHANGES, s_CHANGES⟩, fun y hy => EREADS.noK l_READS hy,
    fun y n hy => by
      obtain ⟨v, h1, tk, rfl⟩ := EREADS.yesK l_READS hy
      exact ⟨tk, h1⟩,
    fun y hy => ECHANGES.noK l_CHANGES hy,
    fun y n hy => by
      obtain ⟨v, h1, tk, rfl⟩ := ECHANGES.yesK l_CHANGES hy
      exact ⟨tk, h1⟩⟩
  have TW : TxtW K mg f_inner f_rows := ⟨g a_inner, k_inner, g a_rows, k_rows⟩
  have TU : TxtU K mg f_inner f_funs := ⟨g a_inner, k_inner, g a_funs, k_funs⟩
  have TT : TxtT K mg f_inner f_tups := ⟨g a_inner, k_inner, g a_tups, k_tups⟩
  have THe : TxtHe K mg f_rows f_slots f_use a_IFS_AND_LATER := ⟨g a_rows, k_rows, g a_slots, k_slots, g a_use, k_use, g g_IFS_AND_LATER, sIFS_AND_LATER⟩
  have TL : TxtL K mg f_rows a_IFS_AND_LATER := ⟨g a_rows, k_rows, g g_IFS_AND_LATER, sIFS_AND_LATER⟩
  have TK : TxtK K mg f_names f_rowf f_stand f_inner f_zone f_dep f_crows := ⟨g a_names, k_names, g a_rowf, k_rowf, g a_stand, k_stand, g a_inner, k_inner, g a_zone, k_zone, g a_dep, k_dep, g a_crows, k_crows⟩
  have TC : TxtC K mg f_rows f_funs a_IFS a_IFS_AND_LATER := ⟨g a_rows, k_rows, g a_funs, k_funs, g g_IFS, g g_IFS_AND_LATER, sIFS, sIFS_AND_LATER, ⟨_, gi g_MOST_CALL_ROWS⟩, ⟨_, gi g_MOST_FUNCTION_ROWS⟩⟩
  have TUs : TxtUs K mg f_rows f_makers f_twice f_covers f_lacks a_IFS a_ALL_ROWS := ⟨g a_rows, k_rows, g a_makers, k_makers, g a_twice, k_twice, g a_covers, k_covers, g a_lacks, k_lacks, g g_IFS, g g_ALL_ROWS, sIFS, sALL_ROWS⟩
  have TP : TxtP K mg f_cnames f_crows f_cuses f_ccounts := ⟨g a_cnames, k_cnames, g a_crows, k_crows, g a_cuses, k_cuses, g a_ccounts, k_ccounts⟩
  have TO : TxtO K mg f_slots := ⟨g a_slots, k_slots⟩
  have cl : Cls K C := ⟨r_pg, r_hd, r_po, r_sa⟩
  have TPI : TxtPI K mg C f_cpart f_funs f_tups f_rows f_heldS f_links f_other a_ALL_ROWS := ⟨cl, no_words, no_inputs, no_events, no_rows, no_placed_rows, no_row_table, no_held_table, no_link_table, no_slot_names, g a_cpart, k_cpart, g a_funs, k_funs, g a_tups, k_tups, g a_rows, k_rows, g a_heldS, k_heldS, g a_links, k_links, g a_other, k_other, g g_ALL_ROWS, sALL_ROWS⟩
  have TM : TxtM K mg C f_path := ⟨cl, no_held_table, g a_path, k_path⟩
  have TD : TxtD K mg f_mixed := ⟨z z_int, z z_len, z z_abs, g a_mixed, k_mixed⟩
  have TPk : TxtPk K mg f_take f_pick := ⟨z z_len, z z_range, z z_tuple, g a_take, k_take, g a_pick, k_pick⟩
  have TFu : TxtFu K mg f_take f_pick f_table f_func := ⟨z z_range, g a_take, k_take, g a_pick, k_pick, g a_table, k_table, g a_func, k_func⟩
  have TWy : TxtWy K mg f_ways := ⟨g a_ways, k_ways⟩
  have TNd : TxtNd K mg f_ways f_need := ⟨g a_ways, k_ways, g a_need, k_need, z z_sorted, z z_set⟩
  have TSm : TxtSm K mg f_same := ⟨z z_range, g a_same, k_same⟩
  have TLw : TxtLw K mg C f_start f_lnames f_take f_func f_init f_same f_need f_held := ⟨z z_tuple, z z_range, z z_len, g a_start, k_start, g a_lnames, k_lnames, g a_take, k_take, g a_func, k_func, g a_same, k_same, g a_need, k_need, g g_C, cl, ⟨r_mk, a_init, n_init, r_kp⟩, ⟨a_held, n_held, k_held⟩⟩
  have F_int := fun_mk (st := s_is_integer) l_int c_int k_int
  have F_name := fun_mk (st := s_is_name) l_name c_name k_name
  have F_names := fun_mk (st := s_are_names) l_names c_names k_names
  have F_wrds := fun_mk (st := s_are_words) l_wrds c_wrds k_wrds
  have F_path := fun_mk (st := s_is_path) l_path c_path k_path
  have F_item := fun_mk (st := s_item_fits) l_item c_item k_item
  have F_stand := fun_mk (st := s_may_stand) l_stand c_stand k_stand
  have F_zone := fun_mk (st := s_zone_inside) l_zone c_zone k_zone
  have F_dep := fun_mk (st := s_depth_inside) l_dep c_dep k_dep
  have F_inner := fun_mk (st := s_inner_rows) l_inner c_inner k_inner
  have F_rowf := fun_mk (st := s_row_fits) l_rowf c_rowf k_rowf
  have F_slots := fun_mk (st := s_slots_in) l_slots c_slots k_slots
  have F_rows := fun_mk (st := s_rows_within) l_rows c_rows k_rows
  have F_funs := fun_mk (st := s_functions_within) l_funs c_funs k_funs
  have F_tups := fun_mk (st := s_tuples_within) l_tups c_tups k_tups
  have F_either := fun_mk (st := s_use_of_either) l_either c_either k_either
  have F_use := fun_mk (st := s_first_use) l_use c_use k_use
  have F_user := fun_mk (st := s_first_use_in_row) l_user c_user k_user
  have F_heldS := fun_mk (st := s_held_slots) l_heldS c_heldS k_heldS
  have F_links := fun_mk (st := s_links_of) l_links c_links k_links
  have F_covers := fun_mk (st := s_covers_input) l_covers c_covers k_covers
  have F_lacks := fun_mk (st := s_lacks_maker) l_lacks c_lacks k_lacks
  have F_makers := fun_mk (st := s_first_makers) l_makers c_makers k_makers
  have F_twice := fun_mk (st := s_is_made_twice) l_twice c_twice k_twice
  have F_cnames := fun_mk (st := s_check_names) l_cnames c_cnames k_cnames
  have F_crows := fun_mk (st := s_check_rows) l_crows c_crows k_crows
  have F_ccounts := fun_mk (st := s_check_counts) l_ccounts c_ccounts k_ccounts
  have F_cuses := fun_mk (st := s_check_uses) l_cuses c_cuses k_cuses
  have F_cpart := fun_mk (st := s_check_part) l_cpart c_cpart k_cpart
  have F_other := fun_mk (st := s_other_slots) l_other c_other k_other
  have F_start := fun_mk (st := s__law_start) l_start c_start k_start
  have F_mixed := fun_mk (st := s__law_mixed) l_mixed c_mixed k_mixed
  have F_take := fun_mk (st := s__law_take) l_take c_take k_take
  have F_pick := fun_mk (st := s__law_pick) l_pick c_pick k_pick
  have F_lnames := fun_mk (st := s__law_names) l_lnames c_lnames k_lnames
  have F_table := fun_mk (st := s__law_table) l_table c_table k_table
  have F_func := fun_mk (st := s__law_function) l_func c_func k_func
  have F_same := fun_mk (st := s__law_same) l_same c_same k_same
  have F_ways := fun_mk (st := s__law_ways) l_ways c_ways k_ways
  have F_need := fun_mk (st := s__law_needed) l_need c_need k_need
  have F_law := fun_mk (st := s_law) l_law c_law k_law
  have F_init := fun_mk (st := s_Part_init) l_init c_init k_init
  have F_held := fun_mk (st := s_Part_held) l_held c_held k_held
  have b_int := F_int.binds (ps := ["value"]) fun _ _ _ _ _ _ us hl => match us, hl with | [_], _ => rfl
  have b_name := F_name.binds (ps := ["value"]) fun _ _ _ _ _ _ us hl => match us, hl with | [_], _ => rfl
  have b_names := F_names.binds (ps := ["value", "fewest", "most"]) fun _ _ _ _ _ _ us hl => match us, hl with | [_, _, _], _ => rfl
  have b_wrds := F_wrds.binds (ps := ["value", "words", "fewest", "most"]) fun _ _ _ _ _ _ us hl => match us, hl with | [_, _, _, _], _ => rfl
  have b_path := F_path.binds (ps := ["value"]) fun _ _ _ _ _ _ us hl => match us, hl with | [_], _ => rfl
  have b_item := F_item.binds (ps := ["role", "item", "words", "events"]) fun _ _ _ _ _ _ us hl => match us, hl with | [_, _, _, _], _ => rfl
  have b_stand := F_stand.binds (ps := ["kind", "zone", "depth"]) fun _ _ _ _ _ _ us hl => match us, hl with | [_, _, _], _ => rfl
  have b_zone := F_zone.binds (ps := ["kind", "number", "zone"]) fun _ _ _ _ _ _ us hl => match us, hl with | [_, _, _], _ => rfl
  have b_dep := F_dep.binds (ps := ["kind", "depth"]) fun _ _ _ _ _ _ us hl => match us, hl with | [_, _], _ => rfl
  have b_inner := F_inner.binds (ps := ["row"]) fun _ _ _ _ _ _ us hl => match us, hl with | [_], _ => rfl
  have b_rowf := F_rowf.binds (ps := ["row", "words", "events"]) fun _ _ _ _ _ _ us hl => match us, hl with | [_, _, _], _ => rfl
  have b_slots := F_slots.binds (ps := ["row"]) fun _ _ _ _ _ _ us hl => match us, hl with | [_], _ => rfl
  have b_rows := F_rows.binds (ps := ["rows", "path", "through"]) fun _ _ _ _ _ _ us hl => match us, hl with | [_, _, _], _ => rfl
  have b_funs := F_funs.binds (ps := ["rows", "path"]) fun _ _ _ _ _ _ us hl => match us, hl with | [_, _], _ => rfl
  have b_tups := F_tups.binds (ps := ["rows", "path"]) fun _ _ _ _ _ _ us hl => match us, hl with | [_, _], _ => rfl
  have b_either := F_either.binds (ps := ["first", "second"]) fun _ _ _ _ _ _ us hl => match us, hl with | [_, _], _ => rfl
  have b_use := F_use.binds (ps := ["rows", "slot"]) fun _ _ _ _ _ _ us hl => match us, hl with | [_, _], _ => rfl
  have b_user := F_user.binds (ps := ["row", "slot"]) fun _ _ _ _ _ _ us hl => match us, hl with | [_, _], _ => rfl
  have b_heldS := F_heldS.binds (ps := ["rows"]) fun _ _ _ _ _ _ us hl => match us, hl with | [_], _ => rfl
  have b_links := F_links.binds (ps := ["rows"]) fun _ _ _ _ _ _ us hl => match us, hl with | [_], _ => rfl
  have b_covers := F_covers.binds (ps := ["row", "inputs"]) fun _ _ _ _ _ _ us hl => match us, hl with | [_, _], _ => rfl
  have b_lacks := F_lacks.binds (ps := ["row", "makers"]) fun _ _ _ _ _ _ us hl => match us, hl with | [_, _], _ => rfl
  have b_makers := F_makers.binds (ps := ["of_call"]) fun _ _ _ _ _ _ us hl => match us, hl with | [_], _ => rfl
  have b_twice := F_twice.binds (ps := ["path", "row", "makers"]) fun _ _ _ _ _ _ us hl => match us, hl with | [_, _, _], _ => rfl
  have b_cnames := F_cnames.binds (ps := ["words", "inputs", "events"]) fun _ _ _ _ _ _ us hl => match us, hl with | [_, _, _], _ => rfl
  have b_crows := F_crows.binds (ps := ["rows", "path", "zone", "depth", "words", "events"]) fun _ _ _ _ _ _ us hl => match us, hl with | [_, _, _, _, _, _], _ => rfl
  have b_ccounts := F_ccounts.binds (ps := ["rows"]) fun _ _ _ _ _ _ us hl => match us, hl with | [_], _ => rfl
  have b_cuses := F_cuses.binds (ps := ["rows", "inputs"]) fun _ _ _ _ _ _ us hl => match us, hl with | [_, _], _ => rfl
  have b_cpart := F_cpart.binds (ps := ["words", "inputs", "events", "rows"]) fun _ _ _ _ _ _ us hl => match us, hl with | [_, _, _, _], _ => rfl
  have b_other := F_other.binds (ps := ["inputs", "row_table"]) fun _ _ _ _ _ _ us hl => match us, hl with | [_, _], _ => rfl
  have b_start := F_start.binds (ps := ["_law_script"]) fun _ _ _ _ _ _ us hl => match us, hl with | [_], _ => rfl
  have b_mixed := F_mixed.binds (ps := ["_law_cell", "_law_count", "_law_size"]) fun _ _ _ _ _ _ us hl => match us, hl with | [_, _, _], _ => rfl
  have b_take := F_take.binds (ps := ["_law_state", "_law_size"]) fun _ _ _ _ _ _ us hl => match us, hl with | [_, _], _ => rfl
  have b_pick := F_pick.binds (ps := ["_law_state", "_law_names_here"]) fun _ _ _ _ _ _ us hl => match us, hl with | [_, _], _ => rfl
  have b_lnames := F_lnames.binds (ps := ["_law_state", "_law_many"]) fun _ _ _ _ _ _ us hl => match us, hl with | [_, _], _ => rfl
  have b_table := F_table.binds (ps := ["_law_state", "_law_words"]) fun _ _ _ _ _ _ us hl => match us, hl with | [_, _], _ => rfl
  have b_func := F_func.binds (ps := ["_law_state", "_law_menu", "_law_many", "_law_room", "_law_scope", "_law_depth"]) fun _ _ _ _ _ _ us hl => match us, hl with | [_, _, _, _, _, _], _ => rfl
  have b_same := F_same.binds (ps := ["_law_told", "_law_due"]) fun _ _ _ _ _ _ us hl => match us, hl with | [_, _], _ => rfl
  have b_ways := F_ways.binds (ps := ["_law_rows"]) fun _ _ _ _ _ _ us hl => match us, hl with | [_], _ => rfl
  have b_need := F_need.binds (ps := ["_law_rows"]) fun _ _ _ _ _ _ us hl => match us, hl with | [_], _ => rfl
  have b_law := F_law.binds (ps := ["_law_script"]) fun _ _ _ _ _ _ us hl => match us, hl with | [_], _ => rfl
  have b_init := F_init.binds (ps := ["self", "words", "inputs", "events", "rows"]) fun _ _ _ _ _ _ us hl => match us, hl with | [_, _, _, _, _], _ => rfl
  have b_held := F_held.binds (ps := ["self", "path"]) fun _ _ _ _ _ _ us hl => match us, hl with | [_, _], _ => rfl
  refine ⟨PySem.W.fnOf "law" "law" (defArgs s_law) (defBody s_law) (defScope s_law) .none kV_law dc_law pm_law an_law cd_law ct_law, fun s v => .of_eq rfl, fun base _ _ => ?_⟩
  have Gint := ok_is_integer (P := l.prog) (w := w) (mg := mg) (base := base) F_int B
  have Gname := ok_is_name (P := l.prog) (w := w) (mg := mg) (base := base) F_name B
  have Gnames := ok_are_names (P := l.prog) (w := w) (mg := mg) (base := base) F_names B TN Gname b_name
  have Gwords := ok_are_words (P := l.prog) (w := w) (mg := mg) (base := base) F_wrds B
  have Gpath := ok_is_path (P := l.prog) (w := w) (mg := mg) (base := base) F_path B TN Gint b_int
  have Gitem := ok_item_fits (P := l.prog) (w := w) (mg := mg) (base := base) F_item B TF Gwords b_wrds Gnames b_names Gname b_name
  have Gstand := ok_may_stand (P := l.prog) (w := w) (mg := mg) (base := base) F_stand TF
  have Gzone := ok_zone_inside (P := l.prog) (w := w) (mg := mg) (base := base) F_zone
  have Gdep := ok_depth_inside (P := l.prog) (w := w) (mg := mg) (base := base) F_dep
  have Ginner := ok_inner_rows (P := l.prog) (w := w) (mg := mg) (base := base) F_inner TR
  have Growf := ok_row_fits (P := l.prog) (w := w) (mg := mg) (base := base) F_rowf B TR (g a_item) k_item Gitem b_item
  have Gslots := ok_slots_in (P := l.prog) (w := w) (mg := mg) (base := base) F_slots B TR
  have Grows := ok_rows_within (P := l.prog) (w := w) (mg := mg) (base := base) F_rows B TW Ginner b_inner b_rows 6
  have Gfuns := ok_functions_within (P := l.prog) (w := w) (mg := mg) (base := base) F_funs B TU Ginner b_inner b_funs 6
  have Gtups := ok_tuples_within (P := l.prog) (w := w) (mg := mg) (base := base) F_tups B TT Ginner b_inner b_tups 6
  have Geither := ok_use_of_either (P := l.prog) (w := w) (mg := mg) (base := base) F_either
  have Guse := fun ws es => ok_uses (P := l.prog) (w := w) (mg := mg) (base := base) (ws := ws) (es := es) F_use F_user TH b_use b_user Geither b_either 6
  have Gheld := fun ws es => ok_held_slots (P := l.prog) (w := w) (mg := mg) (base := base) (ws := ws) (es := es) (k := 13) (by decide) F_heldS B THe (Grows.mono (by decide)) b_rows Gslots b_slots (Guse ws es) b_use
  have Glinks := fun ws es => ok_links_of (P := l.prog) (w := w) (mg := mg) (base := base) (ws := ws) (es := es) (k := 7) F_links B TL Grows b_rows
  have Gcovers := ok_covers_input (P := l.prog) (w := w) (mg := mg) (base := base) F_covers
  have Glacks := ok_lacks_maker (P := l.prog) (w := w) (mg := mg) (base := base) F_lacks
  have Gmakers := ok_first_makers (P := l.prog) (w := w) (mg := mg) (base := base) F_makers
  have Gtwice := ok_is_made_twice (P := l.prog) (w := w) (mg := mg) (base := base) F_twice
  have Gcnames := ok_check_names (P := l.prog) (w := w) (mg := mg) (base := base) F_cnames TK Gnames b_names
  have Gcrows := fun ws es => ok_check_rows (P := l.prog) (w := w) (mg := mg) (base := base) (ws := ws) (es := es) F_crows B TK Growf b_rowf Gstand b_stand Ginner b_inner Gzone b_zone Gdep b_dep b_crows 6
  have Gcounts := ok_check_counts (P := l.prog) (w := w) (mg := mg) (base := base) (d := 6) (k := 7) F_ccounts B TC Grows b_rows Gfuns b_funs
  have Guses := fun ws es => ok_check_uses (P := l.prog) (w := w) (mg := mg) (base := base) (ws := ws) (es := es) (d := 6) (k := 7) (by decide) F_cuses B TUs Grows b_rows Gmakers b_makers Gtwice b_twice Gcovers b_covers Glacks b_lacks
  have Gpart := ok_check_part (P := l.prog) (w := w) (mg := mg) (base := base) (D := 6) (k := 10) (by decide) F_cpart B TP Gcnames b_cnames Gcrows b_crows (fun ws es => (Guses ws es).mono (by decide)) b_cuses (Gcounts.mono (by decide)) b_ccounts
  have Gother := ok_other_slots (P := l.prog) (w := w) (mg := mg) (base := base) F_other B TO Gslots b_slots
  have Ginit := ok_Part_init (P := l.prog) (w := w) (mg := mg) (base := base) (D := 6) (k := 14) (by decide) F_init TPI (Gpart.mono (by decide)) b_cpart (Gfuns.mono (by decide)) b_funs (Gtups.mono (by decide)) b_tups (Grows.mono (by decide)) b_rows Gheld b_heldS (fun ws es => (Glinks ws es).mono (by decide)) b_links Gother b_other
  have Gmeth := ok_Part_held (P := l.prog) (w := w) (mg := mg) (base := base) (D := 6) F_held TM Gpath b_path
  have Gstart := ok__law_start (P := l.prog) (w := w) (mg := mg) (base := base) F_start TD
  have Gmixed := ok__law_mixed (P := l.prog) (w := w) (mg := mg) (base := base) F_mixed TD
  have Gtake := ok__law_take (P := l.prog) (w := w) (mg := mg) (base := base) F_take TD Gmixed b_mixed
  have Gpick := ok__law_pick (P := l.prog) (w := w) (mg := mg) (base := base) F_pick TPk Gtake b_take
  have Gtable := ok__law_table (P := l.prog) (w := w) (mg := mg) (base := base) F_table TPk Gpick b_pick
  have Glnames := ok__law_names (P := l.prog) (w := w) (mg := mg) (base := base) F_lnames TPk Gtake b_take Gpick b_pick
  have Gfunc : ∀ n : Nat, n ≤ 8 → ∀ m, m ≤ n → FnOk l.prog w K mg base CX0 (5 + n) f_func (PySem.W.fnOf "_law_function" "_law_function" (defArgs s__law_function) (defBody s__law_function) (defScope s__law_function) .none kV_func dc_func pm_func an_func cd_func ct_func) ["_law_state", "_law_menu", "_law_many", "_law_room", "_law_scope", "_law_depth"] (spFunD m) := by
    intro n
    induction n with
    | zero => exact fun _ m hm => ok__law_function_step (P := l.prog) (w := w) (mg := mg) (base := base) (k := 4) (by decide) (by omega) F_func TFu Gtake b_take Gpick b_pick Gtable b_table (fun m1 h1 => absurd h1 (by omega)) b_func
    | succ n ih => exact fun hn m hm => ok__law_function_step (P := l.prog) (w := w) (mg := mg) (base := base) (k := 5 + n) (by omega) (by omega) F_func TFu Gtake b_take Gpick b_pick Gtable b_table (fun m1 h1 => ih (by omega) m1 (by omega)) b_func
  have Gsame := ok__law_same (P := l.prog) (w := w) (mg := mg) (base := base) F_same B TSm b_same 2
  have Gways := fun (W : Wd) (okW : W.Ok) d (hd : d ≤ 9) => (ok__law_ways (P := l.prog) (w := w) (mg := mg) (base := base) okW F_ways TWy b_ways d hd).mono (show d + 1 ≤ 10 by omega)
  have Gneed := fun (W : Wd) (okW : W.Ok) => ok__law_needed (P := l.prog) (w := w) (mg := mg) (base := base) okW F_need TNd (Gways W okW) b_ways b_need 6 (by decide)
  exact ok_law (k := 20) (by decide) F_law TLw Gstart b_start Glnames b_lnames Gtake b_take ((Gfunc 4 (by decide) 4 (by decide)).mono (by decide)) b_func (Ginit.mono (by decide)) b_init Gsame b_same ((fnok_any Gneed).mono (by decide)) b_need Gmeth b_held
theorem walk {l : PySem.W.OpenLaw} {q : Program} {loose : List Str} {XP : (Str → Option Value) → Heap → Prop} {YP : World → Heap → Prop} {d : DefRec} {K : Params → PySem.W.Frag} (hn : l.most = some 63) (hdf : d.params.defaults = [])
    (hY : ∀ (w : World) (h : Heap), YP w h → (K w.params).In h)
    (F : ∀ (w : World) (mg : Str → Option Value) (fa : Addr) (h : Heap), (K w.params).In h → h.Ns mainGlobals mg → mg d.name = some (.ref fa) →
      ∃ fd : FuncData, (∀ (s : Shared) (u : Value), BindsTo s fd ⟨[u], []⟩ [("_law_script", u)]) ∧ ∀ base : Heap, (K w.params).In base → base.Ns mainGlobals mg → FnOk l.prog w (K w.params) mg base CX0 22 fa fd ["_law_script"] (spLaw (K w.params))) :
    PySem.W.WalkO q loose XP YP l.row.toRowW d [] (fun f vs => PySem.call f vs) :=
  L2.walk_of (n := 63) (k := 22) (x := "_law_script") (CX := fun _ => CX0) (sp := fun w => spLaw (K w.params)) hn (by decide) hdf ⟨rfl, by decide, by decide⟩ hY F (fun _ _ a ns hl _ hS => ⟨a, ns, rfl, hS, hl, fun _ => rfl⟩) fun _ _ _ _ _ z => z
end CA
open PySem PySem.W PyProof.Rows
set_option maxRecDepth 100000 in
set_option maxHeartbeats 0 in
theorem PySem.Challenge.cw_calledanew_k11_whole_held_slots_by_all_w_holds : PySem.Challenge.rw_calledanew_k11_whole_held_slots_by_all_w.Holds := by
  w_on; o_law; k_head; (case hw => w_witness2)
  k_fill
  refine CA.walk (l := PySem.Challenge.rw_calledanew_k11_whole_held_slots_by_all_w) rfl rfl (fun w h Y => PySem.W.kIn_of Y) ?F
  case F =>
    intro w mg fa h KX G hmg
    refine' CA.all_mk KX G hmg ?g_C ?a_int ?l_int ?c_int ?k_int ?a_name ?l_name ?c_name ?k_name ?a_names ?l_names ?c_names ?k_names ?a_wrds ?l_wrds ?c_wrds ?k_wrds ?a_path ?l_path ?c_path ?k_path ?a_item ?l_item ?c_item ?k_item ?a_stand ?l_stand ?c_stand ?k_stand ?a_zone ?l_zone ?c_zone ?k_zone ?a_dep ?l_dep ?c_dep ?k_dep ?a_inner ?l_inner ?c_inner ?k_inner ?a_rowf ?l_rowf ?c_rowf ?k_rowf ?a_slots ?l_slots ?c_slots ?k_slots ?a_rows ?l_rows ?c_rows ?k_rows ?a_funs ?l_funs ?c_funs ?k_funs ?a_tups ?l_tups ?c_tups ?k_tups ?a_either ?l_either ?c_either ?k_either ?a_use ?l_use ?c_use ?k_use ?a_user ?l_user ?c_user ?k_user ?a_heldS ?l_heldS ?c_heldS ?k_heldS ?a_links ?l_links ?c_links ?k_links ?a_covers ?l_covers ?c_covers ?k_covers ?a_lacks ?l_lacks ?c_lacks ?k_lacks ?a_makers ?l_makers ?c_makers ?k_makers ?a_twice ?l_twice ?c_twice ?k_twice ?a_cnames ?l_cnames ?c_cnames ?k_cnames ?a_crows ?l_crows ?c_crows ?k_crows ?a_ccounts ?l_ccounts ?c_ccounts ?k_ccounts ?a_cuses ?l_cuses ?c_cuses ?k_cuses ?a_cpart ?l_cpart ?c_cpart ?k_cpart ?a_other ?l_other ?c_other ?k_other ?a_start ?l_start ?c_start ?k_start ?a_mixed ?l_mixed ?c_mixed ?k_mixed ?a_take ?l_take ?c_take ?k_take ?a_pick ?l_pick ?c_pick ?k_pick ?a_lnames ?l_lnames ?c_lnames ?k_lnames ?a_table ?l_table ?c_table ?k_table ?a_func ?l_func ?c_func ?k_func ?a_same ?l_same ?c_same ?k_same ?a_ways ?l_ways ?c_ways ?k_ways ?a_need ?l_need ?c_need ?k_need ?a_law ?l_law ?c_law ?k_law ?a_init ?l_init ?c_init ?k_init ?n_init ?a_held ?l_held ?c_held ?k_held ?n_held ?g_CALL_KINDS ?l_CALL_KINDS ?g_FUNCTION_KINDS ?l_FUNCTION_KINDS ?g_IFS ?l_IFS ?g_IFS_AND_LATER ?l_IFS_AND_LATER ?g_ALL_ROWS ?l_ALL_ROWS ?g_MOST_LIST ?g_DEEPEST_CALL_IF ?g_DEEPEST_FUNCTION_IF ?g_MOST_CALL_ROWS ?g_MOST_FUNCTION_ROWS ?g_FORMS ?l_FORMS ?q_FORMS ?s_FORMS ?l_F0 ?l_F1 ?l_F2 ?l_F3 ?l_F4 ?l_F5 ?l_F6 ?l_F7 ?l_F8 ?l_F9 ?l_F10 ?l_F11 ?l_F12 ?l_F13 ?l_F14 ?g_FIRST_ROWS ?l_FIRST_ROWS ?q_FIRST_ROWS ?s_FIRST_ROWS ?g_READS ?l_READS ?q_READS ?s_READS ?g_CHANGES ?l_CHANGES ?q_CHANGES ?s_CHANGES ?r_pg ?r_hd ?r_po ?r_sa ?r_mk ?r_kp ?no_words ?no_inputs ?no_events ?no_rows ?no_placed_rows ?no_row_table ?no_held_table ?no_link_table ?no_slot_names ?z_isinstance ?z_int ?z_bool ?z_str ?z_tuple ?z_len ?z_all ?z_set ?z_zip ?z_sorted ?z_enumerate ?z_list ?z_abs ?z_range
    (case g_C => k_is)
    (case a_int => k_is)
    (case l_int => k_is)
    (case c_int => k_is)
    (case k_int => k_is)
    (case a_name => k_is)
    (case l_name => k_is)
    (case c_name => k_is)
    (case k_name => k_is)
    (case a_names => k_is)
    (case l_names => k_is)
    (case c_names => k_is)
    (case k_names => k_is)
    (case a_wrds => k_is)
    (case l_wrds => k_is)
    (case c_wrds => k_is)
    (case k_wrds => k_is)
    (case a_path => k_is)
    (case l_path => k_is)
    (case c_path => k_is)
    (case k_path => k_is)
    (case a_item => k_is)
    (case l_item => k_is)
    (case c_item => k_is)
    (case k_item => k_is)
    (case a_stand => k_is)
    (case l_stand => k_is)
    (case c_stand => k_is)
    (case k_stand => k_is)
    (case a_zone => k_is)
    (case l_zone => k_is)
    (case c_zone => k_is)
    (case k_zone => k_is)
    (case a_dep => k_is)
    (case l_dep => k_is)
    (case c_dep => k_is)
    (case k_dep => k_is)
    (case a_inner => k_is)
    (case l_inner => k_is)
    (case c_inner => k_is)
    (case k_inner => k_is)
    (case a_rowf => k_is)
    (case l_rowf => k_is)
    (case c_rowf => k_is)
    (case k_rowf => k_is)
    (case a_slots => k_is)
    (case l_slots => k_is)
    (case c_slots => k_is)
    (case k_slots => k_is)
    (case a_rows => k_is)
    (case l_rows => k_is)
    (case c_rows => k_is)
    (case k_rows => k_is)
    (case a_funs => k_is)
    (case l_funs => k_is)
    (case c_funs => k_is)
    (case k_funs => k_is)
    (case a_tups => k_is)
    (case l_tups => k_is)
    (case c_tups => k_is)
    (case k_tups => k_is)
    (case a_either => k_is)
    (case l_either => k_is)
    (case c_either => k_is)
    (case k_either => k_is)
    (case a_use => k_is)
    (case l_use => k_is)
    (case c_use => k_is)
    (case k_use => k_is)
    (case a_user => k_is)
    (case l_user => k_is)
    (case c_user => k_is)
    (case k_user => k_is)
    (case a_heldS => k_is)
    (case l_heldS => k_is)
    (case c_heldS => k_is)
    (case k_heldS => k_is)
    (case a_links => k_is)
    (case l_links => k_is)
    (case c_links => k_is)
    (case k_links => k_is)
    (case a_covers => k_is)
    (case l_covers => k_is)
    (case c_covers => k_is)
    (case k_covers => k_is)
    (case a_lacks => k_is)
    (case l_lacks => k_is)
    (case c_lacks => k_is)
    (case k_lacks => k_is)
    (case a_makers => k_is)
    (case l_makers => k_is)
    (case c_makers => k_is)
    (case k_makers => k_is)
    (case a_twice => k_is)
    (case l_twice => k_is)
    (case c_twice => k_is)
    (case k_twice => k_is)
    (case a_cnames => k_is)
    (case l_cnames => k_is)
    (case c_cnames => k_is)
    (case k_cnames => k_is)
    (case a_crows => k_is)
    (case l_crows => k_is)
    (case c_crows => k_is)
    (case k_crows => k_is)
    (case a_ccounts => k_is)
    (case l_ccounts => k_is)
    (case c_ccounts => k_is)
    (case k_ccounts => k_is)
    (case a_cuses => k_is)
    (case l_cuses => k_is)
    (case c_cuses => k_is)
    (case k_cuses => k_is)
    (case a_cpart => k_is)
    (case l_cpart => k_is)
    (case c_cpart => k_is)
    (case k_cpart => k_is)
    (case a_other => k_is)
    (case l_other => k_is)
    (case c_other => k_is)
    (case k_other => k_is)
    (case a_start => k_is)
    (case l_start => k_is)
    (case c_start => k_is)
    (case k_start => k_is)
    (case a_mixed => k_is)
    (case l_mixed => k_is)
    (case c_mixed => k_is)
    (case k_mixed => k_is)
    (case a_take => k_is)
    (case l_take => k_is)
    (case c_take => k_is)
    (case k_take => k_is)
    (case a_pick => k_is)
    (case l_pick => k_is)
    (case c_pick => k_is)
    (case k_pick => k_is)
    (case a_lnames => k_is)
    (case l_lnames => k_is)
    (case c_lnames => k_is)
    (case k_lnames => k_is)
    (case a_table => k_is)
    (case l_table => k_is)
    (case c_table => k_is)
    (case k_table => k_is)
    (case a_func => k_is)
    (case l_func => k_is)
    (case c_func => k_is)
    (case k_func => k_is)
    (case a_same => k_is)
    (case l_same => k_is)
    (case c_same => k_is)
    (case k_same => k_is)
    (case a_ways => k_is)
    (case l_ways => k_is)
    (case c_ways => k_is)
    (case k_ways => k_is)
    (case a_need => k_is)
    (case l_need => k_is)
    (case c_need => k_is)
    (case k_need => k_is)
    (case a_law => k_is)
    (case l_law => k_is)
    (case c_law => k_is)
    (case k_law => k_is)
    (case a_init => k_is)
    (case l_init => k_is)
    (case c_init => k_is)
    (case k_init => k_is)
    (case n_init => k_is)
    (case a_held => k_is)
    (case l_held => k_is)
    (case c_held => k_is)
    (case k_held => k_is)
    (case n_held => k_is)
    (case g_CALL_KINDS => k_is)
    (case l_CALL_KINDS => k_is)
    (case g_FUNCTION_KINDS => k_is)
    (case l_FUNCTION_KINDS => k_is)
    (case g_IFS => k_is)
    (case l_IFS => k_is)
    (case g_IFS_AND_LATER => k_is)
    (case l_IFS_AND_LATER => k_is)
    (case g_ALL_ROWS => k_is)
    (case l_ALL_ROWS => k_is)
    (case g_MOST_LIST => k_is)
    (case g_DEEPEST_CALL_IF => k_is)
    (case g_DEEPEST_FUNCTION_IF => k_is)
    (case g_MOST_CALL_ROWS => k_is)
    (case g_MOST_FUNCTION_ROWS => k_is)
    (case g_FORMS => k_is)
    (case l_FORMS => k_is)
    (case q_FORMS => exact ⟨⟨_, _, rfl, rfl⟩, ⟨_, _, rfl, rfl⟩, ⟨_, _, rfl, rfl⟩, ⟨_, _, rfl, rfl⟩, ⟨_, _, rfl, rfl⟩, ⟨_, _, rfl, rfl⟩, ⟨_, _, rfl, rfl⟩, ⟨_, _, rfl, rfl⟩, ⟨_, _, rfl, rfl⟩, ⟨_, _, rfl, rfl⟩, ⟨_, _, rfl, rfl⟩, ⟨_, _, rfl, rfl⟩, ⟨_, _, rfl, rfl⟩, ⟨_, _, rfl, rfl⟩, ⟨_, _, rfl, rfl⟩, trivial⟩)
    (case s_FORMS => rfl)
    (case l_F0 => k_is)
    (case l_F1 => k_is)
    (case l_F2 => k_is)
    (case l_F3 => k_is)
    (case l_F4 => k_is)
    (case l_F5 => k_is)
    (case l_F6 => k_is)
    (case l_F7 => k_is)
    (case l_F8 => k_is)
    (case l_F9 => k_is)
    (case l_F10 => k_is)
    (case l_F11 => k_is)
    (case l_F12 => k_is)
    (case l_F13 => k_is)
    (case l_F14 => k_is)
    (case g_FIRST_ROWS => k_is)
    (case l_FIRST_ROWS => k_is)
    (case q_FIRST_ROWS => exact ⟨⟨_, _, rfl, rfl⟩, ⟨_, _, rfl, rfl⟩, ⟨_, _, rfl, rfl⟩, ⟨_, _, rfl, rfl⟩, trivial⟩)
    (case s_FIRST_ROWS => rfl)
    (case g_READS => k_is)
    (case l_READS => k_is)
    (case q_READS => exact ⟨⟨_, _, rfl, rfl⟩, ⟨_, _, rfl, rfl⟩, ⟨_, _, rfl, rfl⟩, ⟨_, _, rfl, rfl⟩, ⟨_, _, rfl, rfl⟩, trivial⟩)
    (case s_READS => rfl)
    (case g_CHANGES => k_is)
    (case l_CHANGES => k_is)
    (case q_CHANGES => exact ⟨⟨_, _, rfl, rfl⟩, ⟨_, _, rfl, rfl⟩, ⟨_, _, rfl, rfl⟩, trivial⟩)
    (case s_CHANGES => rfl)
    (case r_pg => k_is)
    (case r_hd => k_is)
    (case r_po => k_is)
    (case r_sa => k_is)
    (case r_mk => k_is)
    (case r_kp => k_is)
    (case no_words => k_is)
    (case no_inputs => k_is)
    (case no_events => k_is)
    (case no_rows => k_is)
    (case no_placed_rows => k_is)
    (case no_row_table => k_is)
    (case no_held_table => k_is)
    (case no_link_table => k_is)
    (case no_slot_names => k_is)
    (case z_isinstance => k_is)
    (case z_int => k_is)
    (case z_bool => k_is)
    (case z_str => k_is)
    (case z_tuple => k_is)
    (case z_len => k_is)
    (case z_all => k_is)
    (case z_set => k_is)
    (case z_zip => k_is)
    (case z_sorted => k_is)
    (case z_enumerate => k_is)
    (case z_list => k_is)
    (case z_abs => k_is)
    (case z_range => k_is)
