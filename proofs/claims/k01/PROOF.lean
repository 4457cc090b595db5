import PyProof.Rows.All
import Wide.All
import OpenK.AllK
import Wide.FinOn
import HandS.ForMost
import HandS.Exc
import HandS.TryOnly
import HandS.ExcOwn
import HandS.WordsExc
import HandS.IsInst
import HandS.Style
import PySem.Challenge.RW_partshare_k01_primes_and_rests
set_option Elab.async false
set_option linter.all false
set_option maxRecDepth 100000
set_option maxHeartbeats 2000000
namespace Z

/-- n is a prime -/
def IsP (n : Nat) : Prop := 2 ≤ n ∧ ∀ d, 2 ≤ d → d < n → n % d ≠ 0
theorem IsP.pos {n : Nat} (h : IsP n) : 0 < n := by have := h.1; omega
theorem isP_trial {n : Nat} (h2 : 2 ≤ n) (h : ∀ d, 2 ≤ d → d * d ≤ n → n % d ≠ 0) : IsP n := by
  refine ⟨h2, fun d hd hlt hm => ?_⟩
  by_cases hs : d * d ≤ n
  · exact h d hd hs hm
  · -- the other divisor
    have e : n = d * (n / d) := by
      have := Nat.div_add_mod n d
      rw [hm, Nat.add_zero] at this
      exact this.symm
    have hq2 : 2 ≤ n / d := by
      have h1 : n / d ≠ 0 := fun z => by rw [z, Nat.mul_zero] at e; omega
      have h3 : n / d ≠ 1 := fun z => by rw [z, Nat.mul_one] at e; omega
      revert h1 h3
      generalize n / d = q
      omega
    have hql : n / d < d := Nat.lt_of_not_le fun hle => hs (by
      calc d * d ≤ d * (n / d) := Nat.mul_le_mul_left d hle
        _ = n := e.symm)
    have hqq : (n / d) * (n / d) ≤ n := by
      calc (n / d) * (n / d) ≤ d * (n / d) := Nat.mul_le_mul_right _ (Nat.le_of_lt hql)
        _ = n := e.symm
    refine h (n / d) hq2 hqq ?_
    have : n % (n / d) = (d * (n / d)) % (n / d) := congrArg (· % (n / d)) e
    rw [this]
    exact Nat.mul_mod_left _ _
theorem not_isP {n d : Nat} (hd : 2 ≤ d) (hlt : d < n) (hm : n % d = 0) : ¬ IsP n := fun h => h.2 d hd hlt hm

theorem IsP.cop {p a : Nat} (hp : IsP p) (h0 : 0 < a) (h1 : a < p) : Nat.Coprime a p := by
  have gp : Nat.gcd a p ∣ p := Nat.gcd_dvd_right a p
  have ga : Nat.gcd a p ∣ a := Nat.gcd_dvd_left a p
  have g0 : 0 < Nat.gcd a p := Nat.gcd_pos_of_pos_left _ h0
  have gle : Nat.gcd a p ≤ a := Nat.le_of_dvd h0 ga
  show Nat.gcd a p = 1
  rcases Nat.lt_or_ge (Nat.gcd a p) 2 with h | h
  · omega
  · exact absurd (Nat.mod_eq_zero_of_dvd gp) (hp.2 _ h (by omega))
theorem IsP.dvd_mul {p a b : Nat} (hp : IsP p) (h : p ∣ a * b) : p ∣ a ∨ p ∣ b := by
  by_cases ha : p ∣ a
  · exact .inl ha
  · refine .inr ?_
    have ha' : a % p ≠ 0 := fun z => ha (Nat.dvd_of_mod_eq_zero z)
    have hlt : a % p < p := Nat.mod_lt _ hp.pos
    have hc := hp.cop (Nat.pos_of_ne_zero ha') hlt
    have hd : p ∣ (a % p) * b := by
      have e : a * b = p * (a / p) * b + (a % p) * b := by rw [← Nat.add_mul, Nat.div_add_mod]
      have h1 : p ∣ p * (a / p) * b := ⟨(a / p) * b, by rw [Nat.mul_assoc]⟩
      rw [e] at h
      exact (Nat.dvd_add_right h1).mp h
    exact (Nat.Coprime.symm hc).dvd_of_dvd_mul_left hd

def prodL : List Nat → Nat
  | [] => 1
  | x :: l => x * prodL l
theorem prodL_perm {l m : List Nat} (h : l.Perm m) : prodL l = prodL m := by
  induction h with
  | nil => rfl
  | cons x _ ih => show x * _ = x * _; rw [ih]
  | swap x y l => show y * (x * prodL l) = x * (y * prodL l); rw [← Nat.mul_assoc, ← Nat.mul_assoc, Nat.mul_comm y x]
  | trans _ _ h1 h2 => exact h1.trans h2
theorem perm_of_sub : ∀ {l m : List Nat}, l.Nodup → (∀ x ∈ l, x ∈ m) → m.length ≤ l.length → l.Perm m
  | [], m, _, _, h => by
    have : m = [] := List.eq_nil_of_length_eq_zero (Nat.le_zero.mp h)
    rw [this]
  | x :: l, m, hn, hs, hl => by
    have hx : x ∈ m := hs x List.mem_cons_self
    have hn' := List.nodup_cons.mp hn
    have q := List.perm_cons_erase hx
    have lm : (m.erase x).length = m.length - 1 := List.length_erase_of_mem hx
    have hm : 0 < m.length := List.length_pos_of_mem hx
    have ih := perm_of_sub (l := l) (m := m.erase x) hn'.2 (fun y hy => (List.mem_erase_of_ne (fun e => hn'.1 (by rw [← e]; exact hy))).mpr (hs y (List.mem_cons_of_mem _ hy))) (by
      rw [lm]
      simp only [List.length_cons] at hl
      omega)
    exact (ih.cons x).trans q.symm
theorem prodL_map (a p : Nat) : ∀ l : List Nat, prodL (l.map fun x => a * x % p) % p = (a ^ l.length * prodL l) % p
  | [] => by simp [prodL]
  | x :: l => by
    show ((a * x % p) * prodL (l.map fun x => a * x % p)) % p = (a ^ (l.length + 1) * (x * prodL l)) % p
    rw [Nat.mul_mod, Nat.mod_mod, prodL_map a p l, ← Nat.mul_mod]
    congr 1
    rw [Nat.pow_succ]
    simp only [Nat.mul_assoc, Nat.mul_left_comm, Nat.mul_comm]
theorem prodL_cop {p : Nat} : ∀ {l : List Nat}, (∀ x ∈ l, Nat.Coprime x p) → Nat.Coprime (prodL l) p
  | [], _ => Nat.coprime_one_left p
  | x :: l, h => Nat.Coprime.mul_left (h x List.mem_cons_self) (prodL_cop fun y hy => h y (List.mem_cons_of_mem _ hy))
theorem cancel_mod {p a b x : Nat} (hc : Nat.Coprime x p) (h : (a * x) % p = (b * x) % p) : a % p = b % p := by
  have key : ∀ {a b : Nat}, a ≤ b → (a * x) % p = (b * x) % p → a % p = b % p := by
    intro a b hab h
    have h1 : p ∣ b * x - a * x := Nat.dvd_of_mod_eq_zero (Nat.sub_mod_eq_zero_of_mod_eq h.symm)
    rw [← Nat.sub_mul] at h1
    have h2 : p ∣ b - a := (Nat.Coprime.symm hc).dvd_of_dvd_mul_right h1
    obtain ⟨c, hc2⟩ := h2
    have e : b = a + p * c := by omega
    rw [e, Nat.add_mul_mod_self_left]
  rcases Nat.le_total a b with hab | hab
  · exact key hab h
  · exact (key hab h.symm).symm
theorem fermat {p a : Nat} (hp : IsP p) (h0 : 0 < a) (h1 : a < p) : a ^ (p - 1) % p = 1 := by
  have hca := hp.cop h0 h1
  have mem : ∀ x, x ∈ List.range' 1 (p - 1) ↔ 1 ≤ x ∧ x < p := fun x => by
    rw [List.mem_range'_1]
    have := hp.1
    omega
  have copx : ∀ x ∈ List.range' 1 (p - 1), Nat.Coprime x p := fun x hx => by
    have := (mem x).mp hx
    exact hp.cop (by omega) this.2
  have nd : (List.range' 1 (p - 1)).Nodup := List.nodup_range'
  have nd2 : ((List.range' 1 (p - 1)).map fun x => a * x % p).Nodup := by
    refine List.Pairwise.map _ ?_ (List.Pairwise.and_mem.mp nd)
    intro x y hxy e
    obtain ⟨hx, hy, hne⟩ := hxy
    have hx' := (mem x).mp hx
    have hy' := (mem y).mp hy
    apply hne
    have := cancel_mod (p := p) (a := x) (b := y) (x := a) hca (by rw [Nat.mul_comm x, Nat.mul_comm y]; exact e)
    rw [Nat.mod_eq_of_lt hx'.2, Nat.mod_eq_of_lt hy'.2] at this
    exact this
  have perm := perm_of_sub (l := (List.range' 1 (p - 1)).map fun x => a * x % p) (m := List.range' 1 (p - 1)) nd2 (fun z hz => by
    obtain ⟨x, hx, rfl⟩ := List.mem_map.mp hz
    refine (mem _).mpr ⟨?_, Nat.mod_lt _ hp.pos⟩
    refine Nat.pos_of_ne_zero fun z => ?_
    have hd : p ∣ a * x := Nat.dvd_of_mod_eq_zero z
    have hx' := (mem x).mp hx
    rcases hp.dvd_mul hd with h | h
    · exact absurd (Nat.le_of_dvd h0 h) (by omega)
    · exact absurd (Nat.le_of_dvd (by omega) h) (by omega)) (by rw [List.length_map]; exact Nat.le_refl _)
  have e1 := prodL_map a p (List.range' 1 (p - 1))
  rw [prodL_perm perm, List.length_range'] at e1
  have e2 := cancel_mod (p := p) (a := 1) (b := a ^ (p - 1)) (x := prodL (List.range' 1 (p - 1))) (prodL_cop copx) (by rw [Nat.one_mul]; exact e1)
  rw [← e2]
  exact Nat.mod_eq_of_lt hp.1
end Z

namespace Z
open PySem PySem.Spec PyProof.Rows L2

/-! ### defs by their names -/
/-- a def of the top, with its name -/
def DefAt (K : PySem.W.Frag) (mg : Str → Option Value) (x : Str) (st : Stmt) (ps : List Str) : Prop :=
  ∃ f fd, mg x = some (.ref f) ∧ Fun K x x st f fd ∧ Binds K fd ps []
/-- a def that keeps a promise -/
def Good (P : Program) (w : World) (K : PySem.W.Frag) (mg : Str → Option Value) (base : Heap) (k : Nat) (x : Str) (ps : List Str) (sp : Sp) : Prop :=
  ∃ f fd, (∃ oc od osl, K.lookup f = some ⟨oc, od, .func fd, osl⟩) ∧ mg x = some (.ref f) ∧ PySem.W.keepIn K (.ref f) = true ∧ Binds K fd ps [] ∧ FnOk P w K mg base (L2.CX P w) k f fd ps sp
/-- a whole number of the module's own -/
def GlI (mg : Str → Option Value) (x : Str) (i : Int) : Prop := ∃ t, mg x = some (.int i t)
/-- an error class of the module's own -/
structure ErrAt (K : PySem.W.Frag) (mg : Str → Option Value) (x : Str) (C : Addr) (bm : List Value) (B : String) : Prop where
  g : mg x = some (.ref C)
  x : PySem.W.excIn K C bm B = true
  k : PySem.W.keepIn K (.ref C) = true
  b : PySem.W.subIn K (.ref C) (.type "BaseException") = some true
  t : PySem.W.typeIn K (.ref C) = some (.type "type")
  i : PySem.W.isClsIn K C = true

section
variable {P : Program} {w : World} {K : PySem.W.Frag} {mg : Str → Option Value} {base : Heap}
theorem Good.of {x : Str} {st : Stmt} {N ps : List Str} {k : Nat} {sp : Sp} (D : DefAt K mg x st ps) (S : FnScope N ps (defScope st)) (len : ∀ vs H Q E, sp vs H Q E → vs.length = ps.length)
    (body : ∀ (f : Addr) (cdv : Value) (A : Around) (outer : List Env) (s : Shared) (H : Hp) (E : XK), Room k (A.deeper (envOfC x (defScope st) s.heap.objs.size f cdv)) →
      ∃ t, PSs (cxOf (L2.CX P w) P w K mg base N x (defScope st) f cdv A outer s H E) (defBody st) t ∧ ∀ vs Q, sp vs H Q E → t { nx := fun _ H' => Q .non H', rt := Q } (start N vs) H) :
    Good P w K mg base (k + 1) x ps sp := by
  obtain ⟨f, fd, g, F, b⟩ := D
  refine ⟨f, fd, (by obtain ⟨oc, od, _, _, _, _, _, _, osl, rfl, l, _⟩ := F.ex; exact ⟨oc, od, osl, l⟩), g, F.kp, b, F.okX S len fun cdv A outer s H vs Q E hr h => ?_⟩
  obtain ⟨t, d, p⟩ := body f cdv A outer s H E hr
  exact ⟨t, d, p vs Q h⟩
end
section
variable {X : Cx} {k n : Nat} {x : Str} {ps : List Str} {sp : Sp} {e : Expr} {es : List Expr} {t : TA} {p pos : Pos}
def tCl (sp : Sp) (E : XK) (t : TA) : TE := fun σ H Q => t σ H fun vs H1 => sp vs H1 Q E
theorem tCl_eq {sp : Sp} {E : XK} {t : TA} : tCl sp E t = tCall sp [] E t := by
  funext σ H Q
  unfold tCl tCall
  simp only [List.append_nil]
theorem pe_callG {E : XK} (G : Good X.prog X.w X.K X.mg X.base k x ps sp) (hr : Room n X.A) (hk : k ≤ n) (hg : Gl X x) (hx : Passes (L2.CX X.prog X.w) X E) (ha : PA X (e :: es) t)
    (hdb : (x == ("__debug__" : Str)) = false := by decide) (he : starEach (e :: es) X.env = (false, eval e X.env) :: starEach es X.env := by rfl) (hpl : (backTo pos (starEach es X.env)).any (·.1) = false := by rfl) :
    PE X (.Call (.Name x p) (e :: es) [] pos) (tCl sp E t) := by
  obtain ⟨f, fd, _, g, kp, b, F⟩ := G
  rw [tCl_eq]
  exact pe_call F (hr.mono hk) hg g kp b .nil hx ha hdb he hpl
theorem pe_callGS {E : L2.St → XK} (G : Good X.prog X.w X.K X.mg X.base k x ps sp) (hr : Room n X.A) (hk : k ≤ n) (hg : Gl X x) (hx : ∀ σ, PassesAt (L2.CX X.prog X.w) X σ (E σ)) (ha : PA X (e :: es) t)
    (hdb : (x == ("__debug__" : Str)) = false := by decide) (he : starEach (e :: es) X.env = (false, eval e X.env) :: starEach es X.env := by rfl) (hpl : (backTo pos (starEach es X.env)).any (·.1) = false := by rfl) :
    PE X (.Call (.Name x p) (e :: es) [] pos) (tCallS sp E t) := by
  obtain ⟨f, fd, _, g, kp, b, F⟩ := G
  exact pe_callS F (hr.mono hk) hg g kp b hx ha hdb he hpl
theorem pe_globI {i : Int} {pos : Pos} (hg : Gl X x) (hm : GlI X.mg x i) (hd : (x == ("__debug__" : Str)) = false := by decide) : PE X (.Name x pos) (tC (.int i)) := by
  obtain ⟨t, h⟩ := hm
  exact pe_glob hg h ⟨t, rfl⟩ hd
theorem pe_globC {C : Addr} {pos : Pos} (hg : Gl X x) (hm : X.mg x = some (.ref C)) (hd : (x == ("__debug__" : Str)) = false := by decide) : PE X (.Name x pos) (tC (.ref C)) :=
  pe_glob hg hm rfl hd
/-- raise C('..') -/
theorem ps_raiseC {W : WX} {C : Addr} {m : Str} {j : Nat} {p p2 pos pos' : Pos} (hc : X.calm = true) (tk : Takes X W)
    (T : ErrAt X.K X.mg x C [.type "ValueError", .type "Exception", .type "BaseException", .type "object"] "ValueError.__new__") (hg : Gl X x) (hdb : (x == ("__debug__" : Str)) = false := by decide) :
    PS X (.Raise (some (.Call (.Name x p) [.Constant (.str m) j p2] [] pos)) none pos') (fun _ σ H => W (.ref C) none σ H) :=
  ps_raise hc tk (pmk_own PySem.F.excBase_ValueError T.x T.g T.k (raises_own T.b T.t) hg hdb)
theorem exm_of {K : PySem.W.Frag} {S C : Addr} {r : Bool} (h1 : PySem.W.subIn K (.ref S) (.type "BaseException") = some true) (h2 : PySem.W.isClsIn K S = true) (h3 : PySem.W.typeIn K (.ref S) = some (.type "type")) (h4 : PySem.W.subIn K (.ref C) (.ref S) = some r) :
    PySem.W.exmOne K (.ref C) (.ref S) = some r := by
  have e1 : (PySem.W.subIn K (.ref S) (.type "BaseException") == some true) = true := by rw [h1] <;> rfl
  have e2 : ((PySem.W.clsIn K S).isSome && PySem.W.typeIn K (.ref S) == some (.type "type")) = true := by
    have h2' : (PySem.W.clsIn K S).isSome = true := h2
    rw [h2', h3] <;> rfl
  show (if (PySem.W.subIn K (.ref S) (.type "BaseException") == some true) = true then (if ((PySem.W.clsIn K S).isSome && PySem.W.typeIn K (.ref S) == some (.type "type")) = true then PySem.W.subIn K (.ref C) (.ref S) else none) else none) = some r
  rw [if_pos e1, if_pos e2]
  exact h4
end

/-! ### combined rules: by values -/
section
variable {X : Cx}
def rAddA : R2 := fun x y H Q => rI0 (fun i j => .int (i + j)) x y H Q ∨ rCat x y H Q
theorem op_addA : OpR X (binaryOp .Add) rAddA := op_add.or op_cat
def rMulA : R2 := fun x y H Q => rI CMul (fun i j => .int (i * j)) x y H Q ∨ rRep x y H Q
theorem op_mulA : OpR X (binaryOp .Mult) rMulA := op_mul.or op_rep
def rSubA : R2 := rI0 fun i j => .int (i - j)
theorem op_subA : OpR X (binaryOp .Sub) rSubA := op_sub
def rModA : R2 := rI (fun _ j => 0 < j) fun i j => .int (i % j)
theorem op_modA : OpR X (binaryOp .Mod) rModA := op_mod
def rDivA : R2 := rI CDiv fun i j => .int (i / j)
theorem op_divA : OpR X (binaryOp .FloorDiv) rDivA := op_fdiv
def rPowA : R2 := rI CPow fun i j => .int (i ^ j.toNat)
theorem op_powA : OpR X (binaryOp .Pow) rPowA := op_pow
def rEqA (K : PySem.W.Frag) : R2 := fun x y H Q => rEq x y H Q ∨ rEqD K x y H Q
theorem op_eqA {n : Nat} (hr : Room n X.A) : OpR X (compareOp .Eq) (rEqA X.K) := op_eq.or (op_eqD hr.units)
def rNeA (K : PySem.W.Frag) : R2 := fun x y H Q => rNe x y H Q ∨ rNeD K x y H Q
theorem op_neA {n : Nat} (hr : Room n X.A) : OpR X (compareOp .NotEq) (rNeA X.K) := op_ne.or (op_neD hr.units)
def rLtA : R2 := rI0 fun i j => .bl (decide (i < j))
theorem op_ltA : OpR X (compareOp .Lt) rLtA := op_lt
def rLeA : R2 := rI0 fun i j => .bl (decide (i ≤ j))
theorem op_leA : OpR X (compareOp .LtE) rLeA := op_le
def rGtA : R2 := rI0 fun i j => .bl (decide (j < i))
theorem op_gtA : OpR X (compareOp .Gt) rGtA := op_gt
def rGeA : R2 := rI0 fun i j => .bl (decide (j ≤ i))
theorem op_geA : OpR X (compareOp .GtE) rGeA := op_ge
def rIsNA : R2 := fun x y H Q => y = .non ∧ Q (.bl (decide (x = .non))) H
theorem op_isNA : OpR X (compareOp .Is) rIsNA := op_isN
def rNotNA : R2 := fun x y H Q => y = .non ∧ Q (.bl (!decide (x = .non))) H
theorem op_notNA : OpR X (compareOp .IsNot) rNotNA := op_notN
def rLen (K : PySem.W.Frag) : List V → Hp → VK → Prop := fun xs H Q => ∃ x n, xs = [x] ∧ LenV K x H n ∧ Q (.int n) H
theorem call_lenA : CallR X (.builtin "len") (rLen X.K) := call_len
def rMax2 : List V → Hp → VK → Prop := fun xs H Q => ∃ i j, xs = [.int i, .int j] ∧ Q (.int (if j > i then j else i)) H
theorem call_max2A (hc : X.calm = true) : CallR X (.builtin "max") rMax2 := call_max2 hc
def rMin2 : List V → Hp → VK → Prop := fun xs H Q => ∃ i j, xs = [.int i, .int j] ∧ Q (.int (if j < i then j else i)) H
theorem call_min2A (hc : X.calm = true) : CallR X (.builtin "min") rMin2 := call_min2 hc
def rListOf (K : PySem.W.Frag) : List V → Hp → VK → Prop := fun xs H Q => ∃ p ys, xs = [.ref p] ∧ (SqL K H p ys ∨ SqT K H p ys) ∧ ∀ l, H l = none → Q (.ref l) (upd H l (.lst ys))
theorem call_listA : CallR X (.type "list") (rListOf X.K) := call_list_of
end

/-! ### a value's kind -/
def kindOf (H : Hp) : V → Option String
  | .non => some "NoneType"
  | .bl _ => some "bool"
  | .int _ => some "int"
  | .str _ => some "str"
  | .ref a => match H a with
    | some (.lst _) => some "list"
    | some (.tup _) => some "tuple"
    | some (.dK _) => some "dict"
    | _ => none
  | _ => none
theorem kindOf_tyx {K : PySem.W.Frag} {H : Hp} {x : V} {n : String} (h : kindOf H x = some n) : TyX K H x (.type n) := by
  cases x with
  | non => cases h; exact .base .non
  | bl b => cases h; exact .base (.bl b)
  | int i => cases h; exact .base (.int i)
  | str y => cases h; exact .base (.str y)
  | byt b => cases h
  | flt b => cases h
  | ty n => cases h
  | ref a =>
    unfold kindOf at h
    cases e : H a with
    | none => simp only [e] at h; cases h
    | some o =>
      cases o with
      | lst xs => simp only [e] at h; cases h; exact .base (.lst e)
      | tup xs => simp only [e] at h; cases h; exact .base (.tup e)
      | dK xs => simp only [e] at h; cases h; exact .base (.dK e)
      | _ => simp only [e] at h; cases h
theorem kind_lst {H : Hp} {a : Addr} {xs : List V} (h : H a = some (.lst xs)) : kindOf H (.ref a) = some "list" := by
  unfold kindOf
  simp only [h]
theorem kind_tup {H : Hp} {a : Addr} {xs : List V} (h : H a = some (.tup xs)) : kindOf H (.ref a) = some "tuple" := by
  unfold kindOf
  simp only [h]

/-! ### steps of a reading -/
section
variable {K : PySem.W.Frag} {σ : L2.St} {H : Hp} {Q : VK} {nx bk ct : L2.St → Hp → Prop} {rt : VK}
theorem s_var {i : Nat} {v : V} (h : σ[i]? = some (some v)) (k : Q v H) : tVar i σ H Q := ⟨v, h, k⟩
theorem s_c {v : V} (k : Q v H) : tC v σ H Q := k
theorem s_op {r : R2} {ta tb : TE} (k : ta σ H fun x H1 => tb σ H1 fun y H2 => r x y H2 Q) : tOp r ta tb σ H Q := k
theorem s_un {r : V → Hp → VK → Prop} {ta : TE} (k : ta σ H fun x H1 => r x H1 Q) : tUn r ta σ H Q := k
theorem s_cb {r : List V → Hp → VK → Prop} {t : TA} (k : t σ H fun vs H1 => r vs H1 Q) : tCB r t σ H Q := k
theorem s_cl {sp : Sp} {E : XK} {t : TA} (k : t σ H fun vs H1 => sp vs H1 Q E) : tCl sp E t σ H Q := k
theorem s_cs {sp : Sp} {E : L2.St → XK} {t : TA} (k : t σ H fun vs H1 => sp vs H1 Q (E σ)) : tCallS sp E t σ H Q := k
theorem s_nil {R : List V → Hp → Prop} (k : R [] H) : tNil σ H R := k
theorem s_cons {ta : TE} {t : TA} {R : List V → Hp → Prop} (k : ta σ H fun x H1 => t σ H1 fun xs H2 => R (x :: xs) H2) : tCons ta t σ H R := k
theorem s_lst {t : TA} (k : t σ H fun xs H1 => xs.length ≤ sizeLine ∧ ∀ p, H1 p = none → Q (.ref p) (upd H1 p (.lst xs))) : tLst t σ H Q := k
theorem s_tup {t : TA} (k : t σ H fun xs H1 => xs.length ≤ sizeLine ∧ ∀ p, H1 p = none → Q (.ref p) (upd H1 p (.tup xs))) : tTup t σ H Q := k
theorem s_seq {t u : TS} (k : t ⟨u ⟨nx, rt, bk, ct⟩, rt, bk, ct⟩ σ H) : tSeq t u ⟨nx, rt, bk, ct⟩ σ H := k
theorem s_next (k : nx σ H) : tNext ⟨nx, rt, bk, ct⟩ σ H := k
theorem s_brk (k : bk σ H) : tBreak ⟨nx, rt, bk, ct⟩ σ H := k
theorem s_cont (k : ct σ H) : tCont ⟨nx, rt, bk, ct⟩ σ H := k
theorem s_drop {te : TE} (k : te σ H fun _ H1 => nx σ H1) : tDrop te ⟨nx, rt, bk, ct⟩ σ H := k
theorem s_ret {te : TE} (k : te σ H rt) : tRet te ⟨nx, rt, bk, ct⟩ σ H := k
theorem s_retN (k : rt .non H) : tRetN ⟨nx, rt, bk, ct⟩ σ H := k
theorem s_if {c : TT} {t u : TS} (k : c σ H fun b H1 => if b = true then t ⟨nx, rt, bk, ct⟩ σ H1 else u ⟨nx, rt, bk, ct⟩ σ H1) : tIfS c t u ⟨nx, rt, bk, ct⟩ σ H := k
theorem s_set {te : TE} {i : Nat} (k : te σ H fun x H1 => nx (σ.set i (some x)) H1) : tAsg te (gName i) ⟨nx, rt, bk, ct⟩ σ H := k
theorem s_asg {te : TE} {g : TG} (k : te σ H fun x H1 => g x σ H1 nx) : tAsg te g ⟨nx, rt, bk, ct⟩ σ H := k
theorem s_gname {v : V} {i : Nat} {R : L2.St → Hp → Prop} (k : R (σ.set i (some v)) H) : gName i v σ H R := k
theorem s_gsub {v : V} {to ti : TE} {t : TSet} {R : L2.St → Hp → Prop} (k : to σ H fun o H1 => ti σ H1 fun i H2 => t o i v H2 fun H3 => R σ H3) : gSub to ti t v σ H R := k
theorem s_aug {i : Nat} {te : TE} {ti : TIp} {x : V} (h : σ[i]? = some (some x)) (k : te σ H fun y H1 => ti x y H1 fun z H2 => nx (σ.set i (some z)) H2) : tAug i te ti ⟨nx, rt, bk, ct⟩ σ H := ⟨x, h, k⟩
theorem s_ipI {f : Int → Int → Int} {i j : Int} (k : Q (.int (f i j)) H) : ipI f (.int i) (.int j) H Q := ⟨i, j, rfl, rfl, k⟩
/-- while, by a word and a measure -/
theorem s_while {c : TT} {tb : TS} (Pv : L2.St → Hp → Prop) (m : L2.St → Hp → Nat) (h0 : Pv σ H)
    (h : ∀ n σ H, n = m σ H → Pv σ H → c σ H fun b H1 => if b = true then ∃ N : L2.St → Hp → Prop, (∀ σ' H', N σ' H' → ∃ m', m' < n ∧ (m' = m σ' H' ∧ Pv σ' H')) ∧ tb ⟨N, rt, nx, N⟩ σ H1 else nx σ H1) : tWhile c tb ⟨nx, rt, bk, ct⟩ σ H :=
  ⟨fun n σ H => n = m σ H ∧ Pv σ H, ⟨_, rfl, h0⟩, fun n σ H ⟨e, p⟩ => h n σ H e p⟩
theorem s_turn {tb : TS} {Pv : L2.St → Hp → Prop} {m : L2.St → Hp → Nat} {n : Nat} (k : tb ⟨fun σ' H' => Pv σ' H' ∧ m σ' H' < n, rt, nx, fun σ' H' => Pv σ' H' ∧ m σ' H' < n⟩ σ H) :
    ∃ N : L2.St → Hp → Prop, (∀ σ' H', N σ' H' → ∃ m', m' < n ∧ (m' = m σ' H' ∧ Pv σ' H')) ∧ tb ⟨N, rt, nx, N⟩ σ H :=
  ⟨_, fun _ _ q => ⟨_, q.2, rfl, q.1⟩, k⟩
/-- a for's loop, over what is walked -/
def LoopI (J : It) (g : TG) (tb : TS) (nx : L2.St → Hp → Prop) (rt : VK) (σ : L2.St) (H1 : Hp) : Prop := ∃ W : Nat → Nat → L2.St → Hp → Prop, (∃ m, W 0 m σ H1) ∧ ∀ i m σ H, W i m σ H →
  (J.stop i H ∧ nx σ H) ∨ (J.go i H ∧ ∃ N : L2.St → Hp → Prop, (∀ σ' H', N σ' H' → ∃ m', m' < m ∧ W (i + 1) m' σ' H') ∧ ∀ x H', J.yld i H x H' → g x σ H' fun σ2 H2 => tb ⟨N, rt, nx, N⟩ σ2 H2)
theorem s_for {wi : TI} {g : TG} {tb : TS} (k : wi σ H fun J H1 => LoopI J g tb nx rt σ H1) : tFor wi g tb ⟨nx, rt, bk, ct⟩ σ H := k
theorem s_iList {tl : TE} {R : It → Hp → Prop} (k : tl σ H fun x H1 => ∃ a, x = .ref a ∧ (∃ xs, SqL K H1 a xs) ∧ R (Itl K a) H1) : iList K tl σ H R := k
theorem s_iRng1 {t : TA} {R : It → Hp → Prop} (k : t σ H fun vs H1 => ∃ j : Int, vs = [.int j] ∧ -(2 ^ 62) ≤ j ∧ j < 2 ^ 62 ∧ R (Itr 0 j.toNat) H1) : iRng1 t σ H R := k
theorem s_iRng2 {t : TA} {R : It → Hp → Prop} (k : t σ H fun vs H1 => ∃ i j : Int, vs = [.int i, .int j] ∧ (-(2 ^ 62) ≤ i ∧ i < 2 ^ 62 ∧ -(2 ^ 62) ≤ j ∧ j < 2 ^ 62) ∧ R (Itr i (j - i).toNat) H1) : iRng2 t σ H R := k
theorem l_list {a : Addr} {xs : List V} {g : TG} {tb : TS} (hq : SqL K H a xs) (Pv : Nat → L2.St → Hp → Prop) (h0 : Pv 0 σ H) (hl : ∀ i σ H, i ≤ xs.length → Pv i σ H → SqL K H a xs)
    (hs : ∀ i x σ H, xs[i]? = some x → Pv i σ H → g x σ H fun σ2 H2 => tb ⟨Pv (i + 1), rt, nx, Pv (i + 1)⟩ σ2 H2) (hd : ∀ σ H, Pv xs.length σ H → nx σ H) :
    ∃ a', V.ref a = .ref a' ∧ (∃ xs, SqL K H a' xs) ∧ LoopI (Itl K a') g tb nx rt σ H :=
  ⟨a, rfl, ⟨_, hq⟩, for_list (K := K) (a := a) (xs := xs) (D := ⟨nx, rt, fun _ _ => False, fun _ _ => False⟩) Pv h0 hl hs hd⟩
theorem l_range1 {n : Int} {g : TG} {tb : TS} (b1 : -(2 ^ 62) ≤ n) (b2 : n < 2 ^ 62) (Pv : Nat → L2.St → Hp → Prop) (h0 : Pv 0 σ H)
    (hs : ∀ i σ H, i < n.toNat → Pv i σ H → g (.int (i : Nat)) σ H fun σ2 H2 => tb ⟨Pv (i + 1), rt, nx, Pv (i + 1)⟩ σ2 H2) (hd : ∀ σ H, Pv n.toNat σ H → nx σ H) :
    ∃ j : Int, [V.int n] = [.int j] ∧ -(2 ^ 62) ≤ j ∧ j < 2 ^ 62 ∧ LoopI (Itr 0 j.toNat) g tb nx rt σ H :=
  ⟨n, rfl, b1, b2, for_range (lo := 0) (D := ⟨nx, rt, fun _ _ => False, fun _ _ => False⟩) Pv h0 (fun i σ H l p => by rw [Int.zero_add]; exact hs i σ H l p) hd⟩
theorem l_range2 {lo hi : Int} {g : TG} {tb : TS} (b : -(2 ^ 62) ≤ lo ∧ lo < 2 ^ 62 ∧ -(2 ^ 62) ≤ hi ∧ hi < 2 ^ 62) (Pv : Nat → L2.St → Hp → Prop) (h0 : Pv 0 σ H)
    (hs : ∀ i σ H, i < (hi - lo).toNat → Pv i σ H → g (.int (lo + (i : Nat))) σ H fun σ2 H2 => tb ⟨Pv (i + 1), rt, nx, Pv (i + 1)⟩ σ2 H2) (hd : ∀ σ H, Pv (hi - lo).toNat σ H → nx σ H) :
    ∃ i j : Int, [V.int lo, V.int hi] = [.int i, .int j] ∧ (-(2 ^ 62) ≤ i ∧ i < 2 ^ 62 ∧ -(2 ^ 62) ≤ j ∧ j < 2 ^ 62) ∧ LoopI (Itr i (j - i).toNat) g tb nx rt σ H :=
  ⟨lo, hi, rfl, b, for_range (lo := lo) (D := ⟨nx, rt, fun _ _ => False, fun _ _ => False⟩) Pv h0 hs hd⟩
theorem s_sl {r : V → Option Int → Option Int → Hp → VK → Prop} {te : TE} {tl th : TO} (k : te σ H fun x H1 => tl σ H1 fun l H2 => th σ H2 fun u H3 => r x l u H3 Q) : tSl r te tl th σ H Q := k
theorem s_noPart {R : Option Int → Hp → Prop} (k : R none H) : tNoPart σ H R := k
theorem s_part {t : TE} {R : Option Int → Hp → Prop} (k : t σ H fun x H1 => ∃ i, x = .int i ∧ R (some i) H1) : tPart t σ H R := k
theorem s_exI {i : Int} {R : Int → Prop} (k : R i) : ∃ j, V.int i = .int j ∧ R j := ⟨i, rfl, k⟩
theorem s_slL {a : Addr} {xs : List V} {lo hi : Option Int} (h : SqL K H a xs) (k : ∀ p, H p = none → Q (.ref p) (upd H p (.lst (cutV xs lo hi)))) : rSlL K (.ref a) lo hi H Q := ⟨a, xs, rfl, h, k⟩
-- tests
theorem s_test {t : TE} {R : Bool → Hp → Prop} (k : t σ H fun x H' => ∃ b, x = .bl b ∧ R b H') : tTest t σ H R := k
theorem s_tb {t : TE} {R : Bool → Hp → Prop} (k : t σ H fun x H' => ∃ b, x = .bl b ∧ R b H') : tB t σ H R := k
theorem s_bl {b : Bool} {R : Bool → Prop} (k : R b) : ∃ c, V.bl b = .bl c ∧ R c := ⟨b, rfl, k⟩
theorem s_and {t u : TT} {R : Bool → Hp → Prop} (k : t σ H fun c H1 => if c = true then u σ H1 R else R false H1) : tAnd t u σ H R := k
theorem s_or {t u : TT} {R : Bool → Hp → Prop} (k : t σ H fun c H1 => if c = true then R true H1 else u σ H1 R) : tOr t u σ H R := k
theorem s_not {t : TT} {R : Bool → Hp → Prop} (k : t σ H fun c H1 => R (!c) H1) : tNot t σ H R := k
theorem s_andV {ta tb : TE} (k : ta σ H fun x H1 => ∃ c, x = .bl c ∧ if c = true then tb σ H1 Q else Q (.bl false) H1) : tAndV ta tb σ H Q := k
theorem s_orV {ta tb : TE} (k : ta σ H fun x H1 => ∃ c, x = .bl c ∧ if c = true then Q (.bl true) H1 else tb σ H1 Q) : tOrV ta tb σ H Q := k
theorem s_notV {ta : TE} (k : ta σ H fun x H1 => ∃ c, x = .bl c ∧ Q (.bl (!c)) H1) : tNotV ta σ H Q := k
theorem s_ifE {t : TT} {ta tb : TE} (k : t σ H fun c H1 => if c = true then ta σ H1 Q else tb σ H1 Q) : tIf t ta tb σ H Q := k
theorem s_chain {r r' : R2} {ta tb tc : TE} (k : ta σ H fun x H1 => tb σ H1 fun y H2 => r x y H2 fun z H3 => ∃ k, z = .bl k ∧ (if k = true then tc σ H3 fun w' H4 => r' y w' H4 Q else Q (.bl false) H3)) : tChain r r' ta tb tc σ H Q := k
-- by values
theorem s_addI {i j : Int} (k : Q (.int (i + j)) H) : rAddA (.int i) (.int j) H Q := .inl ⟨i, j, rfl, rfl, k⟩
theorem s_addL {a b : Addr} {xs ys : List V} (ha : H a = some (.lst xs)) (hb : H b = some (.lst ys)) (hl : xs.length + ys.length ≤ sizeLine) (k : ∀ p, H p = none → Q (.ref p) (upd H p (.lst (xs ++ ys)))) : rAddA (.ref a) (.ref b) H Q := .inr ⟨a, b, xs, ys, rfl, rfl, ha, hb, hl, k⟩
theorem s_subI {i j : Int} (k : Q (.int (i - j)) H) : rSubA (.int i) (.int j) H Q := ⟨i, j, rfl, rfl, k⟩
theorem s_mulI {i j : Int} (h : CMul i j) (k : Q (.int (i * j)) H) : rMulA (.int i) (.int j) H Q := .inl ⟨i, j, rfl, rfl, h, k⟩
theorem s_mulL {a : Addr} {xs : List V} {n : Int} (ha : H a = some (.lst xs)) (h1 : -(2 ^ 63) ≤ n) (h2 : n < 2 ^ 63) (h3 : xs.length * n.toNat ≤ sizeLine) (k : ∀ p, H p = none → Q (.ref p) (upd H p (.lst (List.replicate n.toNat xs).flatten))) : rMulA (.ref a) (.int n) H Q := .inr ⟨a, n, xs, rfl, rfl, ha, h1, h2, h3, k⟩
theorem s_modI {i j : Int} (h : 0 < j) (k : Q (.int (i % j)) H) : rModA (.int i) (.int j) H Q := ⟨i, j, rfl, rfl, h, k⟩
theorem s_divI {i j : Int} (h : CDiv i j) (k : Q (.int (i / j)) H) : rDivA (.int i) (.int j) H Q := ⟨i, j, rfl, rfl, h, k⟩
theorem s_powI {i j : Int} (h : CPow i j) (k : Q (.int (i ^ j.toNat)) H) : rPowA (.int i) (.int j) H Q := ⟨i, j, rfl, rfl, h, k⟩
theorem s_ltI {i j : Int} (k : Q (.bl (decide (i < j))) H) : rLtA (.int i) (.int j) H Q := ⟨i, j, rfl, rfl, k⟩
theorem s_leI {i j : Int} (k : Q (.bl (decide (i ≤ j))) H) : rLeA (.int i) (.int j) H Q := ⟨i, j, rfl, rfl, k⟩
theorem s_gtI {i j : Int} (k : Q (.bl (decide (j < i))) H) : rGtA (.int i) (.int j) H Q := ⟨i, j, rfl, rfl, k⟩
theorem s_geI {i j : Int} (k : Q (.bl (decide (j ≤ i))) H) : rGeA (.int i) (.int j) H Q := ⟨i, j, rfl, rfl, k⟩
theorem dI {i j : Int} : decide (V.int i = V.int j) = decide (i = j) := by
  by_cases h : i = j
  · subst h; simp
  · rw [decide_eq_false h, decide_eq_false fun z => h (V.int.inj z)]
theorem dB {i j : Bool} : decide (V.bl i = V.bl j) = decide (i = j) := by
  by_cases h : i = j
  · subst h; simp
  · rw [decide_eq_false h, decide_eq_false fun z => h (V.bl.inj z)]
theorem s_eqI {i j : Int} (k : Q (.bl (decide (i = j))) H) : rEqA K (.int i) (.int j) H Q := .inl ⟨rfl, by rw [dI]; exact k⟩
theorem s_neI {i j : Int} (k : Q (.bl (!decide (i = j))) H) : rNeA K (.int i) (.int j) H Q := .inl ⟨rfl, by rw [dI]; exact k⟩
theorem s_eqB {i j : Bool} (k : Q (.bl (decide (i = j))) H) : rEqA K (.bl i) (.bl j) H Q := .inl ⟨rfl, by rw [dB]; exact k⟩
theorem s_neB {i j : Bool} (k : Q (.bl (!decide (i = j))) H) : rNeA K (.bl i) (.bl j) H Q := .inl ⟨rfl, by rw [dB]; exact k⟩
theorem s_isN {x : V} (k : Q (.bl (decide (x = .non))) H) : rIsNA x .non H Q := ⟨rfl, k⟩
theorem s_notN {x : V} (k : Q (.bl (!decide (x = .non))) H) : rNotNA x .non H Q := ⟨rfl, k⟩
theorem s_isB {i j : Bool} (k : Q (.bl (decide (i = j))) H) : rIsB (.bl i) (.bl j) H Q := ⟨i, j, rfl, rfl, k⟩
theorem s_notB {i j : Bool} (k : Q (.bl (!decide (i = j))) H) : rNotB (.bl i) (.bl j) H Q := ⟨i, j, rfl, rfl, k⟩
theorem s_neg {i : Int} (k : Q (.int (-i)) H) : rU (fun i => .int (-i)) (.int i) H Q := ⟨i, rfl, k⟩
theorem s_isi {x : V} {n c : String} {b : Bool} (h : kindOf H x = some n) (hb : kitB n c = some b) (k : Q (.bl b) H) : rIsi K [x, .ty c] H Q :=
  ⟨x, .ty c, .type n, .type c, b, rfl, .ty c, kindOf_tyx h, kit_ty hb, k⟩
theorem s_lenL {a : Addr} {xs : List V} (h : SqL K H a xs) (k : Q (.int (xs.length : Nat)) H) : rLen K [.ref a] H Q := ⟨.ref a, xs.length, rfl, .inl ⟨xs, h, rfl⟩, k⟩
theorem s_lenT {a : Addr} {xs : List V} (h : SqT K H a xs) (k : Q (.int (xs.length : Nat)) H) : rLen K [.ref a] H Q := ⟨.ref a, xs.length, rfl, .inr ⟨xs, h, rfl⟩, k⟩
theorem s_max2 {i j : Int} (k : Q (.int (if j > i then j else i)) H) : rMax2 [.int i, .int j] H Q := ⟨i, j, rfl, k⟩
theorem s_min2 {i j : Int} (k : Q (.int (if j < i then j else i)) H) : rMin2 [.int i, .int j] H Q := ⟨i, j, rfl, k⟩
theorem s_ixL {a : Addr} {xs : List V} {i : Int} {v : V} (h : SqL K H a xs) (e : atI xs i = some v) (k : Q v H) : rIx K (.ref a) (.int i) H Q := .inl ⟨a, xs, i, v, rfl, rfl, h, e, k⟩
theorem s_ixT {a : Addr} {xs : List V} {i : Int} {v : V} (h : SqT K H a xs) (e : atI xs i = some v) (k : Q v H) : rIx K (.ref a) (.int i) H Q := .inr (.inl ⟨a, xs, i, v, rfl, rfl, h, e, k⟩)
theorem s_setL {a : Addr} {xs : List V} {i : Int} {j : Nat} {v : V} {R : Hp → Prop} (h : H a = some (.lst xs)) (e : ixN xs.length i = some j) (k : R (upd H a (.lst (xs.set j v)))) : rSetL (.ref a) (.int i) v H R := ⟨a, xs, i, j, rfl, rfl, h, e, k⟩
theorem s_listL {a : Addr} {xs : List V} (h : SqL K H a xs) (k : ∀ l, H l = none → Q (.ref l) (upd H l (.lst xs))) : rListOf K [.ref a] H Q := ⟨a, xs, rfl, .inl h, k⟩
theorem s_listT {a : Addr} {xs : List V} (h : SqT K H a xs) (k : ∀ l, H l = none → Q (.ref l) (upd H l (.lst xs))) : rListOf K [.ref a] H Q := ⟨a, xs, rfl, .inr h, k⟩
end

/-! ### heaps: what is kept -/
/-- all but the tape is as it was -/
def Ext (tp : Addr) (H H' : Hp) : Prop := ∀ b o, b ≠ tp → H b = some o → H' b = some o
theorem Ext.refl (tp : Addr) (H : Hp) : Ext tp H H := fun _ _ _ h => h
theorem Ext.trans {tp : Addr} {H H1 H2 : Hp} (a : Ext tp H H1) (b : Ext tp H1 H2) : Ext tp H H2 := fun c o n h => b c o n (a c o n h)
theorem Same.ext {H H' : Hp} (s : L2.Same H H') (tp : Addr) : Ext tp H H' := fun b o _ h => s b o h
theorem Ext.upd {tp : Addr} {H : Hp} {o : HO} : Ext tp H (upd H tp o) := fun b _ n h => by rw [upd_ne n]; exact h
theorem same_new {H : Hp} {p : Addr} {o : HO} (h : H p = none) : L2.Same H (upd H p o) := fun b x e => by
  rw [upd_ne (ne_of_none e h)]
  exact e
/-- the tape: one number, with room for n draws more -/
def Tape (H : Hp) (tp : Addr) (n : Nat) : Prop := ∃ t : Int, 0 ≤ t ∧ t + n ≤ 2 ^ 60 ∧ H tp = some (.lst [.int t])
theorem Tape.mono {H : Hp} {tp : Addr} {m n : Nat} (h : Tape H tp n) (l : m ≤ n) : Tape H tp m := by
  obtain ⟨t, a, b, c⟩ := h
  exact ⟨t, a, by omega, c⟩
theorem Tape.same {H H' : Hp} {tp : Addr} {n : Nat} (h : Tape H tp n) (s : L2.Same H H') : Tape H' tp n := by
  obtain ⟨t, a, b, c⟩ := h
  exact ⟨t, a, b, s _ _ c⟩
/-- a list that nobody writes: the script -/
def RO (K : PySem.W.Frag) (H : Hp) (a : Addr) (xs : List V) : Prop :=
  (∃ o, H a = some (.frz o (.lst xs))) ∨
    ∃ (o : Obj) (its : Array Value) (n : Nat), K.lookup a = some o ∧ o.cls = .type "list" ∧ o.dict = none ∧ o.data = .seq its n ∧ its.size ≤ sizeLine ∧ Vals xs its.toList
theorem RO.seq {K : PySem.W.Frag} {H : Hp} {a : Addr} {xs : List V} (h : RO K H a xs) : SqL K H a xs := by
  rcases h with ⟨o, h⟩ | h
  · exact .inl (.inr ⟨o, h⟩)
  · exact .inr h
theorem RO.ext {K : PySem.W.Frag} {H H' : Hp} {a tp : Addr} {xs ys : List V} (h : RO K H a xs) (e : Ext tp H H') (t : H tp = some (.lst ys)) : RO K H' a xs := by
  rcases h with ⟨o, h⟩ | h
  · exact .inl ⟨o, e _ _ (ne_of h t (fun z => nomatch z)) h⟩
  · exact .inr h
theorem RO.same {K : PySem.W.Frag} {H H' : Hp} {a : Addr} {xs : List V} (h : RO K H a xs) (e : L2.Same H H') : RO K H' a xs := by
  rcases h with ⟨o, h⟩ | h
  · exact .inl ⟨o, e _ _ h⟩
  · exact .inr h
/-- the script -/
def Scr (K : PySem.W.Frag) (H : Hp) (a : Addr) : Prop := ∃ ns : List Int, RO K H a (ns.map V.int) ∧ ns.length ≤ 63
theorem Scr.ext {K : PySem.W.Frag} {H H' : Hp} {a tp : Addr} {n : Nat} (h : Scr K H a) (e : Ext tp H H') (t : Tape H tp n) : Scr K H' a := by
  obtain ⟨ns, r, l⟩ := h
  obtain ⟨_, _, _, c⟩ := t
  exact ⟨ns, r.ext e c, l⟩
theorem Scr.same {K : PySem.W.Frag} {H H' : Hp} {a : Addr} (h : Scr K H a) (e : L2.Same H H') : Scr K H' a := by
  obtain ⟨ns, r, l⟩ := h
  exact ⟨ns, r.same e, l⟩
/-- a value of a known kind -/
def Kn (H : Hp) (x : V) : Prop := match x with
  | .ref a => (∃ xs, H a = some (.lst xs)) ∨ (∃ xs, H a = some (.tup xs)) ∨ ∃ kvs, H a = some (.dK kvs)
  | .byt _ | .flt _ | .ty _ => False
  | _ => True
theorem Kn.int {H : Hp} (i : Int) : Kn H (.int i) := trivial
theorem Kn.same {H H' : Hp} {x : V} (h : Kn H x) (s : L2.Same H H') : Kn H' x := by
  cases x with
  | ref a =>
    rcases h with ⟨xs, h⟩ | ⟨xs, h⟩ | ⟨xs, h⟩
    · exact .inl ⟨xs, s _ _ h⟩
    · exact .inr (.inl ⟨xs, s _ _ h⟩)
    · exact .inr (.inr ⟨xs, s _ _ h⟩)
  | _ => exact h
theorem Kn.ext {H H' : Hp} {x : V} {tp : Addr} {n : Nat} (h : Kn H x) (s : Ext tp H H') (t' : Tape H' tp n) : Kn H' x := by
  cases x with
  | ref a =>
    by_cases ha : a = tp
    · subst ha
      obtain ⟨t, _, _, c⟩ := t'
      exact .inl ⟨_, c⟩
    · rcases h with ⟨xs, h⟩ | ⟨xs, h⟩ | ⟨xs, h⟩
      · exact .inl ⟨xs, s _ _ ha h⟩
      · exact .inr (.inl ⟨xs, s _ _ ha h⟩)
      · exact .inr (.inr ⟨xs, s _ _ ha h⟩)
  | _ => exact h
def isI : V → Bool
  | .int _ => true
  | .bl _ => true
  | _ => false
def isB : V → Bool
  | .bl _ => true
  | _ => false
theorem Kn.isi_int {K : PySem.W.Frag} {H : Hp} {x : V} {Q : VK} (h : Kn H x) (k : Q (.bl (isI x)) H) : rIsi K [x, .ty "int"] H Q := by
  cases x with
  | non => exact s_isi (n := "NoneType") rfl (show kitB "NoneType" "int" = some false by decide +kernel) k
  | bl b => exact s_isi (n := "bool") rfl (show kitB "bool" "int" = some true by decide +kernel) k
  | int i => exact s_isi (n := "int") rfl (show kitB "int" "int" = some true by decide +kernel) k
  | str y => exact s_isi (n := "str") rfl (show kitB "str" "int" = some false by decide +kernel) k
  | ref a =>
    rcases h with ⟨xs, h⟩ | ⟨xs, h⟩ | ⟨xs, h⟩
    · exact s_isi (kind_lst h) (show kitB "list" "int" = some false by decide +kernel) k
    · exact s_isi (kind_tup h) (show kitB "tuple" "int" = some false by decide +kernel) k
    · exact s_isi (n := "dict") (by unfold kindOf; simp only [h]) (show kitB "dict" "int" = some false by decide +kernel) k
  | byt b => exact h.elim
  | flt b => exact h.elim
  | ty b => exact h.elim
theorem Kn.isi_bool {K : PySem.W.Frag} {H : Hp} {x : V} {Q : VK} (h : Kn H x) (k : Q (.bl (isB x)) H) : rIsi K [x, .ty "bool"] H Q := by
  cases x with
  | non => exact s_isi (n := "NoneType") rfl (show kitB "NoneType" "bool" = some false by decide +kernel) k
  | bl b => exact s_isi (n := "bool") rfl (show kitB "bool" "bool" = some true by decide +kernel) k
  | int i => exact s_isi (n := "int") rfl (show kitB "int" "bool" = some false by decide +kernel) k
  | str y => exact s_isi (n := "str") rfl (show kitB "str" "bool" = some false by decide +kernel) k
  | ref a =>
    rcases h with ⟨xs, h⟩ | ⟨xs, h⟩ | ⟨xs, h⟩
    · exact s_isi (kind_lst h) (show kitB "list" "bool" = some false by decide +kernel) k
    · exact s_isi (kind_tup h) (show kitB "tuple" "bool" = some false by decide +kernel) k
    · exact s_isi (n := "dict") (by unfold kindOf; simp only [h]) (show kitB "dict" "bool" = some false by decide +kernel) k
  | byt b => exact h.elim
  | flt b => exact h.elim
  | ty b => exact h.elim

/-! ### the law's own promise, and its ends -/
def sp_law (K : PySem.W.Frag) : Sp := fun vs H Q _ => ∃ a, vs = [.ref a] ∧ Scr K H a ∧ ∀ H', Q (.bl true) H'
theorem len_law {K : PySem.W.Frag} (vs : List V) (H : Hp) (Q : VK) (E : XK) (h : sp_law K vs H Q E) : vs.length = 1 := by
  obtain ⟨a, rfl, _⟩ := h
  rfl
theorem law_start {K : PySem.W.Frag} {H : Hp} {a : Addr} {ns : List Int} (hl : ns.length ≤ 63) (hO : Only H) (hS : SqL K H a (ns.map V.int)) : sp_law K [.ref a] H (fun v _ => v = .bl true) fun _ _ _ => False := by
  refine ⟨a, rfl, ⟨ns, ?_, hl⟩, fun _ => rfl⟩
  rcases hS with (h | ⟨o, h⟩) | h
  · rcases hO a with z | ⟨o, xs, z⟩
    · rw [z] at h; cases h
    · rw [z] at h; cases h
  · exact .inl ⟨o, h⟩
  · exact .inr h
theorem law_cx {P : Program} {w : World} {H : Hp} {s : Shared} {e : Value} {s' : Shared} (h : L2.CX P w [] H s (fun _ _ _ => False) e s') : False := by
  obtain ⟨_, _, _, _, _, _, _, _, _, _, _, _, z⟩ := h
  exact z.elim
theorem law_fn {P : Program} {w : World} {K : PySem.W.Frag} {mg : Str → Option Value} {base : Heap} {k : Nat} {x : Str} {ps : List Str} {sp : Sp} {f : Addr} {fd : FuncData} {oc : Value} {od : Option Addr} {osl : Array (Option Value)}
    (G : Good P w K mg base k x ps sp) (g : mg x = some (.ref f)) (l : K.lookup f = some ⟨oc, od, .func fd, osl⟩) : FnOk P w K mg base (L2.CX P w) k f fd ps sp := by
  obtain ⟨f', fd', ⟨_, _, _, l'⟩, g', _, _, F⟩ := G
  have e := g.symm.trans g'
  cases e
  rw [l] at l'
  cases l'
  exact F
/-! ### what ifs ask -/
theorem z_if {c A B : Prop} [Decidable c] (h1 : c → A) (h2 : ¬ c → B) : if decide c = true then A else B := by
  by_cases h : c
  · rw [if_pos (decide_eq_true h)]; exact h1 h
  · rw [if_neg (by rw [decide_eq_false h]; exact Bool.false_ne_true)]; exact h2 h
theorem z_ifN {c A B : Prop} [Decidable c] (h1 : ¬ c → A) (h2 : c → B) : if (!decide c) = true then A else B := by
  by_cases h : c
  · rw [if_neg (by rw [decide_eq_true h]; exact Bool.false_ne_true)]; exact h2 h
  · rw [if_pos (by rw [decide_eq_false h]; rfl)]; exact h1 h
theorem z_ifB {b : Bool} {A B : Prop} (h1 : b = true → A) (h2 : b = false → B) : if b = true then A else B := by
  cases b with
  | true => rw [if_pos rfl]; exact h1 rfl
  | false => rw [if_neg Bool.false_ne_true]; exact h2 rfl
theorem z_ifNB {b : Bool} {A B : Prop} (h1 : b = false → A) (h2 : b = true → B) : if (!b) = true then A else B := by
  cases b with
  | false => exact (if_pos (show (!false) = true from rfl)).mpr (h1 rfl)
  | true => exact (if_neg (show ¬ (!true) = true from Bool.false_ne_true)).mpr (h2 rfl)

/-! ### lists of ints -/
theorem ints_at {ns : List Int} {i : Nat} {x : V} (h : (ns.map V.int)[i]? = some x) : ∃ z, x = .int z ∧ ns[i]? = some z := by
  rw [List.getElem?_map] at h
  cases e : ns[i]? with
  | none => rw [e] at h; cases h
  | some z => rw [e] at h; exact ⟨z, (Option.some.inj h).symm, rfl⟩
theorem ints_get {ns : List Int} {i : Nat} {z : Int} (h : ns[i]? = some z) : (ns.map V.int)[i]? = some (.int z) := by
  rw [List.getElem?_map, h]
  rfl
theorem atI_ints {ns : List Int} {i : Int} (h0 : 0 ≤ i) (h1 : i < ns.length) : ∃ z, atI (ns.map V.int) i = some (.int z) ∧ ns[i.toNat]? = some z := by
  have hl : i.toNat < ns.length := by omega
  refine ⟨ns[i.toNat], ?_, List.getElem?_eq_getElem hl⟩
  have e : i = ((i.toNat : Nat) : Int) := (Int.toNat_of_nonneg h0).symm
  have := atI_nat (ints_get (List.getElem?_eq_getElem hl))
  rw [← e] at this
  exact this
theorem atI_lit {xs : List V} {v : V} (j : Nat) {i : Int} (e : i = (j : Int)) (h : xs[j]? = some v) : atI xs i = some v := by
  rw [e]
  exact atI_nat h
theorem ixN_lit {n j : Nat} {i : Int} (e : i = (j : Int)) (h : j < n) : ixN n i = some j := by
  subst e
  unfold ixN
  rw [if_pos (by omega), if_pos (by omega), Int.toNat_natCast]

/-- the whole number that stands in a slot -/
def slotN (σ : L2.St) (i : Nat) : Nat := match σ[i]? with
  | some (some (V.int m)) => m.toNat
  | _ => 0
end Z

namespace K01
open PySem PySem.Spec PyProof.Rows L2 Z
/-! ### the text by places -/
def top (i : Nat) : Stmt := PySem.Challenge.pw_partshare_k01_primes_and_rests.main.body.getD i (.Pass ⟨0, 0, 0, 0⟩)
abbrev s_is_whole : Stmt := top 7
abbrev N_is_whole : List Str := ["thing"]
abbrev s_is_prime : Stmt := top 8
abbrev N_is_prime : List Str := ["thing", "divisor"]
abbrev s_is_rest : Stmt := top 9
abbrev N_is_rest : List Str := ["p", "thing"]
abbrev s_check_prime : Stmt := top 10
abbrev N_check_prime : List Str := ["p"]
abbrev s_check_rest : Stmt := top 11
abbrev N_check_rest : List Str := ["p", "thing"]
abbrev s_power : Stmt := top 13
abbrev N_power : List Str := ["p", "rest", "often", "told", "square"]
abbrev s_turned : Stmt := top 12
abbrev N_turned : List Str := ["p", "rest"]
abbrev s__law_draw : Stmt := top 15
abbrev N__law_draw : List Str := ["_law_script", "_law_tape", "_law_many", "_law_seed", "_law_cell"]
abbrev s__law_is_prime : Stmt := top 16
abbrev N__law_is_prime : List Str := ["_law_number", "_law_divisor"]
abbrev s__law_prime : Stmt := top 17
abbrev N__law_prime : List Str := ["_law_script", "_law_tape", "_law_way", "_law_number"]
abbrev s__law_is_rest : Stmt := top 18
abbrev N__law_is_rest : List Str := ["_law_found", "_law_p"]
abbrev s__law_thing : Stmt := top 19
abbrev N__law_thing : List Str := ["_law_script", "_law_tape", "_law_way"]
abbrev s__law_due : Stmt := top 20
abbrev N__law_due : List Str := ["_law_thing_here"]
abbrev s__law_refused : Stmt := top 21
abbrev N__law_refused : List Str := ["_law_p"]
abbrev s_law : Stmt := top 22
abbrev N_law : List Str := ["_law_script", "_law_tape", "_law_thing_here", "_law_p", "_law_rest", "_law_told", "_law_found"]
/-- the classes of the text -/
structure Cls where
  ShareError : Addr
  NoPrime : Addr
  BadRest : Addr

def sp_is_whole : Sp := fun vs H Q _ => ∃ x, vs = [x] ∧ Kn H x ∧ Q (.bl (isI x && !isB x)) H
theorem len_is_whole (vs : List V) (H : Hp) (Q : VK) (E : XK) (h : sp_is_whole vs H Q E) : vs.length = 1 := by
  obtain ⟨x, rfl, _⟩ := h
  rfl

/-- i is a prime from 3 to 9973 -/
def Pr (i : Int) : Prop := 3 ≤ i ∧ i ≤ 9973 ∧ IsP i.toNat
def PrV : V → Prop
  | .int i => Pr i
  | _ => False
def sp_is_prime : Sp := fun vs H Q _ => ∃ x, vs = [x] ∧ Kn H x ∧ ∀ b : Bool, (b = true ↔ PrV x) → Q (.bl b) H
theorem len_is_prime (vs : List V) (H : Hp) (Q : VK) (E : XK) (h : sp_is_prime vs H Q E) : vs.length = 1 := by
  obtain ⟨x, rfl, _⟩ := h
  rfl
theorem notP {x : V} (h : (isI x && !isB x) = false) : ¬ PrV x := by
  cases x with
  | int i => cases h
  | _ => exact fun z => z
theorem isInt_of {x : V} (h : (isI x && !isB x) = true) : ∃ i, x = .int i := by
  cases x with
  | int i => exact ⟨i, rfl⟩
  | _ => cases h
theorem int_dvd {i d : Int} (hi : 0 ≤ i) (hd : 0 ≤ d) (h : i % d = 0) : i.toNat % d.toNat = 0 := by
  have e1 : ((i.toNat : Nat) : Int) = i := Int.toNat_of_nonneg hi
  have e2 : ((d.toNat : Nat) : Int) = d := Int.toNat_of_nonneg hd
  have : ((i.toNat % d.toNat : Nat) : Int) = 0 := by rw [Int.natCast_emod, e1, e2]; exact h
  omega
theorem int_ndvd {i : Int} {d : Nat} (hi : 0 ≤ i) (h : i % (d : Int) ≠ 0) : i.toNat % d ≠ 0 := fun z => by
  apply h
  have e1 : ((i.toNat : Nat) : Int) = i := Int.toNat_of_nonneg hi
  have : ((i.toNat % d : Nat) : Int) = 0 := by rw [z]; rfl
  rw [Int.natCast_emod, e1] at this
  exact this

def RestV (p : Int) : V → Prop
  | .int i => 0 ≤ i ∧ i < p
  | _ => False
def sp_is_rest : Sp := fun vs H Q _ => ∃ (p : Int) (x : V), vs = [.int p, x] ∧ Kn H x ∧ ∀ b : Bool, (b = true ↔ RestV p x) → Q (.bl b) H
theorem len_is_rest (vs : List V) (H : Hp) (Q : VK) (E : XK) (h : sp_is_rest vs H Q E) : vs.length = 2 := by
  obtain ⟨p, x, rfl, _⟩ := h
  rfl
theorem notR {p : Int} {x : V} (h : (isI x && !isB x) = false) : ¬ RestV p x := by
  cases x with
  | int i => cases h
  | _ => exact fun z => z

def sp_check_prime (C : Addr) : Sp := fun vs H Q E => ∃ x, vs = [x] ∧ Kn H x ∧ (PrV x → Q .non H) ∧ (¬ PrV x → E (.ref C) none H)
theorem len_check_prime {C : Addr} (vs : List V) (H : Hp) (Q : VK) (E : XK) (h : sp_check_prime C vs H Q E) : vs.length = 1 := by
  obtain ⟨x, rfl, _⟩ := h
  rfl

def sp_check_rest (C : Addr) : Sp := fun vs H Q E => ∃ (p : Int) (x : V), vs = [.int p, x] ∧ Kn H x ∧ (RestV p x → Q .non H) ∧ (¬ RestV p x → E (.ref C) none H)
theorem len_check_rest {C : Addr} (vs : List V) (H : Hp) (Q : VK) (E : XK) (h : sp_check_rest C vs H Q E) : vs.length = 2 := by
  obtain ⟨p, x, rfl, _⟩ := h
  rfl

def sp_power : Sp := fun vs H Q _ => ∃ (p r n : Nat), vs = [.int (p : Int), .int (r : Int), .int (n : Int)] ∧ 2 ≤ p ∧ p ≤ 9973 ∧ r < p ∧ Q (.int ((r ^ n % p : Nat) : Int)) H
theorem len_power (vs : List V) (H : Hp) (Q : VK) (E : XK) (h : sp_power vs H Q E) : vs.length = 3 := by
  obtain ⟨p, r, n, rfl, _⟩ := h
  rfl
theorem pow_half (x n : Nat) : x ^ n = x ^ (n % 2) * (x * x) ^ (n / 2) := by
  have e : n = n % 2 + 2 * (n / 2) := by omega
  have e2 : (x * x) ^ (n / 2) = x ^ (2 * (n / 2)) := by rw [Nat.pow_mul, Nat.pow_two]
  rw [e2, ← Nat.pow_add, ← e]
theorem pow_step {p t s n x : Nat} (h : (t * s ^ n) % p = x) : ((if n % 2 = 1 then t * s % p else t) * (s * s % p) ^ (n / 2)) % p = x := by
  rw [← h, pow_half s n]
  have hs : ((s * s % p) ^ (n / 2)) % p = ((s * s) ^ (n / 2)) % p := (Nat.pow_mod _ _ _).symm
  rcases Nat.mod_two_eq_zero_or_one n with e | e
  · rw [e, if_neg (by omega), Nat.pow_zero, Nat.one_mul, Nat.mul_mod, hs, ← Nat.mul_mod]
  · rw [e, if_pos rfl, Nat.pow_one, Nat.mul_mod, Nat.mod_mod, hs, ← Nat.mul_mod, Nat.mul_assoc]
theorem castmod (a p : Nat) : (a : Int) % (p : Int) = ((a % p : Nat) : Int) := (Int.natCast_emod a p).symm
theorem castmul (a b : Nat) : (a : Int) * (b : Int) = ((a * b : Nat) : Int) := (Int.natCast_mul a b).symm
theorem castdiv (a b : Nat) : (a : Int) / (b : Int) = ((a / b : Nat) : Int) := (Int.natCast_ediv a b).symm
theorem mul_small {a b p : Nat} (hp : p ≤ 9973) (ha : a < p) (hb : b < p) : a * b < 2 ^ 40 := by
  have : a * b ≤ 9973 * 9973 := Nat.mul_le_mul (by omega) (by omega)
  omega

def sp_turned (Cp Cr : Addr) : Sp := fun vs H Q E => ∃ x y, vs = [x, y] ∧ Kn H x ∧ Kn H y ∧ (¬ PrV x → E (.ref Cp) none H) ∧ ∀ p : Int, x = .int p → Pr p →
  ((¬ ∃ r : Int, y = .int r ∧ 0 < r ∧ r < p) → E (.ref Cr) none H) ∧ ∀ r : Int, y = .int r → 0 < r → r < p → ∀ t : Int, 0 ≤ t → t < p → r * t % p = 1 → Q (.int t) H
theorem len_turned {Cp Cr : Addr} (vs : List V) (H : Hp) (Q : VK) (E : XK) (h : sp_turned Cp Cr vs H Q E) : vs.length = 2 := by
  obtain ⟨x, y, rfl, _⟩ := h
  rfl
theorem PrV.int {x : V} (h : PrV x) : ∃ p, x = .int p ∧ Pr p := by
  cases x with
  | int p => exact ⟨p, rfl, h⟩
  | _ => exact h.elim
theorem RestV.int {p : Int} {x : V} (h : RestV p x) : ∃ r, x = .int r ∧ 0 ≤ r ∧ r < p := by
  cases x with
  | int r => exact ⟨r, rfl, h⟩
  | _ => exact h.elim
theorem turned_ok {p r : Nat} (hp : IsP p) (h0 : 0 < r) (h1 : r < p) : r * (r ^ (p - 2) % p) % p = 1 := by
  have e : p - 1 = (p - 2) + 1 := by have := hp.1; omega
  rw [Nat.mul_mod, Nat.mod_mod, ← Nat.mul_mod, Nat.mul_comm, ← Nat.pow_succ, Nat.succ_eq_add_one, ← e]
  exact fermat hp h0 h1

def sp_draw (K : PySem.W.Frag) : Sp := fun vs H Q _ => ∃ (sc tp : Addr) (m : Int) (n : Nat), vs = [.ref sc, .ref tp, .int m] ∧ Scr K H sc ∧ Tape H tp (n + 1) ∧ 0 < m ∧
  ∀ (r : Int) (H' : Hp), 0 ≤ r → r < m → Ext tp H H' → Tape H' tp n → Q (.int r) H'
theorem len__law_draw {K : PySem.W.Frag} (vs : List V) (H : Hp) (Q : VK) (E : XK) (h : sp_draw K vs H Q E) : vs.length = 3 := by
  obtain ⟨sc, tp, m, n, rfl, _⟩ := h
  rfl

def sp_lprime : Sp := fun vs H Q _ => ∃ i : Int, vs = [.int i] ∧ 2 ≤ i ∧ i ≤ 10200 ∧ ∀ b : Bool, (b = true ↔ IsP i.toNat) → Q (.bl b) H
theorem len__law_is_prime (vs : List V) (H : Hp) (Q : VK) (E : XK) (h : sp_lprime vs H Q E) : vs.length = 1 := by
  obtain ⟨i, rfl, _⟩ := h
  rfl

def sp_prime (K : PySem.W.Frag) : Sp := fun vs H Q _ => ∃ (sc tp : Addr) (n : Nat), vs = [.ref sc, .ref tp] ∧ Scr K H sc ∧ Tape H tp (n + 2) ∧
  ∀ (p : Int) (H' : Hp), Pr p → Ext tp H H' → Tape H' tp n → Q (.int p) H'
theorem len__law_prime {K : PySem.W.Frag} (vs : List V) (H : Hp) (Q : VK) (E : XK) (h : sp_prime K vs H Q E) : vs.length = 2 := by
  obtain ⟨sc, tp, n, rfl, _⟩ := h
  rfl
theorem small_prime {p : Nat} (h2 : 2 ≤ p) (h : ∀ d, d < p → 2 ≤ d → p % d ≠ 0) : IsP p := ⟨h2, fun d a b => h d b a⟩
theorem pr_of {p : Int} (h : p = 3 ∨ p = 5 ∨ p = 7 ∨ p = 11 ∨ p = 13) : Pr p := by
  rcases h with rfl | rfl | rfl | rfl | rfl
  · exact ⟨by decide, by decide, small_prime (by decide) (by decide)⟩
  · exact ⟨by decide, by decide, small_prime (by decide) (by decide)⟩
  · exact ⟨by decide, by decide, small_prime (by decide) (by decide)⟩
  · exact ⟨by decide, by decide, small_prime (by decide) (by decide)⟩
  · exact ⟨by decide, by decide, small_prime (by decide) (by decide)⟩
theorem p9973 : IsP 9973 := isP_trial (by decide) fun d h1 h2 => by
  have hd : d < 100 := by
    apply Nat.lt_of_not_le
    intro hl
    have : 100 * 100 ≤ d * d := Nat.mul_le_mul hl hl
    omega
  have all : ∀ d, d < 100 → 2 ≤ d → 9973 % d ≠ 0 := by decide +kernel
  exact all d hd h1

def sp_lrest : Sp := fun vs H Q _ => ∃ f p : Int, vs = [.int f, .int p] ∧ Q (.bl (decide (0 ≤ f ∧ f < p))) H
theorem len__law_is_rest (vs : List V) (H : Hp) (Q : VK) (E : XK) (h : sp_lrest vs H Q E) : vs.length = 2 := by
  obtain ⟨f, p, rfl, _⟩ := h
  rfl

def sp_thing (K : PySem.W.Frag) : Sp := fun vs H Q _ => ∃ (sc tp : Addr) (n : Nat), vs = [.ref sc, .ref tp] ∧ Scr K H sc ∧ Tape H tp (n + 3) ∧
  ∀ (v : V) (H' : Hp), Kn H' v → Ext tp H H' → Tape H' tp n → Q v H'
theorem len__law_thing {K : PySem.W.Frag} (vs : List V) (H : Hp) (Q : VK) (E : XK) (h : sp_thing K vs H Q E) : vs.length = 2 := by
  obtain ⟨sc, tp, n, rfl, _⟩ := h
  rfl

def sp_due : Sp := fun vs H Q _ => ∃ x, vs = [x] ∧ Kn H x ∧ ∀ b : Bool, (b = true ↔ PrV x) → Q (.bl b) H
theorem len__law_due (vs : List V) (H : Hp) (Q : VK) (E : XK) (h : sp_due vs H Q E) : vs.length = 1 := by
  obtain ⟨x, rfl, _⟩ := h
  rfl

def sp_refused : Sp := fun vs H Q _ => ∃ p : Int, vs = [.int p] ∧ Pr p ∧ Q (.bl true) H
theorem len__law_refused (vs : List V) (H : Hp) (Q : VK) (E : XK) (h : sp_refused vs H Q E) : vs.length = 1 := by
  obtain ⟨p, rfl, _⟩ := h
  rfl


def t_is_whole (K : PySem.W.Frag) (A : Cls) (E : XK) : TS :=
  (tRet (tAndV (tCB (rIsi K) (tCons (tVar 0) (tCons (tC (.ty "int")) tNil))) (tNotV (tCB (rIsi K) (tCons (tVar 0) (tCons (tC (.ty "bool")) tNil))))))
def t_is_prime (K : PySem.W.Frag) (A : Cls) (E : XK) : TS :=
  (tSeq (tIfS (tOr (tNot (tB (tCl (sp_is_whole) E (tCons (tVar 0) tNil)))) (tOr (tTest (tOp rLtA (tVar 0) (tC (.int 3)))) (tTest (tOp rGtA (tVar 0) (tC (.int 9973)))))) (tRet (tC (.bl false))) tNext)
  (tSeq (tAsg (tC (.int 2)) (gName 1))
  (tSeq (tWhile (tTest (tOp rLeA (tOp rMulA (tVar 1) (tVar 1)) (tVar 0))) (tSeq (tIfS (tTest (tOp (rEqA K) (tOp rModA (tVar 0) (tVar 1)) (tC (.int 0)))) (tRet (tC (.bl false))) tNext)
  (tAug 1 (tC (.int 1)) (ipI fun i j => i + j))))
  (tRet (tC (.bl true))))))
def t_is_rest (K : PySem.W.Frag) (A : Cls) (E : XK) : TS :=
  (tRet (tAndV (tCl (sp_is_whole) E (tCons (tVar 1) tNil)) (tChain rLeA rLtA (tC (.int 0)) (tVar 1) (tVar 0))))
def t_check_prime (K : PySem.W.Frag) (A : Cls) (E : XK) : TS :=
  (tIfS (tNot (tB (tCl (sp_is_prime) E (tCons (tVar 0) tNil)))) (fun _ σ H => E (.ref A.NoPrime) none H) tNext)
def t_check_rest (K : PySem.W.Frag) (A : Cls) (E : XK) : TS :=
  (tIfS (tNot (tB (tCl (sp_is_rest) E (tCons (tVar 0) (tCons (tVar 1) tNil))))) (fun _ σ H => E (.ref A.BadRest) none H) tNext)
def t_power (K : PySem.W.Frag) (A : Cls) (E : XK) : TS :=
  (tSeq (tAsg (tC (.int 1)) (gName 3))
  (tSeq (tAsg (tVar 1) (gName 4))
  (tSeq (tWhile (tTest (tOp rGtA (tVar 2) (tC (.int 0)))) (tSeq (tIfS (tTest (tOp (rEqA K) (tOp rModA (tVar 2) (tC (.int 2))) (tC (.int 1)))) (tAsg (tOp rModA (tOp rMulA (tVar 3) (tVar 4)) (tVar 0)) (gName 3)) tNext)
  (tSeq (tAsg (tOp rModA (tOp rMulA (tVar 4) (tVar 4)) (tVar 0)) (gName 4))
  (tAsg (tOp rDivA (tVar 2) (tC (.int 2))) (gName 2)))))
  (tRet (tVar 3)))))
def t_turned (K : PySem.W.Frag) (A : Cls) (E : XK) : TS :=
  (tSeq (tDrop (tCl (sp_check_prime A.NoPrime) E (tCons (tVar 0) tNil)))
  (tSeq (tDrop (tCl (sp_check_rest A.BadRest) E (tCons (tVar 0) (tCons (tVar 1) tNil))))
  (tSeq (tIfS (tTest (tOp (rEqA K) (tVar 1) (tC (.int 0)))) (fun _ σ H => E (.ref A.BadRest) none H) tNext)
  (tRet (tCl (sp_power) E (tCons (tVar 0) (tCons (tVar 1) (tCons (tOp rSubA (tVar 0) (tC (.int 2))) tNil))))))))
def t__law_draw (K : PySem.W.Frag) (A : Cls) (E : XK) : TS :=
  (tSeq (tAsg (tOp rAddA (tOp (rIx K) (tVar 1) (tC (.int 0))) (tC (.int 1))) (gSub (tVar 1) (tC (.int 0)) rSetL))
  (tSeq (tIfS (tTest (tOp rLeA (tOp (rIx K) (tVar 1) (tC (.int 0))) (tCB (rLen K) (tCons (tVar 0) tNil)))) (tRet (tOp rModA (tOp (rIx K) (tVar 0) (tOp rSubA (tOp (rIx K) (tVar 1) (tC (.int 0))) (tC (.int 1)))) (tVar 2))) tNext)
  (tSeq (tAsg (tCB (rLen K) (tCons (tVar 0) tNil)) (gName 3))
  (tSeq (tFor (iList K (tSl (rSlL K) (tVar 0) tNoPart (tPart (tC (.int 4))))) (gName 4) (tAsg (tOp rModA (tOp rAddA (tOp rMulA (tVar 3) (tC (.int 131))) (tVar 4)) (tC (.int 1000003))) (gName 3)))
  (tRet (tOp rModA (tOp rModA (tOp rMulA (tOp rAddA (tVar 3) (tC (.int 7))) (tOp rAddA (tOp rMulA (tOp (rIx K) (tVar 1) (tC (.int 0))) (tOp (rIx K) (tVar 1) (tC (.int 0)))) (tC (.int 48271)))) (tC (.int 1000003))) (tVar 2)))))))
def t__law_is_prime (K : PySem.W.Frag) (A : Cls) (E : XK) : TS :=
  (tSeq (tFor (iRng2 (tCons (tC (.int 2)) (tCons (tC (.int 102)) tNil))) (gName 1) (tSeq (tIfS (tTest (tOp rGtA (tOp rMulA (tVar 1) (tVar 1)) (tVar 0))) (tRet (tC (.bl true))) tNext)
  (tIfS (tTest (tOp (rEqA K) (tOp rModA (tVar 0) (tVar 1)) (tC (.int 0)))) (tRet (tC (.bl false))) tNext)))
  (tRet (tC (.bl true))))
def t__law_prime (K : PySem.W.Frag) (A : Cls) (E : XK) : TS :=
  (tSeq (tAsg (tCl (sp_draw K) E (tCons (tVar 0) (tCons (tVar 1) (tCons (tC (.int 3)) tNil)))) (gName 2))
  (tSeq (tIfS (tTest (tOp (rEqA K) (tVar 2) (tC (.int 0)))) (tRet (tOp (rIx K) (tLst (tCons (tC (.int 3)) (tCons (tC (.int 5)) (tCons (tC (.int 7)) (tCons (tC (.int 11)) (tCons (tC (.int 13)) tNil)))))) (tCl (sp_draw K) E (tCons (tVar 0) (tCons (tVar 1) (tCons (tC (.int 5)) tNil)))))) tNext)
  (tSeq (tAsg (tOp rAddA (tC (.int 3)) (tCl (sp_draw K) E (tCons (tVar 0) (tCons (tVar 1) (tCons (tC (.int 9971)) tNil))))) (gName 3))
  (tSeq (tWhile (tNot (tB (tCl (sp_lprime) E (tCons (tVar 3) tNil)))) (tAsg (tOp rAddA (tVar 3) (tC (.int 1))) (gName 3)))
  (tRet (tVar 3))))))
def t__law_is_rest (K : PySem.W.Frag) (A : Cls) (E : XK) : TS :=
  (tRet (tAndV (tCB (rIsi K) (tCons (tVar 0) (tCons (tC (.ty "int")) tNil))) (tAndV (tNotV (tCB (rIsi K) (tCons (tVar 0) (tCons (tC (.ty "bool")) tNil)))) (tChain rLeA rLtA (tC (.int 0)) (tVar 0) (tVar 1)))))
def t__law_thing (K : PySem.W.Frag) (A : Cls) (E : XK) : TS :=
  (tSeq (tAsg (tCl (sp_draw K) E (tCons (tVar 0) (tCons (tVar 1) (tCons (tC (.int 4)) tNil)))) (gName 2))
  (tSeq (tIfS (tTest (tOp (rEqA K) (tVar 2) (tC (.int 0)))) (tRet (tOp (rIx K) (tLst (tCons (tC (.bl true)) (tCons (tC (.bl false)) (tCons (tC .non) (tCons (tC (.str "7")) (tCons (tLst (tCons (tC (.int 7)) tNil)) (tCons (tTup (tCons (tC (.int 7)) tNil)) (tCons (tOp rAddA (tOp rPowA (tC (.int 10)) (tC (.int 20))) (tC (.int 39))) (tCons (tUn (rU fun i => .int (-i)) (tC (.int 7))) (tCons (tC (.int 2)) (tCons (tC (.int 9973)) tNil))))))))))) (tCl (sp_draw K) E (tCons (tVar 0) (tCons (tVar 1) (tCons (tC (.int 10)) tNil)))))) tNext)
  (tSeq (tIfS (tTest (tOp (rEqA K) (tVar 2) (tC (.int 1)))) (tRet (tOp rSubA (tCl (sp_draw K) E (tCons (tVar 0) (tCons (tVar 1) (tCons (tC (.int 10204)) tNil)))) (tC (.int 3)))) tNext)
  (tRet (tOp rMulA (tOp rAddA (tC (.int 2)) (tCl (sp_draw K) E (tCons (tVar 0) (tCons (tVar 1) (tCons (tC (.int 99)) tNil))))) (tOp rAddA (tC (.int 2)) (tCl (sp_draw K) E (tCons (tVar 0) (tCons (tVar 1) (tCons (tC (.int 99)) tNil))))))))))
def t__law_due (K : PySem.W.Frag) (A : Cls) (E : XK) : TS :=
  (tSeq (tIfS (tOr (tNot (tB (tCB (rIsi K) (tCons (tVar 0) (tCons (tC (.ty "int")) tNil))))) (tOr (tB (tCB (rIsi K) (tCons (tVar 0) (tCons (tC (.ty "bool")) tNil)))) (tNot (tTest (tChain rLeA rLeA (tC (.int 3)) (tVar 0) (tC (.int 9973))))))) (tRet (tC (.bl false))) tNext)
  (tRet (tCl (sp_lprime) E (tCons (tVar 0) tNil))))
def t__law_refused (K : PySem.W.Frag) (A : Cls) (E : XK) : TS :=
  (tSeq (fun D σ H => (fun W => (tDrop (tCallS (sp_turned A.NoPrime A.BadRest) (WE W) (tCons (tVar 0) (tCons (tC (.int 0)) tNil))))) (wOnly K (.ref A.BadRest) (fun _ _ _ => (tRet (tC (.bl true)))) (fun cls d _ H => E cls d H) D) D σ H)
  (tRet (tC (.bl false))))
def t_law (K : PySem.W.Frag) (A : Cls) (E : XK) : TS :=
  (tSeq (tAsg (tLst (tCons (tC (.int 0)) tNil)) (gName 1))
  (tSeq (tAsg (tCl (sp_thing K) E (tCons (tVar 0) (tCons (tVar 1) tNil))) (gName 2))
  (tSeq (tAsg (tCl (sp_prime K) E (tCons (tVar 0) (tCons (tVar 1) tNil))) (gName 3))
  (tSeq (tAsg (tOp rAddA (tC (.int 1)) (tCl (sp_draw K) E (tCons (tVar 0) (tCons (tVar 1) (tCons (tOp rSubA (tVar 3) (tC (.int 1))) tNil))))) (gName 4))
  (tSeq (tAsg (tCl (sp_is_prime) E (tCons (tVar 2) tNil)) (gName 5))
  (tSeq (tIfS (tOr (tNot (tB (tCB (rIsi K) (tCons (tVar 5) (tCons (tC (.ty "bool")) tNil))))) (tOr (tTest (tOp (rNeA K) (tVar 5) (tCl (sp_due) E (tCons (tVar 2) tNil)))) (tTest (tOp rNotB (tCl (sp_is_prime) E (tCons (tVar 3) tNil)) (tC (.bl true)))))) (tRet (tC (.bl false))) tNext)
  (tSeq (tAsg (tCl (sp_turned A.NoPrime A.BadRest) E (tCons (tVar 3) (tCons (tVar 4) tNil))) (gName 6))
  (tRet (tAndV (tCl (sp_lrest) E (tCons (tVar 6) (tCons (tVar 3) tNil))) (tAndV (tOp (rEqA K) (tOp rModA (tOp rMulA (tVar 4) (tVar 6)) (tVar 3)) (tC (.int 1))) (tCl (sp_refused) E (tCons (tVar 3) tNil))))))))))))

local macro_rules | `(tactic| walk_at "z1") => `(tactic| first
  | with_reducible refine s_seq ?_
  | with_reducible refine s_set ?_
  | with_reducible refine s_drop ?_
  | with_reducible refine s_ret ?_
  | with_reducible refine s_retN ?_
  | with_reducible refine s_if ?_
  | with_reducible refine s_next ?_
  | with_reducible refine s_brk ?_
  | with_reducible refine s_cont ?_
  | with_reducible refine s_c ?_
  | ((with_reducible refine' s_var ?zh ?_); (case zh => exact rfl))
  | with_reducible refine s_op ?_
  | with_reducible refine s_un ?_
  | with_reducible refine s_cb ?_
  | with_reducible refine s_cl ?_
  | with_reducible refine s_cs ?_
  | with_reducible refine s_cons ?_
  | with_reducible refine s_nil ?_
  | with_reducible refine s_test ?_
  | with_reducible refine s_tb ?_
  | with_reducible refine s_bl ?_
  | with_reducible refine s_exI ?_
  | with_reducible refine s_and ?_
  | with_reducible refine s_or ?_
  | with_reducible refine s_not ?_
  | with_reducible refine s_andV ?_
  | with_reducible refine s_orV ?_
  | with_reducible refine s_notV ?_
  | with_reducible refine s_ifE ?_
  | with_reducible refine s_chain ?_
  | with_reducible refine s_lst ?_
  | with_reducible refine s_tup ?_
  | with_reducible refine s_asg ?_
  | with_reducible refine s_gname ?_
  | with_reducible refine s_gsub ?_
  | ((with_reducible refine' s_aug ?zh ?_); (case zh => exact rfl))
  | with_reducible refine s_ipI ?_
  | with_reducible refine s_addI ?_
  | with_reducible refine s_subI ?_
  | ((with_reducible refine s_modI ?zm ?_); (case zm => omega))
  | with_reducible refine s_ltI ?_
  | with_reducible refine s_leI ?_
  | with_reducible refine s_gtI ?_
  | with_reducible refine s_geI ?_
  | with_reducible refine s_eqI ?_
  | with_reducible refine s_neI ?_
  | with_reducible refine s_eqB ?_
  | with_reducible refine s_neB ?_
  | with_reducible refine s_isN ?_
  | with_reducible refine s_notN ?_
  | with_reducible refine s_isB ?_
  | with_reducible refine s_notB ?_
  | with_reducible refine s_neg ?_
  | with_reducible refine s_max2 ?_
  | with_reducible refine s_min2 ?_
  | with_reducible refine s_for ?_
  | with_reducible refine s_iList ?_
  | with_reducible refine s_iRng1 ?_
  | with_reducible refine s_iRng2 ?_
  | with_reducible refine s_sl ?_
  | with_reducible refine s_noPart ?_
  | with_reducible refine s_part ?_
  | with_reducible refine iteT ?_
  | with_reducible refine iteF ?_)
local macro_rules | `(tactic| walk_at "z") => `(tactic| repeat (walk_at "z1"))

theorem pure_is_whole {K : PySem.W.Frag} {A : Cls} (vs : List V) (H : Hp) (Q : VK) (E : XK) (h : sp_is_whole vs H Q E) :
    t_is_whole K A E { nx := fun _ H' => Q .non H', rt := Q } (start N_is_whole vs) H := by
  obtain ⟨x, rfl, hk, k⟩ := h
  unfold t_is_whole
  walk_at "z"
  refine hk.isi_int ?_
  walk_at "z"
  cases h1 : isI x with
  | false =>
    refine iteF ?_
    rw [h1] at k
    exact k
  | true =>
    refine iteT ?_
    walk_at "z"
    refine hk.isi_bool ?_
    rw [h1, Bool.true_and] at k
    walk_at "z"
    exact k

theorem pure_is_prime {K : PySem.W.Frag} {A : Cls} (vs : List V) (H : Hp) (Q : VK) (E : XK) (h : sp_is_prime vs H Q E) :
    t_is_prime K A E { nx := fun _ H' => Q .non H', rt := Q } (start N_is_prime vs) H := by
  obtain ⟨x, rfl, hk, k⟩ := h
  unfold t_is_prime
  walk_at "z"
  refine ⟨x, rfl, hk, ?_⟩
  walk_at "z"
  refine z_ifNB (fun e => ?_) (fun e => ?_)
  · walk_at "z"
    exact k false ⟨fun z => (nomatch z), fun z => (notP e z).elim⟩
  · obtain ⟨i, rfl⟩ := isInt_of e
    walk_at "z"
    refine z_if (fun e1 => ?_) (fun e1 => ?_)
    · walk_at "z"
      exact k false ⟨fun z => (nomatch z), fun z => absurd z.1 (by omega)⟩
    walk_at "z"
    refine z_if (fun e2 => ?_) (fun e2 => ?_)
    · walk_at "z"
      exact k false ⟨fun z => (nomatch z), fun z => absurd z.2.1 (by omega)⟩
    walk_at "z"
    refine s_while (fun σ H' => ∃ d : Nat, σ = [some (.int i), some (.int (d : Int))] ∧ H' = H ∧ 2 ≤ d ∧ d ≤ 102 ∧ ∀ e : Nat, 2 ≤ e → e < d → i % (e : Int) ≠ 0)
      (fun σ _ => match σ with | [_, some (.int d)] => (200 - d).toNat | _ => 0) ⟨2, rfl, rfl, by omega, by omega, fun e h1 h2 => by omega⟩ ?_
    rintro n σ H' hn ⟨d, rfl, rfl, h2, h3, hd⟩
    walk_at "z"
    refine s_mulI (.inl ⟨by omega, by omega⟩) ?_
    walk_at "z"
    refine z_if (fun e3 => ?_) (fun e3 => ?_)
    · refine s_turn ?_
      have d101 : d ≤ 101 := by
        apply Nat.le_of_not_lt
        intro hl
        have : 102 * 102 ≤ d * d := Nat.mul_le_mul (by omega) (by omega)
        have : ((102 * 102 : Nat) : Int) ≤ ((d * d : Nat) : Int) := by exact_mod_cast this
        rw [Int.natCast_mul d d] at this
        omega
      walk_at "z"
      refine z_if (fun e4 => ?_) (fun e4 => ?_)
      · walk_at "z"
        have hlt : (d : Int) < i := by
          rcases Int.lt_or_le (d : Int) i with h | h
          · exact h
          · exfalso
            have : 2 * (d : Int) ≤ (d : Int) * d := Int.mul_le_mul_of_nonneg_right (by omega) (by omega)
            omega
        exact k false ⟨fun z => (nomatch z), fun z => absurd z.2.2 (not_isP (d := d) h2 (by omega) (by have := int_dvd (by omega) (by omega) e4; simpa using this))⟩
      · walk_at "z"
        refine ⟨⟨d + 1, by rfl, rfl, by omega, by omega, fun e h1 h2 => ?_⟩, ?_⟩
        · rcases Nat.lt_or_ge e d with h | h
          · exact hd e h1 h
          · have : e = d := by omega
            subst this
            exact e4
        · show (200 - ((d : Int) + 1)).toNat < n
          rw [hn]
          show _ < (200 - (d : Int)).toNat
          omega
    · walk_at "z"
      refine k true ⟨fun _ => ⟨by omega, by omega, isP_trial (by omega) fun e h1 h2 => ?_⟩, fun _ => rfl⟩
      rcases Nat.lt_or_ge e d with h | h
      · exact int_ndvd (by omega) (hd e h1 h)
      · exfalso
        have h5 : d * d ≤ e * e := Nat.mul_le_mul h h
        have h6 : ((d * d : Nat) : Int) ≤ (i.toNat : Int) := by exact_mod_cast Nat.le_trans h5 h2
        rw [Int.natCast_mul d d, Int.toNat_of_nonneg (by omega)] at h6
        omega

theorem pure_is_rest {K : PySem.W.Frag} {A : Cls} (vs : List V) (H : Hp) (Q : VK) (E : XK) (h : sp_is_rest vs H Q E) :
    t_is_rest K A E { nx := fun _ H' => Q .non H', rt := Q } (start N_is_rest vs) H := by
  obtain ⟨p, x, rfl, hk, k⟩ := h
  unfold t_is_rest
  walk_at "z"
  refine ⟨x, rfl, hk, ?_⟩
  walk_at "z"
  refine z_ifB (fun e => ?_) (fun e => ?_)
  · obtain ⟨i, rfl⟩ := isInt_of e
    walk_at "z"
    refine z_if (fun e1 => ?_) (fun e1 => ?_)
    · walk_at "z"
      exact k _ ⟨fun z => ⟨e1, of_decide_eq_true z⟩, fun z => decide_eq_true z.2⟩
    · exact k false ⟨fun z => (nomatch z), fun z => absurd z.1 e1⟩
  · exact k false ⟨fun z => (nomatch z), fun z => absurd z (notR e)⟩

theorem pure_check_prime {K : PySem.W.Frag} {A : Cls} (vs : List V) (H : Hp) (Q : VK) (E : XK) (h : sp_check_prime A.NoPrime vs H Q E) :
    t_check_prime K A E { nx := fun _ H' => Q .non H', rt := Q } (start N_check_prime vs) H := by
  obtain ⟨x, rfl, hk, k1, k2⟩ := h
  unfold t_check_prime
  walk_at "z"
  refine ⟨x, rfl, hk, fun b hb => ?_⟩
  walk_at "z"
  refine z_ifNB (fun e => ?_) (fun e => ?_)
  · exact k2 fun z => by rw [hb.mpr z] at e; cases e
  · walk_at "z"
    exact k1 (hb.mp e)

theorem pure_check_rest {K : PySem.W.Frag} {A : Cls} (vs : List V) (H : Hp) (Q : VK) (E : XK) (h : sp_check_rest A.BadRest vs H Q E) :
    t_check_rest K A E { nx := fun _ H' => Q .non H', rt := Q } (start N_check_rest vs) H := by
  obtain ⟨p, x, rfl, hk, k1, k2⟩ := h
  unfold t_check_rest
  walk_at "z"
  refine ⟨p, x, rfl, hk, fun b hb => ?_⟩
  walk_at "z"
  refine z_ifNB (fun e => ?_) (fun e => ?_)
  · exact k2 fun z => by rw [hb.mpr z] at e; cases e
  · walk_at "z"
    exact k1 (hb.mp e)

theorem pure_power {K : PySem.W.Frag} {A : Cls} (vs : List V) (H : Hp) (Q : VK) (E : XK) (h : sp_power vs H Q E) :
    t_power K A E { nx := fun _ H' => Q .non H', rt := Q } (start N_power vs) H := by
  obtain ⟨p, r, n, rfl, hp2, hp, hr, k⟩ := h
  unfold t_power
  walk_at "z"
  refine s_while (fun σ H' => ∃ t s m : Nat, σ = [some (.int (p : Int)), some (.int (r : Int)), some (.int (m : Int)), some (.int (t : Int)), some (.int (s : Int))] ∧ H' = H ∧ t < p ∧ s < p ∧ (t * s ^ m) % p = r ^ n % p)
    (fun σ _ => slotN σ 2) ⟨1, r, n, rfl, rfl, by omega, hr, by rw [Nat.one_mul]⟩ ?_
  rintro c σ H' hc ⟨t, s, m, rfl, rfl, ht, hs, e⟩
  have small : ∀ a b : Nat, a < p → b < p → a * b < 2 ^ 40 := fun a b => mul_small hp
  walk_at "z"
  refine z_if (fun e1 => ?_) (fun e1 => ?_)
  · refine s_turn ?_
    walk_at "z"
    have hdec : ∀ t' : Nat, t' < p → (t' * (s * s % p) ^ (m / 2)) % p = r ^ n % p →
        ∀ σ' : L2.St, σ' = [some (.int (p : Int)), some (.int (r : Int)), some (.int ((m / 2 : Nat) : Int)), some (.int (t' : Int)), some (.int ((s * s % p : Nat) : Int))] →
        (∃ t s m : Nat, σ' = [some (.int (p : Int)), some (.int (r : Int)), some (.int (m : Int)), some (.int (t : Int)), some (.int (s : Int))] ∧ H' = H' ∧ t < p ∧ s < p ∧ (t * s ^ m) % p = r ^ n % p) ∧
          slotN σ' 2 < c := fun t' ht' e' σ' hσ => by
      subst hσ
      refine ⟨⟨t', s * s % p, m / 2, rfl, rfl, ht', Nat.mod_lt _ (by omega), e'⟩, ?_⟩
      rw [hc]
      show (((m / 2 : Nat) : Int)).toNat < ((m : Int)).toNat
      omega
    have step := pow_step e
    refine z_if (fun e2 => ?_) (fun e2 => ?_)
    · walk_at "z"
      refine s_mulI (.inl ⟨by omega, by omega⟩) ?_
      walk_at "z"
      refine s_mulI (.inl ⟨by omega, by omega⟩) ?_
      walk_at "z"
      refine s_divI (by constructor <;> decide) ?_
      rw [if_pos (by omega)] at step
      refine hdec (t * s % p) (Nat.mod_lt _ (by omega)) step _ ?_
      simp only [castmul, castmod]
      rw [show ((m : Int) / 2) = ((m / 2 : Nat) : Int) from castdiv m 2]
      rfl
    · walk_at "z"
      refine s_mulI (.inl ⟨by omega, by omega⟩) ?_
      walk_at "z"
      refine s_divI (by constructor <;> decide) ?_
      rw [if_neg (by omega)] at step
      refine hdec t ht step _ ?_
      simp only [castmul, castmod]
      rw [show ((m : Int) / 2) = ((m / 2 : Nat) : Int) from castdiv m 2]
      rfl
  · walk_at "z"
    have hm : m = 0 := by omega
    subst hm
    rw [Nat.pow_zero, Nat.mul_one, Nat.mod_eq_of_lt ht] at e
    rw [e]
    exact k

theorem pure_turned {K : PySem.W.Frag} {A : Cls} (vs : List V) (H : Hp) (Q : VK) (E : XK) (h : sp_turned A.NoPrime A.BadRest vs H Q E) :
    t_turned K A E { nx := fun _ H' => Q .non H', rt := Q } (start N_turned vs) H := by
  obtain ⟨x, y, rfl, hx, hy, k1, k2⟩ := h
  unfold t_turned
  walk_at "z"
  refine ⟨x, rfl, hx, fun hp => ?_, k1⟩
  obtain ⟨p, rfl, hp⟩ := hp.int
  obtain ⟨k3, k4⟩ := k2 p rfl hp
  walk_at "z"
  refine ⟨p, y, rfl, hy, fun hr => ?_, fun hn => k3 fun ⟨r, e, a, b⟩ => hn (by subst e; exact ⟨by omega, b⟩)⟩
  obtain ⟨r, rfl, hr0, hr1⟩ := hr.int
  walk_at "z"
  refine z_if (fun e => ?_) (fun e => ?_)
  · exact k3 fun ⟨r', e', a, b⟩ => by cases e'; omega
  · walk_at "z"
    have ep : p = ((p.toNat : Nat) : Int) := (Int.toNat_of_nonneg (by have := hp.1; omega)).symm
    have er : r = ((r.toNat : Nat) : Int) := (Int.toNat_of_nonneg hr0).symm
    have h3 := hp.1
    have h4 := hp.2.1
    refine ⟨p.toNat, r.toNat, p.toNat - 2, ?_, by omega, by omega, by omega, ?_⟩
    · rw [← ep, ← er, show p - 2 = ((p.toNat - 2 : Nat) : Int) by omega]
    · refine k4 r rfl (by omega) hr1 _ (by omega) ?_ ?_
      · have := Nat.mod_lt (r.toNat ^ (p.toNat - 2)) hp.2.2.pos
        omega
      · have := turned_ok hp.2.2 (r := r.toNat) (by omega) (by omega)
        have e2 : ((r.toNat * (r.toNat ^ (p.toNat - 2) % p.toNat) % p.toNat : Nat) : Int) = 1 := by rw [this]; rfl
        rw [Int.natCast_emod, Int.natCast_mul, ← ep, ← er] at e2
        exact e2

theorem pure__law_draw {K : PySem.W.Frag} {A : Cls} (vs : List V) (H : Hp) (Q : VK) (E : XK) (h : sp_draw K vs H Q E) :
    t__law_draw K A E { nx := fun _ H' => Q .non H', rt := Q } (start N__law_draw vs) H := by
  obtain ⟨sc, tp, m, n, rfl, ⟨ns, hro, hns⟩, ⟨t, ht0, ht1, ht⟩, hm, k⟩ := h
  unfold t__law_draw
  walk_at "z"
  refine s_ixL (SqL.of ht) (atI_lit 0 rfl rfl) ?_
  walk_at "z"
  refine s_setL ht (ixN_lit (j := 0) rfl (by show 0 < 1; decide)) ?_
  have e1 : upd H tp (.lst (([V.int t] : List V).set 0 (V.int (t + 1)))) = upd H tp (.lst [.int (t + 1)]) := rfl
  rw [e1]
  generalize h1 : upd H tp (.lst [.int (t + 1)]) = H1
  have x1 : Ext tp H H1 := by rw [← h1]; exact Ext.upd
  have t1 : H1 tp = some (.lst [.int (t + 1)]) := by rw [← h1]; exact upd_same
  have r1 : RO K H1 sc (ns.map V.int) := hro.ext x1 ht
  have tape : ∀ H', L2.Same H1 H' → Tape H' tp n := fun H' s => ⟨t + 1, by omega, by omega, s _ _ t1⟩
  walk_at "z"
  refine s_ixL (SqL.of t1) (atI_lit 0 rfl rfl) ?_
  walk_at "z"
  refine s_lenL r1.seq ?_
  walk_at "z"
  refine z_if (fun e2 => ?_) (fun e2 => ?_)
  · rw [List.length_map] at e2
    walk_at "z"
    refine s_ixL (SqL.of t1) (atI_lit 0 rfl rfl) ?_
    walk_at "z"
    obtain ⟨z, hz, _⟩ := atI_ints (ns := ns) (i := t + 1 - 1) (by omega) (by omega)
    refine s_ixL r1.seq hz ?_
    walk_at "z"
    exact k _ H1 (Int.emod_nonneg _ (by omega)) (Int.emod_lt_of_pos _ hm) x1 (tape H1 (L2.Same.refl _))
  · walk_at "z"
    refine s_lenL r1.seq ?_
    walk_at "z"
    refine s_slL r1.seq fun p np => ?_
    generalize h2 : upd H1 p (.lst (cutV (ns.map V.int) none (some 4))) = H2
    have s2 : L2.Same H1 H2 := by rw [← h2]; exact same_new np
    have p2 : H2 p = some (.lst (cutV (ns.map V.int) none (some 4))) := by rw [← h2]; exact upd_same
    have all : ∀ (i : Nat) (x : V), (cutV (ns.map V.int) none (some 4))[i]? = some x → ∃ z, x = .int z := fun i x hx => by
      have hmem := List.mem_of_getElem? hx
      unfold cutV at hmem
      have := List.mem_of_mem_drop (List.mem_of_mem_take hmem)
      obtain ⟨z, _, rfl⟩ := List.mem_map.mp this
      exact ⟨z, rfl⟩
    refine l_list (SqL.of p2) (fun i σ H' => ∃ (s : Int) (c : Option V), σ = [some (.ref sc), some (.ref tp), some (.int m), some (.int s), c] ∧ H' = H2 ∧ 0 ≤ s ∧ s ≤ 1000003) ⟨_, none, rfl, rfl, by omega, by rw [List.length_map]; omega⟩ ?_ ?_ ?_
    · rintro i σ H' _ ⟨s, c, _, rfl, _⟩
      exact SqL.of p2
    · rintro i x σ H' hx ⟨s, c, rfl, rfl, hs0, hs1⟩
      obtain ⟨z, rfl⟩ := all i x hx
      walk_at "z"
      refine s_mulI (.inl ⟨by omega, by omega⟩) ?_
      walk_at "z"
      exact ⟨_, _, rfl, rfl, Int.emod_nonneg _ (by decide), Int.le_of_lt (Int.emod_lt_of_pos _ (by decide))⟩
    · rintro σ H' ⟨s, c, rfl, rfl, hs0, hs1⟩
      have t2 := s2 _ _ t1
      walk_at "z"
      refine s_ixL (SqL.of t2) (atI_lit 0 rfl rfl) ?_
      walk_at "z"
      refine s_ixL (SqL.of t2) (atI_lit 0 rfl rfl) ?_
      refine s_mulI (.inl ⟨by omega, by omega⟩) ?_
      walk_at "z"
      refine s_mulI (.inl ⟨by omega, by omega⟩) ?_
      walk_at "z"
      exact k _ _ (Int.emod_nonneg _ (by omega)) (Int.emod_lt_of_pos _ hm) (x1.trans (Same.ext s2 tp)) (tape _ s2)

theorem pure__law_is_prime {K : PySem.W.Frag} {A : Cls} (vs : List V) (H : Hp) (Q : VK) (E : XK) (h : sp_lprime vs H Q E) :
    t__law_is_prime K A E { nx := fun _ H' => Q .non H', rt := Q } (start N__law_is_prime vs) H := by
  obtain ⟨i, rfl, hi2, hi, k⟩ := h
  unfold t__law_is_prime
  walk_at "z"
  refine l_range2 ⟨by decide, by decide, by decide, by decide⟩ (fun j σ H' => ∃ c : Option V, σ = [some (.int i), c] ∧ H' = H ∧ ∀ e : Nat, 2 ≤ e → e < 2 + j → i % (e : Int) ≠ 0) ⟨none, rfl, rfl, fun e h1 h2 => by omega⟩ ?_ ?_
  · rintro j σ H' hj ⟨c, rfl, rfl, hd⟩
    have hj' : j < 100 := hj
    walk_at "z"
    refine s_mulI (.inl ⟨by omega, by omega⟩) ?_
    walk_at "z"
    refine z_if (fun e1 => ?_) (fun e1 => ?_)
    · walk_at "z"
      refine k true ⟨fun _ => isP_trial (by omega) fun e h1 h2 => ?_, fun _ => rfl⟩
      rcases Nat.lt_or_ge e (2 + j) with h | h
      · exact int_ndvd (by omega) (hd e h1 h)
      · exfalso
        have h5 : (2 + j) * (2 + j) ≤ e * e := Nat.mul_le_mul h h
        have h6 : (((2 + j) * (2 + j) : Nat) : Int) ≤ (i.toNat : Int) := by exact_mod_cast Nat.le_trans h5 h2
        rw [Int.natCast_mul, Int.toNat_of_nonneg (by omega), Int.natCast_add] at h6
        have e7 : (2 + (j : Int)) * (2 + j) ≤ i := h6
        omega
    · walk_at "z"
      refine z_if (fun e2 => ?_) (fun e2 => ?_)
      · walk_at "z"
        have hlt : (2 + j : Int) < i := by
          rcases Int.lt_or_le (2 + j : Int) i with h | h
          · exact h
          · exfalso
            have : 2 * (2 + j : Int) ≤ (2 + j : Int) * (2 + j) := Int.mul_le_mul_of_nonneg_right (by omega) (by omega)
            omega
        refine k false ⟨fun z => (nomatch z), fun z => absurd z (not_isP (d := 2 + j) (by omega) (by omega) ?_)⟩
        have := int_dvd (by omega) (by omega) e2
        rw [show (2 + (j : Int)).toNat = 2 + j by omega] at this
        exact this
      · walk_at "z"
        refine ⟨_, rfl, rfl, fun e h1 h2 => ?_⟩
        rcases Nat.lt_or_ge e (2 + j) with h | h
        · exact hd e h1 h
        · have : e = 2 + j := by omega
          subst this
          intro z
          apply e2
          rw [← z]
          rfl
  · rintro σ H' ⟨c, rfl, rfl, hd⟩
    walk_at "z"
    have hd' : ∀ e : Nat, 2 ≤ e → e < 102 → i % (e : Int) ≠ 0 := hd
    refine k true ⟨fun _ => isP_trial (by omega) fun e h1 h2 => ?_, fun _ => rfl⟩
    rcases Nat.lt_or_ge e 102 with h | h
    · exact int_ndvd (by omega) (hd' e h1 h)
    · exfalso
      have h5 : 102 * 102 ≤ e * e := Nat.mul_le_mul h h
      omega

theorem pure__law_prime {K : PySem.W.Frag} {A : Cls} (vs : List V) (H : Hp) (Q : VK) (E : XK) (h : sp_prime K vs H Q E) :
    t__law_prime K A E { nx := fun _ H' => Q .non H', rt := Q } (start N__law_prime vs) H := by
  obtain ⟨sc, tp, n, rfl, hs, ht, k⟩ := h
  unfold t__law_prime
  walk_at "z"
  refine ⟨sc, tp, 3, n + 1, rfl, hs, ht, by decide, fun r H1 hr0 hr1 x1 t1 => ?_⟩
  have hs1 := hs.ext x1 ht
  walk_at "z"
  refine z_if (fun e1 => ?_) (fun e1 => ?_)
  · walk_at "z"
    refine ⟨by show 5 ≤ sizeLine; decide, fun p np => ?_⟩
    generalize h2 : upd H1 p (.lst [.int 3, .int 5, .int 7, .int 11, .int 13]) = H2
    have s2 : L2.Same H1 H2 := by rw [← h2]; exact same_new np
    have p2 : H2 p = some (.lst [.int 3, .int 5, .int 7, .int 11, .int 13]) := by rw [← h2]; exact upd_same
    have nptp : p ≠ tp := fun z => by
      obtain ⟨t, _, _, c⟩ := t1
      rw [z, c] at np
      cases np
    walk_at "z"
    refine ⟨sc, tp, 5, n, rfl, hs1.same s2, t1.same s2, by decide, fun r2 H3 hr2 hr3 x3 t3 => ?_⟩
    have p3 := x3 _ _ nptp p2
    have hx : ∃ v, atI ([.int 3, .int 5, .int 7, .int 11, .int 13] : List V) r2 = some (.int v) ∧ (v = 3 ∨ v = 5 ∨ v = 7 ∨ v = 11 ∨ v = 13) := by
      have : r2 = 0 ∨ r2 = 1 ∨ r2 = 2 ∨ r2 = 3 ∨ r2 = 4 := by omega
      rcases this with rfl | rfl | rfl | rfl | rfl
      · exact ⟨3, rfl, by simp⟩
      · exact ⟨5, rfl, by simp⟩
      · exact ⟨7, rfl, by simp⟩
      · exact ⟨11, rfl, by simp⟩
      · exact ⟨13, rfl, by simp⟩
    obtain ⟨v, hv, hv2⟩ := hx
    refine s_ixL (SqL.of p3) hv ?_
    exact k v H3 (pr_of hv2) ((x1.trans (Same.ext s2 tp)).trans x3) t3
  · walk_at "z"
    refine ⟨sc, tp, 9971, n, rfl, hs1, t1, by decide, fun r2 H2 hr2 hr3 x2 t2 => ?_⟩
    walk_at "z"
    refine s_while (fun σ H' => ∃ i : Int, σ = [some (.ref sc), some (.ref tp), some (.int r), some (.int i)] ∧ H' = H2 ∧ 3 ≤ i ∧ i ≤ 9973)
      (fun σ _ => match σ with | [_, _, _, some (.int i)] => (9973 - i).toNat | _ => 0) ⟨3 + r2, rfl, rfl, by omega, by omega⟩ ?_
    rintro c σ H' hc ⟨i, rfl, rfl, hi1, hi2⟩
    walk_at "z"
    refine ⟨i, rfl, by omega, by omega, fun b hb => ?_⟩
    walk_at "z"
    refine z_ifNB (fun e => ?_) (fun e => ?_)
    · refine s_turn ?_
      walk_at "z"
      have hne : i ≠ 9973 := fun z => by
        subst z
        rw [hb.mpr p9973] at e
        cases e
      refine ⟨⟨i + 1, rfl, rfl, by omega, by omega⟩, ?_⟩
      rw [hc]
      show (9973 - (i + 1)).toNat < (9973 - i).toNat
      omega
    · walk_at "z"
      exact k i _ ⟨hi1, hi2, hb.mp e⟩ (x1.trans x2) t2

theorem pure__law_is_rest {K : PySem.W.Frag} {A : Cls} (vs : List V) (H : Hp) (Q : VK) (E : XK) (h : sp_lrest vs H Q E) :
    t__law_is_rest K A E { nx := fun _ H' => Q .non H', rt := Q } (start N__law_is_rest vs) H := by
  obtain ⟨f, p, rfl, k⟩ := h
  unfold t__law_is_rest
  walk_at "z"
  refine (Kn.int f).isi_int ?_
  show ∃ c, V.bl true = .bl c ∧ _
  walk_at "z"
  refine (Kn.int f).isi_bool ?_
  show ∃ c, V.bl false = .bl c ∧ _
  walk_at "z"
  refine (if_pos (show (!false) = true from rfl)).mpr ?_
  walk_at "z"
  refine z_if (fun e1 => ?_) (fun e1 => ?_)
  · walk_at "z"
    rw [show decide (f < p) = decide (0 ≤ f ∧ f < p) from decide_eq_decide.mpr ⟨fun h => ⟨e1, h⟩, fun h => h.2⟩]
    exact k
  · rw [decide_eq_false (show ¬ (0 ≤ f ∧ f < p) from fun h => e1 h.1)] at k
    exact k

theorem pure__law_thing {K : PySem.W.Frag} {A : Cls} (vs : List V) (H : Hp) (Q : VK) (E : XK) (h : sp_thing K vs H Q E) :
    t__law_thing K A E { nx := fun _ H' => Q .non H', rt := Q } (start N__law_thing vs) H := by
  obtain ⟨sc, tp, n, rfl, hs, ht, k⟩ := h
  unfold t__law_thing
  walk_at "z"
  refine ⟨sc, tp, 4, n + 2, rfl, hs, ht, by decide, fun r H1 hr0 hr1 x1 t1 => ?_⟩
  have hs1 := hs.ext x1 ht
  walk_at "z"
  refine z_if (fun e1 => ?_) (fun e1 => ?_)
  · walk_at "z"
    refine ⟨by show 1 ≤ sizeLine; decide, fun a na => ?_⟩
    generalize h2 : upd H1 a (.lst [.int 7]) = H2
    have s2 : L2.Same H1 H2 := by rw [← h2]; exact same_new na
    have a2 : H2 a = some (.lst [.int 7]) := by rw [← h2]; exact upd_same
    walk_at "z"
    refine ⟨by show 1 ≤ sizeLine; decide, fun b nb => ?_⟩
    generalize h3 : upd H2 b (.tup [.int 7]) = H3
    have s3 : L2.Same H2 H3 := by rw [← h3]; exact same_new nb
    have b3 : H3 b = some (.tup [.int 7]) := by rw [← h3]; exact upd_same
    walk_at "z"
    refine s_powI ⟨by decide, by decide, by decide⟩ ?_
    walk_at "z"
    refine ⟨by show 10 ≤ sizeLine; decide, fun p np => ?_⟩
    generalize hl : ([.bl true, .bl false, .non, .str "7", .ref a, .ref b, .int ((10 : Int) ^ (20 : Int).toNat + 39), .int (-7), .int 2, .int 9973] : List V) = L
    generalize h4 : upd H3 p (.lst L) = H4
    have s4 : L2.Same H3 H4 := by rw [← h4]; exact same_new np
    have p4 : H4 p = some (.lst L) := by rw [← h4]; exact upd_same
    have s14 : L2.Same H1 H4 := (s2.trans s3).trans s4
    have t4 : Tape H4 tp (n + 2) := t1.same s14
    have nptp : p ≠ tp := fun z => by
      obtain ⟨t, _, _, c⟩ := t1.same (s2.trans s3)
      rw [z, c] at np
      cases np
    have kn : ∀ v ∈ L, Kn H4 v := by
      rw [← hl]
      intro v hv
      simp only [List.mem_cons, List.not_mem_nil, or_false] at hv
      rcases hv with rfl | rfl | rfl | rfl | rfl | rfl | rfl | rfl | rfl | rfl
      · trivial
      · trivial
      · trivial
      · trivial
      · exact .inl ⟨_, (s3.trans s4) _ _ a2⟩
      · exact .inr (.inl ⟨_, s4 _ _ b3⟩)
      · trivial
      · trivial
      · trivial
      · trivial
    have len : L.length = 10 := by rw [← hl]; rfl
    walk_at "z"
    refine ⟨sc, tp, 10, n + 1, rfl, hs1.same s14, t4, by decide, fun r2 H5 hr2 hr3 x5 t5 => ?_⟩
    have p5 := x5 _ _ nptp p4
    have hlt : r2.toNat < L.length := by omega
    refine s_ixL (v := L[r2.toNat]) (SqL.of p5) (atI_lit r2.toNat (by omega) (List.getElem?_eq_getElem hlt)) ?_
    exact k _ H5 ((kn _ (List.getElem_mem hlt)).ext x5 t5) ((x1.trans (Same.ext s14 tp)).trans x5) (t5.mono (by omega))
  · walk_at "z"
    refine z_if (fun e2 => ?_) (fun e2 => ?_)
    · walk_at "z"
      refine ⟨sc, tp, 10204, n + 1, rfl, hs1, t1, by decide, fun r2 H2 hr2 hr3 x2 t2 => ?_⟩
      walk_at "z"
      exact k _ H2 trivial (x1.trans x2) (t2.mono (by omega))
    · walk_at "z"
      refine ⟨sc, tp, 99, n + 1, rfl, hs1, t1, by decide, fun r2 H2 hr2 hr3 x2 t2 => ?_⟩
      walk_at "z"
      refine ⟨sc, tp, 99, n, rfl, hs1.ext x2 t1, t2, by decide, fun r3 H3 hr4 hr5 x3 t3 => ?_⟩
      walk_at "z"
      refine s_mulI (.inl ⟨by omega, by omega⟩) ?_
      exact k _ H3 trivial ((x1.trans x2).trans x3) t3

theorem pure__law_due {K : PySem.W.Frag} {A : Cls} (vs : List V) (H : Hp) (Q : VK) (E : XK) (h : sp_due vs H Q E) :
    t__law_due K A E { nx := fun _ H' => Q .non H', rt := Q } (start N__law_due vs) H := by
  obtain ⟨x, rfl, hk, k⟩ := h
  unfold t__law_due
  walk_at "z"
  refine hk.isi_int ?_
  walk_at "z"
  refine z_ifNB (fun e => ?_) (fun e => ?_)
  · walk_at "z"
    exact k false ⟨fun z => (nomatch z), fun z => (notP (by rw [e]; rfl) z).elim⟩
  · walk_at "z"
    refine hk.isi_bool ?_
    walk_at "z"
    refine z_ifB (fun e2 => ?_) (fun e2 => ?_)
    · walk_at "z"
      exact k false ⟨fun z => (nomatch z), fun z => (notP (by rw [e, e2]; rfl) z).elim⟩
    · obtain ⟨i, rfl⟩ := isInt_of (x := x) (by rw [e, e2]; rfl)
      walk_at "z"
      refine z_if (fun e3 => ?_) (fun e3 => ?_)
      · walk_at "z"
        refine z_ifN (fun e4 => ?_) (fun e4 => ?_)
        · walk_at "z"
          exact k false ⟨fun z => (nomatch z), fun z => absurd z.2.1 e4⟩
        · walk_at "z"
          refine ⟨i, rfl, by omega, by omega, fun b hb => ?_⟩
          exact k b ⟨fun z => ⟨e3, e4, hb.mp z⟩, fun z => hb.mpr z.2.2⟩
      · walk_at "z"
        refine z_ifNB (fun e4 => ?_) (fun e4 => ?_)
        · walk_at "z"
          exact k false ⟨fun z => (nomatch z), fun z => absurd z.1 e3⟩
        · cases e4

theorem pure__law_refused {K : PySem.W.Frag} {A : Cls} (hx : PySem.W.exmOne K (.ref A.BadRest) (.ref A.BadRest) = some true) (vs : List V) (H : Hp) (Q : VK) (E : XK) (h : sp_refused vs H Q E) :
    t__law_refused K A E { nx := fun _ H' => Q .non H', rt := Q } (start N__law_refused vs) H := by
  obtain ⟨p, rfl, hp, k⟩ := h
  unfold t__law_refused
  walk_at "z"
  refine ⟨.int p, .int 0, rfl, trivial, trivial, fun z => (z hp).elim, fun q e _ => ?_⟩
  cases e
  refine ⟨fun _ => ?_, fun r e h1 h2 => by cases e; omega⟩
  refine ⟨true, hx, fun _ a na => ?_, fun z => nomatch z⟩
  walk_at "z"
  exact k

theorem pure_law {K : PySem.W.Frag} {A : Cls} (vs : List V) (H : Hp) (Q : VK) (E : XK) (h : sp_law K vs H Q E) :
    t_law K A E { nx := fun _ H' => Q .non H', rt := Q } (start N_law vs) H := by
  obtain ⟨sc, rfl, hs, k⟩ := h
  unfold t_law
  walk_at "z"
  refine ⟨by show 1 ≤ sizeLine; decide, fun tp ntp => ?_⟩
  generalize h1 : upd H tp (.lst [.int 0]) = H1
  have s1 : L2.Same H H1 := by rw [← h1]; exact same_new ntp
  have t1 : Tape H1 tp 1000 := ⟨0, by decide, by decide, by rw [← h1]; exact upd_same⟩
  have hs1 := hs.same s1
  walk_at "z"
  refine ⟨sc, tp, 900, rfl, hs1, t1.mono (by decide), fun v H2 kv x2 t2 => ?_⟩
  have hs2 := hs1.ext x2 t1
  walk_at "z"
  refine ⟨sc, tp, 800, rfl, hs2, t2.mono (by decide), fun p H3 hp x3 t3 => ?_⟩
  have hs3 := hs2.ext x3 t2
  have p3 := hp.1
  walk_at "z"
  refine ⟨sc, tp, p - 1, 700, rfl, hs3, t3.mono (by decide), by omega, fun r H4 hr0 hr1 x4 t4 => ?_⟩
  have kv4 : Kn H4 v := (kv.ext x3 t3).ext x4 t4
  walk_at "z"
  refine ⟨v, rfl, kv4, fun b hb => ?_⟩
  walk_at "z"
  refine Kn.isi_bool (x := .bl b) trivial ?_
  show ∃ c, V.bl true = .bl c ∧ _
  walk_at "z"
  show if false = true then _ else _
  walk_at "z"
  refine ⟨v, rfl, kv4, fun b2 hb2 => ?_⟩
  have e : b = b2 := by
    rw [Bool.eq_iff_iff, hb, hb2]
  subst e
  walk_at "z"
  refine z_ifN (fun z => absurd rfl z) (fun _ => ?_)
  walk_at "z"
  refine ⟨.int p, rfl, trivial, fun b3 hb3 => ?_⟩
  have e3 : b3 = true := hb3.mpr hp
  subst e3
  walk_at "z"
  refine z_ifN (fun z => absurd rfl z) (fun _ => ?_)
  walk_at "z"
  refine ⟨.int p, .int (1 + r), rfl, trivial, trivial, fun z => (z hp).elim, fun q e _ => ?_⟩
  cases e
  refine ⟨fun z => (z ⟨1 + r, rfl, by omega, by omega⟩).elim, fun r' e h5 h6 t ht0 ht1 ht => ?_⟩
  cases e
  walk_at "z"
  refine ⟨t, p, rfl, ?_⟩
  rw [decide_eq_true (show 0 ≤ t ∧ t < p from ⟨ht0, ht1⟩)]
  walk_at "z"
  have p9 := hp.2.1
  refine s_mulI (.inl ⟨by omega, by omega⟩) ?_
  walk_at "z"
  refine z_if (fun e => ?_) (fun e => absurd ht e)
  walk_at "z"
  refine ⟨p, rfl, hp, ?_⟩
  exact k _

/-- what the top has written -/
structure Txt (K : PySem.W.Frag) (mg : Str → Option Value) (A : Cls) : Prop where
  e_NoPrime : ErrAt K mg "NoPrime" A.NoPrime [.type "ValueError", .type "Exception", .type "BaseException", .type "object"] "ValueError.__new__"
  e_BadRest : ErrAt K mg "BadRest" A.BadRest [.type "ValueError", .type "Exception", .type "BaseException", .type "object"] "ValueError.__new__"
  s_BadRest_BadRest : PySem.W.subIn K (.ref A.BadRest) (.ref A.BadRest) = some true
  s_NoPrime_BadRest : PySem.W.subIn K (.ref A.NoPrime) (.ref A.BadRest) = some false
  c_LEAST_PRIME : GlI mg "LEAST_PRIME" 3
  c_MOST_PRIME : GlI mg "MOST_PRIME" 9973
  n_bool : mg "bool" = none
  n_int : mg "int" = none
  n_isinstance : mg "isinstance" = none
  n_len : mg "len" = none
  n_range : mg "range" = none
  d_is_whole : DefAt K mg "is_whole" s_is_whole ["thing"]
  d_is_prime : DefAt K mg "is_prime" s_is_prime ["thing"]
  d_is_rest : DefAt K mg "is_rest" s_is_rest ["p", "thing"]
  d_check_prime : DefAt K mg "check_prime" s_check_prime ["p"]
  d_check_rest : DefAt K mg "check_rest" s_check_rest ["p", "thing"]
  d_power : DefAt K mg "power" s_power ["p", "rest", "often"]
  d_turned : DefAt K mg "turned" s_turned ["p", "rest"]
  d__law_draw : DefAt K mg "_law_draw" s__law_draw ["_law_script", "_law_tape", "_law_many"]
  d__law_is_prime : DefAt K mg "_law_is_prime" s__law_is_prime ["_law_number"]
  d__law_prime : DefAt K mg "_law_prime" s__law_prime ["_law_script", "_law_tape"]
  d__law_is_rest : DefAt K mg "_law_is_rest" s__law_is_rest ["_law_found", "_law_p"]
  d__law_thing : DefAt K mg "_law_thing" s__law_thing ["_law_script", "_law_tape"]
  d__law_due : DefAt K mg "_law_due" s__law_due ["_law_thing_here"]
  d__law_refused : DefAt K mg "_law_refused" s__law_refused ["_law_p"]
  d_law : DefAt K mg "law" s_law ["_law_script"]
section
variable {P : Program} {w : World} {K : PySem.W.Frag} {mg : Str → Option Value} {base : Heap} {A : Cls}
theorem sc_is_whole : FnScope N_is_whole ["thing"] (defScope s_is_whole) := ⟨rfl, rfl, rfl, by decide +kernel, rfl, by decide +kernel, by decide +kernel⟩
theorem ok_is_whole (T : Txt K mg A)  : Good P w K mg base 1 "is_whole" ["thing"] (sp_is_whole) := by
  refine Good.of (N := N_is_whole) T.d_is_whole sc_is_whole (fun vs H Q E h => len_is_whole vs H Q E h) fun f cdv B outer s H E hr => ⟨t_is_whole K A E, ?_, fun vs Q h => pure_is_whole  vs H Q E h⟩
  have nd : N_is_whole.Nodup := sc_is_whole.nd
  exact (pss_one (ps_ret (pe_and (pe_callB call_isi (by rfl) T.n_isinstance (by decide +kernel) (pa_cons (pv 0) (pa_cons (pe_bltn (v := .ty "int") (by rfl) T.n_int (by decide +kernel) rfl) pa_nil))) (pe_one (pe_not (pe_callB call_isi (by rfl) T.n_isinstance (by decide +kernel) (pa_cons (pv 0) (pa_cons (pe_bltn (v := .ty "bool") (by rfl) T.n_bool (by decide +kernel) rfl) pa_nil))))))))
theorem sc_is_prime : FnScope N_is_prime ["thing"] (defScope s_is_prime) := ⟨rfl, rfl, rfl, by decide +kernel, rfl, by decide +kernel, by decide +kernel⟩
theorem ok_is_prime (T : Txt K mg A) (g_is_whole : Good P w K mg base 1 "is_whole" ["thing"] (sp_is_whole)) : Good P w K mg base 2 "is_prime" ["thing"] (sp_is_prime) := by
  refine Good.of (N := N_is_prime) T.d_is_prime sc_is_prime (fun vs H Q E h => len_is_prime vs H Q E h) fun f cdv B outer s H E hr => ⟨t_is_prime K A E, ?_, fun vs Q h => pure_is_prime  vs H Q E h⟩
  have nd : N_is_prime.Nodup := sc_is_prime.nd
  exact (pss_cons (ps_if (PW.pt (pw_or (pt_not (pt_val (pe_callG g_is_whole hr (by decide) (by rfl) (passes_call (takes_of rfl rfl rfl rfl) (fun _ _ _ _ h => h)) (pa_cons (pv 0) pa_nil)))) (pw_or (pt_cmpR op_ltA (pv 0) (pe_globI (by rfl) T.c_LEAST_PRIME) (nomark _)) (pw_or1 (pt_cmpR op_gtA (pv 0) (pe_globI (by rfl) T.c_MOST_PRIME) (nomark _)))))) (pss_one (ps_ret pe_bl)) pss_nil)
  (pss_cons (ps_set (i := 1) nd rfl (Or.inl rfl) pe_int)
  (pss_cons (ps_while (passes_of rfl) (pt_cmpR op_leA (pe_op op_mulA (pv 1) (pv 1)) (pv 0) (nomark _)) (pss_cons (ps_if (pt_cmpR (op_eqA hr) (pe_op op_modA (pv 0) (pv 1)) pe_int (nomark _)) (pss_one (ps_ret pe_bl)) pss_nil)
  (pss_one (ps_aug (i := 1) nd rfl (Or.inl rfl) pe_int ip_add))))
  (pss_one (ps_ret pe_bl)))))
theorem sc_is_rest : FnScope N_is_rest ["p", "thing"] (defScope s_is_rest) := ⟨rfl, rfl, rfl, by decide +kernel, rfl, by decide +kernel, by decide +kernel⟩
theorem ok_is_rest (T : Txt K mg A) (g_is_whole : Good P w K mg base 1 "is_whole" ["thing"] (sp_is_whole)) : Good P w K mg base 2 "is_rest" ["p", "thing"] (sp_is_rest) := by
  refine Good.of (N := N_is_rest) T.d_is_rest sc_is_rest (fun vs H Q E h => len_is_rest vs H Q E h) fun f cdv B outer s H E hr => ⟨t_is_rest K A E, ?_, fun vs Q h => pure_is_rest  vs H Q E h⟩
  have nd : N_is_rest.Nodup := sc_is_rest.nd
  exact (pss_one (ps_ret (pe_and (pe_callG g_is_whole hr (by decide) (by rfl) (passes_call (takes_of rfl rfl rfl rfl) (fun _ _ _ _ h => h)) (pa_cons (pv 1) pa_nil)) (pe_one (pe_chain op_leA op_ltA pe_int (pv 1) (pv 0))))))
theorem sc_check_prime : FnScope N_check_prime ["p"] (defScope s_check_prime) := ⟨rfl, rfl, rfl, by decide +kernel, rfl, by decide +kernel, by decide +kernel⟩
theorem ok_check_prime (T : Txt K mg A) (g_is_prime : Good P w K mg base 2 "is_prime" ["thing"] (sp_is_prime)) : Good P w K mg base 3 "check_prime" ["p"] (sp_check_prime A.NoPrime) := by
  refine Good.of (N := N_check_prime) T.d_check_prime sc_check_prime (fun vs H Q E h => len_check_prime vs H Q E h) fun f cdv B outer s H E hr => ⟨t_check_prime K A E, ?_, fun vs Q h => pure_check_prime  vs H Q E h⟩
  have nd : N_check_prime.Nodup := sc_check_prime.nd
  exact (pss_one (ps_if (pt_not (pt_val (pe_callG g_is_prime hr (by decide) (by rfl) (passes_call (takes_of rfl rfl rfl rfl) (fun _ _ _ _ h => h)) (pa_cons (pv 0) pa_nil)))) (pss_one (ps_raiseC rfl (takes_of rfl rfl rfl rfl) T.e_NoPrime (by rfl))) pss_nil))
theorem sc_check_rest : FnScope N_check_rest ["p", "thing"] (defScope s_check_rest) := ⟨rfl, rfl, rfl, by decide +kernel, rfl, by decide +kernel, by decide +kernel⟩
theorem ok_check_rest (T : Txt K mg A) (g_is_rest : Good P w K mg base 2 "is_rest" ["p", "thing"] (sp_is_rest)) : Good P w K mg base 3 "check_rest" ["p", "thing"] (sp_check_rest A.BadRest) := by
  refine Good.of (N := N_check_rest) T.d_check_rest sc_check_rest (fun vs H Q E h => len_check_rest vs H Q E h) fun f cdv B outer s H E hr => ⟨t_check_rest K A E, ?_, fun vs Q h => pure_check_rest  vs H Q E h⟩
  have nd : N_check_rest.Nodup := sc_check_rest.nd
  exact (pss_one (ps_if (pt_not (pt_val (pe_callG g_is_rest hr (by decide) (by rfl) (passes_call (takes_of rfl rfl rfl rfl) (fun _ _ _ _ h => h)) (pa_cons (pv 0) (pa_cons (pv 1) pa_nil))))) (pss_one (ps_raiseC rfl (takes_of rfl rfl rfl rfl) T.e_BadRest (by rfl))) pss_nil))
theorem sc_power : FnScope N_power ["p", "rest", "often"] (defScope s_power) := ⟨rfl, rfl, rfl, by decide +kernel, rfl, by decide +kernel, by decide +kernel⟩
theorem ok_power (T : Txt K mg A)  : Good P w K mg base 1 "power" ["p", "rest", "often"] (sp_power) := by
  refine Good.of (N := N_power) T.d_power sc_power (fun vs H Q E h => len_power vs H Q E h) fun f cdv B outer s H E hr => ⟨t_power K A E, ?_, fun vs Q h => pure_power  vs H Q E h⟩
  have nd : N_power.Nodup := sc_power.nd
  exact (pss_cons (ps_set (i := 3) nd rfl (Or.inl rfl) pe_int)
  (pss_cons (ps_set (i := 4) nd rfl (Or.inl rfl) (pv 1))
  (pss_cons (ps_while (passes_of rfl) (pt_cmpR op_gtA (pv 2) pe_int (nomark _)) (pss_cons (ps_if (pt_cmpR (op_eqA hr) (pe_op op_modA (pv 2) pe_int) pe_int (nomark _)) (pss_one (ps_set (i := 3) nd rfl (Or.inl rfl) (pe_op op_modA (pe_op op_mulA (pv 3) (pv 4)) (pv 0)))) pss_nil)
  (pss_cons (ps_set (i := 4) nd rfl (Or.inl rfl) (pe_op op_modA (pe_op op_mulA (pv 4) (pv 4)) (pv 0)))
  (pss_one (ps_set (i := 2) nd rfl (Or.inl rfl) (pe_op op_divA (pv 2) pe_int))))))
  (pss_one (ps_ret (pv 3))))))
theorem sc_turned : FnScope N_turned ["p", "rest"] (defScope s_turned) := ⟨rfl, rfl, rfl, by decide +kernel, rfl, by decide +kernel, by decide +kernel⟩
theorem ok_turned (T : Txt K mg A) (g_check_prime : Good P w K mg base 3 "check_prime" ["p"] (sp_check_prime A.NoPrime)) (g_check_rest : Good P w K mg base 3 "check_rest" ["p", "thing"] (sp_check_rest A.BadRest)) (g_power : Good P w K mg base 1 "power" ["p", "rest", "often"] (sp_power)) : Good P w K mg base 4 "turned" ["p", "rest"] (sp_turned A.NoPrime A.BadRest) := by
  refine Good.of (N := N_turned) T.d_turned sc_turned (fun vs H Q E h => len_turned vs H Q E h) fun f cdv B outer s H E hr => ⟨t_turned K A E, ?_, fun vs Q h => pure_turned  vs H Q E h⟩
  have nd : N_turned.Nodup := sc_turned.nd
  exact (pss_cons (ps_expr (pe_callG g_check_prime hr (by decide) (by rfl) (passes_call (takes_of rfl rfl rfl rfl) (fun _ _ _ _ h => h)) (pa_cons (pv 0) pa_nil)))
  (pss_cons (ps_expr (pe_callG g_check_rest hr (by decide) (by rfl) (passes_call (takes_of rfl rfl rfl rfl) (fun _ _ _ _ h => h)) (pa_cons (pv 0) (pa_cons (pv 1) pa_nil))))
  (pss_cons (ps_if (pt_cmpR (op_eqA hr) (pv 1) pe_int (nomark _)) (pss_one (ps_raiseC rfl (takes_of rfl rfl rfl rfl) T.e_BadRest (by rfl))) pss_nil)
  (pss_one (ps_ret (pe_callG g_power hr (by decide) (by rfl) (passes_call (takes_of rfl rfl rfl rfl) (fun _ _ _ _ h => h)) (pa_cons (pv 0) (pa_cons (pv 1) (pa_cons (pe_op op_subA (pv 0) pe_int) pa_nil)))))))))
theorem sc__law_draw : FnScope N__law_draw ["_law_script", "_law_tape", "_law_many"] (defScope s__law_draw) := ⟨rfl, rfl, rfl, by decide +kernel, rfl, by decide +kernel, by decide +kernel⟩
theorem ok__law_draw (T : Txt K mg A)  : Good P w K mg base 1 "_law_draw" ["_law_script", "_law_tape", "_law_many"] (sp_draw K) := by
  refine Good.of (N := N__law_draw) T.d__law_draw sc__law_draw (fun vs H Q E h => len__law_draw vs H Q E h) fun f cdv B outer s H E hr => ⟨t__law_draw K A E, ?_, fun vs Q h => pure__law_draw  vs H Q E h⟩
  have nd : N__law_draw.Nodup := sc__law_draw.nd
  exact (pss_cons (ps_asg (pe_op op_addA (pe_ix ix_seq (pv 1) pe_int (fun _ _ => rfl)) pe_int) (pg_sub (pv 1) pe_int set_list))
  (pss_cons (ps_if (pt_cmpR op_leA (pe_ix ix_seq (pv 1) pe_int (fun _ _ => rfl)) (pe_callB call_lenA (by rfl) T.n_len (by decide +kernel) (pa_cons (pv 0) pa_nil)) (nomark _)) (pss_one (ps_ret (pe_op op_modA (pe_ix ix_seq (pv 0) (pe_op op_subA (pe_ix ix_seq (pv 1) pe_int (fun _ _ => rfl)) pe_int) (fun _ _ => rfl)) (pv 2)))) pss_nil)
  (pss_cons (ps_set (i := 3) nd rfl (Or.inl rfl) (pe_callB call_lenA (by rfl) T.n_len (by decide +kernel) (pa_cons (pv 0) pa_nil)))
  (pss_cons (ps_for (passes_of rfl) rfl (pi_list (pe_slice sl_list (pv 0) po_none (po_some pe_int))) (pg_name (i := 4) nd rfl (Or.inl rfl)) (pss_one (ps_set (i := 3) nd rfl (Or.inl rfl) (pe_op op_modA (pe_op op_addA (pe_op op_mulA (pv 3) pe_int) (pv 4)) pe_int))))
  (pss_one (ps_ret (pe_op op_modA (pe_op op_modA (pe_op op_mulA (pe_op op_addA (pv 3) pe_int) (pe_op op_addA (pe_op op_mulA (pe_ix ix_seq (pv 1) pe_int (fun _ _ => rfl)) (pe_ix ix_seq (pv 1) pe_int (fun _ _ => rfl))) pe_int)) pe_int) (pv 2))))))))
theorem sc__law_is_prime : FnScope N__law_is_prime ["_law_number"] (defScope s__law_is_prime) := ⟨rfl, rfl, rfl, by decide +kernel, rfl, by decide +kernel, by decide +kernel⟩
theorem ok__law_is_prime (T : Txt K mg A)  : Good P w K mg base 1 "_law_is_prime" ["_law_number"] (sp_lprime) := by
  refine Good.of (N := N__law_is_prime) T.d__law_is_prime sc__law_is_prime (fun vs H Q E h => len__law_is_prime vs H Q E h) fun f cdv B outer s H E hr => ⟨t__law_is_prime K A E, ?_, fun vs Q h => pure__law_is_prime  vs H Q E h⟩
  have nd : N__law_is_prime.Nodup := sc__law_is_prime.nd
  exact (pss_cons (ps_for (passes_of rfl) rfl (pi_range2 (by rfl) T.n_range (pa_cons pe_int (pa_cons pe_int pa_nil))) (pg_name (i := 1) nd rfl (Or.inl rfl)) (pss_cons (ps_if (pt_cmpR op_gtA (pe_op op_mulA (pv 1) (pv 1)) (pv 0) (nomark _)) (pss_one (ps_ret pe_bl)) pss_nil)
  (pss_one (ps_if (pt_cmpR (op_eqA hr) (pe_op op_modA (pv 0) (pv 1)) pe_int (nomark _)) (pss_one (ps_ret pe_bl)) pss_nil))))
  (pss_one (ps_ret pe_bl)))
theorem sc__law_prime : FnScope N__law_prime ["_law_script", "_law_tape"] (defScope s__law_prime) := ⟨rfl, rfl, rfl, by decide +kernel, rfl, by decide +kernel, by decide +kernel⟩
theorem ok__law_prime (T : Txt K mg A) (g__law_draw : Good P w K mg base 1 "_law_draw" ["_law_script", "_law_tape", "_law_many"] (sp_draw K)) (g__law_is_prime : Good P w K mg base 1 "_law_is_prime" ["_law_number"] (sp_lprime)) : Good P w K mg base 2 "_law_prime" ["_law_script", "_law_tape"] (sp_prime K) := by
  refine Good.of (N := N__law_prime) T.d__law_prime sc__law_prime (fun vs H Q E h => len__law_prime vs H Q E h) fun f cdv B outer s H E hr => ⟨t__law_prime K A E, ?_, fun vs Q h => pure__law_prime  vs H Q E h⟩
  have nd : N__law_prime.Nodup := sc__law_prime.nd
  exact (pss_cons (ps_set (i := 2) nd rfl (Or.inl rfl) (pe_callG g__law_draw hr (by decide) (by rfl) (passes_call (takes_of rfl rfl rfl rfl) (fun _ _ _ _ h => h)) (pa_cons (pv 0) (pa_cons (pv 1) (pa_cons pe_int pa_nil)))))
  (pss_cons (ps_if (pt_cmpR (op_eqA hr) (pv 2) pe_int (nomark _)) (pss_one (ps_ret (pe_ix ix_seq (pe_lst (pa_cons pe_int (pa_cons pe_int (pa_cons pe_int (pa_cons pe_int (pa_cons pe_int pa_nil)))))) (pe_callG g__law_draw hr (by decide) (by rfl) (passes_call (takes_of rfl rfl rfl rfl) (fun _ _ _ _ h => h)) (pa_cons (pv 0) (pa_cons (pv 1) (pa_cons pe_int pa_nil)))) (fun _ _ => rfl)))) pss_nil)
  (pss_cons (ps_set (i := 3) nd rfl (Or.inl rfl) (pe_op op_addA pe_int (pe_callG g__law_draw hr (by decide) (by rfl) (passes_call (takes_of rfl rfl rfl rfl) (fun _ _ _ _ h => h)) (pa_cons (pv 0) (pa_cons (pv 1) (pa_cons pe_int pa_nil))))))
  (pss_cons (ps_while (passes_of rfl) (pt_not (pt_val (pe_callG g__law_is_prime hr (by decide) (by rfl) (passes_call (takes_of rfl rfl rfl rfl) (fun _ _ _ _ h => h)) (pa_cons (pv 3) pa_nil)))) (pss_one (ps_set (i := 3) nd rfl (Or.inl rfl) (pe_op op_addA (pv 3) pe_int))))
  (pss_one (ps_ret (pv 3)))))))
theorem sc__law_is_rest : FnScope N__law_is_rest ["_law_found", "_law_p"] (defScope s__law_is_rest) := ⟨rfl, rfl, rfl, by decide +kernel, rfl, by decide +kernel, by decide +kernel⟩
theorem ok__law_is_rest (T : Txt K mg A)  : Good P w K mg base 1 "_law_is_rest" ["_law_found", "_law_p"] (sp_lrest) := by
  refine Good.of (N := N__law_is_rest) T.d__law_is_rest sc__law_is_rest (fun vs H Q E h => len__law_is_rest vs H Q E h) fun f cdv B outer s H E hr => ⟨t__law_is_rest K A E, ?_, fun vs Q h => pure__law_is_rest  vs H Q E h⟩
  have nd : N__law_is_rest.Nodup := sc__law_is_rest.nd
  exact (pss_one (ps_ret (pe_and (pe_callB call_isi (by rfl) T.n_isinstance (by decide +kernel) (pa_cons (pv 0) (pa_cons (pe_bltn (v := .ty "int") (by rfl) T.n_int (by decide +kernel) rfl) pa_nil))) (pe_and (pe_not (pe_callB call_isi (by rfl) T.n_isinstance (by decide +kernel) (pa_cons (pv 0) (pa_cons (pe_bltn (v := .ty "bool") (by rfl) T.n_bool (by decide +kernel) rfl) pa_nil)))) (pe_one (pe_chain op_leA op_ltA pe_int (pv 0) (pv 1)))))))
theorem sc__law_thing : FnScope N__law_thing ["_law_script", "_law_tape"] (defScope s__law_thing) := ⟨rfl, rfl, rfl, by decide +kernel, rfl, by decide +kernel, by decide +kernel⟩
theorem ok__law_thing (T : Txt K mg A) (g__law_draw : Good P w K mg base 1 "_law_draw" ["_law_script", "_law_tape", "_law_many"] (sp_draw K)) : Good P w K mg base 2 "_law_thing" ["_law_script", "_law_tape"] (sp_thing K) := by
  refine Good.of (N := N__law_thing) T.d__law_thing sc__law_thing (fun vs H Q E h => len__law_thing vs H Q E h) fun f cdv B outer s H E hr => ⟨t__law_thing K A E, ?_, fun vs Q h => pure__law_thing  vs H Q E h⟩
  have nd : N__law_thing.Nodup := sc__law_thing.nd
  exact (pss_cons (ps_set (i := 2) nd rfl (Or.inl rfl) (pe_callG g__law_draw hr (by decide) (by rfl) (passes_call (takes_of rfl rfl rfl rfl) (fun _ _ _ _ h => h)) (pa_cons (pv 0) (pa_cons (pv 1) (pa_cons pe_int pa_nil)))))
  (pss_cons (ps_if (pt_cmpR (op_eqA hr) (pv 2) pe_int (nomark _)) (pss_one (ps_ret (pe_ix ix_seq (pe_lst (pa_cons pe_bl (pa_cons pe_bl (pa_cons pe_non (pa_cons pe_str (pa_cons (pe_lst (pa_cons pe_int pa_nil)) (pa_cons (pe_tup (pa_cons pe_int pa_nil)) (pa_cons (pe_op op_addA (pe_op op_powA pe_int pe_int) pe_int) (pa_cons (pe_un un_neg pe_int) (pa_cons pe_int (pa_cons pe_int pa_nil))))))))))) (pe_callG g__law_draw hr (by decide) (by rfl) (passes_call (takes_of rfl rfl rfl rfl) (fun _ _ _ _ h => h)) (pa_cons (pv 0) (pa_cons (pv 1) (pa_cons pe_int pa_nil)))) (fun _ _ => rfl)))) pss_nil)
  (pss_cons (ps_if (pt_cmpR (op_eqA hr) (pv 2) pe_int (nomark _)) (pss_one (ps_ret (pe_op op_subA (pe_callG g__law_draw hr (by decide) (by rfl) (passes_call (takes_of rfl rfl rfl rfl) (fun _ _ _ _ h => h)) (pa_cons (pv 0) (pa_cons (pv 1) (pa_cons pe_int pa_nil)))) pe_int))) pss_nil)
  (pss_one (ps_ret (pe_op op_mulA (pe_op op_addA pe_int (pe_callG g__law_draw hr (by decide) (by rfl) (passes_call (takes_of rfl rfl rfl rfl) (fun _ _ _ _ h => h)) (pa_cons (pv 0) (pa_cons (pv 1) (pa_cons pe_int pa_nil))))) (pe_op op_addA pe_int (pe_callG g__law_draw hr (by decide) (by rfl) (passes_call (takes_of rfl rfl rfl rfl) (fun _ _ _ _ h => h)) (pa_cons (pv 0) (pa_cons (pv 1) (pa_cons pe_int pa_nil)))))))))))
theorem sc__law_due : FnScope N__law_due ["_law_thing_here"] (defScope s__law_due) := ⟨rfl, rfl, rfl, by decide +kernel, rfl, by decide +kernel, by decide +kernel⟩
theorem ok__law_due (T : Txt K mg A) (g__law_is_prime : Good P w K mg base 1 "_law_is_prime" ["_law_number"] (sp_lprime)) : Good P w K mg base 2 "_law_due" ["_law_thing_here"] (sp_due) := by
  refine Good.of (N := N__law_due) T.d__law_due sc__law_due (fun vs H Q E h => len__law_due vs H Q E h) fun f cdv B outer s H E hr => ⟨t__law_due K A E, ?_, fun vs Q h => pure__law_due  vs H Q E h⟩
  have nd : N__law_due.Nodup := sc__law_due.nd
  exact (pss_cons (ps_if (PW.pt (pw_or (pt_not (pt_val (pe_callB call_isi (by rfl) T.n_isinstance (by decide +kernel) (pa_cons (pv 0) (pa_cons (pe_bltn (v := .ty "int") (by rfl) T.n_int (by decide +kernel) rfl) pa_nil))))) (pw_or (pt_val (pe_callB call_isi (by rfl) T.n_isinstance (by decide +kernel) (pa_cons (pv 0) (pa_cons (pe_bltn (v := .ty "bool") (by rfl) T.n_bool (by decide +kernel) rfl) pa_nil)))) (pw_or1 (pt_not (pt_chain op_leA op_leA pe_int (pv 0) pe_int)))))) (pss_one (ps_ret pe_bl)) pss_nil)
  (pss_one (ps_ret (pe_callG g__law_is_prime hr (by decide) (by rfl) (passes_call (takes_of rfl rfl rfl rfl) (fun _ _ _ _ h => h)) (pa_cons (pv 0) pa_nil)))))
theorem sc__law_refused : FnScope N__law_refused ["_law_p"] (defScope s__law_refused) := ⟨rfl, rfl, rfl, by decide +kernel, rfl, by decide +kernel, by decide +kernel⟩
theorem ok__law_refused (T : Txt K mg A) (g_turned : Good P w K mg base 4 "turned" ["p", "rest"] (sp_turned A.NoPrime A.BadRest)) : Good P w K mg base 5 "_law_refused" ["_law_p"] (sp_refused) := by
  refine Good.of (N := N__law_refused) T.d__law_refused sc__law_refused (fun vs H Q E h => len__law_refused vs H Q E h) fun f cdv B outer s H E hr => ⟨t__law_refused K A E, ?_, fun vs Q h => pure__law_refused (exm_of T.e_BadRest.b T.e_BadRest.i T.e_BadRest.t T.s_BadRest_BadRest) vs H Q E h⟩
  have nd : N__law_refused.Nodup := sc__law_refused.nd
  exact (pss_cons (ps_try_only rfl rfl ⟨rfl, by decide, Or.inl T.e_BadRest.g⟩ (takes_of rfl rfl rfl rfl) (tb := fun W => (tDrop (tCallS (sp_turned A.NoPrime A.BadRest) (WE W) (tCons (tVar 0) (tCons (tC (.int 0)) tNil))))) (ts := fun _ _ _ => (tRet (tC (.bl true))))
  (fun W pn xe tk po => (pss_one (ps_expr (pe_callGS g_turned hr (by decide) (by rfl) (fun σ => passAt tk σ) (pa_cons (pv 0) (pa_cons pe_int pa_nil))))))
  (fun _ _ _ _ _ _ _ => (pss_one (ps_ret pe_bl))))
  (pss_one (ps_ret pe_bl)))
theorem sc_law : FnScope N_law ["_law_script"] (defScope s_law) := ⟨rfl, rfl, rfl, by decide +kernel, rfl, by decide +kernel, by decide +kernel⟩
theorem ok_law (T : Txt K mg A) (g_is_prime : Good P w K mg base 2 "is_prime" ["thing"] (sp_is_prime)) (g_turned : Good P w K mg base 4 "turned" ["p", "rest"] (sp_turned A.NoPrime A.BadRest)) (g__law_draw : Good P w K mg base 1 "_law_draw" ["_law_script", "_law_tape", "_law_many"] (sp_draw K)) (g__law_prime : Good P w K mg base 2 "_law_prime" ["_law_script", "_law_tape"] (sp_prime K)) (g__law_is_rest : Good P w K mg base 1 "_law_is_rest" ["_law_found", "_law_p"] (sp_lrest)) (g__law_thing : Good P w K mg base 2 "_law_thing" ["_law_script", "_law_tape"] (sp_thing K)) (g__law_due : Good P w K mg base 2 "_law_due" ["_law_thing_here"] (sp_due)) (g__law_refused : Good P w K mg base 5 "_law_refused" ["_law_p"] (sp_refused)) : Good P w K mg base 6 "law" ["_law_script"] (sp_law K) := by
  refine Good.of (N := N_law) T.d_law sc_law (fun vs H Q E h => len_law vs H Q E h) fun f cdv B outer s H E hr => ⟨t_law K A E, ?_, fun vs Q h => pure_law  vs H Q E h⟩
  have nd : N_law.Nodup := sc_law.nd
  exact (pss_cons (ps_set (i := 1) nd rfl (Or.inl rfl) (pe_lst (pa_cons pe_int pa_nil)))
  (pss_cons (ps_set (i := 2) nd rfl (Or.inl rfl) (pe_callG g__law_thing hr (by decide) (by rfl) (passes_call (takes_of rfl rfl rfl rfl) (fun _ _ _ _ h => h)) (pa_cons (pv 0) (pa_cons (pv 1) pa_nil))))
  (pss_cons (ps_set (i := 3) nd rfl (Or.inl rfl) (pe_callG g__law_prime hr (by decide) (by rfl) (passes_call (takes_of rfl rfl rfl rfl) (fun _ _ _ _ h => h)) (pa_cons (pv 0) (pa_cons (pv 1) pa_nil))))
  (pss_cons (ps_set (i := 4) nd rfl (Or.inl rfl) (pe_op op_addA pe_int (pe_callG g__law_draw hr (by decide) (by rfl) (passes_call (takes_of rfl rfl rfl rfl) (fun _ _ _ _ h => h)) (pa_cons (pv 0) (pa_cons (pv 1) (pa_cons (pe_op op_subA (pv 3) pe_int) pa_nil))))))
  (pss_cons (ps_set (i := 5) nd rfl (Or.inl rfl) (pe_callG g_is_prime hr (by decide) (by rfl) (passes_call (takes_of rfl rfl rfl rfl) (fun _ _ _ _ h => h)) (pa_cons (pv 2) pa_nil)))
  (pss_cons (ps_if (PW.pt (pw_or (pt_not (pt_val (pe_callB call_isi (by rfl) T.n_isinstance (by decide +kernel) (pa_cons (pv 5) (pa_cons (pe_bltn (v := .ty "bool") (by rfl) T.n_bool (by decide +kernel) rfl) pa_nil))))) (pw_or (pt_cmpR (op_neA hr) (pv 5) (pe_callG g__law_due hr (by decide) (by rfl) (passes_call (takes_of rfl rfl rfl rfl) (fun _ _ _ _ h => h)) (pa_cons (pv 2) pa_nil)) (nomark _)) (pw_or1 (pt_cmpR op_notBl (pe_callG g_is_prime hr (by decide) (by rfl) (passes_call (takes_of rfl rfl rfl rfl) (fun _ _ _ _ h => h)) (pa_cons (pv 3) pa_nil)) pe_bl (nomark _)))))) (pss_one (ps_ret pe_bl)) pss_nil)
  (pss_cons (ps_set (i := 6) nd rfl (Or.inl rfl) (pe_callG g_turned hr (by decide) (by rfl) (passes_call (takes_of rfl rfl rfl rfl) (fun _ _ _ _ h => h)) (pa_cons (pv 3) (pa_cons (pv 4) pa_nil))))
  (pss_one (ps_ret (pe_and (pe_callG g__law_is_rest hr (by decide) (by rfl) (passes_call (takes_of rfl rfl rfl rfl) (fun _ _ _ _ h => h)) (pa_cons (pv 6) (pa_cons (pv 3) pa_nil))) (pe_and (pe_cmpR (op_eqA hr) (pe_op op_modA (pe_op op_mulA (pv 4) (pv 6)) (pv 3)) pe_int (nomark _)) (pe_one (pe_callG g__law_refused hr (by decide) (by rfl) (passes_call (takes_of rfl rfl rfl rfl) (fun _ _ _ _ h => h)) (pa_cons (pv 3) pa_nil))))))))))))))
end

/-! ### the end -/
theorem all_mk {l : PySem.W.OpenLaw} {w : World} {K : PySem.W.Frag} {h : Heap} {mg : Str → Option Value} {fa : Addr} (X : K.In h) (G : h.Ns mainGlobals mg) (hfa : mg "law" = some (.ref fa))
    {C_NoPrime : Addr} {C_BadRest : Addr} {tk0 : Tok} {tk1 : Tok} {f0 : Addr} {od0 an0 : Option Addr} {sl0 : Array (Option Value)} {oc0 kV0 dc0 pm0 cd0 ct0 : Value} {f1 : Addr} {od1 an1 : Option Addr} {sl1 : Array (Option Value)} {oc1 kV1 dc1 pm1 cd1 ct1 : Value} {f2 : Addr} {od2 an2 : Option Addr} {sl2 : Array (Option Value)} {oc2 kV2 dc2 pm2 cd2 ct2 : Value} {f3 : Addr} {od3 an3 : Option Addr} {sl3 : Array (Option Value)} {oc3 kV3 dc3 pm3 cd3 ct3 : Value} {f4 : Addr} {od4 an4 : Option Addr} {sl4 : Array (Option Value)} {oc4 kV4 dc4 pm4 cd4 ct4 : Value} {f5 : Addr} {od5 an5 : Option Addr} {sl5 : Array (Option Value)} {oc5 kV5 dc5 pm5 cd5 ct5 : Value} {f6 : Addr} {od6 an6 : Option Addr} {sl6 : Array (Option Value)} {oc6 kV6 dc6 pm6 cd6 ct6 : Value} {f7 : Addr} {od7 an7 : Option Addr} {sl7 : Array (Option Value)} {oc7 kV7 dc7 pm7 cd7 ct7 : Value} {f8 : Addr} {od8 an8 : Option Addr} {sl8 : Array (Option Value)} {oc8 kV8 dc8 pm8 cd8 ct8 : Value} {f9 : Addr} {od9 an9 : Option Addr} {sl9 : Array (Option Value)} {oc9 kV9 dc9 pm9 cd9 ct9 : Value} {f10 : Addr} {od10 an10 : Option Addr} {sl10 : Array (Option Value)} {oc10 kV10 dc10 pm10 cd10 ct10 : Value} {f11 : Addr} {od11 an11 : Option Addr} {sl11 : Array (Option Value)} {oc11 kV11 dc11 pm11 cd11 ct11 : Value} {f12 : Addr} {od12 an12 : Option Addr} {sl12 : Array (Option Value)} {oc12 kV12 dc12 pm12 cd12 ct12 : Value} {f13 : Addr} {od13 an13 : Option Addr} {sl13 : Array (Option Value)} {oc13 kV13 dc13 pm13 cd13 ct13 : Value} {f14 : Addr} {od14 an14 : Option Addr} {sl14 : Array (Option Value)} {oc14 kV14 dc14 pm14 cd14 ct14 : Value}
    (x0g : PySem.W.nsIn K mainGlobals "NoPrime" = some (some (.ref C_NoPrime)))
    (x0x : PySem.W.excIn K C_NoPrime [.type "ValueError", .type "Exception", .type "BaseException", .type "object"] "ValueError.__new__" = true)
    (x0k : PySem.W.keepIn K (.ref C_NoPrime) = true)
    (x0b : PySem.W.subIn K (.ref C_NoPrime) (.type "BaseException") = some true)
    (x0t : PySem.W.typeIn K (.ref C_NoPrime) = some (.type "type"))
    (x0i : PySem.W.isClsIn K C_NoPrime = true)
    (x1g : PySem.W.nsIn K mainGlobals "BadRest" = some (some (.ref C_BadRest)))
    (x1x : PySem.W.excIn K C_BadRest [.type "ValueError", .type "Exception", .type "BaseException", .type "object"] "ValueError.__new__" = true)
    (x1k : PySem.W.keepIn K (.ref C_BadRest) = true)
    (x1b : PySem.W.subIn K (.ref C_BadRest) (.type "BaseException") = some true)
    (x1t : PySem.W.typeIn K (.ref C_BadRest) = some (.type "type"))
    (x1i : PySem.W.isClsIn K C_BadRest = true)
    (sb0 : PySem.W.subIn K (.ref C_BadRest) (.ref C_BadRest) = some true)
    (sb1 : PySem.W.subIn K (.ref C_NoPrime) (.ref C_BadRest) = some false)
    (cn0 : PySem.W.nsIn K mainGlobals "LEAST_PRIME" = some (some (.int 3 tk0)))
    (cn1 : PySem.W.nsIn K mainGlobals "MOST_PRIME" = some (some (.int 9973 tk1)))
    (z0 : PySem.W.nsIn K mainGlobals "bool" = some none)
    (z1 : PySem.W.nsIn K mainGlobals "int" = some none)
    (z2 : PySem.W.nsIn K mainGlobals "isinstance" = some none)
    (z3 : PySem.W.nsIn K mainGlobals "len" = some none)
    (z4 : PySem.W.nsIn K mainGlobals "range" = some none)
    (a0 : PySem.W.nsIn K mainGlobals "is_whole" = some (some (.ref f0)))
    (l0 : K.lookup f0 = some ⟨oc0, od0, .func (PySem.W.fnOf "is_whole" "is_whole" (defArgs s_is_whole) (defBody s_is_whole) (defScope s_is_whole) .none kV0 dc0 pm0 an0 cd0 ct0), sl0⟩)
    (c0 : PySem.W.codeIn K cd0 "is_whole" = true)
    (k0 : PySem.W.keepIn K (.ref f0) = true)
    (a1 : PySem.W.nsIn K mainGlobals "is_prime" = some (some (.ref f1)))
    (l1 : K.lookup f1 = some ⟨oc1, od1, .func (PySem.W.fnOf "is_prime" "is_prime" (defArgs s_is_prime) (defBody s_is_prime) (defScope s_is_prime) .none kV1 dc1 pm1 an1 cd1 ct1), sl1⟩)
    (c1 : PySem.W.codeIn K cd1 "is_prime" = true)
    (k1 : PySem.W.keepIn K (.ref f1) = true)
    (a2 : PySem.W.nsIn K mainGlobals "is_rest" = some (some (.ref f2)))
    (l2 : K.lookup f2 = some ⟨oc2, od2, .func (PySem.W.fnOf "is_rest" "is_rest" (defArgs s_is_rest) (defBody s_is_rest) (defScope s_is_rest) .none kV2 dc2 pm2 an2 cd2 ct2), sl2⟩)
    (c2 : PySem.W.codeIn K cd2 "is_rest" = true)
    (k2 : PySem.W.keepIn K (.ref f2) = true)
    (a3 : PySem.W.nsIn K mainGlobals "check_prime" = some (some (.ref f3)))
    (l3 : K.lookup f3 = some ⟨oc3, od3, .func (PySem.W.fnOf "check_prime" "check_prime" (defArgs s_check_prime) (defBody s_check_prime) (defScope s_check_prime) .none kV3 dc3 pm3 an3 cd3 ct3), sl3⟩)
    (c3 : PySem.W.codeIn K cd3 "check_prime" = true)
    (k3 : PySem.W.keepIn K (.ref f3) = true)
    (a4 : PySem.W.nsIn K mainGlobals "check_rest" = some (some (.ref f4)))
    (l4 : K.lookup f4 = some ⟨oc4, od4, .func (PySem.W.fnOf "check_rest" "check_rest" (defArgs s_check_rest) (defBody s_check_rest) (defScope s_check_rest) .none kV4 dc4 pm4 an4 cd4 ct4), sl4⟩)
    (c4 : PySem.W.codeIn K cd4 "check_rest" = true)
    (k4 : PySem.W.keepIn K (.ref f4) = true)
    (a5 : PySem.W.nsIn K mainGlobals "power" = some (some (.ref f5)))
    (l5 : K.lookup f5 = some ⟨oc5, od5, .func (PySem.W.fnOf "power" "power" (defArgs s_power) (defBody s_power) (defScope s_power) .none kV5 dc5 pm5 an5 cd5 ct5), sl5⟩)
    (c5 : PySem.W.codeIn K cd5 "power" = true)
    (k5 : PySem.W.keepIn K (.ref f5) = true)
    (a6 : PySem.W.nsIn K mainGlobals "turned" = some (some (.ref f6)))
    (l6 : K.lookup f6 = some ⟨oc6, od6, .func (PySem.W.fnOf "turned" "turned" (defArgs s_turned) (defBody s_turned) (defScope s_turned) .none kV6 dc6 pm6 an6 cd6 ct6), sl6⟩)
    (c6 : PySem.W.codeIn K cd6 "turned" = true)
    (k6 : PySem.W.keepIn K (.ref f6) = true)
    (a7 : PySem.W.nsIn K mainGlobals "_law_draw" = some (some (.ref f7)))
    (l7 : K.lookup f7 = some ⟨oc7, od7, .func (PySem.W.fnOf "_law_draw" "_law_draw" (defArgs s__law_draw) (defBody s__law_draw) (defScope s__law_draw) .none kV7 dc7 pm7 an7 cd7 ct7), sl7⟩)
    (c7 : PySem.W.codeIn K cd7 "_law_draw" = true)
    (k7 : PySem.W.keepIn K (.ref f7) = true)
    (a8 : PySem.W.nsIn K mainGlobals "_law_is_prime" = some (some (.ref f8)))
    (l8 : K.lookup f8 = some ⟨oc8, od8, .func (PySem.W.fnOf "_law_is_prime" "_law_is_prime" (defArgs s__law_is_prime) (defBody s__law_is_prime) (defScope s__law_is_prime) .none kV8 dc8 pm8 an8 cd8 ct8), sl8⟩)
    (c8 : PySem.W.codeIn K cd8 "_law_is_prime" = true)
    (k8 : PySem.W.keepIn K (.ref f8) = true)
    (a9 : PySem.W.nsIn K mainGlobals "_law_prime" = some (some (.ref f9)))
    (l9 : K.lookup f9 = some ⟨oc9, od9, .func (PySem.W.fnOf "_law_prime" "_law_prime" (defArgs s__law_prime) (defBody s__law_prime) (defScope s__law_prime) .none kV9 dc9 pm9 an9 cd9 ct9), sl9⟩)
    (c9 : PySem.W.codeIn K cd9 "_law_prime" = true)
    (k9 : PySem.W.keepIn K (.ref f9) = true)
    (a10 : PySem.W.nsIn K mainGlobals "_law_is_rest" = some (some (.ref f10)))
    (l10 : K.lookup f10 = some ⟨oc10, od10, .func (PySem.W.fnOf "_law_is_rest" "_law_is_rest" (defArgs s__law_is_rest) (defBody s__law_is_rest) (defScope s__law_is_rest) .none kV10 dc10 pm10 an10 cd10 ct10), sl10⟩)
    (c10 : PySem.W.codeIn K cd10 "_law_is_rest" = true)
    (k10 : PySem.W.keepIn K (.ref f10) = true)
    (a11 : PySem.W.nsIn K mainGlobals "_law_thing" = some (some (.ref f11)))
    (l11 : K.lookup f11 = some ⟨oc11, od11, .func (PySem.W.fnOf "_law_thing" "_law_thing" (defArgs s__law_thing) (defBody s__law_thing) (defScope s__law_thing) .none kV11 dc11 pm11 an11 cd11 ct11), sl11⟩)
    (c11 : PySem.W.codeIn K cd11 "_law_thing" = true)
    (k11 : PySem.W.keepIn K (.ref f11) = true)
    (a12 : PySem.W.nsIn K mainGlobals "_law_due" = some (some (.ref f12)))
    (l12 : K.lookup f12 = some ⟨oc12, od12, .func (PySem.W.fnOf "_law_due" "_law_due" (defArgs s__law_due) (defBody s__law_due) (defScope s__law_due) .none kV12 dc12 pm12 an12 cd12 ct12), sl12⟩)
    (c12 : PySem.W.codeIn K cd12 "_law_due" = true)
    (k12 : PySem.W.keepIn K (.ref f12) = true)
    (a13 : PySem.W.nsIn K mainGlobals "_law_refused" = some (some (.ref f13)))
    (l13 : K.lookup f13 = some ⟨oc13, od13, .func (PySem.W.fnOf "_law_refused" "_law_refused" (defArgs s__law_refused) (defBody s__law_refused) (defScope s__law_refused) .none kV13 dc13 pm13 an13 cd13 ct13), sl13⟩)
    (c13 : PySem.W.codeIn K cd13 "_law_refused" = true)
    (k13 : PySem.W.keepIn K (.ref f13) = true)
    (a14 : PySem.W.nsIn K mainGlobals "law" = some (some (.ref f14)))
    (l14 : K.lookup f14 = some ⟨oc14, od14, .func (PySem.W.fnOf "law" "law" (defArgs s_law) (defBody s_law) (defScope s_law) .none kV14 dc14 pm14 an14 cd14 ct14), sl14⟩)
    (c14 : PySem.W.codeIn K cd14 "law" = true)
    (k14 : PySem.W.keepIn K (.ref f14) = true) :
    ∃ fd : FuncData, (∀ (s : Shared) (v : Value), BindsTo s fd ⟨[v], []⟩ [("_law_script", v)]) ∧ ∀ base : Heap, K.In base → base.Ns mainGlobals mg → FnOk l.prog w K mg base (L2.CX l.prog w) 6 fa fd ["_law_script"] (sp_law K) := by
  have T : Txt K mg (⟨0, C_NoPrime, C_BadRest⟩ : Cls) := ⟨⟨PySem.W.mg_of X G x0g, x0x, x0k, x0b, x0t, x0i⟩,
    ⟨PySem.W.mg_of X G x1g, x1x, x1k, x1b, x1t, x1i⟩,
    sb0,
    sb1,
    ⟨_, PySem.W.mg_of X G cn0⟩,
    ⟨_, PySem.W.mg_of X G cn1⟩,
    PySem.W.mg_none_of X G z0,
    PySem.W.mg_none_of X G z1,
    PySem.W.mg_none_of X G z2,
    PySem.W.mg_none_of X G z3,
    PySem.W.mg_none_of X G z4,
    ⟨_, _, PySem.W.mg_of X G a0, fun_mk (st := s_is_whole) l0 c0 k0, (fun_mk (st := s_is_whole) l0 c0 k0).binds (ps := ["thing"]) fun _ _ _ _ _ _ us hl => match us, hl with | [_], _ => rfl⟩,
    ⟨_, _, PySem.W.mg_of X G a1, fun_mk (st := s_is_prime) l1 c1 k1, (fun_mk (st := s_is_prime) l1 c1 k1).binds (ps := ["thing"]) fun _ _ _ _ _ _ us hl => match us, hl with | [_], _ => rfl⟩,
    ⟨_, _, PySem.W.mg_of X G a2, fun_mk (st := s_is_rest) l2 c2 k2, (fun_mk (st := s_is_rest) l2 c2 k2).binds (ps := ["p", "thing"]) fun _ _ _ _ _ _ us hl => match us, hl with | [_, _], _ => rfl⟩,
    ⟨_, _, PySem.W.mg_of X G a3, fun_mk (st := s_check_prime) l3 c3 k3, (fun_mk (st := s_check_prime) l3 c3 k3).binds (ps := ["p"]) fun _ _ _ _ _ _ us hl => match us, hl with | [_], _ => rfl⟩,
    ⟨_, _, PySem.W.mg_of X G a4, fun_mk (st := s_check_rest) l4 c4 k4, (fun_mk (st := s_check_rest) l4 c4 k4).binds (ps := ["p", "thing"]) fun _ _ _ _ _ _ us hl => match us, hl with | [_, _], _ => rfl⟩,
    ⟨_, _, PySem.W.mg_of X G a5, fun_mk (st := s_power) l5 c5 k5, (fun_mk (st := s_power) l5 c5 k5).binds (ps := ["p", "rest", "often"]) fun _ _ _ _ _ _ us hl => match us, hl with | [_, _, _], _ => rfl⟩,
    ⟨_, _, PySem.W.mg_of X G a6, fun_mk (st := s_turned) l6 c6 k6, (fun_mk (st := s_turned) l6 c6 k6).binds (ps := ["p", "rest"]) fun _ _ _ _ _ _ us hl => match us, hl with | [_, _], _ => rfl⟩,
    ⟨_, _, PySem.W.mg_of X G a7, fun_mk (st := s__law_draw) l7 c7 k7, (fun_mk (st := s__law_draw) l7 c7 k7).binds (ps := ["_law_script", "_law_tape", "_law_many"]) fun _ _ _ _ _ _ us hl => match us, hl with | [_, _, _], _ => rfl⟩,
    ⟨_, _, PySem.W.mg_of X G a8, fun_mk (st := s__law_is_prime) l8 c8 k8, (fun_mk (st := s__law_is_prime) l8 c8 k8).binds (ps := ["_law_number"]) fun _ _ _ _ _ _ us hl => match us, hl with | [_], _ => rfl⟩,
    ⟨_, _, PySem.W.mg_of X G a9, fun_mk (st := s__law_prime) l9 c9 k9, (fun_mk (st := s__law_prime) l9 c9 k9).binds (ps := ["_law_script", "_law_tape"]) fun _ _ _ _ _ _ us hl => match us, hl with | [_, _], _ => rfl⟩,
    ⟨_, _, PySem.W.mg_of X G a10, fun_mk (st := s__law_is_rest) l10 c10 k10, (fun_mk (st := s__law_is_rest) l10 c10 k10).binds (ps := ["_law_found", "_law_p"]) fun _ _ _ _ _ _ us hl => match us, hl with | [_, _], _ => rfl⟩,
    ⟨_, _, PySem.W.mg_of X G a11, fun_mk (st := s__law_thing) l11 c11 k11, (fun_mk (st := s__law_thing) l11 c11 k11).binds (ps := ["_law_script", "_law_tape"]) fun _ _ _ _ _ _ us hl => match us, hl with | [_, _], _ => rfl⟩,
    ⟨_, _, PySem.W.mg_of X G a12, fun_mk (st := s__law_due) l12 c12 k12, (fun_mk (st := s__law_due) l12 c12 k12).binds (ps := ["_law_thing_here"]) fun _ _ _ _ _ _ us hl => match us, hl with | [_], _ => rfl⟩,
    ⟨_, _, PySem.W.mg_of X G a13, fun_mk (st := s__law_refused) l13 c13 k13, (fun_mk (st := s__law_refused) l13 c13 k13).binds (ps := ["_law_p"]) fun _ _ _ _ _ _ us hl => match us, hl with | [_], _ => rfl⟩,
    ⟨_, _, PySem.W.mg_of X G a14, fun_mk (st := s_law) l14 c14 k14, (fun_mk (st := s_law) l14 c14 k14).binds (ps := ["_law_script"]) fun _ _ _ _ _ _ us hl => match us, hl with | [_], _ => rfl⟩⟩
  have e := hfa.symm.trans (PySem.W.mg_of X G a14)
  cases e
  refine ⟨PySem.W.fnOf "law" "law" (defArgs s_law) (defBody s_law) (defScope s_law) .none kV14 dc14 pm14 an14 cd14 ct14, fun s v => .of_eq rfl, fun base _ _ => ?_⟩
  have g_is_whole := ok_is_whole (P := l.prog) (w := w) (base := base) T 
  have g_is_prime := ok_is_prime (P := l.prog) (w := w) (base := base) T g_is_whole
  have g_is_rest := ok_is_rest (P := l.prog) (w := w) (base := base) T g_is_whole
  have g_check_prime := ok_check_prime (P := l.prog) (w := w) (base := base) T g_is_prime
  have g_check_rest := ok_check_rest (P := l.prog) (w := w) (base := base) T g_is_rest
  have g_power := ok_power (P := l.prog) (w := w) (base := base) T 
  have g_turned := ok_turned (P := l.prog) (w := w) (base := base) T g_check_prime g_check_rest g_power
  have g__law_draw := ok__law_draw (P := l.prog) (w := w) (base := base) T 
  have g__law_is_prime := ok__law_is_prime (P := l.prog) (w := w) (base := base) T 
  have g__law_prime := ok__law_prime (P := l.prog) (w := w) (base := base) T g__law_draw g__law_is_prime
  have g__law_is_rest := ok__law_is_rest (P := l.prog) (w := w) (base := base) T 
  have g__law_thing := ok__law_thing (P := l.prog) (w := w) (base := base) T g__law_draw
  have g__law_due := ok__law_due (P := l.prog) (w := w) (base := base) T g__law_is_prime
  have g__law_refused := ok__law_refused (P := l.prog) (w := w) (base := base) T g_turned
  have g_law := ok_law (P := l.prog) (w := w) (base := base) T g_is_prime g_turned g__law_draw g__law_prime g__law_is_rest g__law_thing g__law_due g__law_refused
  exact law_fn g_law (PySem.W.mg_of X G a14) l14
end K01
open PySem PySem.W PyProof.Rows
set_option maxRecDepth 100000 in
set_option maxHeartbeats 0 in
theorem PySem.Challenge.cw_partshare_k01_primes_and_rests_holds : PySem.Challenge.rw_partshare_k01_primes_and_rests.Holds := by
  w_on; o_law; k_head; (case hw => w_witness2)
  k_fill
  refine L2.walk_of (l := PySem.Challenge.rw_partshare_k01_primes_and_rests) (n := 63) (k := 6) (x := "_law_script") (CX := fun w => L2.CX PySem.Challenge.rw_partshare_k01_primes_and_rests.prog w) (sp := fun w => Z.sp_law _) rfl (by decide) rfl ⟨rfl, by decide, by decide⟩ (fun w h Y => PySem.W.kIn_of Y) ?F (fun _ _ a ns hl hO hS => Z.law_start hl hO hS) (fun _ _ _ _ _ h => Z.law_cx h)
  case F =>
    intro w mg fa h KX G hmg
    refine' K01.all_mk KX G hmg ?x0g ?x0x ?x0k ?x0b ?x0t ?x0i ?x1g ?x1x ?x1k ?x1b ?x1t ?x1i ?sb0 ?sb1 ?cn0 ?cn1 ?z0 ?z1 ?z2 ?z3 ?z4 ?a0 ?l0 ?c0 ?k0 ?a1 ?l1 ?c1 ?k1 ?a2 ?l2 ?c2 ?k2 ?a3 ?l3 ?c3 ?k3 ?a4 ?l4 ?c4 ?k4 ?a5 ?l5 ?c5 ?k5 ?a6 ?l6 ?c6 ?k6 ?a7 ?l7 ?c7 ?k7 ?a8 ?l8 ?c8 ?k8 ?a9 ?l9 ?c9 ?k9 ?a10 ?l10 ?c10 ?k10 ?a11 ?l11 ?c11 ?k11 ?a12 ?l12 ?c12 ?k12 ?a13 ?l13 ?c13 ?k13 ?a14 ?l14 ?c14 ?k14
    (case x0g => k_is)
    (case x0x => k_exc)
    (case x0k => k_is)
    (case x0b => k_is)
    (case x0t => k_is)
    (case x0i => k_is)
    (case x1g => k_is)
    (case x1x => k_exc)
    (case x1k => k_is)
    (case x1b => k_is)
    (case x1t => k_is)
    (case x1i => k_is)
    (case sb0 => k_is)
    (case sb1 => k_is)
    (case cn0 => k_is)
    (case cn1 => k_is)
    (case z0 => k_is)
    (case z1 => k_is)
    (case z2 => k_is)
    (case z3 => k_is)
    (case z4 => k_is)
    (case a0 => k_is)
    (case l0 => k_is)
    (case c0 => k_is)
    (case k0 => k_is)
    (case a1 => k_is)
    (case l1 => k_is)
    (case c1 => k_is)
    (case k1 => k_is)
    (case a2 => k_is)
    (case l2 => k_is)
    (case c2 => k_is)
    (case k2 => k_is)
    (case a3 => k_is)
    (case l3 => k_is)
    (case c3 => k_is)
    (case k3 => k_is)
    (case a4 => k_is)
    (case l4 => k_is)
    (case c4 => k_is)
    (case k4 => k_is)
    (case a5 => k_is)
    (case l5 => k_is)
    (case c5 => k_is)
    (case k5 => k_is)
    (case a6 => k_is)
    (case l6 => k_is)
    (case c6 => k_is)
    (case k6 => k_is)
    (case a7 => k_is)
    (case l7 => k_is)
    (case c7 => k_is)
    (case k7 => k_is)
    (case a8 => k_is)
    (case l8 => k_is)
    (case c8 => k_is)
    (case k8 => k_is)
    (case a9 => k_is)
    (case l9 => k_is)
    (case c9 => k_is)
    (case k9 => k_is)
    (case a10 => k_is)
    (case l10 => k_is)
    (case c10 => k_is)
    (case k10 => k_is)
    (case a11 => k_is)
    (case l11 => k_is)
    (case c11 => k_is)
    (case k11 => k_is)
    (case a12 => k_is)
    (case l12 => k_is)
    (case c12 => k_is)
    (case k12 => k_is)
    (case a13 => k_is)
    (case l13 => k_is)
    (case c13 => k_is)
    (case k13 => k_is)
    (case a14 => k_is)
    (case l14 => k_is)
    (case c14 => k_is)
    (case k14 => k_is)
#print axioms PySem.Challenge.cw_partshare_k01_primes_and_rests_holds

