import PyProof.Rows.All
import Wide.All
import OpenK.AllK
import Wide.FinOn
import KE.KStateDown
import HandS.ForMost
import HandS.Exc
import HandS.Defaults
import HandS.MakeKw
import HandS.IsInst
import HandS.Wide
import HandS.WideBits
import HandS.Evl
import HandS.WordsExc
import HandS.Head0
import HandS.Head1
import HandS.Head2
import HandS.HeadEnd
import HandS.HeadHook1
import HandS.HeadHook2
import KE.KExcIs
import HandS.ExcInit
import HandS.Iter
import PyProof.EnumMake
import PyProof.Draws
import PyProof.StrOps2
import HandS.Zip
import HandS.SetFor
import HandS.WideMore
import HandS.DictComp
import PyProof.Rows.CountFlat
import HandS.EndBits
import PySem.Challenge.RW_rosenames_k05_steps_of_marks_and_back
set_option Elab.async false
set_option linter.all false
set_option maxRecDepth 100000
set_option maxHeartbeats 0
/-! The head's Hook with one Bool more; a def by its name; what an own class needs for isinstance. -/
namespace L2
open PySem PySem.Spec PyProof.Rows
/-- what the module's names reach, and the cell of the statics -/
def asN (g : Addr → Option Obj) (n : Nat) : List Addr := cStatics :: He.asD g n
def hookM (n : Nat) (fa : List He.Fa) (fn : List He.DefD) (ex : PySem.W.Frag → Bool) : PySem.W.Hook where
  α := He.AlD × Bool
  obs := fun s => (He.obsD fa fn (He.frG s.heap.get? (asN s.heap.get? n)), ex (He.frG s.heap.get? (asN s.heap.get? n)))
  val := fun _ => (He.valD fn, true)
  says := fun _ h => ∃ K : PySem.W.Frag, K.In h ∧ He.SaysD fa fn K ∧ ex K = true
  of := fun _ _ e => ⟨_, He.frG_in, congrArg (fun z : He.AlD × Bool => z.1) e, congrArg (fun z : He.AlD × Bool => z.2) e⟩
  keeps := fun _ _ _ ⟨K, hK, c⟩ k => ⟨K, PySem.W.Frag.In.keeps hK k, c⟩
/-- isinstance of an own class's instances -/
structure IsC (K : PySem.W.Frag) (C : Addr) : Prop where
  ha : PySem.W.findIn K (.ref C) "__class__" = some (some (.builtin "object.__class__"))
  hn : PySem.W.specialIn K (.builtin "object.__class__") "__get__" = some (some (.builtin "getset_descriptor.__get__"))
  htk : PySem.W.takesIn K (.builtin "object.__class__") = some true
  hm : PySem.W.mroIn K C (.type "object") = some true
def tyB (K : PySem.W.Frag) (x : Str) : Bool :=
  He.eqO (PySem.W.findIn K (.ref (He.ga K x)) "__class__") (some (some (.builtin "object.__class__"))) &&
  (He.eqO (PySem.W.specialIn K (.builtin "object.__class__") "__get__") (some (some (.builtin "getset_descriptor.__get__"))) &&
  (decide (PySem.W.takesIn K (.builtin "object.__class__") = some true) && decide (PySem.W.mroIn K (He.ga K x) (.type "object") = some true)))
theorem tyB_ok {K : PySem.W.Frag} {x : Str} (h : tyB K x = true) : IsC K (He.ga K x) := by
  obtain ⟨h1, h⟩ := He.ba h
  obtain ⟨h2, h⟩ := He.ba h
  obtain ⟨h3, h4⟩ := He.ba h
  exact ⟨He.eqO_ok h1, He.eqO_ok h2, of_decide_eq_true h3, of_decide_eq_true h4⟩
/-- a def of the module by its name: where it stands, what it promises, how it binds -/
structure Dn (P : Program) (w : World) (K : PySem.W.Frag) (mg : Str → Option Value) (base : Heap) (k : Nat) (x : Str) (ps : List Str) (sp : Sp) : Prop where
  ex : ∃ (f : Addr) (fd : FuncData), FnOk P w K mg base CX0 k f fd ps sp ∧ mg x = some (.ref f) ∧ PySem.W.keepIn K (.ref f) = true ∧ Binds K fd ps []
section
variable {X : Cx} {k : Nat} {x : Str} {ps : List Str} {sp : Sp} {e : Expr} {es : List Expr} {t : TA} {p pos : Pos}
theorem pe_cd (D : Dn X.prog X.w X.K X.mg X.base k x ps sp) (hr : Room k X.A) (hg : Gl X x) (ha : PA X (e :: es) t) (hdb : (x == ("__debug__" : Str)) = false := by decide)
    (he : starEach (e :: es) X.env = (false, eval e X.env) :: starEach es X.env := by rfl) (hpl : (backTo pos (starEach es X.env)).any (·.1) = false := by rfl) :
    PE X (.Call (.Name x p) (e :: es) [] pos) (tCall sp [] E0 t) := by
  obtain ⟨f, fd, F, m, kp, b⟩ := D.ex
  exact pe_call F hr hg m kp b .nil pass0 ha hdb he hpl
theorem pe_cd0 (D : Dn X.prog X.w X.K X.mg X.base k x ps sp) (hr : Room k X.A) (hg : Gl X x) (hdb : (x == ("__debug__" : Str)) = false := by decide) :
    PE X (.Call (.Name x p) [] [] pos) (tCall sp [] E0 tNil) := by
  obtain ⟨f, fd, F, m, kp, b⟩ := D.ex
  exact pe_call0 F hr hg m kp b .nil pass0 hdb
end
end L2
/-! More of what evaluates to what (heaps that only grow), and heaps that change at one place. -/
namespace L2
open PySem PySem.Spec PyProof.Rows Evl
/-- all but what stands at p is as it was -/
def But (p : Addr) (H H' : Hp) : Prop := ∀ b o, b ≠ p → H b = some o → H' b = some o
theorem But.refl {p : Addr} (H : Hp) : But p H H := fun _ _ _ h => h
theorem But.trans {p : Addr} {H H1 H2 : Hp} (a : But p H H1) (b : But p H1 H2) : But p H H2 := fun c o n h => b c o n (a c o n h)
theorem But.ex {p : Addr} {H H' : Hp} (e : Ex H H') : But p H H' := fun b o _ h => e b o h
theorem But.upd {p : Addr} {H : Hp} {o : HO} : But p H (upd H p o) := fun b u n h => by
  rw [upd_ne n]
  exact h
/-- what p is not known to H: then it is an extension -/
theorem But.new {p : Addr} {H H' : Hp} (e : But p H H') (h : H p = none) : Ex H H' := fun b o q => e b o (ne_of_none q h) q
section
variable {K : PySem.W.Frag} {σ : L2.St} {H H' : Hp} {ta tb te : TE} {x y z v : V}
theorem ev_fld {a C dx : Addr} {fs : List (Str × V)} {f : Str} (h : Ev ta σ H (.ref a)) (ho : H a = some (.ins C dx fs)) (hc : Cls K C) (hn : NoAttr K C f) (hl : fs.lookup f = some v) : Ev (tFld K ta f) σ H v :=
  fun H1 e Q q => h H1 e _ fun H2 e2 => ⟨a, C, dx, fs, v, rfl, (e.trans e2) _ _ ho, hc, hn, hl, q H2 e2⟩
theorem rc_isi {x c : V} {t u : Value} {b : Bool} (hc : ClsV c u) (hx : ∀ H1, Ex H H1 → TyX K H1 x t) (hk : PySem.W.kitOne K t u = some b) : RC (rIsi K) [x, c] H (.bl b) :=
  fun H1 e Q q => ⟨x, c, t, u, b, rfl, hc, hx H1 e, hk, q H1 (Ex.refl _)⟩
theorem rc_isiI {i : Int} : RC (rIsi K) [.int i, .ty "int"] H (.bl true) := rc_isi (.ty "int") (fun _ _ => .base (.int i)) (kit_ty (by decide +kernel))
theorem rc_isiB {i : Int} : RC (rIsi K) [.int i, .ty "bool"] H (.bl false) := rc_isi (.ty "bool") (fun _ _ => .base (.int i)) (kit_ty (by decide +kernel))
theorem kit_self {t : Value} : PySem.W.kitOne K t t = some true := by
  unfold PySem.W.kitOne
  rw [if_pos (beq_self_eq_true t)]
theorem rc_isiC {a C dx : Addr} {fs : List (Str × V)} (ho : H a = some (.ins C dx fs)) (hc : Cls K C) (hi : IsC K C) : RC (rIsi K) [.ref a, .ref C] H (.bl true) :=
  rc_isi (.own C) (fun _ e => .base (.ins (e _ _ ho) hc hi.ha hi.hn hi.htk hi.hm)) kit_self
def rAbs : List V → Hp → VK → Prop := fun xs H Q => ∃ i, xs = [.int i] ∧ Q (.int (if i < 0 then -i else i)) H
theorem rc_abs {i : Int} : RC (fun xs H Q => ∃ i, xs = [.int i] ∧ Q (.int (if i < 0 then -i else i)) H) [.int i] H (.int (i.natAbs : Int)) := fun H1 _ Q q => ⟨i, rfl, by
  have e : (if i < 0 then -i else i) = (i.natAbs : Int) := by
    by_cases h : i < 0
    · rw [if_pos h]
      omega
    · rw [if_neg h]
      omega
  rw [e]
  exact q H1 (Ex.refl _)⟩
/-- tuples' items by a written place -/
theorem ev_ixT {p : Addr} {xs : List V} {j : Nat} (h : Ev ta σ H (.ref p)) (hs : H p = some (.tup xs)) (hj : xs[j]? = some v) : Ev (tOp (rIxT K) ta (tC (.int (j : Int)))) σ H v :=
  ev_op h ev_c (rv_ixT (st_of hs) (atI_nat hj))
theorem ev_mulW {i j : Int} {n m : Nat} (ha : Ev ta σ H (.int i)) (hb : Ev tb σ H (.int j)) (hi : i.natAbs < 2 ^ n) (hj : j.natAbs < 2 ^ m) (h0 : 0 < n := by decide) (h1 : 0 < m := by decide) (h : n + m ≤ 1000000 := by decide) :
    Ev (tOp (rI CMulW fun i j => .int (i * j)) ta tb) σ H (.int (i * j)) := ev_op ha hb (rv_I (wide_mul hi hj h0 h1 h))
theorem ev_mul {i j : Int} (ha : Ev ta σ H (.int i)) (hb : Ev tb σ H (.int j)) (h : CMul i j) : Ev (tOp (rI CMul fun i j => .int (i * j)) ta tb) σ H (.int (i * j)) := ev_op ha hb (rv_I h)
theorem ev_add {i j : Int} (ha : Ev ta σ H (.int i)) (hb : Ev tb σ H (.int j)) : Ev (tOp (rI0 fun i j => .int (i + j)) ta tb) σ H (.int (i + j)) := ev_op ha hb rv_I0
theorem ev_sub {i j : Int} (ha : Ev ta σ H (.int i)) (hb : Ev tb σ H (.int j)) : Ev (tOp (rI0 fun i j => .int (i - j)) ta tb) σ H (.int (i - j)) := ev_op ha hb rv_I0
theorem ev_mod {i j : Int} (ha : Ev ta σ H (.int i)) (hb : Ev tb σ H (.int j)) (h : 0 < j) : Ev (tOp (rI (fun _ j => 0 < j) fun i j => .int (i % j)) ta tb) σ H (.int (i % j)) := ev_op ha hb (rv_I h)
theorem ev_fdivW {i j : Int} {n : Nat} (ha : Ev ta σ H (.int i)) (hb : Ev tb σ H (.int j)) (h : 0 < j) (hj : j.natAbs < 2 ^ n) (h0 : 0 < n := by decide) (h1 : n ≤ 9000 := by decide) : Ev (tOp (rI CDivW fun i j => .int (i / j)) ta tb) σ H (.int (i / j)) :=
  ev_op ha hb (rv_I (wide_div h hj h0 h1))
theorem ev_lt {i j : Int} (ha : Ev ta σ H (.int i)) (hb : Ev tb σ H (.int j)) : Ev (tOp (rI0 fun i j => .bl (decide (i < j))) ta tb) σ H (.bl (decide (i < j))) := ev_op ha hb rv_I0
theorem ev_gt {i j : Int} (ha : Ev ta σ H (.int i)) (hb : Ev tb σ H (.int j)) : Ev (tOp (rI0 fun i j => .bl (decide (j < i))) ta tb) σ H (.bl (decide (j < i))) := ev_op ha hb rv_I0
theorem ev_ge {i j : Int} (ha : Ev ta σ H (.int i)) (hb : Ev tb σ H (.int j)) : Ev (tOp (rI0 fun i j => .bl (decide (j ≤ i))) ta tb) σ H (.bl (decide (j ≤ i))) := ev_op ha hb rv_I0
theorem ev_eqI {i j : Int} (ha : Ev ta σ H (.int i)) (hb : Ev tb σ H (.int j)) : Ev (tOp rEq ta tb) σ H (.bl (decide (i = j))) := by
  have h := ev_op ha hb (rv_eq (x := .int i) (y := .int j) rfl)
  have e : decide (V.int i = V.int j) = decide (i = j) := by
    rw [Bool.eq_iff_iff]
    simp
  rw [e] at h
  exact h
theorem ev_neI {i j : Int} (ha : Ev ta σ H (.int i)) (hb : Ev tb σ H (.int j)) : Ev (tOp rNe ta tb) σ H (.bl (!decide (i = j))) := by
  have h := ev_op ha hb (rv_ne (x := .int i) (y := .int j) rfl)
  have e : decide (V.int i = V.int j) = decide (i = j) := by
    rw [Bool.eq_iff_iff]
    simp
  rw [e] at h
  exact h
theorem pow_big {n : Nat} {i : Int} {m : Nat} (h : i.natAbs < 2 ^ n) (hm : n ≤ m) : i.natAbs < 2 ^ m := Nat.lt_of_lt_of_le h (Nat.pow_le_pow_right (by decide) hm)
theorem ev_neg {i : Int} (ha : Ev ta σ H (.int i)) : Ev (tUn (rU fun i => .int (-i)) ta) σ H (.int (-i)) := ev_un ha ru_neg
end
end L2
/-! Readings opened one step. -/
namespace L2
open PySem PySem.Spec PyProof.Rows Evl
section
variable {σ : L2.St} {H : Hp} {D : Ends} {te ta tb : TE} {tA : TA} {t u : TS} {tt tu : TT} {Q : VK} {QT : Bool → Hp → Prop} {QA : List V → Hp → Prop} {vs xs dvs : List V} {v : V} {b : Bool}
theorem x_ret (h : te σ H D.rt) : tRet te D σ H := h
theorem x_seq (h : t { D with nx := u D } σ H) : tSeq t u D σ H := h
theorem x_asg {g : TG} (h : te σ H fun x H1 => g x σ H1 D.nx) : tAsg te g D σ H := h
theorem x_set {i : Nat} (h : te σ H fun x H1 => D.nx (σ.set i (some x)) H1) : tAsg te (gName i) D σ H := h
theorem x_drop (h : te σ H fun _ H1 => D.nx σ H1) : tDrop te D σ H := h
theorem x_par {i j : Nat} (h : tA σ H fun vs H1 => ∃ v w, vs = [v, w] ∧ D.nx ((σ.set i (some v)).set j (some w)) H1) : tPar i j tA D σ H := h
theorem x_op {r : R2} (h : ta σ H fun x H1 => tb σ H1 fun y H2 => r x y H2 Q) : tOp r ta tb σ H Q := h
theorem x_cb {r : List V → Hp → VK → Prop} (h : tA σ H fun vs H1 => r vs H1 Q) : tCB r tA σ H Q := h
theorem x_call {sp : Sp} {E : XK} (h : tA σ H fun vs H1 => sp (vs ++ dvs) H1 Q E) : tCall sp dvs E tA σ H Q := h
theorem x_cons {tr : TA} (h : ta σ H fun x H1 => tr σ H1 fun xs H2 => QA (x :: xs) H2) : tCons ta tr σ H QA := h
theorem x_nil (h : QA [] H) : tNil σ H QA := h
theorem x_if (h : tt σ H fun b H1 => if b = true then t D σ H1 else u D σ H1) : tIfS tt t u D σ H := h
theorem x_B (h : te σ H fun x H1 => ∃ c, x = .bl c ∧ QT c H1) : tB te σ H QT := h
theorem x_test (h : te σ H fun x H1 => ∃ c, x = .bl c ∧ QT c H1) : tTest te σ H QT := h
theorem x_not (h : tt σ H fun c H1 => QT (!c) H1) : tNot tt σ H QT := h
theorem x_or (h : tt σ H fun c H1 => if c = true then QT true H1 else tu σ H1 QT) : tOr tt tu σ H QT := h
theorem x_and (h : tt σ H fun c H1 => if c = true then tu σ H1 QT else QT false H1) : tAnd tt tu σ H QT := h
theorem x_meth {C : Addr} {m : Str} {sp : Sp} {E : XK} (h : ta σ H fun x H1 => ∃ a dx fs, x = .ref a ∧ H1 a = some (.ins C dx fs) ∧ fs.lookup m = none ∧ tA σ H1 fun vs H2 => sp (x :: (vs ++ dvs)) H2 Q E) : tMeth C m sp dvs E ta tA σ H Q := h
theorem x_lst (h : tA σ H fun xs H1 => xs.length ≤ sizeLine ∧ ∀ p, H1 p = none → Q (.ref p) (upd H1 p (.lst xs))) : tLst tA σ H Q := h
theorem x_tup (h : tA σ H fun xs H1 => xs.length ≤ sizeLine ∧ ∀ p, H1 p = none → Q (.ref p) (upd H1 p (.tup xs))) : tTup tA σ H Q := h
theorem x_c (h : Q v H) : tC v σ H Q := h
theorem x_var {i : Nat} (e : σ[i]? = some (some v)) (h : Q v H) : tVar i σ H Q := ⟨v, e, h⟩
theorem x_while {W : Nat → St → Hp → Prop} (m : Nat) (w0 : W m σ H) (h : ∀ m σ H, W m σ H → tt σ H fun b H1 => if b = true then ∃ N : St → Hp → Prop, (∀ σ' H', N σ' H' → ∃ m', m' < m ∧ W m' σ' H') ∧ t { D with nx := N, ct := N, bk := D.nx } σ H1 else D.nx σ H1) : tWhile tt t D σ H := ⟨W, ⟨m, w0⟩, h⟩
theorem Evl.Ev.go (h : Ev te σ H v) (k : ∀ H1, Ex H H1 → Q v H1) : te σ H Q := h H (Ex.refl _) _ k
theorem Evl.EvT.go (h : EvT tt σ H b) (k : ∀ H1, Ex H H1 → QT b H1) : tt σ H QT := h H (Ex.refl _) _ k
theorem Evl.EvA.go (h : EvA tA σ H vs) (k : ∀ H1, Ex H H1 → QA vs H1) : tA σ H QA := h H (Ex.refl _) _ k
theorem Evl.EvU.go (h : EvU te σ H xs) (k : ∀ p H1, H p = none → Ex H H1 → H1 p = some (.tup xs) → Q (.ref p) H1) : te σ H Q := h H (Ex.refl _) _ k
theorem Evl.EvL.go (h : EvL te σ H xs) (k : ∀ p H1, H p = none → Ex H H1 → H1 p = some (.lst xs) → Q (.ref p) H1) : te σ H Q := h H (Ex.refl _) _ k
end
end L2
/-! The same with something behind. -/
namespace L2
open PySem PySem.Spec PyProof.Rows Evl
section
variable {σ : L2.St} {H : Hp} {D : Ends} {te : TE} {tA : TA} {t u tz : TS} {tt : TT}
theorem q_par {i j : Nat} (h : tA σ H fun vs H1 => ∃ v w, vs = [v, w] ∧ tz D ((σ.set i (some v)).set j (some w)) H1) : tSeq (tPar i j tA) tz D σ H := h
theorem q_set {i : Nat} (h : te σ H fun x H1 => tz D (σ.set i (some x)) H1) : tSeq (tAsg te (gName i)) tz D σ H := h
theorem q_asgX {g : TG} (h : te σ H fun x H1 => g x σ H1 (tz D)) : tSeq (tAsg te g) tz D σ H := h
theorem q_dropX (h : te σ H fun _ H1 => tz D σ H1) : tSeq (tDrop te) tz D σ H := h
theorem q_ifX (h : tt σ H fun b H1 => if b = true then t { D with nx := tz D } σ H1 else u { D with nx := tz D } σ H1) : tSeq (tIfS tt t u) tz D σ H := h
end
end L2
/-! An exception that a clause has caught and given to another name: it is tracked behind the suite; its fields are read, its class is asked. -/
namespace L2
open PySem PySem.Spec PyProof.Rows
/-- at a: a caught exception, by its class and its dict -/
def exk (a : Addr) (cls : Value) (d : Option Addr) : HO := .ext fun h => ∃ (oe : Obj) (vs : Array Value), h.get? a = some oe ∧ Zc cls d oe ∧ oe.data = .fields vs
section
variable {X : Cx} {pins : List (Addr × Obj)} {σ : St} {H : Hp} {s : Shared}
theorem exk_ok {P : Program} {w : World} {H : Hp} {h : Heap} {a : Addr} {cls : Value} {d : Option Addr} {oe : Obj} {vs : Array Value} (e : h.get? a = some oe) (z : Zc cls d oe) (q : oe.data = .fields vs) : ObjOk P w H h a (exk a cls d) :=
  ⟨⟨oe, vs, e, z, q⟩, ⟨oe, e⟩, fun _ _ ⟨o, v, e1, r⟩ k => ⟨o, v, k o e1, r⟩⟩
theorem exk_at {P : Program} {w : World} {h : Heap} {a : Addr} {cls : Value} {d : Option Addr} (ok : HOk P w H h) (e : H a = some (exk a cls d)) : ∃ (oe : Obj) (vs : Array Value), h.get? a = some oe ∧ Zc cls d oe ∧ oe.data = .fields vs := by
  have q : ObjOk P w H h a (.ext fun h => ∃ (oe : Obj) (vs : Array Value), h.get? a = some oe ∧ Zc cls d oe ∧ oe.data = .fields vs) := ok a _ e
  exact q.1
/-- an object that came up behind the entry, and isn't tracked, is tracked from now on -/
theorem Inv.taken {a : Addr} {o : HO} {oe : Obj} (I : Inv X pins σ H s) (ha : s.heap.get? a = some oe) (na : H a = none) (n0 : X.s_0.heap.get? a = none) (nL : a ≠ X.env.locals) (nC : ∀ v, oe.data ≠ .cell v) (nP : ∀ p ∈ X.pn ++ pins, p.1 ≠ a)
    (new : ObjOk X.prog X.w (upd H a o) s.heap a o) : Inv X pins σ (upd H a o) s := by
  have ne0 : ∀ {b : Addr} {u : Obj}, X.s_0.heap.get? b = some u → b ≠ a := fun {b u} q z => by
    rw [z, n0] at q
    cases q
  refine ⟨I.ok, I.os, I.bare, ⟨I.base.keep, I.base.slot, fun b u q n z => ?_, I.base.there, fun b xs q => ?_, fun b u v q => ?_, fun b ps q => ?_⟩, I.loc, I.cell, ?_, fun y c e => ?_, fun p hp => ?_, fun b u q => ?_, I.len⟩
  · rw [upd_ne (ne0 q)]
    exact I.base.free b u q n z
  · have z := I.base.tups b xs q
    rw [upd_ne (ne_of_none z na)]
    exact z
  · have z := I.base.frzs b u v q
    rw [upd_ne (ne_of_none z na)]
    exact z
  · obtain ⟨m, z⟩ := I.base.tbls b ps q
    exact ⟨m, by rw [upd_ne (ne_of_none z na)]; exact z⟩
  · rw [upd_ne (Ne.symm nL)]
    exact I.free
  · have n : c ≠ a := fun z => by
      obtain ⟨v, o', h1, h2⟩ := I.cell y c e
      rw [z, ha] at h1
      cases h1
      exact nC _ h2
    rw [upd_ne n]
    exact I.freeC y c e
  · obtain ⟨h1, h2, h3⟩ := I.pin p hp
    exact ⟨h1, by rw [upd_ne (nP p hp)]; exact h2, h3⟩
  · by_cases hb : b = a
    · subst hb
      rw [upd_same] at q
      cases q
      exact new
    · rw [upd_ne hb] at q
      exact (I.hok b u q).stay (fun _ _ _ r => r) (fun c r => by rw [upd_ne (ne_of_none r na)]; exact r) fun c xs r => by rw [upd_ne (ne_of_none r na)]; exact r
end
/-- what 'except x as n: suite' wishes of the body, the exception tracked behind the suite -/
def wHold (K : PySem.W.Frag) (c : Value) (i : Nat) (ts : Addr → Value → Option Addr → TS) (Wo : WX) (D : Ends) : WX := fun cls d σ H => ∃ b, PySem.W.exmOne K cls c = some b ∧
  (b = true → ∀ a, H a = none → ts a cls d ⟨fun σ' H' => D.nx (σ'.set i none) (upd H' a (exk a cls d)), D.rt, fun _ _ => False, fun _ _ => False⟩ (σ.set i (some (.ref a))) H) ∧ (b = false → Wo cls d σ H)
section
variable {X : Cx} {x n : Str} {c : Value} {i : Nat} {body rest : List Stmt} {st0 : Stmt} {np pos pos' : Pos} {tb : WX → TS} {ts : Addr → Value → Option Addr → TS} {Wo : WX}
theorem ps_try_hold (hs : X.stack = X.env :: X.outer) (hf : X.env.frame = some X.env.locals) (hex : X.ex = []) (hN : X.N.Nodup) (hi : X.N[i]? = some n) (hln : X.env.kindOf n = some .local) (hc : Names X x c) (tk : Takes X Wo)
    (hb : ∀ (W : WX) (pn : List (Addr × Obj)) (xe : Value → Shared → Prop), Takes (X.tr pn xe) W → PassesOwn (model X.prog X.w) X.A X.env xe → PSs (X.tr pn xe) body (tb W))
    (hu : ∀ (a : Addr) (oe : Obj) (cls : Value) (d : Option Addr) (pn : List (Addr × Obj)), Zc cls d oe → (∃ vs, oe.data = .fields vs) → PSs (X.suite a ((a, oe) :: pn)) (st0 :: rest) (ts a cls d)) :
    PS X (.Try body [.ExceptHandler (some (.Name x np)) (some n) (st0 :: rest) pos'] [] [] pos) (fun D σ H => tb (wHold X.K c i ts Wo D) D σ H) := by
  refine ⟨fun pins s σ H D I h => ?_⟩
  have ok := I.ok
  have frA : X.A.frames = some (X.env :: X.outer) := ok.frames.trans (congrArg some hs)
  refine wpAny_Try_except ?_
  let xe1 : Value → Shared → Prop := fun e s1 => wpAny (model X.prog X.w) X.A (noteFrame e X.env) (fun _ s2 => wpAny (model X.prog X.w) X.A (setFlight e none) (fun _ s3 =>
    wpAny (model X.prog X.w) X.A (handleBy e X.env [.ExceptHandler (some (.Name x np)) (some n) (st0 :: rest) pos']) (SP X pins D) X.xe s3) X.xe s2) X.xe s1
  have took : Takes (X.tr (X.pn ++ pins) xe1) (wHold X.K c i ts Wo D) := by
    rintro u s1 ⟨a, B, sI, pins', σ1, H1, cls, d, rfl, J0, below, up, sky, na, eos, gb, b, eb, yes, no⟩
    have J : Inv X pins σ1 H1 sI := J0.ofTry ok
    rw [show (X.tr (X.pn ++ pins) xe1).stack = X.env :: X.outer from hs] at sky
    show wpAny (model X.prog X.w) X.A (noteFrame (.ref a) X.env) _ _ _
    refine Sky.land Zc.steady frA hf sky fun h3 f3 up3 => ?_
    have J3 : Inv X pins σ1 H1 { s1 with heap := h3 } := J.landed below f3.1 (up.trans up3) eos gb
    obtain ⟨o3, v3, e3, z3, d3⟩ := f3.there
    have nfr : a ∉ frs (X.env :: X.outer) := fun hm => by
      obtain ⟨_, o', q, hno⟩ := f3.2.2.1.mem hm
      rw [e3] at q
      cases q
      exact hno _ d3
    have nL : a ≠ X.env.locals := fun z => nfr (List.mem_filterMap.mpr ⟨X.env, List.mem_cons_self, hf.trans (congrArg some z.symm)⟩)
    have nF : a ∉ X.fs := fun hm => by
      obtain ⟨en, he, q⟩ := List.mem_filterMap.mp hm
      exact nfr (List.mem_filterMap.mpr ⟨en, List.mem_cons_of_mem _ he, q⟩)
    -- it wasn't there at the entry, nor is it pinned
    have gone : ∀ {b : Addr} {o : Obj}, sI.heap.get? b = some o → b ≠ a := fun {b o} q z => by
      subst z
      have := below b o q (by rw [show (X.tr (X.pn ++ pins) xe1).stack = X.env :: X.outer from hs]; exact nfr)
      rw [f3.2.1] at this
      cases this
    have n0 : X.s_0.heap.get? a = none := by
      cases q : X.s_0.heap.get? a with
      | none => rfl
      | some o =>
        obtain ⟨o', q'⟩ := J.base.there a o q (by rw [hex]; exact fun z => nomatch z)
        exact absurd rfl (gone q')
    have nP : ∀ p ∈ X.pn ++ pins, p.1 ≠ a := fun p hp => gone (J.pin p hp).1
    have S3 := J3.suite e3 d3 na nL nF
    refine wpAny_handleBy_cons (codeAny_handlers_test ?_) (by intro q; cases q)
    have LT : PySem.W.Looks (model X.prog X.w) h3 (typeOf (.ref a)) cls := fun _ _ _ _ k q => wpAny_typeOf_ref (k _ _ e3) (by rw [z3.1]; exact q)
    have LM := PySem.W.exm_one (M := model X.prog X.w) J3.kIn LT eb
    have named : ∀ {Q E : Value → Shared → Prop}, Q c { s1 with heap := h3 } → wpAny (model X.prog X.w) (X.A.mark (some (.ref a))) (eval (.Name x np) X.env) Q E { s1 with heap := h3 } := fun {Q E} q => by
      obtain ⟨g1, g2, g3 | ⟨g3, g4, g5⟩⟩ := hc
      · exact ld_glob (X := X.suite a ((a, o3) :: (X.pn ++ pins))) S3 g1 g3 q g2
      · exact ld_blt (X := X.suite a ((a, o3) :: (X.pn ++ pins))) S3 g1 g3 g4 q g5 g2
    refine named (LM.here ?_)
    cases b with
    | true =>
      refine codeAny_handlers_suite_as (HandSPX.lands_againZ f3 fun h4 f4 up4 => ?_)
      have J4 : Inv X pins σ1 H1 { s1 with heap := h4 } := J.landed below f4.1 ((up.trans up3).trans up4) eos gb
      obtain ⟨o4, v4, e4, z4, d4⟩ := f4.there
      refine store_ok (X := X.suite a ((a, o4) :: (X.pn ++ pins))) (v := .ref a) (J4.suite e4 d4 na nL nF) hN hi (.inl hln) rfl (fun s5 S5 => ?_) (.inr hln)
      refine wpAny_mono ((hu a o4 cls d (X.pn ++ pins) z4 ⟨_, d4⟩).run [] s5 _ H1 _ S5 (yes rfl a na)) (fun fl s6 q6 => ?_) fun _ _ z => z.elim
      cases fl with
      | next =>
        obtain ⟨σ6, H6, S6, r6⟩ := q6
        refine gone_ok (X := X.suite a ((a, o4) :: (X.pn ++ pins))) S6 hN hi hln fun s7 S7 => ?_
        obtain ⟨e7, n7, _⟩ := S7.pin (a, o4) (List.mem_append_left _ List.mem_cons_self)
        exact ⟨_, _, (S7.unsuite ok).taken e7 n7 n0 nL (fun v z => by rw [d4] at z; cases z) nP (exk_ok e7 z4 d4), r6⟩
      | ret u =>
        obtain ⟨v6, σ6, H6, S6, rv, r6⟩ := q6
        exact gone_ok (S6.unsuite ok) hN hi hln fun s7 J7 => ⟨_, _, _, J7, rv, r6⟩
      | brk =>
        obtain ⟨_, _, _, r6⟩ := q6
        exact r6.elim
      | cont =>
        obtain ⟨_, _, _, r6⟩ := q6
        exact r6.elim
    | false =>
      refine wpAny_handleBy_nil ?_
      obtain ⟨_, _, _, oe, vs, T, oT, ts', he, hz, hd, h1, hr⟩ := id f3
      unfold PySem.passOn
      refine wpAny_bind (wpAny_field he hd h1 ?_)
      rw [if_neg (show ¬ ((Value.ref T == Value.none) = true) by simp)]
      have on : wpAny (model X.prog X.w) X.A (setFlight (.ref a) X.env.frame) (fun _ s4 => wpAny (model X.prog X.w) X.A (throw (.ref a) : Sem Flow) (SP X pins D) X.xe s4) X.xe { s1 with heap := h3 } := by
        rw [hf]
        refine HandSPX.setFlight_upZ f3 fun h4 g4 up4 => wpAny_throw (tk _ _ ?_)
        exact ⟨a, B, sI, pins, σ1, H1, cls, d, rfl, J, below, (up.trans up3).trans up4, .inr (.inr (by rw [hs]; exact g4)), na, eos, gb, no rfl⟩
      first
        | exact wpAny_bind (wpAny_pure (wpAny_bind on))
        | exact wpAny_bind on
  refine wpAny_mono ((hb _ (X.pn ++ pins) xe1 took PassesOwn.looking).run [] s σ H D (I.toTry _) h) (fun fl s1 q => ?_) fun _ _ z => z
  cases fl with
  | next =>
    obtain ⟨σ', H', J', r⟩ := q
    exact wpAny_execs_nil ⟨σ', H', J'.ofTry ok, r⟩
  | brk =>
    obtain ⟨σ', H', J', r⟩ := q
    exact ⟨σ', H', J'.ofTry ok, r⟩
  | cont =>
    obtain ⟨σ', H', J', r⟩ := q
    exact ⟨σ', H', J'.ofTry ok, r⟩
  | ret u =>
    obtain ⟨v, σ', H', J', rv, r⟩ := q
    exact ⟨v, σ', H', J'.ofTry ok, rv, r⟩
end
/-- what the class of a caught exception says of reading and asking it -/
structure XkC (K : PySem.W.Frag) (C : Addr) : Prop where
  ga : PySem.W.findIn K (.ref C) "__getattribute__" = some (some (.builtin "BaseException.__getattribute__"))
  gg : PySem.W.findIn K (.ref C) "__getattr__" = some none
  sub : PySem.W.subIn K (.ref C) (.type "BaseException") = some true
  hd : PySem.W.hasDictIn K C = true
  is : IsC K C
def xkB (K : PySem.W.Frag) (x : Str) : Bool :=
  He.eqO (PySem.W.findIn K (.ref (He.ga K x)) "__getattribute__") (some (some (.builtin "BaseException.__getattribute__"))) && (He.eqO (PySem.W.findIn K (.ref (He.ga K x)) "__getattr__") (some none) &&
  (decide (PySem.W.subIn K (.ref (He.ga K x)) (.type "BaseException") = some true) && (PySem.W.hasDictIn K (He.ga K x) && tyB K x)))
theorem xkB_ok {K : PySem.W.Frag} {x : Str} (h : xkB K x = true) : XkC K (He.ga K x) := by
  obtain ⟨h1, h⟩ := He.ba h
  obtain ⟨h2, h⟩ := He.ba h
  obtain ⟨h3, h⟩ := He.ba h
  obtain ⟨h4, h5⟩ := He.ba h
  exact ⟨He.eqO_ok h1, He.eqO_ok h2, of_decide_eq_true h3, h4, tyB_ok h5⟩
/-- an exception of the class at C, with these fields -/
structure ExcAt (H : Hp) (a C d : Addr) (fs : List (Str × V)) : Prop where
  at_ : H a = some (exk a (.ref C) (some d))
  dict : H d = some (.xd fs)
theorem ExcAt.ex {H H' : Hp} {a C d : Addr} {fs : List (Str × V)} (x : ExcAt H a C d fs) (e : Evl.Ex H H') : ExcAt H' a C d fs := ⟨e _ _ x.at_, e _ _ x.dict⟩
section
variable {X : Cx} {pins : List (Addr × Obj)} {σ : St} {H : Hp} {s : Shared} {a C d : Addr} {fs : List (Str × V)}
theorem ExcAt.inst (I : Inv X pins σ H s) (x : ExcAt H a C d fs) : ∃ (oe od : Obj) (mA : Str → Option Value), PySem.W.InstAt s.heap a oe C (some od) ∧ (∀ f, RelO (fs.lookup f) (mA f)) ∧ ∀ name, PySem.W.lookIn name od = some (mA name) := by
  obtain ⟨oe, vs, e1, z, e2⟩ := exk_at I.hok x.at_
  have q : ObjOk X.prog X.w H s.heap d (.xd fs) := I.hok d _ x.dict
  obtain ⟨mA, hn, r⟩ := q
  obtain ⟨od, ho, hl⟩ := lookIn_ns hn
  exact ⟨oe, od, mA, ⟨e1, z.1, by unfold PySem.W.notCls; rw [e2] <;> rfl, by rw [z.2]; exact ho⟩, r, hl⟩
/-- e.f of a caught exception -/
def tXk (K : PySem.W.Frag) (te : TE) (f : Str) : TE := fun σ H Q => te σ H fun x H1 => ∃ (a C d : Addr) (fs : List (Str × V)) (v : V), x = .ref a ∧ ExcAt H1 a C d fs ∧ XkC K C ∧ NoAttr K C f ∧ fs.lookup f = some v ∧ Q v H1
theorem pe_xk {e : Expr} {te : TE} {pos : Pos} {f : Str} (he : PE X e te) (hb : attributeBase e f X.env (eval e X.env) = eval e X.env := by rfl) : PE X (.Attribute e f pos) (tXk X.K te f) := by
  refine ⟨fun pins s σ H Q I h => ?_⟩
  refine attr_of hb (thn (he.run pins s σ H _ I h) fun u s1 ⟨x, H1, I1, rx, a, C, d, fs, v, ex, xa, T, hno, l, q⟩ => ?_)
  subst ex
  obtain rfl : u = Value.ref a := rx
  obtain ⟨oe, od, mA, J, r, hl⟩ := xa.inst I1
  obtain ⟨w', hw, rw'⟩ := RelO.some_of (v := v) (o := mA f) (by rw [← l]; exact r f)
  exact HandSPX.exc_get I1.kIn J T.ga T.gg T.sub (PySem.W.findObj_own T.hd hno rfl (by rw [hl, hw])) (handed_of rw') ⟨v, H1, I1.tok _, rw', q⟩
theorem xk_kit (I : Inv X pins σ H s) (x : ExcAt H a C d fs) (T : XkC X.K C) : ∃ P : Heap → Prop, PySem.W.KitX X.K (.ref a) (.ref C) P ∧ P s.heap := by
  obtain ⟨oe, od, mA, J, _, _⟩ := x.inst I
  obtain ⟨cd, hcd, _⟩ := PySem.W.any_some T.hd
  exact ⟨_, PySem.W.kitx_exc (by rw [hcd]; rfl) T.ga T.gg T.sub T.is.ha T.is.hn T.is.htk T.is.hm, J⟩
/-- isinstance(e, c), isinstance(e, (c1, ..)) of a caught exception -/
def rIsk (K : PySem.W.Frag) : List V → Hp → VK → Prop := fun xs H Q => ∃ (a C d : Addr) (fs : List (Str × V)) (c : V) (u : Value) (b : Bool), xs = [.ref a, c] ∧ ExcAt H a C d fs ∧ XkC K C ∧ ClsV c u ∧ PySem.W.kitOne K (.ref C) u = some b ∧ Q (.bl b) H
def rIskT (K : PySem.W.Frag) : List V → Hp → VK → Prop := fun xs H Q => ∃ (a C d tp : Addr) (fs : List (Str × V)) (cs : List V) (us : List Value) (b : Bool), xs = [.ref a, .ref tp] ∧ ExcAt H a C d fs ∧ XkC K C ∧ H tp = some (.tup cs) ∧ Paired ClsV cs us ∧
  PySem.W.kitAny K (.ref C) us = some b ∧ Q (.bl b) H
theorem call_isk : CallR X (.builtin "isinstance") (rIsk X.K) := by
  intro pins s σ H xs us Q I r h
  obtain ⟨a, C, d, fs, c, u, b, rfl, xa, T, k, e, q⟩ := h
  obtain ⟨u1, u2, rfl, r1, r2⟩ := vals2 r
  obtain rfl : u1 = Value.ref a := r1
  have e2 := k.eq r2
  subst e2
  obtain ⟨P, Z, p⟩ := xk_kit I xa T
  exact PySem.W.kia_one Z I.kIn p e (fun z => nomatch z) fun tk => ⟨.bl b, H, I.tok tk, rfl, q⟩
theorem call_iskT : CallR X (.builtin "isinstance") (rIskT X.K) := by
  intro pins s σ H xs us Q I r h
  obtain ⟨a, C, d, tp, fs, cs, ws, b, rfl, xa, T, hT, k, e, q⟩ := h
  obtain ⟨u1, u2, rfl, r1, r2⟩ := vals2 r
  obtain rfl : u1 = Value.ref a := r1
  obtain rfl : u2 = Value.ref tp := r2
  obtain ⟨P, Z, p⟩ := xk_kit I xa T
  have ot : ObjOk X.prog X.w H s.heap tp (.tup cs) := I.hok tp _ hT
  obtain ⟨_, its, rv, o, h1, h2, n, h3⟩ := ot
  have e3 := ClsV.all k rv
  subst e3
  obtain ⟨oc, od, dt, sl⟩ := o
  simp only at h2 h3
  subst h2 h3
  exact PySem.W.kia_tup Z I.kIn p h1 e (fun z => nomatch z) fun tk => ⟨.bl b, H, I.tok tk, rfl, q⟩
end
/-! R.__init__(self, ..), R an own class over ValueError that has no __init__ -/
structure BaseC (K : PySem.W.Frag) (R : Addr) : Prop where
  rd : PySem.W.readsIn K R (.type "type") = true
  ga : PySem.W.specialIn K (.ref R) "__getattribute__" = some (some (.builtin "type.__getattribute__"))
  at_ : PySem.W.findCls K (.ref R) (.type "type") "__init__" = some (.val (.builtin "ValueError.__init__"))
def baseB (K : PySem.W.Frag) (x : Str) : Bool := PySem.W.readsIn K (He.ga K x) (.type "type") && (He.eqO (PySem.W.specialIn K (.ref (He.ga K x)) "__getattribute__") (some (some (.builtin "type.__getattribute__"))) &&
  (match PySem.W.findCls K (.ref (He.ga K x)) (.type "type") "__init__" with
    | some (.val (.builtin m)) => decide (m = "ValueError.__init__")
    | _ => false))
theorem baseB_ok {K : PySem.W.Frag} {x : Str} (h : baseB K x = true) : BaseC K (He.ga K x) := by
  obtain ⟨h1, h⟩ := He.ba h
  obtain ⟨h2, h3⟩ := He.ba h
  refine ⟨h1, He.eqO_ok h2, ?_⟩
  split at h3
  · rename_i m q
    rw [q, of_decide_eq_true h3]
  · cases h3
section
variable {X : Cx} {e : Expr} {es : List Expr} {ta : TA} {p1 p2 pos : Pos} {R : Addr} {x : Str}
theorem pe_baseinit {pl : Sem Bool} (hg : Gl X x) (hm : X.mg x = some (.ref R)) (B : BaseC X.K R) (ha : PA X (e :: es) ta)
    (hc : eval (.Call (.Attribute (.Name x p1) "__init__" p2) (e :: es) [] pos) X.env = (do
      let ov ← eval (.Name x p1) X.env
      standAt p2.atName
      let (f, first) ← holding [ov] (getMethod ov "__init__" pl)
      callWith pos f first (backTo pos (starEach (e :: es) X.env)) (backToKw pos (keywordEach [] X.env))) := by rfl)
    (hd : (x == ("__debug__" : Str)) = false := by decide) (he : starEach (e :: es) X.env = (false, eval e X.env) :: starEach es X.env := by rfl) (hpl : (backTo pos (starEach es X.env)).any (·.1) = false := by rfl) :
    PE X (.Call (.Attribute (.Name x p1) "__init__" p2) (e :: es) [] pos) (tVeI X.K ta) := by
  refine ⟨fun pins s σ H Q I h => ?_⟩
  refine PySem.W.methodCall_KW (ld_glob I hg hm ?_ hd) hc
  refine PySem.W.method_cls I.kIn B.ga (PySem.W.cls_value I.kIn B.rd B.at_ (by decide +kernel) ?_)
  show wpAny _ _ (callWith pos (Value.builtin "ValueError.__init__") [] (backTo pos (starEach (e :: es) X.env)) []) _ _ _
  refine PyProof.Rows.callWith_method1 (thn (ha.run pos pins _ σ H _ (I.tok _) h) fun us s1 ⟨vs, H1, I1, r1, a, C, ws, ev, hl, T, ea, q⟩ => ?_) he hpl
  subst ev
  cases r1 with
  | @cons _ u0 _ ur r0 rr =>
    obtain rfl : u0 = Value.ref a := r0
    have hz : ur.length ≤ sizeLine := by
      rw [← Paired.length rr, sizeLine_eq]
      omega
    exact oinit_ok T I1 ea hz fun s' J => ⟨.non, H1, J, rfl, q⟩
end
end L2
/-! constants of the module; what an own exception class must say to be made -/
namespace L2
open PySem PySem.Spec PyProof.Rows
section
variable {X : Cx} {x : Str} {pos : Pos}
theorem pe_gi {i : Int} (hg : Gl X x) (h : ∃ t, X.mg x = some (.int i t)) (hd : (x == ("__debug__" : Str)) = false := by decide) : PE X (.Name x pos) (tC (.int i)) := by
  obtain ⟨t, h⟩ := h
  exact pe_glob hg h ⟨t, rfl⟩ hd
theorem pe_gs {z : Str} (hg : Gl X x) (h : ∃ t, X.mg x = some (.str z t)) (hd : (x == ("__debug__" : Str)) = false := by decide) : PE X (.Name x pos) (tC (.str z)) := by
  obtain ⟨t, h⟩ := h
  exact pe_glob hg h ⟨t, rfl⟩ hd
end
def oexL (K : PySem.W.Frag) (C : Addr) : Bool := match K.lookup C with
  | some ⟨.type "type", _, .cls cd, sl⟩ => (match cd.mro, sl.toList with
    | .ref B :: bm, [_, _, _, _, some (.builtin n), _] => decide (B = C) && (decide (n = "ValueError.__new__") && (!cd.hasDel && (cd.hasDict && PySem.HandSPX.refsVE bm)))
    | _, _ => false)
  | _ => false
theorem oexL_ok {K : PySem.W.Frag} {C : Addr} (h : oexL K C = true) : ∃ nm q N bs bm sn sub ab col dd k0 k1 k2 k3 k5, K.lookup C = some (excClassObj nm q C N bs bm true sn sub ab col dd k0 k1 k2 k3 k5 "ValueError.__new__") ∧ PySem.HandSPX.refsVE bm = true := by
  unfold oexL at h
  split at h
  · rename_i dd cd sl ho
    split at h
    · rename_i B bm k0 k1 k2 k3 n k5 hm hs
      obtain ⟨h1, h⟩ := He.ba h
      obtain ⟨h2, h⟩ := He.ba h
      obtain ⟨h3, h⟩ := He.ba h
      obtain ⟨h4, h5⟩ := He.ba h
      have e1 := of_decide_eq_true h1
      have e2 := of_decide_eq_true h2
      subst e1 e2
      obtain ⟨nm, bs, mro, ns, qn, hd, sn, sub, ab, col, del⟩ := cd
      have e3 : del = false := by
        cases del with
        | false => rfl
        | true => cases h3
      have e4 : hd = true := h4
      have e5 : mro = .ref B :: bm := hm
      subst e3 e4 e5
      have e6 : sl = #[k0, k1, k2, k3, some (.builtin "ValueError.__new__"), k5] := by
        obtain ⟨l⟩ := sl
        simp only at hs
        rw [hs]
      subst e6
      exact ⟨nm, qn, ns, bs, bm, sn, sub, ab, col, dd, k0, k1, k2, k3, k5, ho, h5⟩
    · cases h
  · cases h
def oexB (K : PySem.W.Frag) (x : Str) : Bool := oexL K (He.ga K x) && (He.eqO (PySem.W.findIn K (.ref (He.ga K x)) "__setattr__") (some (some (.builtin "object.__setattr__"))) &&
  (decide (PySem.W.subIn K (.ref (He.ga K x)) (.type "BaseException") = some true) && (decide (PySem.W.typeIn K (.ref (He.ga K x)) = some (.type "type")) && PySem.W.keepIn K (.ref (He.ga K x)))))
theorem oexB_ok {K : PySem.W.Frag} {x : Str} (h : oexB K x = true) : OexC K (He.ga K x) := by
  obtain ⟨h1, h⟩ := He.ba h
  obtain ⟨h2, h⟩ := He.ba h
  obtain ⟨h3, h⟩ := He.ba h
  obtain ⟨h4, h5⟩ := He.ba h
  exact ⟨oexL_ok h1, He.eqO_ok h2, of_decide_eq_true h3, of_decide_eq_true h4, h5⟩
/-- an exception's class asked of others -/
def kitsB (K : PySem.W.Frag) (x : Str) (ys : List (Str × Bool)) : Bool := ys.all fun y => decide (PySem.W.kitOne K (.ref (He.ga K x)) (.ref (He.ga K y.1)) = some y.2)
theorem kitsB_ok {K : PySem.W.Frag} {x : Str} {ys : List (Str × Bool)} (h : kitsB K x ys = true) {y : Str} {b : Bool} (m : (y, b) ∈ ys) : PySem.W.kitOne K (.ref (He.ga K x)) (.ref (He.ga K y)) = some b :=
  of_decide_eq_true (List.all_eq_true.mp h (y, b) m)
/-- the own __init__ of such a class: R.__init__(self, text); self.f = value -/
def sp_exi (C : Addr) (f : Str) : Sp := fun vs H Q _ => ∃ (a : Addr) (v : V), vs = [.ref a, v] ∧ H a = some (exo a C none) ∧ ∀ dx, H dx = none → dx ≠ a → Q .non (upd (upd H dx (exd dx [(f, v)])) a (exo a C (some dx)))
section
variable {X : Cx} {C : Addr} {f : Str}
/-- what raise C(e) asks, by that __init__ -/
theorem mk_exi {σ : St} {H : Hp} {Q : XK} {ta : TA} {v : V} (h : Evl.EvA ta σ H [v]) (k : ∀ H1 d, Evl.Ex H H1 → H1 d = none → Q (.ref C) (some d) (upd H1 d (.xd [(f, v)]))) : tMkO C (sp_exi C f) [] ta σ H Q :=
  h H (Evl.Ex.refl _) _ fun H1 e1 => ⟨by show 1 ≤ 1000; decide, fun a ha => by
    refine ⟨a, v, rfl, upd_same, fun dx hdx ne => ⟨rfl, dx, [(f, v)], upd_same, ?_, ?_, ?_⟩⟩
    · rw [upd_ne ne, upd_same]
    · rw [upd_ne ne] at hdx
      exact hdx
    · have hd1 : H1 dx = none := by
        rw [upd_ne ne] at hdx
        exact hdx
      have e : upd (del (upd (upd (upd H1 a (exo a C none)) dx (exd dx [(f, v)])) a (exo a C (some dx))) a) dx (.xd [(f, v)]) = upd H1 dx (.xd [(f, v)]) := by
        funext b
        by_cases hb : b = dx
        · rw [hb, upd_same, upd_same]
        · rw [upd_ne hb, upd_ne hb]
          by_cases hba : b = a
          · rw [hba, del_same, ha]
          · rw [del_ne hba, upd_ne hba, upd_ne hb, upd_ne hba]
      rw [e]
      exact k H1 dx e1 hd1⟩
end
end L2
/-! for i, c in enumerate(text); text * n. -/
namespace L2
open PySem PySem.Spec PyProof.Rows
/-- a text's signs, each with its number in a new pair -/
def Itse (z : Str) : It := ⟨fun i _ => i < z.cps.size, fun i H v H' => ∃ (T : Addr) (c : Nat), v = .ref T ∧ H T = none ∧ H' = upd H T (.tup [.int (i : Nat), .str ⟨#[c]⟩]) ∧ z.cps[i]? = some c, fun i _ => i = z.cps.size⟩
theorem draws_str {prog : Program} {w : World} {A : Around} (hh : A.handled = none) (it : Addr) (z : Str) (t : Tok) :
    Draws prog w A it [it] z.cps.size (fun i v => ∃ c u, z.cps[i]? = some c ∧ v = .str ⟨#[c]⟩ u) (fun i h => h.IsStrIter it (strIterType z) z t i) := by
  unfold strIterType
  by_cases ha : z.cps.all (· < 128) = true
  · rw [if_pos ha]
    exact Draws.strAscii hh it z t
  · rw [if_neg ha]
    exact Draws.strWide hh it z t
theorem turn_enumS {P : Program} {w : World} {K : PySem.W.Frag} {elts : List Expr} {kk : Nat} {tpos : Pos} (z : Str) (t : Tok) (e it : Addr) :
    Turn P w K (.Tuple elts kk tpos) (Itse z) [e, it] e (fun i h => (∃ old, IsEnum h e it ((i : Nat) : Int) old) ∧ h.IsStrIter it (strIterType z) z t i ∧ e ≠ it) where
  mem := by simp
  obj := fun i h st b hb => by
    obtain ⟨⟨old, he⟩, ⟨o, ho, hc, hd⟩, _⟩ := st
    have bb : b = e ∨ b = it := by simpa using hb
    rcases bb with q | q
    · subst q
      exact ⟨_, he, fun v y => nomatch y⟩
    · subst q
      exact ⟨o, ho, fun v y => by rw [hd] at y; cases y⟩
  keep := fun i h h' st k => by
    obtain ⟨⟨old, he⟩, ⟨o, ho, r⟩, ne⟩ := st
    exact ⟨⟨old, k e (by simp) _ he⟩, ⟨o, k it (by simp) _ ho, r⟩, ne⟩
  item := by
    intro X hP hw hK hc i pins s σ H E I hf st hg
    subst hP hw hK
    obtain ⟨⟨old, he⟩, hit, ne⟩ := st
    have le : e < s.heap.objs.size := Heap.lt_size he
    have li : it < s.heap.objs.size := by
      obtain ⟨_, q, _⟩ := hit
      exact Heap.lt_size q
    refine wpAny_pyNext_enum_itemD (draws_str (A := X.A.in1) (I.ok.hd hc) it z t) he hit hg ne (by simpa using ne) fun x h' tk px ho st' hT hz hk => ?_
    obtain ⟨c, u, ec, rfl⟩ := px
    refine ⟨_, rfl, wpAny_letOwnedTupleGo_enum (s := { s with heap := h', toks := tk + 1 }) ho fun h'' he' sb => ?_⟩
    have hT2 : h''.get? s.heap.objs.size = some { cls := .type "tuple", data := .seq #[.int i tk, .str ⟨#[c]⟩ u] } := (sb.2 _ (Nat.ne_of_gt le)).trans hT
    have new : ObjOk X.prog X.w (upd H s.heap.objs.size (.tup [.int (i : Nat), .str ⟨#[c]⟩])) h'' s.heap.objs.size (.tup [.int (i : Nat), .str ⟨#[c]⟩]) :=
      ⟨by show 2 ≤ sizeLine; decide, [.int i tk, .str ⟨#[c]⟩ u], .cons ⟨_, rfl⟩ (.cons ⟨_, rfl⟩ .nil), ⟨_, hT2, rfl, _, rfl⟩⟩
    have J : Inv X pins σ (upd H s.heap.objs.size (.tup [.int (i : Nat), .str ⟨#[c]⟩])) { s with heap := h'', toks := tk + 1 } :=
      I.turnedNew (ch := [e, it]) (fun b ob hb q => (sb.2 b (fun y => hb (by simp [y]))).trans (hk b ob (fun y => hb (by simp [y])) (fun y => hb (by simp [y])) q)) hf (Nat.le_refl _) new
    refine ⟨.ref s.heap.objs.size, _, J, rfl, ⟨_, c, rfl, I.hok.fresh (Nat.le_refl _), rfl, ec⟩, ⟨⟨.str ⟨#[c]⟩ u, ?_⟩, ?_, ne⟩, fun b hb => ?_⟩
    · have e1 : ((i + 1 : Nat) : Int) = (i : Int) + 1 := by omega
      rw [e1]
      exact he'
    · obtain ⟨o, q, r⟩ := st'
      exact ⟨o, (sb.2 it (Ne.symm ne)).trans q, r⟩
    · have lb : b < s.heap.objs.size := by
        have bb : b = e ∨ b = it := by simpa using hb
        rcases bb with q | q
        · rw [q]
          exact le
        · rw [q]
          exact li
      rw [upd_ne (Nat.ne_of_lt lb)]
      exact (hf b hb).1
  done := by
    intro X hP hw hK hc i pins s σ H E I hf st hg
    subst hP hw hK
    obtain ⟨⟨old, he⟩, hit, ne⟩ := st
    obtain ⟨f0, f1, f2, f3, f4, f5⟩ := hf it (by simp)
    have q : i = z.cps.size := hg
    subst q
    exact wpAny_pyNext_enum_endD (draws_str (A := X.A.in1) (I.ok.hd hc) it z t) he hit fun h' eb => ⟨rfl, I.turned (t' := s.toks) (fun b o hb y => eb b o hb y) f0 f1 f3 f4 f5⟩
  self := fun A i s Q E st h => by
    obtain ⟨⟨_, he⟩, _⟩ := st
    exact wpAny_pyIter_enum he h
def iEnumS (ta : TA) : TI := fun σ H R => ta σ H fun vs H1 => ∃ z : Str, vs = [.str z] ∧ R (Itse z) H1
theorem pi_enumS {X : Cx} {e : Expr} {ta : TA} {p pos tpos : Pos} {elts : List Expr} {kk : Nat} (hg : Gl X "enumerate") (hm : X.mg "enumerate" = none) (ha : PA X [e] ta) (hs : starEach [e] X.env = [(false, eval e X.env)] := by rfl) :
    PI X (.Tuple elts kk tpos) (.Call (.Name "enumerate" p) [e] [] pos) (iEnumS ta) := by
  refine ⟨fun pins s σ H R I h => ?_⟩
  refine Call_ (ld_blt I hg hm boot_enumerate (PyProof.Rows.callWith_type1 (thn (ha.run pos pins s σ H _ I h) fun us s1 ⟨vs, H1, I1, r1, z, ez, q⟩ => ?_) hs rfl))
  subst ez
  obtain ⟨u, rfl, t, rfl⟩ := vals1 r1
  refine call_enumerate_str fun h' he hit hsz hk => wpAny_pyIter_enum he ?_
  have J : Inv X pins σ H1 { s1 with heap := h' } := I1.kept (t' := s1.toks) hk
  refine ⟨s1.heap.objs.size + 1, [s1.heap.objs.size + 1, s1.heap.objs.size], _, _, H1, rfl, J, turn_enumS z t (s1.heap.objs.size + 1) s1.heap.objs.size, ⟨⟨.none, he⟩, hit, Nat.succ_ne_self _⟩, fun b hb => ?_, q⟩
  have bb : b = s1.heap.objs.size + 1 ∨ b = s1.heap.objs.size := by simpa using hb
  have lb : s1.heap.objs.size ≤ b := by
    rcases bb with q | q
    · rw [q]
      exact Nat.le_add_right _ _
    · rw [q]
      exact Nat.le_refl _
  exact I1.fpOk lb (I1.hok.fresh lb)
/-- the loop: Pv i holds ahead of the i-th sign -/
theorem for_enumS {z : Str} {g : TG} {tb : TS} {D : Ends} {σ : St} {H : Hp} (Pv : Nat → St → Hp → Prop) (h0 : Pv 0 σ H)
    (hs : ∀ i c σ H T, z.cps[i]? = some c → Pv i σ H → H T = none → g (.ref T) σ (upd H T (.tup [.int (i : Nat), .str ⟨#[c]⟩])) fun σ2 H2 => tb { D with nx := Pv (i + 1), ct := Pv (i + 1), bk := D.nx } σ2 H2) (hd : ∀ σ H, Pv z.cps.size σ H → D.nx σ H) :
    ∃ W : Nat → Nat → St → Hp → Prop, (∃ m, W 0 m σ H) ∧ ∀ i m σ H, W i m σ H →
      ((Itse z).stop i H ∧ D.nx σ H) ∨ ((Itse z).go i H ∧ ∃ N : St → Hp → Prop, (∀ σ' H', N σ' H' → ∃ m', m' < m ∧ W (i + 1) m' σ' H') ∧ ∀ x H', (Itse z).yld i H x H' → g x σ H' fun σ2 H2 => tb { D with nx := N, ct := N, bk := D.nx } σ2 H2) := by
  refine ⟨fun i m σ H => m = z.cps.size - i ∧ i ≤ z.cps.size ∧ Pv i σ H, ⟨z.cps.size, by simp, Nat.zero_le _, h0⟩, ?_⟩
  rintro i m σ H ⟨rfl, hi, p⟩
  by_cases lt : i < z.cps.size
  · refine .inr ⟨lt, Pv (i + 1), fun σ' H' p' => ⟨z.cps.size - (i + 1), by omega, rfl, lt, p'⟩, fun x H' y => ?_⟩
    obtain ⟨T, c, rfl, hT, rfl, ec⟩ := y
    exact hs i c σ H T ec p hT
  · have e : i = z.cps.size := by omega
    subst e
    exact .inl ⟨rfl, hd σ H p⟩
/-- text * n, n small -/
def rMulS : R2 := fun x y H Q => ∃ (z : Str) (n : Nat), x = .str z ∧ y = .int (n : Int) ∧ z.length ≤ 1000 ∧ n ≤ 1000 ∧ Q (.str ⟨(List.replicate n z.cps.toList).flatten.toArray⟩) H
theorem rep_fold (n : Nat) (a : Array Nat) (b : Array Nat) : ((List.replicate n a).foldl (· ++ ·) b).toList = b.toList ++ (List.replicate n a.toList).flatten := by
  induction n generalizing b with
  | zero => simp
  | succ n ih =>
    rw [List.replicate_succ, List.foldl_cons, ih, List.replicate_succ, List.flatten_cons]
    simp
theorem op_mulS {X : Cx} : OpR X (binaryOp .Mult) rMulS := by
  intro pins s σ H x y v u Q I rx ry h
  obtain ⟨z, n, rfl, rfl, hz, hn, q⟩ := h
  obtain ⟨t, rfl⟩ := rx
  obtain ⟨t', rfl⟩ := ry
  have zl : z.length = z.cps.size := rfl
  have big : z.length * n ≤ 1000 * 1000 := Nat.mul_le_mul hz hn
  refine PySem.P.mul_str (by rw [decide_eq_false (by omega), decide_eq_false (by omega)]; rfl) (fun h1 _ h2 => ?_) (fun h1 _ => ?_) ?_
  · have h3 : (n : Int) * ((2 ^ 63 - 1) / (n : Int)) > 2 ^ 63 - 1 - (n : Int) := by
      have := Int.lt_ediv_add_one_mul_self (2 ^ 63 - 1) (show (0 : Int) < n by omega)
      have e := Int.mul_comm ((2 ^ 63 - 1) / (n : Int)) n
      have e2 : ((2 ^ 63 - 1) / (n : Int) + 1) * (n : Int) = (2 ^ 63 - 1) / (n : Int) * n + n := by rw [Int.add_mul, Int.one_mul]
      omega
    have h4 : (n : Int) * ((2 ^ 63 - 1) / (n : Int)) ≤ (n : Int) * (z.length : Int) := Int.mul_le_mul_of_nonneg_left (by omega) (by omega)
    have h5 : (n : Int) * (z.length : Int) = ((z.length * n : Nat) : Int) := by rw [Int.natCast_mul, Int.mul_comm]
    omega
  · rw [Int.toNat_natCast]
    unfold PySem.Builtin.Str.tooLong
    exact decide_eq_false (by rw [sizeLine_eq]; omega)
  · by_cases h1 : (n : Int) < 1
    · rw [if_pos h1]
      have n0 : n = 0 := by omega
      subst n0
      exact ⟨by decide, ⟨.str _, H, I.tok _, ⟨_, rfl⟩, q⟩⟩
    · rw [if_neg h1]
      by_cases h2 : ((n : Int) == 1 || z.length == 0) = true
      · rw [if_pos h2]
        have e : (⟨(List.replicate n z.cps.toList).flatten.toArray⟩ : Str) = z := by
          rw [Bool.or_eq_true, beq_iff_eq, beq_iff_eq] at h2
          rcases h2 with h2 | h2
          · have : n = 1 := by omega
            subst this
            simp
          · have : z.cps = #[] := Array.eq_empty_of_size_eq_zero h2
            obtain ⟨cps⟩ := z
            dsimp only at this
            subst this
            simp
        rw [e] at q
        exact ⟨.str z, H, I, ⟨_, rfl⟩, q⟩
      · rw [if_neg h2]
        have e : (⟨(List.replicate (n : Int).toNat z.cps).foldl (· ++ ·) #[]⟩ : Str) = ⟨(List.replicate n z.cps.toList).flatten.toArray⟩ := by
          rw [Int.toNat_natCast]
          congr 1
          apply Array.ext'
          rw [rep_fold]
          simp
        rw [e]
        refine ⟨?_, ⟨.str _, H, I.tok _, ⟨_, rfl⟩, q⟩⟩
        show ((List.replicate n z.cps.toList).flatten.toArray).size ≤ sizeLine
        rw [List.size_toArray, List.length_flatten, List.map_replicate, List.sum_replicate_nat, sizeLine_eq]
        have zz : z.cps.toList.length = z.length := by simp [Str.length]
        rw [zz, Nat.mul_comm]
        omega
end L2
namespace L2
open PySem PySem.Spec PyProof.Rows _root_.Evl
section
variable {σ : L2.St} {H : Hp} {t u : TT} {b : Bool}
theorem et_and0 (h : EvT t σ H false) : EvT (tAnd t u) σ H false := fun H1 e Q q => h H1 e _ fun H2 e2 => iteF (q H2 e2)
theorem et_and1 (h : EvT t σ H true) (h2 : EvT u σ H b) : EvT (tAnd t u) σ H b := fun H1 e Q q => h H1 e _ fun H2 e2 => iteT (h2 H2 (e.trans e2) Q fun H3 e3 => q H3 (e2.trans e3))
theorem et_or1 (h : EvT t σ H true) : EvT (tOr t u) σ H true := fun H1 e Q q => h H1 e _ fun H2 e2 => iteT (q H2 e2)
theorem et_or0 (h : EvT t σ H false) (h2 : EvT u σ H b) : EvT (tOr t u) σ H b := fun H1 e Q q => h H1 e _ fun H2 e2 => iteF (h2 H2 (e.trans e2) Q fun H3 e3 => q H3 (e2.trans e3))
theorem q_forE {te : TE} {g : TG} {tu tz : TS} {D : Ends} {z : Str} (h : Ev te σ H (.str z)) (Pv : Nat → St → Hp → Prop) (h0 : ∀ H1, Ex H H1 → Pv 0 σ H1)
    (hs : ∀ i c σ' H' T, z.cps[i]? = some c → Pv i σ' H' → H' T = none → g (.ref T) σ' (upd H' T (.tup [.int (i : Nat), .str ⟨#[c]⟩])) fun σ2 H2 => tu { D with nx := Pv (i + 1), ct := Pv (i + 1), bk := tz D } σ2 H2) (hd : ∀ σ' H', Pv z.cps.size σ' H' → tz D σ' H') :
    tSeq (tFor (iEnumS (tCons te tNil)) g tu) tz D σ H := h H (Ex.refl _) _ fun H1 e1 => ⟨z, rfl, for_enumS (D := { D with nx := tz D }) Pv (h0 H1 e1) hs hd⟩
theorem q_two {K : PySem.W.Frag} {tA : TA} {i j : Nat} {tz : TS} {D : Ends} {v w : V} (h : EvA tA σ H [v, w]) (k : ∀ H1, Ex H H1 → tz D ((σ.set i (some v)).set j (some w)) H1) : tSeq (tAsg (tTup tA) (gTup K 2 (gCons (gName i) (gCons (gName j) gNil)))) tz D σ H :=
  h H (Ex.refl _) _ fun H1 e1 => ⟨by show 2 ≤ sizeLine; decide, fun p hp => ⟨p, _, rfl, st_of upd_same, rfl, _, _, rfl, _, _, rfl, rfl, k _ (e1.trans (Ex.new hp))⟩⟩
end
end L2
/-! for c in text; list.count of truths; comprehensions over zip and over rows. -/
namespace L2
open PySem PySem.Spec PyProof.Rows _root_.Evl
/-- for c in text, something behind -/
theorem q_forS {σ : L2.St} {H : Hp} {te : TE} {j : Nat} {tu tz : TS} {D : Ends} {z : Str} (h : Ev te σ H (.str z)) (Pv : Nat → St → Hp → Prop) (h0 : ∀ H1, Ex H H1 → Pv 0 σ H1)
    (hs : ∀ i c σ' H', z.cps[i]? = some c → Pv i σ' H' → tu { D with nx := Pv (i + 1), ct := Pv (i + 1), bk := tz D } (σ'.set j (some (.str ⟨#[c]⟩))) H') (hd : ∀ σ' H', Pv z.cps.size σ' H' → tz D σ' H') :
    tSeq (tFor (iStr te) (gName j) tu) tz D σ H := h H (Ex.refl _) _ fun H1 e1 => ⟨z, rfl, fun i m σ' H' => m = z.cps.size - i ∧ i ≤ z.cps.size ∧ Pv i σ' H', ⟨z.cps.size, by simp, Nat.zero_le _, h0 H1 e1⟩, by
      rintro i m σ' H' ⟨rfl, hi, p⟩
      by_cases lt : i < z.cps.size
      · refine .inr ⟨lt, Pv (i + 1), fun σ2 H2 p2 => ⟨z.cps.size - (i + 1), by omega, rfl, lt, p2⟩, fun x H2 y => ?_⟩
        obtain ⟨rfl, c, hc, rfl⟩ := y
        exact hs i c σ' _ hc p
      · have e : i = z.cps.size := by omega
        subst e
        exact .inl ⟨Nat.le_refl _, hd σ' H' p⟩⟩
/-- list.count of a truth, of truths -/
def rCntB (K : PySem.W.Frag) : V → List V → Hp → VK → Prop := fun x xs H Q => ∃ (p : Addr) (bs : List Bool) (k : Bool), x = .ref p ∧ xs = [.bl k] ∧ SqL K H p (bs.map V.bl) ∧ Q (.int (bs.count k : Nat)) H
theorem bools_vals : ∀ {bs : List Bool} {us : List Value}, Vals (bs.map V.bl) us → us = bs.map Value.bool
  | [], _, .nil => rfl
  | b :: r, _, .cons h t => by
    rw [bools_vals t]
    cases h
    rfl
theorem bools_reads (hp : Heap) : ∀ bs : List Bool, ∃ as, ReadsAll hp (bs.map Value.bool) (bs.map PyData.bool) as
  | [] => ⟨_, .nil⟩
  | b :: r => by
    obtain ⟨as, h⟩ := bools_reads hp r
    exact ⟨_, .cons (.bool b) h⟩
theorem bools_count (k : Bool) : ∀ bs : List Bool, countIn (.bool k) (bs.map PyData.bool) = ((bs.count k : Nat) : Int)
  | [] => rfl
  | b :: r => by
    rw [List.map_cons, countIn, bools_count k r, List.count_cons]
    cases b <;> cases k <;> simp [same] <;> omega
theorem mt_lcountB {X : Cx} : MtR X "list.count" (rCntB X.K) := by
  intro pins s σ H x xs v us Q I rx rxs h
  obtain ⟨p, bs, k, rfl, rfl, hs, q⟩ := h
  cases rx
  obtain ⟨u, rfl, ru⟩ := rxs.one
  cases ru
  obtain ⟨its, rv, ⟨⟨cls, dd, data, sl⟩, n, ho, hc, hdn, hd⟩, hlen⟩ := I.list hs
  simp only at hc hd
  have e := bools_vals rv
  obtain ⟨as, ra⟩ := bools_reads s.heap bs
  rw [← e] at ra
  refine count_list_bools (hp := s.heap) ⟨_, ho, hc, n, hd⟩ ra (by
    rw [List.all_eq_true]
    intro d hd
    obtain ⟨b, _, rfl⟩ := List.mem_map.mp hd
    rfl) ?_
  rw [bools_count]
  exact ⟨.int _, H, I.tok _, ⟨_, rfl⟩, q⟩
/-- what a comprehension that yields pairs wants of its iterator -/
theorem lc_pairs {K : PySem.W.Frag} {σ : L2.St} {H : Hp} {te : TE} {Q : VK} {J : It} {xs ys : List V} {j l : Nat} {vs : List Nat} (v : Nat → V) (hl : xs.length ≤ 1000)
    (hgo : ∀ i H', Ex H H' → i < xs.length → J.go i H') (hstop : ∀ H', Ex H H' → J.stop xs.length H')
    (hy : ∀ i x H' H'', Ex H H' → J.yld i H' x H'' → ∃ T a b, x = .ref T ∧ H' T = none ∧ H'' = upd H' T (.tup [a, b]) ∧ xs[i]? = some a ∧ ys[i]? = some b)
    (hw : ∀ x y, wipe (((wipe σ vs).set j (some x)).set l (some y)) vs = wipe σ vs)
    (he : ∀ (i : Nat) (x y : V) H1, Ex H H1 → xs[i]? = some x → ys[i]? = some y → Ev te (((wipe σ vs).set j (some x)).set l (some y)) H1 (v i))
    (k : ∀ p H1, H p = none → Ex H H1 → H1 p = some (.lst ((List.range xs.length).map v)) → Q (.ref p) H1) :
    tLc (fun _ H1 R => R J H1) (gTup K 2 (gCons (gName j) (gCons (gName l) gNil))) tYes te vs σ H Q := by
  intro D hD
  refine ⟨fun i m H' => m = xs.length - i ∧ i ≤ xs.length ∧ Ex H H' ∧ H' D = some (.lst ((List.range i).map v)), ⟨xs.length, rfl, Nat.zero_le _, Ex.new hD, upd_same⟩, ?_⟩
  rintro i m H' ⟨rfl, hi, e, h⟩
  by_cases lt : i < xs.length
  · refine .inr ⟨hgo i H' e lt, fun H2 => Ex H H2 ∧ H2 D = some (.lst ((List.range (i + 1)).map v)), fun H2 ⟨e2, h2⟩ => ⟨xs.length - (i + 1), by omega, rfl, lt, e2, h2⟩, fun x H2 y => ?_⟩
    obtain ⟨T, a, b, rfl, hT, rfl, hx, hyb⟩ := hy i x H' H2 e y
    refine ⟨T, _, rfl, st_of upd_same, rfl, _, _, rfl, _, _, rfl, rfl, hw a b, ?_⟩
    refine he i a b _ (e.trans (Ex.new hT)) hx hyb _ (Ex.refl _) _ fun H3 e3 => ?_
    have e03 : Ex H' H3 := (Ex.new hT).trans e3
    refine ⟨_, e03 _ _ h, ?_, ?_, ?_⟩
    · rw [List.length_map, List.length_range, sizeLine_eq]
      omega
    · exact Ex.mut (e.trans e03) hD
    · rw [upd_same, List.range_succ, List.map_append]
      rfl
  · have e2 : i = xs.length := by omega
    subst e2
    exact .inl ⟨hstop H' e, k D H' hD e h⟩
theorem el_lcZ {K : PySem.W.Frag} {σ : L2.St} {H : Hp} {ta tb te : TE} {a b : Addr} {xs ys : List V} {j l : Nat} {vs : List Nat} (v : Nat → V) (ha : Ev ta σ H (.ref a)) (hb : Ev tb σ H (.ref b)) (hxy : (SqL K H a xs ∧ SqL K H b ys) ∨ (SqT K H a xs ∧ SqT K H b ys)) (hl : xs.length ≤ 1000) (hll : xs.length = ys.length)
    (hw : ∀ x y, wipe (((wipe σ vs).set j (some x)).set l (some y)) vs = wipe σ vs)
    (he : ∀ (i : Nat) (x y : V) H1, Ex H H1 → xs[i]? = some x → ys[i]? = some y → Ev te (((wipe σ vs).set j (some x)).set l (some y)) H1 (v i)) :
    EvL (tLc (RZ.iZipA K (tCons ta (tCons tb tNil))) (gTup K 2 (gCons (gName j) (gCons (gName l) gNil))) tYes te vs) σ H ((List.range xs.length).map v) := fun H0 e Q q =>
  ha H0 e _ fun H1 e1 => hb H1 (e.trans e1) _ fun H2 e2 => by
    have eA : Ex H H2 := (e.trans e1).trans e2
    have lt2 : ∀ {i : Nat}, i < xs.length → ys[i]? = some (ys.getD i .non) := fun {i} hi => by
      rw [List.getD_eq_getElem?_getD, List.getElem?_eq_getElem (by omega)]
      rfl
    have lt1 : ∀ {i : Nat}, i < xs.length → xs[i]? = some (xs.getD i .non) := fun {i} hi => by
      rw [List.getD_eq_getElem?_getD, List.getElem?_eq_getElem hi]
      rfl
    rcases hxy with ⟨hx, hy⟩ | ⟨hx, hy⟩
    · refine ⟨a, b, xs, ys, rfl, .inl ⟨ex_l eA hx, ex_l eA hy, ?_⟩⟩
      exact lc_pairs (K := K) (H := H2) (J := Itz K a b) (xs := xs) (ys := ys) v hl (fun i H' e' hi => ⟨xs, ys, _, _, ex_l (eA.trans e') hx, ex_l (eA.trans e') hy, lt1 hi, lt2 hi⟩) (fun H' e' => ⟨xs, ys, ex_l (eA.trans e') hx, ex_l (eA.trans e') hy, .inl (Nat.le_refl _)⟩)
        (fun i x H' H'' e' y => by
          obtain ⟨T, x', y', rfl, hT, rfl, f1, f2⟩ := y
          exact ⟨T, x', y', rfl, hT, rfl, f1 _ (ex_l (eA.trans e') hx), f2 _ (ex_l (eA.trans e') hy)⟩) hw (fun i x y H3 e3 h1 h2 => he i x y H3 (eA.trans e3) h1 h2) fun p H3 hp e3 h3 => q p H3 (fresh_back (e1.trans e2) hp) ((e1.trans e2).trans e3) h3
    · refine ⟨a, b, xs, ys, rfl, .inr ⟨ex_t eA hx, ex_t eA hy, ?_⟩⟩
      exact lc_pairs (K := K) (H := H2) (J := RZ.ItzT K a b) (xs := xs) (ys := ys) v hl (fun i H' e' hi => ⟨xs, ys, _, _, ex_t (eA.trans e') hx, ex_t (eA.trans e') hy, lt1 hi, lt2 hi⟩) (fun H' e' => ⟨xs, ys, ex_t (eA.trans e') hx, ex_t (eA.trans e') hy, .inl (Nat.le_refl _)⟩)
        (fun i x H' H'' e' y => by
          obtain ⟨T, x', y', rfl, hT, rfl, f1, f2⟩ := y
          exact ⟨T, x', y', rfl, hT, rfl, f1 _ (ex_t (eA.trans e') hx), f2 _ (ex_t (eA.trans e') hy)⟩) hw (fun i x y H3 e3 h1 h2 => he i x y H3 (eA.trans e3) h1 h2) fun p H3 hp e3 h3 => q p H3 (fresh_back (e1.trans e2) hp) ((e1.trans e2).trans e3) h3
/-! ''.join of single signs -/
theorem jn_ones : ∀ zs : List Nat, TL.joinL [] (zs.map fun c => [c]) = zs
  | [] => rfl
  | [_] => rfl
  | a :: b :: r => by
    show [a] ++ ([] ++ TL.joinL [] ((b :: r).map fun c => [c])) = _
    rw [jn_ones (b :: r)]
    rfl
theorem jn_text (zs : List Nat) : Txt.join (Str.ofString "") (zs.map fun c => (⟨#[c]⟩ : Str)) = ⟨zs.toArray⟩ := by
  have h : TL.tl (Txt.join (Str.ofString "") (zs.map fun c => (⟨#[c]⟩ : Str))) = zs := by
    rw [TL.join_eq, TL.tl_join, List.map_map]
    exact jn_ones zs
  rw [← TL.mk_tl (Txt.join (Str.ofString "") (zs.map fun c => (⟨#[c]⟩ : Str))), h]
theorem jn_sum (zs : List Nat) : ((zs.map fun c => (⟨#[c]⟩ : Str)).map (·.length)).sum = zs.length := by
  induction zs with
  | nil => rfl
  | cons a r ih =>
    rw [List.map_cons, List.map_cons, List.sum_cons, ih, List.length_cons]
    show 1 + _ = _
    omega
/-- x //= e, something behind -/
theorem q_augF {σ : L2.St} {H : Hp} {te : TE} {tz : TS} {D : Ends} {i : Nat} {a b : Int} (hx : σ[i]? = some (some (.int a))) (h : Ev te σ H (.int b)) (hb : CDiv a b) (k : ∀ H1, Ex H H1 → tz D (σ.set i (some (.int (a / b)))) H1) : tSeq (tAug i te (rI CDiv fun i j => .int (i / j))) tz D σ H :=
  ⟨.int a, hx, h H (Ex.refl H) _ fun H1 e => ⟨a, b, rfl, rfl, hb, k H1 e⟩⟩
theorem et_yes {σ : L2.St} {H : Hp} : EvT tYes σ H true := fun H8 _ Q' q' => q' H8 (Ex.refl _)
/-! caught exceptions, asked -/
section
variable {K : PySem.W.Frag} {σ : L2.St} {H : Hp} {ta tu te : TE} {t : TT}
theorem rv_isN {x : V} : RV (fun x y H Q => y = .non ∧ Q (.bl (decide (x = .non))) H) x .non H (.bl (decide (x = .non))) := fun H1 _ Q q => ⟨rfl, q H1 (Ex.refl _)⟩
theorem rc_isk {a C d : Addr} {fs : List (Str × V)} {c : V} {u : Value} {b : Bool} (xa : ExcAt H a C d fs) (T : XkC K C) (hc : ClsV c u) (hk : PySem.W.kitOne K (.ref C) u = some b) : RC (rIsk K) [.ref a, c] H (.bl b) := fun H1 e Q q =>
  ⟨a, C, d, fs, c, u, b, rfl, xa.ex e, T, hc, hk, q H1 (Ex.refl _)⟩
theorem ev_iskT {a C d : Addr} {fs : List (Str × V)} {cls : List V} {us : List Value} {b : Bool} (ha : Ev ta σ H (.ref a)) (hu : EvU tu σ H cls) (xa : ExcAt H a C d fs) (T : XkC K C) (hc : Paired ClsV cls us) (hk : PySem.W.kitAny K (.ref C) us = some b) :
    Ev (tCB (rIskT K) (tCons ta (tCons tu tNil))) σ H (.bl b) := fun H1 e Q q =>
  ha H1 e _ fun H2 e2 => hu H2 (e.trans e2) _ fun tp H3 _ e3 h3 => ⟨a, C, d, tp, fs, cls, us, b, rfl, xa.ex ((e.trans e2).trans e3), T, h3, hc, hk, q H3 (e2.trans e3)⟩
theorem ev_xk {a C d : Addr} {fs : List (Str × V)} {f : Str} {v : V} (ha : Ev ta σ H (.ref a)) (xa : ExcAt H a C d fs) (T : XkC K C) (hn : NoAttr K C f) (hl : fs.lookup f = some v) : Ev (tXk K ta f) σ H v := fun H1 e Q q =>
  ha H1 e _ fun H2 e2 => ⟨a, C, d, fs, v, rfl, xa.ex (e.trans e2), T, hn, hl, q H2 e2⟩
/-- isinstance(x, (c, ..)) -/
theorem ev_isiT {x : V} {t : Value} {cls : List V} {us : List Value} {b : Bool} (hx : Ev ta σ H x) (hu : EvU tu σ H cls) (ht : ∀ H1, Ex H H1 → TyX K H1 x t) (hc : Paired ClsV cls us) (hk : PySem.W.kitAny K t us = some b) : Ev (tCB (rIsiT K) (tCons ta (tCons tu tNil))) σ H (.bl b) := fun H1 e Q q =>
  hx H1 e _ fun H2 e2 => hu H2 (e.trans e2) _ fun tp H3 _ e3 h3 => ⟨x, tp, cls, t, us, b, rfl, h3, hc, ht H3 ((e.trans e2).trans e3), hk, q H3 (e2.trans e3)⟩
theorem ev_all {xs : List V} {bs : List Bool} (h : EvL te σ H xs) (hx : xs = bs.map V.bl) : Ev (tCB (rAll K) (tCons te tNil)) σ H (.bl (bs.all id)) := fun H1 e Q q =>
  h H1 e _ fun p H2 _ e2 h2 => ⟨p, bs, rfl, sq_of (by rw [← hx]; exact h2), q H2 e2⟩
/-- xs + [..], of a list that stands there -/
theorem el_cat {a : Addr} {xs ys : List V} (ha : Ev ta σ H (.ref a)) (hx : H a = some (.lst xs)) (h : EvL tu σ H ys) (hn : xs.length + ys.length ≤ 100000) : EvL (tOp rCat ta tu) σ H (xs ++ ys) := fun H1 e Q q =>
  ha H1 e _ fun H2 e2 => h H2 (e.trans e2) _ fun b H3 hb e3 h3 => ⟨a, b, xs, ys, rfl, rfl, ((e.trans e2).trans e3) _ _ hx, h3, sz_of hn, fun p hp => q p _ (fresh_back (e2.trans e3) hp) ((e2.trans e3).trans (Ex.new hp)) upd_same⟩
theorem ev_eqB {a b : Bool} (ha : Ev ta σ H (.bl a)) (hb : Ev tu σ H (.bl b)) : Ev (tOp rEq ta tu) σ H (.bl (a == b)) := by
  have h := ev_op ha hb (rv_eq (x := .bl a) (y := .bl b) rfl)
  rw [dec_bl] at h
  exact h
theorem ev_neB {a b : Bool} (ha : Ev ta σ H (.bl a)) (hb : Ev tu σ H (.bl b)) : Ev (tOp rNe ta tu) σ H (.bl (a != b)) := by
  have h := ev_op ha hb (rv_ne (x := .bl a) (y := .bl b) rfl)
  rw [dec_bl] at h
  exact h
end
/-! rows of three: loops and comprehensions by their parts -/
section
variable {K : PySem.W.Frag} {σ : L2.St} {H : Hp} {ta te : TE} {t : TT} {D : Ends} {tu tz : TS} {a : Addr} {rs : List V} {j1 j2 j3 : Nat}
theorem q_forT3 (h : Ev ta σ H (.ref a)) (Pv : Nat → L2.St → Hp → Prop) (h0 : ∀ H1, Ex H H1 → Pv 0 σ H1) (hl : ∀ i σ' H', i ≤ rs.length → Pv i σ' H' → SqL K H' a rs)
    (hs : ∀ i v σ' H', rs[i]? = some v → Pv i σ' H' → ∃ r x y z, v = .ref r ∧ H' r = some (.tup [x, y, z]) ∧ tu { D with nx := Pv (i + 1), ct := Pv (i + 1), bk := tz D } (((σ'.set j1 (some x)).set j2 (some y)).set j3 (some z)) H') (hd : ∀ σ' H', Pv rs.length σ' H' → tz D σ' H') :
    tSeq (tFor (iList K ta) (gTup K 3 (gCons (gName j1) (gCons (gName j2) (gCons (gName j3) gNil)))) tu) tz D σ H := h H (Ex.refl _) _ fun H1 e1 => ⟨a, rfl, ⟨rs, hl 0 σ H1 (Nat.zero_le _) (h0 H1 e1)⟩, fun i m σ' H' => m = rs.length - i ∧ i ≤ rs.length ∧ Pv i σ' H', ⟨rs.length, by simp, Nat.zero_le _, h0 H1 e1⟩, by
      rintro i m σ' H' ⟨rfl, hi, p⟩
      have q := hl i σ' H' hi p
      by_cases lt : i < rs.length
      · refine .inr ⟨⟨rs, rs[i], q, by simp [lt]⟩, Pv (i + 1), fun σ2 H2 p2 => ⟨rs.length - (i + 1), by omega, rfl, lt, p2⟩, fun v H2 y => ?_⟩
        obtain ⟨rfl, y⟩ := y
        obtain ⟨r, x, y, z, rfl, hr, hb⟩ := hs i v σ' _ (y rs q) p
        exact ⟨r, _, rfl, st_of hr, rfl, _, _, rfl, _, _, rfl, _, _, rfl, rfl, hb⟩
      · have e : i = rs.length := by omega
        subst e
        exact .inl ⟨⟨rs, q, Nat.le_refl _⟩, hd σ' H' p⟩⟩
theorem el_lcT3 {vs : List Nat} (f : Nat → Bool) (v : Nat → V) (h : Ev ta σ H (.ref a)) (hx : SqL K H a rs) (hz : rs.length ≤ 40000) (hw : ∀ x y z, wipe ((((wipe σ vs).set j1 (some x)).set j2 (some y)).set j3 (some z)) vs = wipe σ vs)
    (hr : ∀ i u, rs[i]? = some u → ∃ r x y z, u = .ref r ∧ H r = some (.tup [x, y, z]) ∧ ∀ H1, Ex H H1 → EvT t ((((wipe σ vs).set j1 (some x)).set j2 (some y)).set j3 (some z)) H1 (f i) ∧ (f i = true → Ev te ((((wipe σ vs).set j1 (some x)).set j2 (some y)).set j3 (some z)) H1 (v i))) :
    EvL (tLc (iList K ta) (gTup K 3 (gCons (gName j1) (gCons (gName j2) (gCons (gName j3) gNil)))) t te vs) σ H (given rs.length f v) := fun H0 e Q q => h H0 e _ fun H1 e1 => ⟨a, rfl, ⟨rs, ex_l (e.trans e1) hx⟩, fun Dl hD =>
  lc_list (xs := rs) (Cw H1 f v Dl) ⟨hD, Ex.new hD, upd_same⟩ (fun i H' _ p => ex_l ((e.trans e1).trans p.2.1) hx) (fun i u H' hi p => by
      obtain ⟨r, x, y, z, rfl, hrr, hE⟩ := hr i u hi
      have hlt : i < rs.length := (List.getElem?_eq_some_iff.mp hi).1
      exact ⟨r, _, rfl, st_of (((e.trans e1).trans p.2.1) _ _ hrr), rfl, _, _, rfl, _, _, rfl, _, _, rfl, rfl, hw x y z, cw_turn p (by omega) (hE H1 (e.trans e1)).1 (hE H1 (e.trans e1)).2⟩)
    fun H' p => q Dl H' (fresh_back e1 p.1) (e1.trans p.2.1) p.2.2⟩
end
/-- what may raise, where it doesn't -/
theorem FnOk.calm {P : Program} {w : World} {K : PySem.W.Frag} {mg : Str → Option Value} {base : Heap} {k : Nat} {f : Addr} {fd : FuncData} {ps : List Str} {sp sp0 : Sp} (F : FnOk P w K mg base (L2.CX P w) k f fd ps sp) (h : ∀ vs H Q E, sp0 vs H Q E → sp vs H Q E0) : FnOk P w K mg base CX0 k f fd ps sp0 :=
  ⟨fun vs H Q E q => F.len _ _ _ _ (h _ _ _ _ q), fun A outer s H args us vs Q E hr he hb hv hs => codeAny_mono (F.run A outer s H args us vs Q _ hr he hb hv (h _ _ _ _ hs)) fun r s' hq => by
    cases r with
    | ok v =>
      cases v with
      | ret u => exact hq
      | _ => exact hq
    | error e =>
      obtain ⟨_, _, _, _, _, _, _, _, _, _, _, _, z⟩ := hq
      exact z⟩
end L2
namespace Tn
def low (t u : Int) : Int × Int := (t / (Int.gcd t u : Int), u / (Int.gcd t u : Int))
def part (t u : Int) : Int × Int := low (t % u) u
def sgn (t u : Int) : Int × Int := if u < 0 then part (-t) (-u) else part t u
def on (a b : Int × Int) : Int × Int := part (a.1 * b.2 + b.1 * a.2) (a.2 * b.2)
def off (a b : Int × Int) : Int × Int := part (a.1 * b.2 - b.1 * a.2) (a.2 * b.2)
structure Can (a : Int × Int) : Prop where
  pos : 0 < a.2
  nn : 0 ≤ a.1
  lt : a.1 < a.2
  cop : Int.gcd a.1 a.2 = 1
theorem gcd_pos {t u : Int} (hu : 0 < u) : (0 : Int) < (Int.gcd t u : Int) := by
  have : 0 < Int.gcd t u := Int.gcd_pos_of_ne_zero_right _ (by omega)
  omega
theorem low_fst {t u : Int} : (low t u).1 * (Int.gcd t u : Int) = t := Int.ediv_mul_cancel (Int.gcd_dvd_left ..)
theorem low_snd {t u : Int} : (low t u).2 * (Int.gcd t u : Int) = u := Int.ediv_mul_cancel (Int.gcd_dvd_right ..)
theorem low_can {t u : Int} (h0 : 0 ≤ t) (h1 : t < u) : Can (low t u) := by
  have hu : 0 < u := by omega
  have g := gcd_pos (t := t) hu
  have e1 := low_fst (t := t) (u := u)
  have e2 := low_snd (t := t) (u := u)
  refine ⟨?_, ?_, ?_, ?_⟩
  · exact Int.ediv_pos_of_pos_of_dvd hu (by omega) (Int.gcd_dvd_right ..)
  · exact Int.ediv_nonneg h0 (by omega)
  · refine Int.lt_of_mul_lt_mul_right (a := (Int.gcd t u : Int)) ?_ (by omega)
    rw [e1, e2]
    exact h1
  · show Int.gcd (t / (Int.gcd t u : Int)) (u / (Int.gcd t u : Int)) = 1
    exact Int.gcd_ediv_gcd_ediv_gcd_of_ne_zero_right (by omega)
theorem part_can {t u : Int} (hu : 0 < u) : Can (part t u) := low_can (Int.emod_nonneg _ (by omega)) (Int.emod_lt_of_pos _ hu)
theorem low_le {t u : Int} (hu : 0 < u) : (low t u).2 ≤ u := Int.ediv_le_self _ (by omega)
theorem part_le {t u : Int} (hu : 0 < u) : (part t u).2 ≤ u := low_le hu
theorem part_rel {t u : Int} (hu : 0 < u) : ∃ k, t * (part t u).2 - (part t u).1 * u = k * (u * (part t u).2) := by
  have e1 : (part t u).1 * (Int.gcd (t % u) u : Int) = t % u := low_fst
  have e2 : (part t u).2 * (Int.gcd (t % u) u : Int) = u := low_snd
  have e3 := Int.emod_add_mul_ediv t u
  refine ⟨t / u, ?_⟩
  generalize part t u = p at *
  obtain ⟨x, y⟩ := p
  dsimp only at *
  generalize (Int.gcd (t % u) u : Int) = g at *
  generalize t % u = r at *
  generalize t / u = q at *
  subst e1
  grind
theorem can_uniq {a b : Int × Int} (ha : Can a) (hb : Can b) {k : Int} (h : a.1 * b.2 - b.1 * a.2 = k * (a.2 * b.2)) : a = b := by
  obtain ⟨x, y⟩ := a
  obtain ⟨z, w⟩ := b
  have a1 : 0 < y := ha.pos
  have a2 : 0 ≤ x := ha.nn
  have a3 : x < y := ha.lt
  have b1 : 0 < w := hb.pos
  have b2 : 0 ≤ z := hb.nn
  have b3 : z < w := hb.lt
  have ca : Int.gcd x y = 1 := ha.cop
  have cb : Int.gcd z w = 1 := hb.cop
  have h : x * w - z * y = k * (y * w) := h
  have p1 : 0 ≤ x * w := Int.mul_nonneg a2 (by omega)
  have p2 : 0 ≤ z * y := Int.mul_nonneg b2 (by omega)
  have p3 : x * w < y * w := Int.mul_lt_mul_of_pos_right a3 b1
  have p4 : z * y < w * y := Int.mul_lt_mul_of_pos_right b3 a1
  have p5 : 0 < y * w := Int.mul_pos a1 b1
  rw [Int.mul_comm w y] at p4
  have k0 : k = 0 := by
    generalize y * w = m at *
    by_cases q : 1 ≤ k
    · have : m ≤ k * m := by
        have := Int.mul_le_mul_of_nonneg_right q (show 0 ≤ m by omega)
        omega
      omega
    · by_cases q2 : k ≤ -1
      · have : k * m ≤ -m := by
          have := Int.mul_le_mul_of_nonneg_right q2 (show 0 ≤ m by omega)
          omega
        omega
      · omega
  subst k0
  have e : x * w = z * y := by omega
  have d1 : y ∣ w := by
    have q : y ∣ x * w := ⟨z, by grind⟩
    have q2 := Int.dvd_gcd_mul_iff_dvd_mul.mpr q
    rw [Int.gcd_comm, ca] at q2
    simpa using q2
  have d2 : w ∣ y := by
    have q : w ∣ z * y := ⟨x, by grind⟩
    have q2 := Int.dvd_gcd_mul_iff_dvd_mul.mpr q
    rw [Int.gcd_comm, cb] at q2
    simpa using q2
  have e2 : y = w := Int.le_antisymm (Int.le_of_dvd b1 d1) (Int.le_of_dvd a1 d2)
  subst e2
  have : x = z := Int.eq_of_mul_eq_mul_right (by omega) e
  rw [this]
theorem part_eq {t u : Int} {b : Int × Int} (hu : 0 < u) (hb : Can b) {k : Int} (h : t * b.2 - b.1 * u = k * (u * b.2)) : part t u = b := by
  obtain ⟨j, e⟩ := part_rel (t := t) hu
  refine can_uniq (k := k - j) (part_can hu) hb ?_
  generalize part t u = p at *
  refine Int.eq_of_mul_eq_mul_left (a := u) (by omega) ?_
  grind
theorem part_self {a : Int × Int} (ha : Can a) : part a.1 a.2 = a := part_eq (k := 0) ha.pos ha (by grind)
theorem can01 : Can (0, 1) := ⟨by decide, by decide, by decide, by decide⟩
theorem on_can {a b : Int × Int} (ha : Can a) (hb : Can b) : Can (on a b) := part_can (Int.mul_pos ha.pos hb.pos)
theorem off_can {a b : Int × Int} (ha : Can a) (hb : Can b) : Can (off a b) := part_can (Int.mul_pos ha.pos hb.pos)
theorem sgn_can {t u : Int} (hu : u ≠ 0) : Can (sgn t u) := by
  unfold sgn
  by_cases h : u < 0
  · rw [if_pos h]
    exact part_can (by omega)
  · rw [if_neg h]
    exact part_can (by omega)
theorem sgn_pos {t u : Int} (hu : 0 < u) : sgn t u = part t u := if_neg (by omega)
theorem sgn_le {t u : Int} (hu : u ≠ 0) : (sgn t u).2 ≤ (u.natAbs : Int) := by
  unfold sgn
  by_cases h : u < 0
  · rw [if_pos h]
    have := part_le (t := -t) (u := -u) (by omega)
    omega
  · rw [if_neg h]
    have := part_le (t := t) (u := u) (by omega)
    omega
/-- added and taken off again -/
theorem on_off {a b : Int × Int} (ha : Can a) (hb : Can b) : off (on a b) b = a := by
  obtain ⟨j, e⟩ := part_rel (t := a.1 * b.2 + b.1 * a.2) (u := a.2 * b.2) (Int.mul_pos ha.pos hb.pos)
  have c := on_can ha hb
  have e : (a.1 * b.2 + b.1 * a.2) * (on a b).2 - (on a b).1 * (a.2 * b.2) = j * (a.2 * b.2 * (on a b).2) := e
  generalize on a b = p at *
  refine part_eq (k := -j) (Int.mul_pos c.pos hb.pos) ha ?_
  have := ha.pos
  have := hb.pos
  refine Int.eq_of_mul_eq_mul_left (a := b.2) (by omega) ?_
  grind
theorem on_comm {a b : Int × Int} : on a b = on b a := by
  unfold on
  rw [Int.add_comm, Int.mul_comm a.2 b.2]
theorem on_off' {a b : Int × Int} (ha : Can a) (hb : Can b) : off (on a b) a = b := by
  rw [on_comm]
  exact on_off hb ha
theorem off_self {a : Int × Int} (ha : Can a) : off a a = (0, 1) := part_eq (k := 0) (Int.mul_pos ha.pos ha.pos) can01 (by grind)
def half : Int × Int := (1, 2)
theorem half_can : Can half := ⟨by decide, by decide, by decide, by decide⟩
theorem on_half2 {a : Int × Int} (ha : Can a) : on (on a half) half = a := by
  obtain ⟨j, e⟩ := part_rel (t := a.1 * 2 + 1 * a.2) (u := a.2 * 2) (by have := ha.pos; omega)
  have c := on_can ha half_can
  have e : (a.1 * 2 + 1 * a.2) * (on a half).2 - (on a half).1 * (a.2 * 2) = j * (a.2 * 2 * (on a half).2) := e
  generalize on a half = p at *
  have h1 := ha.pos
  have h2 := c.pos
  refine part_eq (t := p.1 * 2 + 1 * p.2) (u := p.2 * 2) (k := 1 - j) (by omega) ha ?_
  grind
theorem part_whole (t : Int) : part t 1 = (0, 1) := part_eq (k := t) (by decide) can01 (by grind)
theorem sgn_whole (t : Int) : sgn t 1 = (0, 1) := by
  rw [sgn_pos (by decide)]
  exact part_whole t
theorem part_zero {u : Int} (hu : 0 < u) : part 0 u = (0, 1) := part_eq (k := 0) hu can01 (by grind)
theorem gcd_step (x y : Int) (hx : 0 ≤ x) (hy : 0 < y) : Int.gcd y (x % y) = Int.gcd x y := by
  have h : Int.gcd (x % y) y = Int.gcd x y := by
    unfold Int.gcd
    obtain ⟨a, rfl⟩ := Int.eq_ofNat_of_zero_le hx
    obtain ⟨b, rfl⟩ := Int.eq_ofNat_of_zero_le (Int.le_of_lt hy)
    show Nat.gcd (((a : Int) % (b : Int)).natAbs) b = Nat.gcd a b
    have : ((a : Int) % (b : Int)).natAbs = a % b := by omega
    rw [this, Nat.gcd_comm a b, Nat.gcd_rec b a]
  rw [Int.gcd_comm, h]
/-- how far apart, the shorter way -/
def apart (a b : Int × Int) : Int × Int := if (off a b).2 < 2 * (off a b).1 then off b a else off a b
/-- taken off the other way about -/
theorem off_back {a b : Int × Int} (ha : Can a) (hb : Can b) : off b a = if (off a b).1 = 0 then (0, 1) else ((off a b).2 - (off a b).1, (off a b).2) := by
  obtain ⟨j, e⟩ := part_rel (t := a.1 * b.2 - b.1 * a.2) (u := a.2 * b.2) (Int.mul_pos ha.pos hb.pos)
  have c := off_can ha hb
  have e : (a.1 * b.2 - b.1 * a.2) * (off a b).2 - (off a b).1 * (a.2 * b.2) = j * (a.2 * b.2 * (off a b).2) := e
  have up : 0 < b.2 * a.2 := Int.mul_pos hb.pos ha.pos
  generalize off a b = w at *
  obtain ⟨w1, w2⟩ := w
  have c1 : 0 < w2 := c.pos
  have c2 : 0 ≤ w1 := c.nn
  have c3 : w1 < w2 := c.lt
  have c4 : Int.gcd w1 w2 = 1 := c.cop
  dsimp only at e ⊢
  by_cases h : w1 = 0
  · subst h
    rw [if_pos rfl]
    have h2 : w2 = 1 := by
      rw [Int.gcd_zero_left] at c4
      omega
    subst h2
    refine part_eq (k := -j) up can01 ?_
    dsimp only
    grind
  · rw [if_neg h]
    refine part_eq (k := -j - 1) up ⟨c1, by show 0 ≤ w2 - w1; omega, by show w2 - w1 < w2; omega, ?_⟩ ?_
    · show Int.gcd (w2 - w1) w2 = 1
      rw [← c4, Int.gcd_comm, Int.gcd_comm w1 w2, ← Int.gcd_neg (a := w2) (b := w1), ← Int.gcd_add_self_right (m := w2) (n := -w1)]
      congr 1
      omega
    · dsimp only
      grind
theorem apart_law {a b : Int × Int} (ha : Can a) (hb : Can b) : (if (off b a).1 * (off a b).2 < (off a b).1 * (off b a).2 then off b a else off a b) = apart a b := by
  have c := off_can ha hb
  have e := off_back ha hb
  unfold apart
  by_cases h : (off a b).1 = 0
  · rw [if_pos h] at e
    have c1 := c.pos
    rw [e, h, if_neg (by show ¬ (0 * (off a b).2 < 0 * 1); rw [Int.zero_mul, Int.zero_mul]; omega), if_neg (by omega)]
  · rw [if_neg h] at e
    have c1 := c.pos
    have q : ((off b a).1 * (off a b).2 < (off a b).1 * (off b a).2) ↔ (off a b).2 < 2 * (off a b).1 := by
      rw [e]
      show (((off a b).2 - (off a b).1) * (off a b).2 < (off a b).1 * (off a b).2) ↔ _
      constructor
      · intro h
        have := Int.lt_of_mul_lt_mul_right h (by omega)
        omega
      · intro h
        exact Int.mul_lt_mul_of_pos_right (by omega) c1
    by_cases h2 : (off a b).2 < 2 * (off a b).1
    · rw [if_pos h2, if_pos (q.mpr h2)]
    · rw [if_neg h2, if_neg (fun z => h2 (q.mp z))]
end Tn
namespace Mk
/-- the marks of a top and a number of marks, the first mark first -/
def mk : Nat → Int → List Nat
  | 0, _ => []
  | j + 1, l => if 0 < l then 62 :: mk j (l - 2 ^ j) else 60 :: mk j (l + 2 ^ j)
def good (t m : Int) : Bool := if m < 0 || 5 < m then false else if m = 0 then decide (t = 0) else decide (t % 2 = 1) && decide (t.natAbs < 2 ^ m.toNat)
/-- the rows of just so many marks, of at most so many -/
abbrev Row := List Nat × Int × Int
def longer (L : List Row) : List Row := L.flatMap fun r => [(r.1 ++ [60], 2 * r.2.1 - 1, 2 * r.2.2), (r.1 ++ [62], 2 * r.2.1 + 1, 2 * r.2.2)]
def level : Nat → List Row
  | 0 => [([], 0, 1)]
  | n + 1 => longer (level n)
def upto : Nat → List Row
  | 0 => level 0
  | n + 1 => upto n ++ level (n + 1)
def step (l : List Nat) : Int × Int := l.foldl (fun p c => (2 * p.1 + (if c = 62 then 1 else -1), 2 * p.2)) (0, 1)
/-- in lowest terms already -/
def lowOk (r : Row) : Bool := decide (Int.gcd r.2.1 r.2.2 = 1) && (decide (step r.1 = (r.2.1, r.2.2)) && (decide (0 < r.2.2) && (decide (r.2.2 ≤ 32) && (good r.2.1 r.1.length && (decide (mk r.1.length r.2.1 = r.1) && (decide (r.1.length ≤ 5) && r.1.all fun c => c == 60 || c == 62))))))
theorem rows_ok : (upto 5).all lowOk = true := by decide +kernel
theorem rows_len : (upto 5).length = 63 := by decide +kernel
/-- of a good top and number just one row -/
theorem one_of : ∀ m ∈ List.range 6, ∀ i ∈ List.range 63, good ((i : Int) - 31) (m : Int) = true → ((upto 5).filter fun r => decide (r.2.1 = (i : Int) - 31) && decide (r.1.length = m)).map (·.1) = [mk m ((i : Int) - 31)] := by decide +kernel
theorem good_bound {t m : Int} (h : good t m = true) : 0 ≤ m ∧ m ≤ 5 ∧ -31 ≤ t ∧ t ≤ 31 := by
  unfold good at h
  split at h
  · cases h
  · rename_i h1
    simp only [Bool.or_eq_true, decide_eq_true_eq, not_or, Int.not_lt] at h1
    have hm : m = 0 ∨ m = 1 ∨ m = 2 ∨ m = 3 ∨ m = 4 ∨ m = 5 := by omega
    split at h
    · have := of_decide_eq_true h
      omega
    · rw [Bool.and_eq_true, decide_eq_true_eq, decide_eq_true_eq] at h
      have h2 := h.2
      have : (2 : Nat) ^ m.toNat ≤ 32 := by
        rcases hm with rfl | rfl | rfl | rfl | rfl | rfl <;> decide
      omega
theorem due_one {t m : Int} (h : good t m = true) : ((upto 5).filter fun r => decide (r.2.1 = t) && decide ((r.1.length : Int) = m)).map (·.1) = [mk m.toNat t] := by
  obtain ⟨h1, h2, h3, h4⟩ := good_bound h
  have key := one_of m.toNat (List.mem_range.mpr (by omega)) (t + 31).toNat (List.mem_range.mpr (by omega))
  have e1 : (((t + 31).toNat : Nat) : Int) - 31 = t := by omega
  have e2 : ((m.toNat : Nat) : Int) = m := by omega
  rw [e1, e2] at key
  have key := key h
  rw [← key]
  congr 1
  refine List.filter_congr fun r _ => ?_
  congr 1
  rw [Bool.eq_iff_iff, decide_eq_true_eq, decide_eq_true_eq]
  omega
end Mk

namespace K05
open PySem PySem.Spec PyProof.Rows L2
def topS (i : Nat) : Stmt := PySem.Challenge.pw_rosenames_k05_steps_of_marks_and_back.main.body.getD i (.Pass ⟨0, 0, 0, 0⟩)
abbrev s_NoStep_init : Stmt := inClass (topS 4) 0
theorem sc_NoStep_init : FnScope ["self", "thing"] ["self", "thing"] (defScope s_NoStep_init) := ⟨rfl, rfl, rfl, by decide +kernel, rfl, by decide +kernel, by decide +kernel⟩
abbrev s_is_whole : Stmt := topS 17
theorem sc_is_whole : FnScope ["thing"] ["thing"] (defScope s_is_whole) := ⟨rfl, rfl, rfl, by decide +kernel, rfl, by decide +kernel, by decide +kernel⟩
abbrev s_step_of : Stmt := topS 22
theorem sc_step_of : FnScope ["marks", "top", "bottom", "mark"] ["marks"] (defScope s_step_of) := ⟨rfl, rfl, rfl, by decide +kernel, rfl, by decide +kernel, by decide +kernel⟩
abbrev s_marks_by : Stmt := topS 23
theorem sc_marks_by : FnScope ["top", "many", "marks", "left", "part"] ["top", "many"] (defScope s_marks_by) := ⟨rfl, rfl, rfl, by decide +kernel, rfl, by decide +kernel, by decide +kernel⟩
abbrev s_makes_marks : Stmt := topS 24
theorem sc_makes_marks : FnScope ["top", "many"] ["top", "many"] (defScope s_makes_marks) := ⟨rfl, rfl, rfl, by decide +kernel, rfl, by decide +kernel, by decide +kernel⟩
abbrev s_l_cell : Stmt := topS 26
theorem sc_l_cell : FnScope ["_law_script", "_law_k", "_law_state", "_law_cell_here"] ["_law_script", "_law_k"] (defScope s_l_cell) := ⟨rfl, rfl, rfl, by decide +kernel, rfl, by decide +kernel, by decide +kernel⟩
abbrev s_l_pool : Stmt := topS 27
theorem sc_l_pool : FnScope ["_law_cell_here", "_law_digits"] ["_law_cell_here"] (defScope s_l_pool) := ⟨rfl, rfl, rfl, by decide +kernel, rfl, by decide +kernel, by decide +kernel⟩
abbrev s_l_take : Stmt := topS 28
theorem sc_l_take : FnScope ["_law_pool_here", "_law_many", "_law_state", "_law_digit"] ["_law_pool_here", "_law_many"] (defScope s_l_take) := ⟨rfl, rfl, rfl, by decide +kernel, rfl, by decide +kernel, by decide +kernel⟩
abbrev s_l_low : Stmt := topS 29
theorem sc_l_low : FnScope ["_law_top", "_law_bottom", "_law_a", "_law_b"] ["_law_top", "_law_bottom"] (defScope s_l_low) := ⟨rfl, rfl, rfl, by decide +kernel, rfl, by decide +kernel, by decide +kernel⟩
abbrev s_l_number : Stmt := topS 30
theorem sc_l_number : FnScope ["_law_pool_here", "_law_way", "_law_found", "_law_turn"] ["_law_pool_here"] (defScope s_l_number) := ⟨rfl, rfl, rfl, by decide +kernel, rfl, by decide +kernel, by decide +kernel⟩
abbrev s_l_kind : Stmt := topS 31
theorem sc_l_kind : FnScope ["_law_e", "_law_kinds", "_law_low_here"] ["_law_e"] (defScope s_l_kind) := ⟨rfl, rfl, rfl, by decide +kernel, rfl, by decide +kernel, by decide +kernel⟩
abbrev s_l_same : Stmt := topS 32
theorem sc_l_same : FnScope ["_law_one", "_law_other", "_law_a", "_law_b"] ["_law_one", "_law_other"] (defScope s_l_same) := ⟨rfl, rfl, rfl, by decide +kernel, rfl, by decide +kernel, by decide +kernel⟩
abbrev s_l_rows : Stmt := topS 33
theorem sc_l_rows : FnScope ["_law_found", "_law_last", "_law_turn", "_law_longer", "_law_marks", "_law_top", "_law_bottom"] [] (defScope s_l_rows) := ⟨rfl, rfl, rfl, by decide +kernel, rfl, by decide +kernel, by decide +kernel⟩
abbrev s_l_refused : Stmt := topS 34
theorem sc_l_refused : FnScope ["_law_top", "_law_many", "_law_caught", "_law_e"] ["_law_top", "_law_many"] (defScope s_l_refused) := ⟨rfl, rfl, rfl, by decide +kernel, rfl, by decide +kernel, by decide +kernel⟩
abbrev s_l_is_good : Stmt := topS 35
theorem sc_l_is_good : FnScope ["_law_top", "_law_many"] ["_law_top", "_law_many"] (defScope s_l_is_good) := ⟨rfl, rfl, rfl, by decide +kernel, rfl, by decide +kernel, by decide +kernel⟩
abbrev s_l_right : Stmt := topS 36
theorem sc_l_right : FnScope ["_law_rows_here", "_law_top", "_law_many", "_law_due", "_law_marks", "_law_one", "_law_bottom"] ["_law_rows_here", "_law_top", "_law_many"] (defScope s_l_right) := ⟨rfl, rfl, rfl, by decide +kernel, rfl, by decide +kernel, by decide +kernel⟩
abbrev s_law : Stmt := topS 37
theorem sc_law : FnScope ["_law_script", "_law_rows_here", "_law_marks", "_law_top", "_law_bottom", "_law_odd", "_law_k", "_law_pool_here", "_law_many", "_law_thing"] ["_law_script"] (defScope s_law) := ⟨rfl, rfl, rfl, by decide +kernel, rfl, by decide +kernel, by decide +kernel⟩
def d_NoStep_init : He.DefD := ⟨("NoStep", some "__init__"), "__init__", "NoStep.__init__", defArgs s_NoStep_init, defBody s_NoStep_init, defScope s_NoStep_init, [], []⟩
def d_is_whole : He.DefD := ⟨("is_whole", none), "is_whole", "is_whole", defArgs s_is_whole, defBody s_is_whole, defScope s_is_whole, [], []⟩
def d_step_of : He.DefD := ⟨("step_of", none), "step_of", "step_of", defArgs s_step_of, defBody s_step_of, defScope s_step_of, [], []⟩
def d_marks_by : He.DefD := ⟨("marks_by", none), "marks_by", "marks_by", defArgs s_marks_by, defBody s_marks_by, defScope s_marks_by, [], []⟩
def d_makes_marks : He.DefD := ⟨("makes_marks", none), "makes_marks", "makes_marks", defArgs s_makes_marks, defBody s_makes_marks, defScope s_makes_marks, [], []⟩
def d_l_cell : He.DefD := ⟨("_law_cell", none), "_law_cell", "_law_cell", defArgs s_l_cell, defBody s_l_cell, defScope s_l_cell, [], []⟩
def d_l_pool : He.DefD := ⟨("_law_pool", none), "_law_pool", "_law_pool", defArgs s_l_pool, defBody s_l_pool, defScope s_l_pool, [], []⟩
def d_l_take : He.DefD := ⟨("_law_take", none), "_law_take", "_law_take", defArgs s_l_take, defBody s_l_take, defScope s_l_take, [], []⟩
def d_l_low : He.DefD := ⟨("_law_low", none), "_law_low", "_law_low", defArgs s_l_low, defBody s_l_low, defScope s_l_low, [], []⟩
def d_l_number : He.DefD := ⟨("_law_number", none), "_law_number", "_law_number", defArgs s_l_number, defBody s_l_number, defScope s_l_number, [], []⟩
def d_l_kind : He.DefD := ⟨("_law_kind", none), "_law_kind", "_law_kind", defArgs s_l_kind, defBody s_l_kind, defScope s_l_kind, [], []⟩
def d_l_same : He.DefD := ⟨("_law_same", none), "_law_same", "_law_same", defArgs s_l_same, defBody s_l_same, defScope s_l_same, [], []⟩
def d_l_rows : He.DefD := ⟨("_law_rows", none), "_law_rows", "_law_rows", defArgs s_l_rows, defBody s_l_rows, defScope s_l_rows, [], []⟩
def d_l_refused : He.DefD := ⟨("_law_refused", none), "_law_refused", "_law_refused", defArgs s_l_refused, defBody s_l_refused, defScope s_l_refused, [], []⟩
def d_l_is_good : He.DefD := ⟨("_law_is_good", none), "_law_is_good", "_law_is_good", defArgs s_l_is_good, defBody s_l_is_good, defScope s_l_is_good, [], []⟩
def d_l_right : He.DefD := ⟨("_law_right", none), "_law_right", "_law_right", defArgs s_l_right, defBody s_l_right, defScope s_l_right, [], []⟩
def d_law : He.DefD := ⟨("law", none), "law", "law", defArgs s_law, defBody s_law, defScope s_law, [], []⟩
def fn : List He.DefD := [d_NoStep_init, d_is_whole, d_step_of, d_marks_by, d_makes_marks, d_l_cell, d_l_pool, d_l_take, d_l_low, d_l_number, d_l_kind, d_l_same, d_l_rows, d_l_refused, d_l_is_good, d_l_right, d_law]
def fa0 : List He.Fa := [.glo "is_whole", .glo "step_of", .glo "marks_by", .glo "makes_marks", .glo "_law_cell", .glo "_law_pool", .glo "_law_take", .glo "_law_low", .glo "_law_number", .glo "_law_kind", .glo "_law_same", .glo "_law_rows", .glo "_law_refused", .glo "_law_is_good", .glo "_law_right", .glo "law", .free "isinstance", .free "int", .free "bool", .free "abs", .free "len", .free "divmod", .free "range", .free "max", .free "min", .free "tuple", .free "list", .free "zip", .free "all", .free "ValueError"]
def fa1 : List He.Fa := [.glo "RoseError", .glo "NoStep", .noat "NoStep" "thing", .meth "NoStep" "__init__", .exm "NoStep" "RoseError" true, .str "ON" ">", .str "BACK" "<", .int "MOST_MARKS" 5, .glo "NoTurn", .glo "NoName", .glo "NoRose", .glo "NoText", .glo "NoWind", .glo "NoPair", .glo "NoRoom", .glo "NoWalk", .glo "NoRow", .glo "LostError", .glo "NoDeed", .glo "NoSuch", .glo "NoWord"]
def fa : List He.Fa := fa0 ++ fa1
def kits : List (Str × Bool) := [("NoTurn", false), ("NoName", false), ("NoRose", false), ("NoText", false), ("NoWind", false), ("NoPair", false), ("NoRoom", false), ("NoWalk", false), ("NoRow", false), ("LostError", false), ("NoDeed", false), ("NoSuch", false), ("NoWord", false), ("NoStep", true), ("RoseError", true)]
def ex (K : PySem.W.Frag) : Bool := xkB K "NoStep" && (oexB K "NoStep" && (baseB K "RoseError" && (kitsB K "NoStep" kits && decide (PySem.W.kitOne K (.ref (He.ga K "NoStep")) (.type "ValueError") = some true))))
def ns0 : List PySem.Str := ["RoseError", "NoTurn", "NoName", "NoStep", "NoRose", "NoText", "NoWind", "NoPair", "NoRoom", "NoWalk", "NoRow", "LostError", "NoWord", "NoDeed", "NoSuch", "is_whole", "ON", "BACK", "MOST_MARKS", "step_of", "marks_by", "makes_marks", "_law_cell", "_law_pool", "_law_take", "_law_low", "_law_number", "_law_kind", "_law_same", "_law_rows"]
def ns1 : List PySem.Str := ["_law_refused", "_law_is_good", "_law_right"]
def names : List PySem.Str := ns0 ++ ns1
abbrev R : PySem.W.OpenRow := PySem.W.OpenLaw.row PySem.Challenge.rw_rosenames_k05_steps_of_marks_and_back
def hk : PySem.W.Hook := hookM 5 fa fn ex
def ob (s : PySem.W.SharedT) : He.AlD × Bool := (He.obsD fa fn (He.frG (HandSHeadRun.getT s) (asN (HandSHeadRun.getT s) 5)), ex (He.frG (HandSHeadRun.getT s) (asN (HandSHeadRun.getT s) 5)))
theorem ob_eq (s : PySem.W.SharedT) : ob s = hk.obs s.abs := by
  have e : HandSHeadRun.getT s = s.abs.heap.get? := funext fun a => HandSHeadRun.getT_eq s a
  unfold ob
  rw [e]
  rfl
theorem run (w : World) : HandSHeadRun.RunEq R (PySem.W.view R.prog [37]) hk ob 6000 names w := by
  intro os
  kernel_rfl
end K05
namespace K05
open PySem PySem.Spec PyProof.Rows L2 Evl
structure Txt (K : PySem.W.Frag) (mg : Str → Option Value) : Prop where
  g_RoseError : mg "RoseError" = some (.ref (He.ga K "RoseError"))
  g_NoStep : mg "NoStep" = some (.ref (He.ga K "NoStep"))
  g_NoName : mg "NoName" = some (.ref (He.ga K "NoName"))
  g_NoPair : mg "NoPair" = some (.ref (He.ga K "NoPair"))
  g_NoRoom : mg "NoRoom" = some (.ref (He.ga K "NoRoom"))
  g_NoRose : mg "NoRose" = some (.ref (He.ga K "NoRose"))
  g_NoRow : mg "NoRow" = some (.ref (He.ga K "NoRow"))
  g_NoText : mg "NoText" = some (.ref (He.ga K "NoText"))
  g_NoTurn : mg "NoTurn" = some (.ref (He.ga K "NoTurn"))
  g_NoWalk : mg "NoWalk" = some (.ref (He.ga K "NoWalk"))
  g_NoWind : mg "NoWind" = some (.ref (He.ga K "NoWind"))
  g_LostError : mg "LostError" = some (.ref (He.ga K "LostError"))
  g_NoDeed : mg "NoDeed" = some (.ref (He.ga K "NoDeed"))
  g_NoSuch : mg "NoSuch" = some (.ref (He.ga K "NoSuch"))
  g_NoWord : mg "NoWord" = some (.ref (He.ga K "NoWord"))
  g_ON : ∃ t, mg "ON" = some (.str ">" t)
  g_BACK : ∃ t, mg "BACK" = some (.str "<" t)
  g_MOST_MARKS : ∃ t, mg "MOST_MARKS" = some (.int 5 t)
  base : BaseC K (He.ga K "RoseError")
  oex : OexC K (He.ga K "NoStep")
  xk : XkC K (He.ga K "NoStep")
  noat : NoAttr K (He.ga K "NoStep") "thing"
  mi : Meth K (He.ga K "NoStep") "__init__" (He.ma K (He.ga K "NoStep") "__init__")
  kit : kitsB K "NoStep" kits = true
  kv : PySem.W.kitOne K (.ref (He.ga K "NoStep")) (.type "ValueError") = some true
  exm : PySem.W.exmOne K (.ref (He.ga K "NoStep")) (.ref (He.ga K "RoseError")) = some true
  b_isinstance : mg "isinstance" = none
  b_int : mg "int" = none
  b_bool : mg "bool" = none
  b_abs : mg "abs" = none
  b_len : mg "len" = none
  b_divmod : mg "divmod" = none
  b_range : mg "range" = none
  b_max : mg "max" = none
  b_min : mg "min" = none
  b_tuple : mg "tuple" = none
  b_list : mg "list" = none
  b_zip : mg "zip" = none
  b_all : mg "all" = none
  b_ValueError : mg "ValueError" = none
abbrev FnP (K : PySem.W.Frag) (x : Str) (st : Stmt) (f : Addr) (fd : FuncData) : Prop := FunD K x x (defArgs st) (defBody st) (defScope st) [] [] f fd
abbrev FnM (K : PySem.W.Frag) (x qual : Str) (st : Stmt) (f : Addr) (fd : FuncData) : Prop := FunD K x qual (defArgs st) (defBody st) (defScope st) [] [] f fd
/-! ### whole numbers, and things that are none -/
def Wh (K : PySem.W.Frag) (H : Hp) (x : V) (b : Bool) : Prop := ∃ (t : Value) (bi bb : Bool), (∀ H1, Ex H H1 → TyX K H1 x t) ∧ PySem.W.kitOne K t (.type "int") = some bi ∧ PySem.W.kitOne K t (.type "bool") = some bb ∧ b = (bi && !bb)
theorem Wh.ex {K : PySem.W.Frag} {H H' : Hp} {x : V} {b : Bool} (h : Wh K H x b) (e : Ex H H') : Wh K H' x b := by
  obtain ⟨t, bi, bb, h1, h2⟩ := h
  exact ⟨t, bi, bb, fun H1 e1 => h1 H1 (e.trans e1), h2⟩
theorem wh_int {K : PySem.W.Frag} {H : Hp} {i : Int} : Wh K H (.int i) true := ⟨.type "int", true, false, fun _ _ => .base (.int i), kit_ty (by decide +kernel), kit_ty (by decide +kernel), rfl⟩
inductive Ar (K : PySem.W.Frag) (H : Hp) : V → Option Int → Prop
  | int (i : Int) : Ar K H (.int i) (some i)
  | odd (x : V) (h : Wh K H x false) : Ar K H x none
theorem Ar.ex {K : PySem.W.Frag} {H H' : Hp} {x : V} {a : Option Int} (h : Ar K H x a) (e : Ex H H') : Ar K H' x a := by
  cases h with
  | int i => exact .int i
  | odd x h => exact .odd x (h.ex e)
theorem Ar.wh {K : PySem.W.Frag} {H : Hp} {x : V} {a : Option Int} (h : Ar K H x a) : Wh K H x a.isSome := by
  cases h with
  | int i => exact wh_int
  | odd x h => exact h
def good2 : Option Int → Option Int → Bool
  | some t, some m => Mk.good t m
  | _, _ => false
def ofL (l : List Nat) : Str := ⟨l.toArray⟩
/-! ### the promises of the program -/
def sp_whole (K : PySem.W.Frag) : Sp := fun vs H Q _ => ∃ (x : V) (b : Bool), vs = [x] ∧ Wh K H x b ∧ ∀ H2, Ex H H2 → Q (.bl b) H2
def sp_makes (K : PySem.W.Frag) : Sp := fun vs H Q _ => ∃ (x y : V) (a b : Option Int), vs = [x, y] ∧ Ar K H x a ∧ Ar K H y b ∧ ∀ H2, Ex H H2 → Q (.bl (good2 a b)) H2
def sp_step : Sp := fun vs H Q _ => ∃ l : List Nat, vs = [.str (ofL l)] ∧ l.length ≤ 5 ∧ ∀ p H2, H p = none → Ex H H2 → H2 p = some (.tup [.int (Mk.step l).1, .int (Mk.step l).2]) → Q (.ref p) H2
def sp_marks (K : PySem.W.Frag) : Sp := fun vs H Q E => ∃ (x y : V) (a b : Option Int), vs = [x, y] ∧ Ar K H x a ∧ Ar K H y b ∧
  (good2 a b = false → ∀ H1 tp d, Ex H H1 → H1 tp = some (.tup [x, y]) → H1 d = none → E (.ref (He.ga K "NoStep")) (some d) (upd H1 d (.xd [("thing", .ref tp)]))) ∧
  ∀ t m, a = some t → b = some m → Mk.good t m = true → ∀ H2, Ex H H2 → Q (.str (ofL (Mk.mk m.toNat t))) H2
section
variable {P : Program} {w : World} {K : PySem.W.Frag} {mg : Str → Option Value} {base : Heap} {f : Addr} {fd : FuncData}
theorem ok_init (F : FnM K "__init__" "NoStep.__init__" s_NoStep_init f fd) (T : Txt K mg) : FnOk P w K mg base CX0 1 f fd ["self", "thing"] (sp_exi (He.ga K "NoStep") "thing") := by
  refine F.ok sc_NoStep_init (fun vs H Q E h => ?_) (fun cdv A outer s H vs Q E hr h => ?_)
  · obtain ⟨a, v, rfl, _⟩ := h
    rfl
  · obtain ⟨a, v, rfl, ha, k⟩ := h
    refine ⟨_, PSs.nox (pss_cons (ps_expr (pe_baseinit (by rfl) T.g_RoseError T.base (pa_cons (pv 0) (pa_cons pe_str pa_nil))))
      (pss_one (ps_ost (pv 0) (pv 1)))), ?_⟩
    refine q_dropX (show tVeI K _ _ _ _ from x_cons (x_var rfl (x_cons (x_c (x_nil ⟨a, He.ga K "NoStep", _, rfl, by show 1 ≤ 1000; decide, T.oex, ha, ?_⟩)))))
    exact ⟨_, rfl, _, rfl, a, He.ga K "NoStep", rfl, T.oex, T.noat, .inl ⟨ha, k⟩⟩
theorem ok_whole (F : FnP K "is_whole" s_is_whole f fd) (T : Txt K mg) : FnOk P w K mg base CX0 1 f fd ["thing"] (sp_whole K) := by
  refine F.ok sc_is_whole (fun vs H Q E h => ?_) (fun cdv A outer s H vs Q E hr h => ?_)
  · obtain ⟨x, b, rfl, _⟩ := h
    rfl
  · obtain ⟨x, b, rfl, ⟨t, bi, bb, hx, h1, h2, rfl⟩, k⟩ := h
    refine ⟨_, PSs.nox (pss_one (ps_ret (pe_and (pe_callB call_isi (by rfl) T.b_isinstance (by decide +kernel) (pa_cons (pv 0) (pa_cons (pe_bltn (v := .ty "int") (by rfl) T.b_int (by decide +kernel) rfl) pa_nil))) (pe_one (pe_not (pe_callB call_isi (by rfl) T.b_isinstance (by decide +kernel) (pa_cons (pv 0) (pa_cons (pe_bltn (v := .ty "bool") (by rfl) T.b_bool (by decide +kernel) rfl) pa_nil)))))))), ?_⟩
    exact s_ret (ev_andV (ev_cb (ea_cons (ev_var rfl) (ea_cons ev_c ea_nil)) (rc_isi (.ty "int") hx h1)) fun _ => ev_notV (ev_cb (ea_cons (ev_var rfl) (ea_cons ev_c ea_nil)) (rc_isi (.ty "bool") hx h2))) k
abbrev Cw (P : Program) (w : World) (K : PySem.W.Frag) (mg : Str → Option Value) (base : Heap) : Prop := Dn P w K mg base 1 "is_whole" ["thing"] (sp_whole K)
theorem ev_whole {σ : L2.St} {H : Hp} {tx : TE} {x : V} {b : Bool} (hx : Ev tx σ H x) (h : Wh K H x b) : Ev (tCall (sp_whole K) [] E0 (tCons tx tNil)) σ H (.bl b) := ev_call (ea_cons hx ea_nil) fun H1 e Q' q E' => ⟨x, b, rfl, h.ex e, q⟩
theorem ok_makes (F : FnP K "makes_marks" s_makes_marks f fd) (T : Txt K mg) (D_is_whole : Cw P w K mg base) : FnOk P w K mg base CX0 2 f fd ["top", "many"] (sp_makes K) := by
  refine F.ok sc_makes_marks (fun vs H Q E h => ?_) (fun cdv A outer s H vs Q E hr h => ?_)
  · obtain ⟨x, y, a, b, rfl, _⟩ := h
    rfl
  · obtain ⟨x, y, a, b, rfl, hx, hy, k⟩ := h
    refine ⟨_, PSs.nox (pss_cons (ps_if (PW.pt (pw_or (pt_not (pt_val (pe_cd D_is_whole (hr.mono (by decide)) (by rfl) (pa_cons (pv 0) pa_nil)))) (pw_or1 (pt_not (pt_val (pe_cd D_is_whole (hr.mono (by decide)) (by rfl) (pa_cons (pv 1) pa_nil))))))) (pss_one (ps_ret pe_bl)) pss_nil)
      (pss_cons (ps_if (PW.pt (pw_or (pt_cmpR op_lt (pv 1) pe_int (nomark _)) (pw_or1 (pt_cmpR op_gt (pv 1) (pe_gi (by rfl) T.g_MOST_MARKS) (nomark _))))) (pss_one (ps_ret pe_bl)) pss_nil)
      (pss_cons (ps_if (pt_cmpR op_eq (pv 1) pe_int (nomark _)) (pss_one (ps_ret (pe_cmpR op_eq (pv 0) pe_int (nomark _)))) pss_nil)
      (pss_one (ps_ret (pe_and (pe_cmpR op_eq (pe_op op_mod (pv 0) pe_int) pe_int (nomark _)) (pe_one (pe_cmpR op_lt (pe_callB call_abs (by rfl) T.b_abs (by decide +kernel) (pa_cons (pv 0) pa_nil)) (pe_op op_shl pe_int (pv 1)) (nomark _))))))))), ?_⟩
    have w0 : ∀ H1, Ex H H1 → Ev (tCall (sp_whole K) [] E0 (tCons (tVar 0) tNil)) [some x, some y] H1 (.bl a.isSome) := fun H1 e => ev_whole (ev_var rfl) (hx.wh.ex e)
    have w1 : ∀ H1, Ex H H1 → Ev (tCall (sp_whole K) [] E0 (tCons (tVar 1) tNil)) [some x, some y] H1 (.bl b.isSome) := fun H1 e => ev_whole (ev_var rfl) (hy.wh.ex e)
    have t0 : EvT (tOr (tNot (tB (tCall (sp_whole K) [] E0 (tCons (tVar 0) tNil)))) (tNot (tB (tCall (sp_whole K) [] E0 (tCons (tVar 1) tNil))))) [some x, some y] H (!a.isSome || !b.isSome) := et_or (et_not (et_B (w0 H (Ex.refl _)))) fun _ => et_not (et_B (w1 H (Ex.refl _)))
    refine q_when t0 (fun hb H1 e1 => ?_) fun hb H1 e1 => ?_
    · refine s_ret ev_c fun H2 e2 => ?_
      have : good2 a b = false := by
        cases a with
        | none => rfl
        | some t =>
          cases b with
          | none => rfl
          | some m => cases hb
      rw [← this]
      exact k H2 (e1.trans e2)
    · cases hx with
      | odd x h => cases hb
      | int t =>
        cases hy with
        | odd y h => cases hb
        | int m =>
          have k1 : ∀ H2, Ex H1 H2 → Q (.bl (Mk.good t m)) H2 := fun H2 e2 => k H2 (e1.trans e2)
          refine q_when (et_or (et_test (ev_lt (ev_var rfl) ev_c)) fun _ => et_test (ev_gt (ev_var rfl) ev_c)) (fun hb H2 e2 => ?_) fun hb H2 e2 => ?_
          · refine s_ret ev_c fun H3 e3 => ?_
            have := k1 H3 (e2.trans e3)
            unfold Mk.good at this
            rw [if_pos hb] at this
            exact this
          · have hbn : ¬ ((decide (m < 0) || decide (5 < m)) = true) := by
              rw [hb]
              decide
            have hm : ¬ m < 0 ∧ ¬ 5 < m := by
              rw [Bool.or_eq_true, decide_eq_true_eq, decide_eq_true_eq, not_or] at hbn
              exact hbn
            refine q_when (et_test (ev_eqI (ev_var rfl) ev_c)) (fun hb3 H3 e3 => ?_) fun hb3 H3 e3 => ?_
            · have m0 : m = 0 := of_decide_eq_true hb3
              refine s_ret (ev_eqI (ev_var rfl) ev_c) fun H4 e4 => ?_
              have := k1 H4 ((e2.trans e3).trans e4)
              unfold Mk.good at this
              rw [if_neg hbn, if_pos m0] at this
              exact this
            · have m0 : m ≠ 0 := of_decide_eq_false hb3
              refine s_ret (ev_andV (ev_eqI (ev_mod (ev_var rfl) ev_c (by decide)) ev_c) fun _ => ev_lt (ev_cb (ea_cons (ev_var rfl) ea_nil) rc_abs) (ev_op ev_c (ev_var rfl) (rv_I (show CPow 1 m from ⟨by omega, by omega, by decide⟩)))) fun H4 e4 => ?_
              have := k1 H4 ((e2.trans e3).trans e4)
              unfold Mk.good at this
              rw [if_neg hbn, if_neg m0] at this
              have ee : decide ((t.natAbs : Int) < 1 * 2 ^ m.toNat) = decide (t.natAbs < 2 ^ m.toNat) := by
                rw [Bool.eq_iff_iff, decide_eq_true_eq, decide_eq_true_eq, Int.one_mul]
                have h3 : ((2 ^ m.toNat : Nat) : Int) = 2 ^ m.toNat := Int.natCast_pow 2 m.toNat
                rw [← h3]
                omega
              rw [ee]
              exact this
end
end K05

namespace K05
open PySem PySem.Spec PyProof.Rows L2 Evl
section
variable {P : Program} {w : World} {K : PySem.W.Frag} {mg : Str → Option Value} {base : Heap} {f : Addr} {fd : FuncData}
theorem ev_eqC {σ : L2.St} {H : Hp} {ta tb : TE} {c d : Nat} (ha : Ev ta σ H (.str ⟨#[c]⟩)) (hb : Ev tb σ H (.str ⟨#[d]⟩)) : Ev (tOp rEq ta tb) σ H (.bl (decide (c = d))) := by
  have h := ev_op ha hb (rv_eq (x := .str ⟨#[c]⟩) (y := .str ⟨#[d]⟩) rfl)
  have e : decide ((V.str ⟨#[c]⟩) = V.str ⟨#[d]⟩) = decide (c = d) := by
    rw [Bool.eq_iff_iff]
    simp
  rw [e] at h
  exact h
theorem gt_sign : (Str.ofString ">") = ⟨#[62]⟩ := by decide +kernel
theorem lt_sign : (Str.ofString "<") = ⟨#[60]⟩ := by decide +kernel
theorem ok_step (F : FnP K "step_of" s_step_of f fd) (T : Txt K mg) : FnOk P w K mg base CX0 1 f fd ["marks"] sp_step := by
  refine F.ok sc_step_of (fun vs H Q E h => ?_) (fun cdv A outer s H vs Q E hr h => ?_)
  · obtain ⟨l, rfl, _⟩ := h
    rfl
  · obtain ⟨l, rfl, hl, k⟩ := h
    refine ⟨_, PSs.nox (pss_cons (ps_asg (pe_tup (pa_cons pe_int (pa_cons pe_int pa_nil))) (pg_tup rfl (pgs_cons (pg_name (i := 1) sc_step_of.nd rfl (Or.inl rfl)) (pgs_cons (pg_name (i := 2) sc_step_of.nd rfl (Or.inl rfl)) pgs_nil))))
      (pss_cons (ps_for PassesOwn.never rfl (pi_str (pv 0)) (pg_name (i := 3) sc_step_of.nd rfl (Or.inl rfl)) (pss_cons (ps_set (i := 1) sc_step_of.nd rfl (Or.inl rfl) (pe_op op_add (pe_op op_mul pe_int (pv 1)) (pe_ifExp (pt_cmpR op_eq (pv 3) (pe_gs (by rfl) T.g_ON) (nomark _)) pe_int (pe_un un_neg pe_int))))
        (pss_one (ps_set (i := 2) sc_step_of.nd rfl (Or.inl rfl) (pe_op op_mul pe_int (pv 2))))))
      (pss_one (ps_ret (pe_tup (pa_cons (pv 1) (pa_cons (pv 2) pa_nil))))))), ?_⟩
    refine q_two (ea_cons ev_c (ea_cons ev_c ea_nil)) fun H1 e1 => ?_
    refine q_forS (z := ofL l) (ev_var rfl) (fun i σ' H' => Ex H H' ∧ ∃ v3, σ' = [some (.str (ofL l)), some (.int (Mk.step (l.take i)).1), some (.int (Mk.step (l.take i)).2), v3]) (fun H2 e2 => ⟨e1.trans e2, none, rfl⟩) ?_ ?_
    · rintro i c σ' H' hc ⟨e, v3, rfl⟩
      have hc2 : l[i]? = some c := by
        rw [← hc]
        simp [ofL]
      have tk : l.take (i + 1) = l.take i ++ [c] := by
        rw [List.take_succ, hc2]
        rfl
      have st : Mk.step (l.take (i + 1)) = (2 * (Mk.step (l.take i)).1 + (if c = 62 then 1 else -1), 2 * (Mk.step (l.take i)).2) := by
        rw [tk]
        unfold Mk.step
        rw [List.foldl_append]
        rfl
      rw [st]
      have g : ∀ {σ0 : L2.St} {H0 : Hp}, Ev (tC (.str (Str.ofString ">"))) σ0 H0 (.str ⟨#[62]⟩) := by
        intro σ0 H0
        rw [gt_sign]
        exact ev_c
      refine q_asg (ev_add (ev_mul ev_c (ev_var rfl) (.inl ⟨by decide, by decide⟩)) (ev_if (v := .int (if c = 62 then 1 else -1)) (et_test (ev_eqC (ev_var rfl) g)) (fun hb => ?_) fun hb => ?_)) fun H2 e2 => ?_
      · rw [if_pos (of_decide_eq_true hb)]
        exact ev_c
      · rw [if_neg (of_decide_eq_false hb)]
        exact ev_neg ev_c
      · exact s_asg (ev_mul ev_c (ev_var rfl) (.inl ⟨by decide, by decide⟩)) fun H3 e3 => ⟨(e.trans e2).trans e3, _, rfl⟩
    · rintro σ' H' ⟨e, v3, rfl⟩
      have z : (ofL l).cps.size = l.length := by simp [ofL]
      rw [z, List.take_length]
      exact s_retU (eu_tup (ea_cons (ev_var rfl) (ea_cons (ev_var rfl) ea_nil)) (by show 2 ≤ 100000; decide)) fun p H3 hp e3 h3 => k p H3 (fresh_back e hp) (e.trans e3) h3
abbrev Cm (P : Program) (w : World) (K : PySem.W.Frag) (mg : Str → Option Value) (base : Heap) : Prop := Dn P w K mg base 2 "makes_marks" ["top", "many"] (sp_makes K)
theorem ok_marks {fdI : FuncData} (F : FnP K "marks_by" s_marks_by f fd) (T : Txt K mg) (D_makes_marks : Cm P w K mg base) (G_init : FnOk P w K mg base CX0 1 (He.ma K (He.ga K "NoStep") "__init__") fdI ["self", "thing"] (sp_exi (He.ga K "NoStep") "thing")) (b_init : Binds K fdI ["self", "thing"] []) :
    FnOk P w K mg base (L2.CX P w) 4 f fd ["top", "many"] (sp_marks K) := by
  refine F.ok sc_marks_by (fun vs H Q E h => ?_) (fun cdv A outer s H vs Q E hr h => ?_)
  · obtain ⟨x, y, a, b, rfl, _⟩ := h
    rfl
  · obtain ⟨x, y, a, b, rfl, hx, hy, hE, hQ⟩ := h
    refine ⟨_, (pss_cons (ps_if (pt_not (pt_val (pe_cd D_makes_marks (hr.mono (by decide)) (by rfl) (pa_cons (pv 0) (pa_cons (pv 1) pa_nil))))) (pss_one (ps_raise rfl (takes_of rfl rfl rfl rfl) (pmk_oex T.oex T.mi.at_ (beq_iff_eq.mp T.mi.fn) G_init (hr.mono (by decide)) b_init .nil pass0 (by rfl) T.g_NoStep (pa_cons (pe_tup (pa_cons (pv 0) (pa_cons (pv 1) pa_nil))) pa_nil)))) pss_nil)
      (pss_cons (ps_set (i := 2) sc_marks_by.nd rfl (Or.inl rfl) (pe_lst pa_nil))
      (pss_cons (ps_set (i := 3) sc_marks_by.nd rfl (Or.inl rfl) (pv 0))
      (pss_cons (ps_set (i := 4) sc_marks_by.nd rfl (Or.inl rfl) (pe_op op_shl pe_int (pv 1)))
      (pss_cons (ps_while (passes_of rfl) (pt_cmpR op_gt (pv 4) pe_int (nomark _)) (pss_cons (ps_aug (i := 4) sc_marks_by.nd rfl (Or.inl rfl) pe_int iop_fdiv)
        (pss_one (ps_if (pt_cmpR op_gt (pv 3) pe_int (nomark _)) (pss_cons (ps_expr (pe_bm PySem.F.plainAttrs_list PySem.F.slot_list_append PySem.F.type_list_append mt_append (pv 2) (pa_cons (pe_gs (by rfl) T.g_ON) pa_nil)))
          (pss_one (ps_aug (i := 3) sc_marks_by.nd rfl (Or.inl rfl) (pv 4) ip_sub))) (pss_cons (ps_expr (pe_bm PySem.F.plainAttrs_list PySem.F.slot_list_append PySem.F.type_list_append mt_append (pv 2) (pa_cons (pe_gs (by rfl) T.g_BACK) pa_nil)))
          (pss_one (ps_aug (i := 3) sc_marks_by.nd rfl (Or.inl rfl) (pv 4) ip_add)))))))
      (pss_one (ps_ret (pe_join pe_str (pv 2))))))))), ?_⟩
    have mkv : Ev (tCall (sp_makes K) [] E0 (tCons (tVar 0) (tCons (tVar 1) tNil))) [some x, some y, none, none, none] H (.bl (good2 a b)) := ev_call (ea_cons (ev_var rfl) (ea_cons (ev_var rfl) ea_nil)) fun H1 e Q' q E' => ⟨x, y, a, b, rfl, hx.ex e, hy.ex e, q⟩
    refine q_when (et_not (et_B mkv)) (fun hb H1 e1 => ?_) fun hb H1 e1 => ?_
    · have g0 : good2 a b = false := by simpa using hb
      refine (show tMkO _ _ _ (tCons _ tNil) _ _ _ from Evl.EvU.go (eu_tup (ea_cons (ev_var rfl) (ea_cons (ev_var rfl) ea_nil)) (by show 2 ≤ 100000; decide)) fun tp H2 htp e2 h2 => (mk_exi (σ := []) (ta := fun _ H R => R [.ref tp] H) (fun H3 _ Q' q' => q' H3 (Ex.refl _)) fun H3 d e3 hd => ?_))
      exact hE g0 H3 tp d ((e1.trans e2).trans e3) (e3 _ _ h2) hd
    · have g0 : good2 a b = true := by simpa using hb
      obtain ⟨t, m, rfl, rfl, gd⟩ : ∃ t m, a = some t ∧ b = some m ∧ Mk.good t m = true := by
        cases a with
        | none => cases g0
        | some t =>
          cases b with
          | none => cases g0
          | some m => exact ⟨t, m, rfl, rfl, g0⟩
      cases hx
      cases hy
      obtain ⟨m0, m5, _, _⟩ := Mk.good_bound gd
      obtain ⟨n, rfl⟩ := Int.eq_ofNat_of_zero_le m0
      have hQ1 := hQ t n rfl rfl gd
      rw [Int.toNat_natCast] at hQ1
      refine q_set (Evl.EvL.go (el_lst ea_nil (by show 0 ≤ 100000; decide)) fun ml H2 hml e2 h2 => ?_)
      refine q_asg (ev_var rfl) fun H3 e3 => ?_
      refine q_asg (ev_op ev_c (ev_var rfl) (rv_I (show CPow 1 (n : Int) from ⟨by omega, by omega, by decide⟩))) fun H4 e4 => ?_
      have nml : H ml = none := fresh_back e1 hml
      have e04 : Ex H H4 := ((e1.trans e2).trans e3).trans e4
      have h4 : H4 ml = some (.lst []) := (e3.trans e4) _ _ h2
      have pw : ∀ j : Nat, ((2 : Int) ^ j) = ((2 ^ j : Nat) : Int) := fun j => (Int.natCast_pow 2 j).symm
      have pp : ∀ j : Nat, 0 < 2 ^ j := fun j => Nat.pow_pos (by decide)
      refine q_while (fun j σ' H' => But ml H H' ∧ ∃ (l : Int) (ms : List Nat), σ' = [some (.int t), some (.int (n : Int)), some (.ref ml), some (.int l), some (.int (2 ^ j))] ∧ H' ml = some (.lst ((ms.map fun c => (⟨#[c]⟩ : Str)).map V.str)) ∧ Mk.mk n t = ms ++ Mk.mk j l ∧ ms.length + j ≤ 5) n ⟨But.ex e04, t, [], ?_, h4, rfl, by simp; omega⟩ ?_
      · rw [show (1 : Int) * 2 ^ ((n : Int)).toNat = 2 ^ n by rw [Int.toNat_natCast, Int.one_mul]]
        rfl
      · rintro j σ' H' ⟨bt, l, ms, rfl, hm, hmk, hlen⟩
        refine ⟨_, et_test (ev_gt (ev_var rfl) ev_c), fun hb H5 e5 => ?_, fun hb H5 e5 => ?_⟩
        · have h1 : (1 : Int) < 2 ^ j := of_decide_eq_true hb
          obtain ⟨i, rfl⟩ : ∃ i, j = i + 1 := by
            cases j with
            | zero => exact absurd h1 (by decide)
            | succ i => exact ⟨i, rfl⟩
          have hd : (2 : Int) ^ (i + 1) / 2 = 2 ^ i := by
            rw [Int.pow_succ]
            exact Int.mul_ediv_cancel _ (by decide)
          refine ⟨fun σ2 H2 => But ml H H2 ∧ ∃ (l : Int) (ms : List Nat), σ2 = [some (.int t), some (.int (n : Int)), some (.ref ml), some (.int l), some (.int (2 ^ i))] ∧ H2 ml = some (.lst ((ms.map fun c => (⟨#[c]⟩ : Str)).map V.str)) ∧ Mk.mk n t = ms ++ Mk.mk i l ∧ ms.length + i ≤ 5, fun σ2 H2 h => ⟨i, by omega, h⟩, ?_⟩
          refine q_augF rfl ev_c ⟨by decide, by decide⟩ fun H5' e5' => ?_
          rw [hd]
          have e5 := e5.trans e5'
          have hm5 := e5 _ _ hm
          have cat : ∀ c, ((ms.map fun c => (⟨#[c]⟩ : Str)).map V.str) ++ [V.str ⟨#[c]⟩] = (((ms ++ [c]).map fun c => (⟨#[c]⟩ : Str)).map V.str) := fun c => by
            rw [List.map_append, List.map_append]
            rfl
          have ln : ((ms.map fun c => (⟨#[c]⟩ : Str)).map V.str).length < 100000 := by
            rw [List.length_map, List.length_map]
            omega
          refine s_if (et_test (ev_gt (ev_var rfl) ev_c)) (fun hb H6 e6 => ?_) fun hb H6 e6 => ?_
          · have hl : 0 < l := of_decide_eq_true hb
            refine q_app (e6 _ _ hm5) (ev_var rfl) ev_c ln fun H7 e7 => ?_
            refine s_aug rfl (ev_var rfl) fun H8 e8 => ⟨(((bt.trans (But.ex ((e5.trans e6).trans e7))).trans But.upd).trans (But.ex e8)), l - 2 ^ i, ms ++ [62], rfl, ?_, ?_, by rw [List.length_append]; simp; omega⟩
            · rw [gt_sign, cat] at e8
              exact e8 _ _ upd_same
            · rw [hmk, List.append_assoc]
              congr 1
              show (if 0 < l then _ else _) = _
              rw [if_pos hl]
              rfl
          · have hl : ¬ 0 < l := of_decide_eq_false hb
            refine q_app (e6 _ _ hm5) (ev_var rfl) ev_c ln fun H7 e7 => ?_
            refine s_aug rfl (ev_var rfl) fun H8 e8 => ⟨(((bt.trans (But.ex ((e5.trans e6).trans e7))).trans But.upd).trans (But.ex e8)), l + 2 ^ i, ms ++ [60], rfl, ?_, ?_, by rw [List.length_append]; simp; omega⟩
            · rw [lt_sign, cat] at e8
              exact e8 _ _ upd_same
            · rw [hmk, List.append_assoc]
              congr 1
              show (if 0 < l then _ else _) = _
              rw [if_neg hl]
              rfl
        · have h1 : ¬ (1 : Int) < 2 ^ j := of_decide_eq_false hb
          have j0 : j = 0 := by
            cases j with
            | zero => rfl
            | succ i =>
              exfalso
              apply h1
              rw [pw, Nat.pow_succ]
              have := pp i
              omega
          subst j0
          have hmk' : Mk.mk n t = ms := by
            rw [hmk]
            exact List.append_nil _
          rw [hmk'] at hQ1
          refine x_ret (show tM1 _ _ _ _ _ _ from x_c ⟨⟨_, rfl⟩, x_var rfl ⟨_, ml, _, rfl, rfl, .inl (sq_of (e5 _ _ hm)), ?_, ?_⟩⟩)
          · rw [jn_sum]
            show ms.length + _ * 0 ≤ _
            omega
          · rw [jn_text]
            exact hQ1 H5 ((bt.trans (But.ex e5)).new nml)
end
end K05

namespace K05
open PySem PySem.Spec PyProof.Rows L2 Evl
/-- the law's pool: three ints -/
def Pool (H : Hp) (p : Addr) : Prop := ∃ a b c : Int, H p = some (.lst [.int a, .int b, .int c]) ∧ 0 ≤ a ∧ a < 2147483549 ∧ 0 ≤ b
def sp_cell (K : PySem.W.Frag) : Sp := fun vs H Q _ => ∃ (l : Addr) (ns : List Int) (k : Nat), vs = [.ref l, .int (k : Int)] ∧ SqL K H l (ns.map V.int) ∧ k < 100 ∧ ∀ (i : Int) H2, Ex H H2 → Q (.int i) H2
def sp_pool : Sp := fun vs H Q _ => ∃ c : Int, vs = [.int c] ∧ ∀ p H2, H p = none → Ex H H2 → Pool H2 p → Q (.ref p) H2
def sp_take : Sp := fun vs H Q _ => ∃ (p : Addr) (m : Int), vs = [.ref p, .int m] ∧ 0 < m ∧ m < 1073741824 ∧ Pool H p ∧ ∀ (d : Int) H2, 0 ≤ d → d < m → But p H H2 → Pool H2 p → Q (.int d) H2
def sp_number : Sp := fun vs H Q _ => ∃ p : Addr, vs = [.ref p] ∧ Pool H p ∧ ∀ (n : Int) H2, n.natAbs < 2 ^ 90 → But p H H2 → Pool H2 p → Q (.int n) H2
abbrev L_take (P : Program) (w : World) (K : PySem.W.Frag) (mg : Str → Option Value) (base : Heap) : Prop := Dn P w K mg base 1 "_law_take" ["_law_pool_here", "_law_many"] sp_take
abbrev L_number (P : Program) (w : World) (K : PySem.W.Frag) (mg : Str → Option Value) (base : Heap) : Prop := Dn P w K mg base 2 "_law_number" ["_law_pool_here"] sp_number
theorem at0 {a b c : V} : atI [a, b, c] 0 = some a := rfl
theorem at1 {a b c : V} : atI [a, b, c] 1 = some b := rfl
theorem at2 {a b c : V} : atI [a, b, c] 2 = some c := rfl
section
variable {K : PySem.W.Frag} {σ : L2.St} {H H' : Hp} {te : TE} {m : Int} {p : Addr} {i : Nat} {Q : VK}
theorem pool_ex (h : Pool H p) (e : Ex H H') : Pool H' p := by
  obtain ⟨a, b, c, hp, q⟩ := h
  exact ⟨a, b, c, e _ _ hp, q⟩
theorem pool_ne {r : Addr} (h : Pool H p) (hr : H r = none) : r ≠ p := by
  obtain ⟨a, b, c, hp, q⟩ := h
  exact (ne_of_none hp hr).symm
theorem take_go {E : XK} {tm : TE} (hσ : σ[i]? = some (some (.ref p))) (hm : Ev tm σ H (.int m)) (hp : Pool H p) (m0 : 0 < m) (m1 : m < 1073741824) (k : ∀ (d : Int) H2, 0 ≤ d → d < m → But p H H2 → Pool H2 p → Q (.int d) H2) : tCall sp_take [] E (tCons (tVar i) (tCons tm tNil)) σ H Q :=
  ⟨.ref p, hσ, hm H (Ex.refl _) _ fun H1 e1 => ⟨p, m, rfl, m0, m1, pool_ex hp e1, fun d H2 h1 h2 b pl => k d H2 h1 h2 ((But.ex e1).trans b) pl⟩⟩
theorem number_go {E : XK} (hσ : σ[i]? = some (some (.ref p))) (hp : Pool H p) (k : ∀ (n : Int) H2, n.natAbs < 2 ^ 90 → But p H H2 → Pool H2 p → Q (.int n) H2) : tCall sp_number [] E (tCons (tVar i) tNil) σ H Q :=
  ⟨.ref p, hσ, p, rfl, hp, k⟩
theorem at_ints {L : List Int} {j : Int} (h0 : 0 ≤ j) (h1 : j < L.length) : ∃ v ∈ L, atI (L.map V.int) j = some (.int v) := by
  obtain ⟨n, rfl⟩ := Int.eq_ofNat_of_zero_le h0
  have hn : n < L.length := by omega
  exact ⟨L[n], List.getElem_mem hn, atI_nat (by rw [List.getElem?_map, List.getElem?_eq_getElem hn]; rfl)⟩
end
section
variable {P : Program} {w : World} {K : PySem.W.Frag} {mg : Str → Option Value} {base : Heap} {f : Addr} {fd : FuncData}
theorem ok_cell (F : FnP K "_law_cell" s_l_cell f fd) (T : Txt K mg) : FnOk P w K mg base CX0 1 f fd ["_law_script", "_law_k"] (sp_cell K) := by
  refine F.ok sc_l_cell (fun vs H Q E h => ?_) (fun cdv A outer s H vs Q E hr h => ?_)
  · obtain ⟨l, ns, k, rfl, _⟩ := h
    rfl
  · obtain ⟨l, ns, k, rfl, hs, hk, q⟩ := h
    refine ⟨_, PSs.nox (pss_cons (ps_if (pt_cmpR op_lt (pv 1) (pe_callB call_len_seq (by rfl) T.b_len (by decide +kernel) (pa_cons (pv 0) pa_nil)) (nomark _)) (pss_one (ps_ret (pe_ix ix_list (pv 0) (pv 1) (fun _ _ => rfl)))) pss_nil)
      (pss_cons (ps_set (i := 2) sc_l_cell.nd rfl (Or.inl rfl) (pe_op op_mod (pe_op op_mulW pe_int (pe_op op_add (pe_op op_add (pe_op op_mulW (pv 1) (pv 1)) (pe_op op_mulW pe_int (pv 1))) pe_int)) pe_int))
      (pss_cons (ps_for PassesOwn.never rfl (pi_list (pe_slice sl_list (pv 0) po_none (po_some pe_int))) (pg_name (i := 3) sc_l_cell.nd rfl (Or.inl rfl)) (pss_one (ps_set (i := 2) sc_l_cell.nd rfl (Or.inl rfl) (pe_op op_mod (pe_op op_add (pe_op op_mulW (pv 2) pe_int) (pv 3)) pe_int))))
      (pss_one (ps_ret (pv 2)))))), ?_⟩
    refine q_when (et_test (ev_lt (ev_var rfl) (ev_cb (ea_cons (ev_var rfl) ea_nil) (z := .int ((ns.map V.int).length : Nat)) (fun H1 e Q' k' => ⟨l, _, rfl, .inl (ex_l e hs), k' H1 (Ex.refl _)⟩)))) (fun hb H1 e1 => ?_) fun hb H1 e1 => ?_
    · have hlt : (k : Int) < ((ns.map V.int).length : Nat) := of_decide_eq_true hb
      rw [List.length_map] at hlt
      have hk2 : k < ns.length := by omega
      refine s_ret (ev_op (ev_var rfl) (ev_var rfl) (rv_ixL (ex_l e1 hs) (atI_nat (j := k) (v := .int ns[k]) (by rw [List.getElem?_map, List.getElem?_eq_getElem hk2]; rfl)))) fun H2 e2 => q _ H2 (e1.trans e2)
    · have hk9 : (k : Int).natAbs < 2 ^ 7 := by omega
      refine q_asg (ev_mod (ev_mulW (n := 16) (m := 20) ev_c (ev_add (ev_add (ev_mulW (ev_var rfl) (ev_var rfl) hk9 hk9) (ev_mulW (n := 3) ev_c (ev_var rfl) (by decide) hk9)) ev_c) (by decide) ?_) ev_c (by decide)) fun H2 e2 => ?_
      · have h1 : (k : Int) * (k : Int) = ((k * k : Nat) : Int) := by simp
        have h2 : k * k ≤ 100 * 100 := Nat.mul_le_mul (by omega) (by omega)
        rw [h1]
        omega
      · refine q_forNLn (K := K) (el_sl (ev_var rfl) eo_none (eo_some ev_c) (ex_l (e1.trans e2) hs)) (fun p i σ' H' => Ex H H' ∧ H' p = some (.lst (cutV (ns.map V.int) none (some 3))) ∧ ∃ (z : Int) (v : Option V), σ' = [some (.ref l), some (.int (k : Int)), some (.int z), v] ∧ 0 ≤ z ∧ z < 2147483549) (fun p H3 hp e3 h3 => ?_) (fun p i σ' H' _ ⟨_, h, _⟩ => sq_of h) (fun p i x σ' H' hi ⟨e, hp, z, v, hσ, z0, z1⟩ => ?_) fun p σ' H' ⟨e, hp, z, v, hσ, z0, z1⟩ => ?_
        · exact ⟨(e1.trans e2).trans e3, h3, _, _, rfl, Int.emod_nonneg _ (by decide), Int.emod_lt_of_pos _ (by decide)⟩
        · subst hσ
          obtain ⟨u, rfl⟩ : ∃ u, x = V.int u := by
            have hm := List.mem_of_getElem? hi
            unfold cutV at hm
            obtain ⟨u, _, e⟩ := List.mem_map.mp (List.mem_of_mem_drop (List.mem_of_mem_take hm))
            exact ⟨u, e.symm⟩
          exact s_asg (ev_mod (ev_add (ev_mulW (n := 40) (m := 20) (ev_var rfl) ev_c (by omega) (by decide)) (ev_var rfl)) ev_c (by decide)) fun H4 e4 => ⟨e.trans e4, e4 _ _ hp, _, _, rfl, Int.emod_nonneg _ (by decide), Int.emod_lt_of_pos _ (by decide)⟩
        · subst hσ
          exact s_ret (ev_var rfl) fun H4 e4 => q _ H4 (e.trans e4)
theorem ok_pool (F : FnP K "_law_pool" s_l_pool f fd) (T : Txt K mg) : FnOk P w K mg base CX0 1 f fd ["_law_cell_here"] sp_pool := by
  refine F.ok sc_l_pool (fun vs H Q E h => ?_) (fun cdv A outer s H vs Q E hr h => ?_)
  · obtain ⟨c, rfl, _⟩ := h
    rfl
  · obtain ⟨c, rfl, q⟩ := h
    refine ⟨_, PSs.nox (pss_cons (ps_set (i := 1) sc_l_pool.nd rfl (Or.inl rfl) pe_int)
      (pss_cons (ps_if (PW.pt (pw_or (pt_cmpR op_lt (pv 0) pe_int (nomark _)) (pw_or1 (pt_cmpR op_ge (pv 0) (pe_op op_pow pe_int pe_int) (nomark _))))) (pss_one (ps_set (i := 1) sc_l_pool.nd rfl (Or.inl rfl) (pe_callB call_abs (by rfl) T.b_abs (by decide +kernel) (pa_cons (pv 0) pa_nil)))) pss_nil)
      (pss_one (ps_ret (pe_lst (pa_cons (pe_op op_mod (pv 0) pe_int) (pa_cons (pv 1) (pa_cons pe_int pa_nil)))))))), ?_⟩
    refine q_asg ev_c fun H1 e1 => ?_
    have fin : ∀ (b : Int) H2, 0 ≤ b → Ex H1 H2 → tRet (tLst (tCons (tOp (rI (fun _ j => 0 < j) fun i j => .int (i % j)) (tVar 0) (tC (.int 2147483549))) (tCons (tVar 1) (tCons (tC (.int 0)) tNil)))) { nx := fun _ H' => Q .non H', rt := Q } [some (.int c), some (.int b)] H2 := fun b H2 hb e2 => by
      refine s_retL (el_lst (ea_cons (ev_mod (ev_var rfl) ev_c (by decide)) (ea_cons (ev_var rfl) (ea_cons ev_c ea_nil))) (by show 3 ≤ 100000; decide)) fun p H3 hp e3 h3 => ?_
      exact q p H3 (fresh_back (e1.trans e2) hp) ((e1.trans e2).trans e3) ⟨_, _, _, h3, Int.emod_nonneg _ (by decide), Int.emod_lt_of_pos _ (by decide), hb⟩
    refine q_when (et_or (et_test (ev_lt (ev_var rfl) ev_c)) fun _ => et_test (ev_ge (ev_var rfl) (ev_op ev_c ev_c (rv_I (show CPow 10 18 from ⟨by decide, by decide, by decide⟩))))) (fun hb H2 e2 => ?_) fun hb H2 e2 => ?_
    · refine s_asg (ev_cb (ea_cons (ev_var rfl) ea_nil) rc_abs) fun H3 e3 => fin _ H3 (by omega) (e2.trans e3)
    · exact fin 0 H2 (by decide) e2
theorem ok_take (F : FnP K "_law_take" s_l_take f fd) (T : Txt K mg) : FnOk P w K mg base CX0 1 f fd ["_law_pool_here", "_law_many"] sp_take := by
  refine F.ok sc_l_take (fun vs H Q E h => ?_) (fun cdv A outer s H vs Q E hr h => ?_)
  · obtain ⟨p, m, rfl, _⟩ := h
    rfl
  · obtain ⟨p, m, rfl, m0, m1, ⟨a, b, c, hp, a0, a1, b0⟩, k⟩ := h
    refine ⟨_, PSs.nox (pss_cons (ps_asg (pe_op op_add (pe_ix ix_list (pv 0) pe_int (fun _ _ => rfl)) pe_int) (pg_sub (pv 0) pe_int set_list))
      (pss_cons (ps_set (i := 2) sc_l_take.nd rfl (Or.inl rfl) (pe_ix ix_list (pv 0) pe_int (fun _ _ => rfl)))
      (pss_cons (ps_asg (pe_op op_mod (pe_op op_add (pe_op op_mulW (pv 2) (pe_op op_add (pe_op op_mod (pv 2) pe_int) pe_int)) (pe_op op_mul pe_int (pe_ix ix_list (pv 0) pe_int (fun _ _ => rfl)))) pe_int) (pg_sub (pv 0) pe_int set_list))
      (pss_cons (ps_if (pt_cmpR op_gt (pe_ix ix_list (pv 0) pe_int (fun _ _ => rfl)) pe_int (nomark _)) (pss_cons (ps_asg (pe_callB call_divmod (by rfl) T.b_divmod (by decide +kernel) (pa_cons (pe_ix ix_list (pv 0) pe_int (fun _ _ => rfl)) (pa_cons (pv 1) pa_nil))) (pg_tup rfl (pgs_cons (pg_sub (pv 0) pe_int set_list) (pgs_cons (pg_name (i := 3) sc_l_take.nd rfl (Or.inl rfl)) pgs_nil))))
        (pss_one (ps_ret (pv 3)))) pss_nil)
      (pss_one (ps_ret (pe_op op_mod (pe_op op_fdivW (pe_ix ix_list (pv 0) pe_int (fun _ _ => rfl)) pe_int) (pv 1)))))))), ?_⟩
    -- pool[2] = pool[2] + 1
    refine q_setL (j := 2) hp (ev_add (ev_op (ev_var rfl) ev_c (rv_ixL (sq_of hp) at2)) ev_c) (ev_var rfl) ev_c (by show 2 < 3; decide) fun H1 e1 => ?_
    have hp1 : upd H1 p (.lst [.int a, .int b, .int (c + 1)]) p = some (.lst [.int a, .int b, .int (c + 1)]) := upd_same
    have bt1 : But p H (upd H1 p (.lst [.int a, .int b, .int (c + 1)])) := (But.ex e1).trans But.upd
    show tSeq _ _ _ _ (upd H1 p (.lst [.int a, .int b, .int (c + 1)]))
    generalize upd H1 p (.lst [.int a, .int b, .int (c + 1)]) = G at *
    -- state = pool[0]
    refine q_asg (ev_op (ev_var rfl) ev_c (rv_ixL (sq_of hp1) at0)) fun H2 e2 => ?_
    have hp2 := e2 _ _ hp1
    have bt2 := bt1.trans (But.ex e2)
    have n0 : 0 ≤ a % 47017 := Int.emod_nonneg _ (by decide)
    have n1 : a % 47017 < 47017 := Int.emod_lt_of_pos _ (by decide)
    refine q_setL (j := 0) hp2 (ev_mod (ev_add (ev_mulW (n := 40) (m := 40) (ev_var rfl) (ev_add (ev_mod (ev_var rfl) ev_c (by decide)) ev_c) (by omega) (by omega)) (ev_mul ev_c (ev_op (ev_var rfl) ev_c (rv_ixL (sq_of hp2) at2)) (.inl ⟨by decide, by decide⟩))) ev_c (by decide)) (ev_var rfl) ev_c (by show 0 < 3; decide) fun H3 e3 => ?_
    have z0 := Int.emod_nonneg (a * (a % 47017 + 31013) + 90001 * (c + 1)) (show (2147483549 : Int) ≠ 0 by decide)
    have z1 := Int.emod_lt_of_pos (a * (a % 47017 + 31013) + 90001 * (c + 1)) (show (0 : Int) < 2147483549 by decide)
    show tSeq _ _ _ _ (upd H3 p (.lst [.int ((a * (a % 47017 + 31013) + 90001 * (c + 1)) % 2147483549), .int b, .int (c + 1)]))
    generalize (a * (a % 47017 + 31013) + 90001 * (c + 1)) % 2147483549 = z at *
    have hp3 : upd H3 p (.lst [.int z, .int b, .int (c + 1)]) p = some (.lst [.int z, .int b, .int (c + 1)]) := upd_same
    have bt3 : But p H (upd H3 p (.lst [.int z, .int b, .int (c + 1)])) := (bt2.trans (But.ex e3)).trans But.upd
    generalize upd H3 p (.lst [.int z, .int b, .int (c + 1)]) = G3 at *
    refine q_when (et_test (ev_gt (ev_op (ev_var rfl) ev_c (rv_ixL (sq_of hp3) at1)) ev_c)) (fun hb H4 e4 => ?_) fun hb H4 e4 => ?_
    · have hp4 := e4 _ _ hp3
      have bt4 := bt3.trans (But.ex e4)
      have hb0 : 0 < b := of_decide_eq_true hb
      refine q_asgX (x_cb (Evl.EvA.go (ea_cons (ev_op (ev_var rfl) ev_c (rv_ixL (sq_of hp4) at1)) (ea_cons (ev_var rfl) ea_nil)) fun H5 e5 => ?_))
      have hp5 := e5 _ _ hp4
      have bt5 := bt4.trans (But.ex e5)
      refine ⟨_, _, rfl, ⟨m0, m1⟩, fun r hr5 => ?_⟩
      have npr : p ≠ r := ne_of_none hp5 hr5
      have h6 : upd H5 r (.tup [.int (b / m), .int (b % m)]) p = some (.lst [.int z, .int b, .int (c + 1)]) := by
        rw [upd_ne npr]
        exact hp5
      refine ⟨r, _, rfl, st_of upd_same, rfl, _, _, rfl, ?_⟩
      refine ⟨_, rfl, p, _, 1, 1, rfl, rfl, h6, rfl, ?_⟩
      refine ⟨_, _, rfl, ?_⟩
      refine ⟨rfl, ?_⟩
      refine s_ret (ev_var rfl) fun H7 e7 => ?_
      refine k _ H7 (Int.emod_nonneg _ (by omega)) (Int.emod_lt_of_pos _ m0) ?_ ⟨_, _, _, e7 _ _ upd_same, z0, z1, Int.ediv_nonneg b0 (by omega)⟩
      exact ((bt5.trans (But.ex (Ex.new hr5))).trans But.upd).trans (But.ex e7)
    · have hp4 := e4 _ _ hp3
      have bt4 := bt3.trans (But.ex e4)
      refine s_ret (ev_mod (ev_fdivW (n := 7) (ev_op (ev_var rfl) ev_c (rv_ixL (sq_of hp4) at0)) ev_c (by decide) (by decide)) (ev_var rfl) m0) fun H5 e5 => ?_
      exact k _ H5 (Int.emod_nonneg _ (by omega)) (Int.emod_lt_of_pos _ m0) (bt4.trans (But.ex e5)) ⟨_, _, _, e5 _ _ hp4, z0, z1, b0⟩
theorem ok_number (F : FnP K "_law_number" s_l_number f fd) (T : Txt K mg) (D_l_take : L_take P w K mg base) : FnOk P w K mg base CX0 2 f fd ["_law_pool_here"] sp_number := by
  refine F.ok sc_l_number (fun vs H Q E h => ?_) (fun cdv A outer s H vs Q E hr h => ?_)
  · obtain ⟨p, rfl, _⟩ := h
    rfl
  · obtain ⟨p, rfl, hp, k⟩ := h
    refine ⟨_, PSs.nox (pss_cons (ps_set (i := 1) sc_l_number.nd rfl (Or.inl rfl) (pe_cd D_l_take (hr.mono (by decide)) (by rfl) (pa_cons (pv 0) (pa_cons pe_int pa_nil))))
      (pss_cons (ps_set (i := 2) sc_l_number.nd rfl (Or.inl rfl) (pe_ix ix_list (pe_lst (pa_cons pe_int (pa_cons pe_int (pa_cons (pe_cd D_l_take (hr.mono (by decide)) (by rfl) (pa_cons (pv 0) (pa_cons pe_int pa_nil))) (pa_cons (pe_cd D_l_take (hr.mono (by decide)) (by rfl) (pa_cons (pv 0) (pa_cons pe_int pa_nil))) pa_nil))))) (pe_op op_mod (pv 1) pe_int) (fun _ _ => rfl)))
      (pss_cut (ps_if (pt_cmpR op_gt (pv 1) pe_int (nomark _)) (pss_cons (ps_set (i := 2) sc_l_number.nd rfl (Or.inl rfl) pe_int)
        (pss_one (ps_for PassesOwn.never rfl (pi_range1 (by rfl) T.b_range (pa_cons (pe_ix ix_list (pe_lst (pa_cons pe_int (pa_cons pe_int (pa_cons pe_int pa_nil)))) (pe_op op_sub (pv 1) pe_int) (fun _ _ => rfl)) pa_nil)) (pg_name (i := 3) sc_l_number.nd rfl (Or.inl rfl)) (pss_one (ps_set (i := 2) sc_l_number.nd rfl (Or.inl rfl) (pe_op op_add (pe_op op_mulW (pv 2) pe_int) (pe_cd D_l_take (hr.mono (by decide)) (by rfl) (pa_cons (pv 0) (pa_cons pe_int pa_nil))))))))) pss_nil)
      (pss_one (ps_ret (pe_op op_mulW (pv 2) (pe_ix ix_list (pe_lst (pa_cons pe_int (pa_cons (pe_un un_neg pe_int) pa_nil))) (pe_cd D_l_take (hr.mono (by decide)) (by rfl) (pa_cons (pv 0) (pa_cons pe_int pa_nil))) (fun _ _ => rfl)))))))), ?_⟩
    refine q_set (take_go rfl ev_c hp (by decide) (by decide) fun way H1 w0 w1 b1 p1 => ?_)
    refine q_set (x_op (x_lst (x_cons (x_c (x_cons (x_c (x_cons (take_go rfl ev_c p1 (by decide) (by decide) fun d2 H2 c0 c1 b2 p2 => ?_))))))))
    refine x_cons (take_go rfl ev_c p2 (by decide) (by decide) fun d3 H3 g0 g1 b3 p3 => x_nil ⟨by show 4 ≤ sizeLine; decide, fun r hr3 => ?_⟩)
    have wm0 : 0 ≤ way % 4 := Int.emod_nonneg _ (by decide)
    have wm1 : way % 4 < 4 := Int.emod_lt_of_pos _ (by decide)
    refine Evl.Ev.go (ev_mod (ev_var rfl) ev_c (by decide)) fun H4 e4 => ?_
    obtain ⟨v, hv, ha⟩ := at_ints (L := [0, 1, d2, d3]) wm0 wm1
    have b4 : But p H H4 := (((b1.trans b2).trans b3).trans (But.ex (Ex.new hr3))).trans (But.ex e4)
    have p4 : Pool H4 p := pool_ex p3 ((Ex.new hr3).trans e4)
    have v0 : 0 ≤ v ∧ v < 100 := by
      simp only [List.mem_cons, List.mem_nil_iff, or_false] at hv
      rcases hv with rfl | rfl | rfl | rfl <;> constructor <;> omega
    refine ⟨r, _, _, _, rfl, rfl, sq_of (e4 _ _ upd_same), ha, ?_⟩
    refine q_cut (M := fun σ' H' => ∃ (n : Int) (tn : Option V), σ' = [some (.ref p), some (.int way), some (.int n), tn] ∧ 0 ≤ n ∧ n < 1000003 ^ 4 ∧ But p H H' ∧ Pool H' p) ?_ ?_
    · refine s_when (et_test (ev_gt (ev_var rfl) ev_c)) (fun hb H5 e5 => ?_) fun hb H5 e5 => ?_
      · have hw : 3 < way := of_decide_eq_true hb
        refine q_asg ev_c fun H6 e6 => ?_
        have e56 := e5.trans e6
        have r0 : 0 ≤ way - 4 := by omega
        have r1 : way - 4 < 3 := by omega
        obtain ⟨n, hn, hat⟩ := at_ints (L := [1, 3, 4]) r0 r1
        have n0 : 1 ≤ n ∧ n ≤ 4 := by
          simp only [List.mem_cons, List.mem_nil_iff, or_false] at hn
          omega
        have ent : Ev (tOp (rIxL K) (tLst (tCons (tC (.int 1)) (tCons (tC (.int 3)) (tCons (tC (.int 4)) tNil)))) (tOp (rI0 fun i j => .int (i - j)) (tVar 1) (tC (.int 4)))) [some (.ref p), some (.int way), some (.int 0), none] H6 (.int n) :=
          ev_opL1 (el_lst (ea_cons ev_c (ea_cons ev_c (ea_cons ev_c ea_nil))) (by show 3 ≤ 100000; decide)) (fun H7 _ => ev_sub (ev_var rfl) ev_c) fun l H7 hl _ => rv_ixL (sq_of hl) hat
        refine s_forR1 (D := { nx := _, rt := _ }) (n := n) (ea_cons ent ea_nil) (by omega) (fun i σ' H' => ∃ (z : Int) (tn : Option V), σ' = [some (.ref p), some (.int way), some (.int z), tn] ∧ 0 ≤ z ∧ z < 1000003 ^ i ∧ But p H H' ∧ Pool H' p) (fun H7 e7 => ⟨0, none, rfl, by decide, by decide, b4.trans (But.ex (e56.trans e7)), pool_ex p4 (e56.trans e7)⟩) ?_ ?_
        · rintro i σ' H' hi ⟨z, tn, rfl, z0, z1, bz, pz⟩
          have zb : (1000003 : Int) ^ i ≤ 1000003 ^ 3 := by
            have : i = 0 ∨ i = 1 ∨ i = 2 ∨ i = 3 := by omega
            rcases this with rfl | rfl | rfl | rfl <;> decide
          have zs : z.natAbs < 2 ^ 80 := by
            have : (1000003 : Int) ^ 3 < 2 ^ 80 := by decide
            omega
          refine x_set (x_op (Evl.Ev.go (ev_mulW (m := 20) (ev_var rfl) ev_c zs (by decide)) fun H7 e7 => ?_))
          refine take_go rfl ev_c (pool_ex pz e7) (by decide) (by decide) fun d H8 d0 d1 b8 p8 => ⟨_, _, rfl, rfl, ?_⟩
          refine ⟨z * 1000003 + d, _, rfl, by omega, ?_, (bz.trans (But.ex e7)).trans b8, p8⟩
          rw [Int.pow_succ]
          have := Int.mul_le_mul_of_nonneg_right (show z + 1 ≤ 1000003 ^ i by omega) (show (0 : Int) ≤ 1000003 by decide)
          omega
        · rintro σ' H' ⟨z, tn, rfl, z0, z1, bz, pz⟩
          refine ⟨z, tn, rfl, z0, ?_, bz, pz⟩
          have : n.toNat = 1 ∨ n.toNat = 2 ∨ n.toNat = 3 ∨ n.toNat = 4 := by omega
          have q : (1000003 : Int) ^ n.toNat ≤ 1000003 ^ 4 := by
            rcases this with e | e | e | e <;> rw [e] <;> decide
          omega
      · refine ⟨v, none, rfl, v0.1, ?_, b4.trans (But.ex e5), pool_ex p4 e5⟩
        have : (100 : Int) < 1000003 ^ 4 := by decide
        omega
    · rintro σ' H' ⟨n, tn, rfl, n0, n1, bn, pn⟩
      have nz : n.natAbs < 2 ^ 80 := by
        have : (1000003 : Int) ^ 4 < 2 ^ 80 := by decide
        omega
      refine x_ret (x_op (x_var rfl (x_op (Evl.EvL.go (el_lst (ea_cons ev_c (ea_cons (ev_neg ev_c) ea_nil)) (by show 2 ≤ 100000; decide)) fun l H5 hl e5 h5 => ?_))))
      refine take_go rfl ev_c (pool_ex pn e5) (by decide) (by decide) fun d H6 d0 d1 b6 p6 => ?_
      obtain ⟨v2, hv2, hat⟩ := at_ints (L := [1, -1]) d0 d1
      refine ⟨l, _, d, _, rfl, rfl, sq_of (b6 _ _ (pool_ne pn hl) h5), hat, ?_⟩
      have vz : v2 = 1 ∨ v2 = -1 := by
        simp only [List.mem_cons, List.mem_nil_iff, or_false] at hv2
        exact hv2
      have vb : v2.natAbs < 2 ^ 1 := by omega
      refine ⟨n, v2, rfl, rfl, wide_mul nz vb (by decide) (by decide) (by decide), ?_⟩
      refine k _ H6 (pow_big (wide_lt nz vb) (by decide)) ((bn.trans (But.ex e5)).trans b6) p6
end
end K05

namespace K05
open PySem PySem.Spec PyProof.Rows L2 Evl
def sp_low : Sp := fun vs H Q _ => ∃ t u : Int, vs = [.int t, .int u] ∧ 0 < u ∧ Int.gcd t u = 1 ∧ ∀ p H2, H p = none → Ex H H2 → H2 p = some (.tup [.int t, .int u]) → Q (.ref p) H2
def sp_kind (K : PySem.W.Frag) : Sp := fun vs H Q _ => ∃ (a d : Addr) (fs : List (Str × V)), vs = [.ref a] ∧ ExcAt H a (He.ga K "NoStep") d fs ∧ ∀ H2, Ex H H2 → Q (.int 2) H2
/-! alike, kind by kind -/
def Lf (H : Hp) (x y : V) : Prop := x = y ∧ (x = .non ∨ (∃ b, x = .bl b) ∨ (∃ i, x = .int i) ∨ (∃ z, x = .str z) ∨ ∃ a, x = .ref a ∧ H a = some (.dK []))
def Sm : Nat → Hp → V → V → Prop
  | 0, H, x, y => Lf H x y
  | n + 1, H, x, y => Lf H x y ∨ ∃ (a b : Addr) (xs ys : List V), x = .ref a ∧ y = .ref b ∧ ((H a = some (.tup xs) ∧ H b = some (.tup ys)) ∨ (H a = some (.lst xs) ∧ H b = some (.lst ys))) ∧ xs.length ≤ 1000 ∧ xs.length = ys.length ∧ ∀ (i : Nat) u v, xs[i]? = some u → ys[i]? = some v → Sm n H u v
theorem Lf.ex {H H' : Hp} {x y : V} (h : Lf H x y) (e : Ex H H') : Lf H' x y := by
  obtain ⟨h1, h2⟩ := h
  refine ⟨h1, ?_⟩
  rcases h2 with h | h | h | h | ⟨a, h, ha⟩
  · exact .inl h
  · exact .inr (.inl h)
  · exact .inr (.inr (.inl h))
  · exact .inr (.inr (.inr (.inl h)))
  · exact .inr (.inr (.inr (.inr ⟨a, h, e _ _ ha⟩)))
theorem Sm.ex {H H' : Hp} (e : Ex H H') : ∀ {n : Nat} {x y : V}, Sm n H x y → Sm n H' x y
  | 0, _, _, h => Lf.ex h e
  | n + 1, _, _, h => by
    rcases h with h | ⟨a, b, xs, ys, h1, h2, h3, h4, h5, h6⟩
    · exact .inl (Lf.ex h e)
    · refine .inr ⟨a, b, xs, ys, h1, h2, ?_, h4, h5, fun i u v hu hv => Sm.ex e (h6 i u v hu hv)⟩
      rcases h3 with ⟨p, q⟩ | ⟨p, q⟩
      · exact .inl ⟨e _ _ p, e _ _ q⟩
      · exact .inr ⟨e _ _ p, e _ _ q⟩
theorem Sm.leaf {H : Hp} {n : Nat} {x y : V} (h : Lf H x y) : Sm n H x y := by
  cases n with
  | zero => exact h
  | succ n => exact .inl h
abbrev rSame : R2 := fun x y H Q => rEq x y H Q ∨ rEqDA x y H Q
def spS (_ : PySem.W.Frag) : Nat → Sp
  | 0 => fun _ _ _ _ => False
  | n + 1 => fun vs H Q _ => ∃ x y : V, vs = [x, y] ∧ Sm n H x y ∧ ∀ H2, Ex H H2 → Q (.bl true) H2
theorem leaf_facts {K : PySem.W.Frag} {H : Hp} {x y : V} (h : Lf H x y) : y = x ∧ ∃ (tn : String) (bb bi : Bool), (∀ H1, Ex H H1 → TyX K H1 x (.type tn)) ∧ kitB tn "tuple" = some false ∧ kitB tn "list" = some false ∧ kitB tn "bool" = some bb ∧ kitB tn "int" = some bi ∧ RV rSame x x H (.bl true) := by
  obtain ⟨h1, h2⟩ := h
  refine ⟨h1.symm, ?_⟩
  have eq : ∀ x : V, scal x x = true → RV rSame x x H (.bl true) := fun x hs H1 e Q q => .inl ⟨hs, by
    rw [decide_eq_true (show x = x from rfl)]
    exact q H1 (Ex.refl _)⟩
  rcases h2 with rfl | ⟨b, rfl⟩ | ⟨i, rfl⟩ | ⟨z, rfl⟩ | ⟨a, rfl, ha⟩
  · exact ⟨"NoneType", false, false, fun _ _ => .base .non, by decide +kernel, by decide +kernel, by decide +kernel, by decide +kernel, eq _ rfl⟩
  · exact ⟨"bool", true, true, fun _ _ => .base (.bl b), by decide +kernel, by decide +kernel, by decide +kernel, by decide +kernel, eq _ rfl⟩
  · exact ⟨"int", false, true, fun _ _ => .base (.int i), by decide +kernel, by decide +kernel, by decide +kernel, by decide +kernel, eq _ rfl⟩
  · exact ⟨"str", false, false, fun _ _ => .base (.str z), by decide +kernel, by decide +kernel, by decide +kernel, by decide +kernel, eq _ rfl⟩
  · refine ⟨"dict", false, false, fun _ e => .base (.dK (e _ _ ha)), by decide +kernel, by decide +kernel, by decide +kernel, by decide +kernel, fun H1 e Q q => .inr ⟨a, a, [], [], rfl, rfl, e _ _ ha, e _ _ ha, rfl, (fun p hp => nomatch hp), q H1 (Ex.refl _)⟩⟩
section
variable {P : Program} {w : World} {K : PySem.W.Frag} {mg : Str → Option Value} {base : Heap} {f : Addr} {fd : FuncData}
theorem ok_low (F : FnP K "_law_low" s_l_low f fd) (T : Txt K mg) : FnOk P w K mg base CX0 1 f fd ["_law_top", "_law_bottom"] sp_low := by
  refine F.ok sc_l_low (fun vs H Q E h => ?_) (fun cdv A outer s H vs Q E hr h => ?_)
  · obtain ⟨t, u, rfl, _⟩ := h
    rfl
  · obtain ⟨t, u, rfl, u0, hg1, k⟩ := h
    refine ⟨_, PSs.nox (pss_cons (ps_par (i := 2) (j := 3) (by rfl) sc_l_low.nd rfl rfl (by decide) rfl rfl (pa_cons (pe_callB call_abs (by rfl) T.b_abs (by decide +kernel) (pa_cons (pv 0) pa_nil)) (pa_cons (pv 1) pa_nil)) (by rfl))
      (pss_cons (ps_while PassesOwn.never (pt_cmpR op_gt (pv 3) pe_int (nomark _)) (pss_one (ps_par (i := 2) (j := 3) (by rfl) sc_l_low.nd rfl rfl (by decide) rfl rfl (pa_cons (pv 3) (pa_cons (pe_op op_mod (pv 2) (pv 3)) pa_nil)) (by rfl))))
      (pss_one (ps_ret (pe_tup (pa_cons (pe_op op_fdivW (pv 0) (pv 2)) (pa_cons (pe_op op_fdivW (pv 1) (pv 2)) pa_nil))))))), ?_⟩
    refine q_par (Evl.EvA.go (ea_cons (ev_cb (ea_cons (ev_var rfl) ea_nil) rc_abs) (ea_cons (ev_var rfl) ea_nil)) fun H1 e1 => ⟨_, _, rfl, ?_⟩)
    have gg : Int.gcd (t.natAbs : Int) u = 1 := by
      rw [← hg1]
      simp [Int.gcd]
    refine q_while (fun m σ' H' => Ex H H' ∧ ∃ x y : Int, σ' = [some (.int t), some (.int u), some (.int x), some (.int y)] ∧ 0 ≤ x ∧ 0 ≤ y ∧ Int.gcd x y = 1 ∧ m = y.toNat) u.toNat ⟨e1, t.natAbs, u, rfl, by omega, by omega, gg, rfl⟩ ?_
    rintro m σ' H' ⟨e, x, y, rfl, hx, hy, hg, rfl⟩
    refine ⟨_, et_test (ev_gt (ev_var rfl) ev_c), fun hb2 H1 e1 => ?_, fun hb2 H1 e1 => ?_⟩
    · have hyp : 0 < y := of_decide_eq_true hb2
      refine ⟨fun σ2 H2 => Ex H H2 ∧ σ2 = [some (.int t), some (.int u), some (.int y), some (.int (x % y))], fun σ2 H2 ⟨e2, h2⟩ => ?_, ?_⟩
      · have l1 := Int.emod_lt_of_pos x hyp
        have l2 := Int.emod_nonneg x (show y ≠ 0 by omega)
        refine ⟨(x % y).toNat, by omega, e2, y, x % y, h2, by omega, l2, ?_, rfl⟩
        rw [← hg]
        exact Tn.gcd_step x y hx hyp
      · exact (ea_cons (ev_var rfl) (ea_cons (ev_mod (ev_var rfl) (ev_var rfl) hyp) ea_nil)) H1 (Ex.refl _) _ fun H2 e2 => ⟨_, _, rfl, (e.trans e1).trans e2, rfl⟩
    · have hy0 : y = 0 := by
        have : ¬ 0 < y := of_decide_eq_false hb2
        omega
      subst hy0
      have hz : x = 1 := by
        rw [Int.gcd_zero_right] at hg
        omega
      subst hz
      refine s_retU (eu_tup (ea_cons (ev_fdivW (n := 2) (ev_var rfl) (ev_var rfl) (by decide) (by decide)) (ea_cons (ev_fdivW (n := 2) (ev_var rfl) (ev_var rfl) (by decide) (by decide)) ea_nil)) (by show 2 ≤ 100000; decide)) fun p H2 hp e2 h2 => k p H2 (fresh_back (e.trans e1) hp) ((e.trans e1).trans e2) ?_
      rw [h2, Int.ediv_one, Int.ediv_one]
theorem ok_kind (F : FnP K "_law_kind" s_l_kind f fd) (T : Txt K mg) : FnOk P w K mg base CX0 1 f fd ["_law_e"] (sp_kind K) := by
  refine F.ok sc_l_kind (fun vs H Q E h => ?_) (fun cdv A outer s H vs Q E hr h => ?_)
  · obtain ⟨a, d, fs, rfl, _⟩ := h
    rfl
  · obtain ⟨a, d, fs, rfl, xa, k⟩ := h
    refine ⟨_, PSs.nox (pss_cons (ps_set (i := 1) sc_l_kind.nd rfl (Or.inl rfl) (pe_lst (pa_cons (pe_callB call_isk (by rfl) T.b_isinstance (by decide +kernel) (pa_cons (pv 0) (pa_cons (pe_glob (v := .ref (He.ga K "NoTurn")) (by rfl) T.g_NoTurn rfl) pa_nil))) (pa_cons (pe_callB call_isk (by rfl) T.b_isinstance (by decide +kernel) (pa_cons (pv 0) (pa_cons (pe_glob (v := .ref (He.ga K "NoName")) (by rfl) T.g_NoName rfl) pa_nil))) (pa_cons (pe_callB call_isk (by rfl) T.b_isinstance (by decide +kernel) (pa_cons (pv 0) (pa_cons (pe_glob (v := .ref (He.ga K "NoStep")) (by rfl) T.g_NoStep rfl) pa_nil))) (pa_cons (pe_callB call_isk (by rfl) T.b_isinstance (by decide +kernel) (pa_cons (pv 0) (pa_cons (pe_glob (v := .ref (He.ga K "NoRose")) (by rfl) T.g_NoRose rfl) pa_nil))) pa_nil))))))
      (pss_cons (ps_set (i := 1) sc_l_kind.nd rfl (Or.inl rfl) (pe_op op_cat (pv 1) (pe_lst (pa_cons (pe_callB call_isk (by rfl) T.b_isinstance (by decide +kernel) (pa_cons (pv 0) (pa_cons (pe_glob (v := .ref (He.ga K "NoText")) (by rfl) T.g_NoText rfl) pa_nil))) (pa_cons (pe_callB call_isk (by rfl) T.b_isinstance (by decide +kernel) (pa_cons (pv 0) (pa_cons (pe_glob (v := .ref (He.ga K "NoWind")) (by rfl) T.g_NoWind rfl) pa_nil))) (pa_cons (pe_callB call_isk (by rfl) T.b_isinstance (by decide +kernel) (pa_cons (pv 0) (pa_cons (pe_glob (v := .ref (He.ga K "NoPair")) (by rfl) T.g_NoPair rfl) pa_nil))) (pa_cons (pe_callB call_isk (by rfl) T.b_isinstance (by decide +kernel) (pa_cons (pv 0) (pa_cons (pe_glob (v := .ref (He.ga K "NoRoom")) (by rfl) T.g_NoRoom rfl) pa_nil))) pa_nil)))))))
      (pss_cons (ps_set (i := 1) sc_l_kind.nd rfl (Or.inl rfl) (pe_op op_cat (pv 1) (pe_lst (pa_cons (pe_callB call_isk (by rfl) T.b_isinstance (by decide +kernel) (pa_cons (pv 0) (pa_cons (pe_glob (v := .ref (He.ga K "NoWalk")) (by rfl) T.g_NoWalk rfl) pa_nil))) (pa_cons (pe_callB call_isk (by rfl) T.b_isinstance (by decide +kernel) (pa_cons (pv 0) (pa_cons (pe_glob (v := .ref (He.ga K "NoRow")) (by rfl) T.g_NoRow rfl) pa_nil))) (pa_cons (pe_callB call_isk (by rfl) T.b_isinstance (by decide +kernel) (pa_cons (pv 0) (pa_cons (pe_glob (v := .ref (He.ga K "NoWord")) (by rfl) T.g_NoWord rfl) pa_nil))) (pa_cons (pe_callB call_isk (by rfl) T.b_isinstance (by decide +kernel) (pa_cons (pv 0) (pa_cons (pe_glob (v := .ref (He.ga K "NoDeed")) (by rfl) T.g_NoDeed rfl) pa_nil))) pa_nil)))))))
      (pss_cons (ps_expr (pe_bm PySem.F.plainAttrs_list PySem.F.slot_list_append PySem.F.type_list_append mt_append (pv 1) (pa_cons (pe_callB call_isk (by rfl) T.b_isinstance (by decide +kernel) (pa_cons (pv 0) (pa_cons (pe_glob (v := .ref (He.ga K "NoSuch")) (by rfl) T.g_NoSuch rfl) pa_nil))) pa_nil)))
      (pss_cons (ps_if (pt_cmpR op_ne (pe_bm PySem.F.plainAttrs_list PySem.F.slot_list_count PySem.F.type_list_count mt_lcountB (pv 1) (pa_cons pe_bl pa_nil)) pe_int (nomark _)) (pss_one (ps_ret pe_non)) pss_nil)
      (pss_cons (ps_set (i := 2) sc_l_kind.nd rfl (Or.inl rfl) (pe_cmpR op_gt (pe_bm PySem.F.plainAttrs_list PySem.F.slot_list_index PySem.F.type_list_index mt_index (pv 1) (pa_cons pe_bl pa_nil)) pe_int (nomark _)))
      (pss_cons (ps_if (PW.pt (pw_or (pt_cmpR op_ne (pe_callB call_isk (by rfl) T.b_isinstance (by decide +kernel) (pa_cons (pv 0) (pa_cons (pe_glob (v := .ref (He.ga K "RoseError")) (by rfl) T.g_RoseError rfl) pa_nil))) (pe_not (pv 2)) (nomark _)) (pw_or (pt_cmpR op_ne (pe_callB call_isk (by rfl) T.b_isinstance (by decide +kernel) (pa_cons (pv 0) (pa_cons (pe_glob (v := .ref (He.ga K "LostError")) (by rfl) T.g_LostError rfl) pa_nil))) (pv 2) (nomark _)) (pw_or1 (pt_cmpR op_eq (pe_callB call_isk (by rfl) T.b_isinstance (by decide +kernel) (pa_cons (pv 0) (pa_cons (pe_bltn (v := .ty "ValueError") (by rfl) T.b_ValueError (by decide +kernel) rfl) pa_nil))) (pv 2) (nomark _)))))) (pss_one (ps_ret pe_non)) pss_nil)
      (pss_one (ps_ret (pe_bm PySem.F.plainAttrs_list PySem.F.slot_list_index PySem.F.type_list_index mt_index (pv 1) (pa_cons pe_bl pa_nil))))))))))), ?_⟩
    have no : ∀ {y : Str} {σ0 : L2.St} {H0 : Hp}, (y, false) ∈ kits → Ex H H0 → σ0[0]? = some (some (.ref a)) → Ev (tCB (rIsk K) (tCons (tVar 0) (tCons (tC (.ref (He.ga K y))) tNil))) σ0 H0 (.bl false) := fun m e hσ => ev_cb (ea_cons (ev_var hσ) (ea_cons ev_c ea_nil)) (rc_isk (xa.ex e) T.xk (.own _) (kitsB_ok T.kit m))
    have yes : ∀ {y : Str} {σ0 : L2.St} {H0 : Hp}, (y, true) ∈ kits → Ex H H0 → σ0[0]? = some (some (.ref a)) → Ev (tCB (rIsk K) (tCons (tVar 0) (tCons (tC (.ref (He.ga K y))) tNil))) σ0 H0 (.bl true) := fun m e hσ => ev_cb (ea_cons (ev_var hσ) (ea_cons ev_c ea_nil)) (rc_isk (xa.ex e) T.xk (.own _) (kitsB_ok T.kit m))
    have R := Ex.refl H
    refine q_set (Evl.EvL.go (el_lst (ea_cons (no (by decide +kernel) R rfl) (ea_cons (no (by decide +kernel) R rfl) (ea_cons (yes (by decide +kernel) R rfl) (ea_cons (no (by decide +kernel) R rfl) ea_nil)))) (by show 4 ≤ 100000; decide)) fun k1 H1 hk1 e1 h1 => ?_)
    refine q_set (Evl.EvL.go (el_cat (ev_var rfl) h1 (el_lst (ea_cons (no (by decide +kernel) e1 rfl) (ea_cons (no (by decide +kernel) e1 rfl) (ea_cons (no (by decide +kernel) e1 rfl) (ea_cons (no (by decide +kernel) e1 rfl) ea_nil)))) (by show 4 ≤ 100000; decide)) (by show 8 ≤ 100000; decide)) fun k2 H2 hk2 e2 h2 => ?_)
    have e02 := e1.trans e2
    refine q_set (Evl.EvL.go (el_cat (ev_var rfl) h2 (el_lst (ea_cons (no (by decide +kernel) e02 rfl) (ea_cons (no (by decide +kernel) e02 rfl) (ea_cons (no (by decide +kernel) e02 rfl) (ea_cons (no (by decide +kernel) e02 rfl) ea_nil)))) (by show 4 ≤ 100000; decide)) (by show 12 ≤ 100000; decide)) fun k3 H3 hk3 e3 h3 => ?_)
    have e03 := e02.trans e3
    refine q_app h3 (ev_var rfl) (no (by decide +kernel) e03 rfl) (by show 12 < 100000; decide) fun H4 e4 => ?_
    have e4' : Ex H (upd H4 k3 (.lst ([V.bl false, .bl false, .bl true, .bl false, .bl false, .bl false, .bl false, .bl false, .bl false, .bl false, .bl false, .bl false] ++ [.bl false]))) := (But.ex (e03.trans e4) |>.trans But.upd).new (fresh_back e02 hk3)
    have h4 : upd H4 k3 (.lst ([V.bl false, .bl false, .bl true, .bl false, .bl false, .bl false, .bl false, .bl false, .bl false, .bl false, .bl false, .bl false] ++ [.bl false])) k3 = some (.lst ([false, false, true, false, false, false, false, false, false, false, false, false, false].map V.bl)) := upd_same
    show tSeq _ _ _ _ (upd H4 k3 (.lst ([V.bl false, .bl false, .bl true, .bl false, .bl false, .bl false, .bl false, .bl false, .bl false, .bl false, .bl false, .bl false] ++ [.bl false])))
    generalize upd H4 k3 (.lst ([V.bl false, .bl false, .bl true, .bl false, .bl false, .bl false, .bl false, .bl false, .bl false, .bl false, .bl false, .bl false] ++ [.bl false])) = G at *
    have cnt : Ev (tBM K "list" (rCntB K) (tVar 1) (tCons (tC (.bl true)) tNil)) [some (.ref a), some (.ref k3), none] G (.int 1) := fun H5 e5 Q' q' => ⟨_, rfl, .inl ⟨rfl, _, sq_of (e5 _ _ h4)⟩, k3, _, true, rfl, rfl, sq_of (e5 _ _ h4), q' H5 (Ex.refl _)⟩
    have idx : ∀ {σ0 : L2.St} {H5 : Hp}, Ex G H5 → σ0[1]? = some (some (.ref k3)) → Ev (tBM K "list" (rIndex K) (tVar 1) (tCons (tC (.bl true)) tNil)) σ0 H5 (.int 2) := fun {σ0 H5} e5 hσ H6 e6 Q' q' => ⟨_, hσ, .inl ⟨rfl, _, sq_of ((e5.trans e6) _ _ h4)⟩, k3, _, .bl true, 2, .bl true, rfl, rfl, sq_of ((e5.trans e6) _ _ h4), rfl, by decide, rfl, rfl, fun m z hm hz => by
      match m, hm, hz with
      | 0, _, hz => cases hz; rfl
      | 1, _, hz => cases hz; rfl, q' H6 (Ex.refl _)⟩
    refine q_when (b := false) (et_test (ev_neI cnt ev_c)) (fun hb => nomatch hb) fun _ H5 e5 => ?_
    refine q_asg (v := .bl false) (ev_gt (idx e5 rfl) ev_c) fun H6 e6 => ?_
    have e06 := (e4'.trans e5).trans e6
    have ve : ∀ {σ0 : L2.St}, σ0[0]? = some (some (.ref a)) → Ev (tCB (rIsk K) (tCons (tVar 0) (tCons (tC (.ty "ValueError")) tNil))) σ0 H6 (.bl true) := fun hσ => ev_cb (ea_cons (ev_var hσ) (ea_cons ev_c ea_nil)) (rc_isk (xa.ex e06) T.xk (.ty "ValueError") T.kv)
    refine q_when (b := false) (et_or0 (et_test (ev_neB (a := true) (b := !false) (yes (by decide +kernel) e06 rfl) (ev_notV (ev_var rfl)))) (et_or0 (et_test (ev_neB (a := false) (b := false) (no (by decide +kernel) e06 rfl) (ev_var rfl))) (et_test (ev_eqB (a := true) (b := false) (ve rfl) (ev_var rfl))))) (fun hb => nomatch hb) fun _ H7 e7 => ?_
    exact s_ret (idx ((e5.trans e6).trans e7) rfl) fun H8 e8 => k H8 ((e06.trans e7).trans e8)
end
end K05

namespace K05
open PySem PySem.Spec PyProof.Rows L2 Evl
theorem cut_same {H : Hp} {n : Nat} {x y : V} (h : Sm n H x y) : Lf H x y ∨ ∃ (m : Nat) (a b : Addr) (xs ys : List V), n = m + 1 ∧ x = .ref a ∧ y = .ref b ∧ ((H a = some (.tup xs) ∧ H b = some (.tup ys)) ∨ (H a = some (.lst xs) ∧ H b = some (.lst ys))) ∧ xs.length ≤ 1000 ∧ xs.length = ys.length ∧ ∀ (i : Nat) u v, xs[i]? = some u → ys[i]? = some v → Sm m H u v := by
  cases n with
  | zero => exact .inl h
  | succ m =>
    rcases h with h | ⟨a, b, xs, ys, h1, h2, h3, h4, h5, h6⟩
    · exact .inl h
    · exact .inr ⟨m, a, b, xs, ys, rfl, h1, h2, h3, h4, h5, h6⟩
section
variable {P : Program} {w : World} {K : PySem.W.Frag} {mg : Str → Option Value} {base : Heap} {f : Addr} {fd : FuncData}
abbrev L_same (P : Program) (w : World) (K : PySem.W.Frag) (mg : Str → Option Value) (base : Heap) (n : Nat) : Prop := Dn P w K mg base n "_law_same" ["_law_one", "_law_other"] (spS K n)
theorem step_same {n : Nat} (F : FnP K "_law_same" s_l_same f fd) (T : Txt K mg) (D_l_same : L_same P w K mg base n) : FnOk P w K mg base CX0 (n + 1) f fd ["_law_one", "_law_other"] (spS K (n + 1)) := by
  refine F.ok sc_l_same (fun vs H Q E h => ?_) (fun cdv A outer s H vs Q E hr h => ?_)
  · obtain ⟨x, y, rfl, _⟩ := h
    rfl
  · obtain ⟨x, y, rfl, hs, k⟩ := h
    refine ⟨_, PSs.nox (pss_cons (ps_if (pt_val (pe_callB call_isiT (by rfl) T.b_isinstance (by decide +kernel) (pa_cons (pv 0) (pa_cons (pe_tup (pa_cons (pe_bltn (v := .ty "tuple") (by rfl) T.b_tuple (by decide +kernel) rfl) (pa_cons (pe_bltn (v := .ty "list") (by rfl) T.b_list (by decide +kernel) rfl) pa_nil))) pa_nil)))) (pss_cons (ps_if (PW.pt (pw_or (pt_cmpR op_ne (pe_callB call_isi (by rfl) T.b_isinstance (by decide +kernel) (pa_cons (pv 0) (pa_cons (pe_bltn (v := .ty "tuple") (by rfl) T.b_tuple (by decide +kernel) rfl) pa_nil))) (pe_callB call_isi (by rfl) T.b_isinstance (by decide +kernel) (pa_cons (pv 1) (pa_cons (pe_bltn (v := .ty "tuple") (by rfl) T.b_tuple (by decide +kernel) rfl) pa_nil))) (nomark _)) (pw_or1 (pt_not (pt_val (pe_callB call_isiT (by rfl) T.b_isinstance (by decide +kernel) (pa_cons (pv 1) (pa_cons (pe_tup (pa_cons (pe_bltn (v := .ty "tuple") (by rfl) T.b_tuple (by decide +kernel) rfl) (pa_cons (pe_bltn (v := .ty "list") (by rfl) T.b_list (by decide +kernel) rfl) pa_nil))) pa_nil)))))))) (pss_one (ps_ret pe_bl)) pss_nil)
        (pss_one (ps_ret (pe_and (pe_cmpR op_eq (pe_callB call_len_seq (by rfl) T.b_len (by decide +kernel) (pa_cons (pv 0) pa_nil)) (pe_callB call_len_seq (by rfl) T.b_len (by decide +kernel) (pa_cons (pv 1) pa_nil)) (nomark _)) (pe_one (pe_callB (cr_all rfl) (by rfl) T.b_all (by decide +kernel) (pa_cons (pe_lc (own := [("_law_a", 2), ("_law_b", 3)]) (g := (gTup K 2 (gCons (gName 2) (gCons (gName 3) gNil)))) (tt := tYes) rfl sc_l_same.nd (RZ.pi_zipA (by rfl) T.b_zip (pa_cons (pv 0) (pa_cons (pv 1) pa_nil))) (blkOk_by (own := [("_law_a", 2), ("_law_b", 3)]) (N := ["_law_one", "_law_other", "_law_a", "_law_b"]) (sc := defScope s_l_same) (by decide +kernel)) (fun _ _ _ _ _ => (pg_tup rfl (pgs_cons (pg_name (i := 2) sc_l_same.nd rfl (Or.inl rfl)) (pgs_cons (pg_name (i := 3) sc_l_same.nd rfl (Or.inl rfl)) pgs_nil)))) (fun _ _ _ _ _ => pts_nil) (fun _ _ _ _ _ => (pe_cd D_l_same hr (by rfl) (pa_cons (pv 2) (pa_cons (pv 3) pa_nil))))) pa_nil))))))) pss_nil)
      (pss_cons (ps_if (PW.pt (pw_or (pt_cmpR op_ne (pe_callB call_isi (by rfl) T.b_isinstance (by decide +kernel) (pa_cons (pv 0) (pa_cons (pe_bltn (v := .ty "bool") (by rfl) T.b_bool (by decide +kernel) rfl) pa_nil))) (pe_callB call_isi (by rfl) T.b_isinstance (by decide +kernel) (pa_cons (pv 1) (pa_cons (pe_bltn (v := .ty "bool") (by rfl) T.b_bool (by decide +kernel) rfl) pa_nil))) (nomark _)) (pw_or1 (pt_cmpR op_ne (pe_callB call_isi (by rfl) T.b_isinstance (by decide +kernel) (pa_cons (pv 0) (pa_cons (pe_bltn (v := .ty "int") (by rfl) T.b_int (by decide +kernel) rfl) pa_nil))) (pe_callB call_isi (by rfl) T.b_isinstance (by decide +kernel) (pa_cons (pv 1) (pa_cons (pe_bltn (v := .ty "int") (by rfl) T.b_int (by decide +kernel) rfl) pa_nil))) (nomark _))))) (pss_one (ps_ret pe_bl)) pss_nil)
      (pss_one (ps_ret (pe_cmpR (OpR.or op_eq (op_eq_dictA (Nat.lt_of_le_of_lt (Nat.le_add_right _ 64) hr.units))) (pv 0) (pv 1) (nomark _)))))), ?_⟩
    have tt : ∀ {H0 : Hp} {σ0 : L2.St}, EvU (tTup (tCons (tC (.ty "tuple")) (tCons (tC (.ty "list")) tNil))) σ0 H0 [.ty "tuple", .ty "list"] := eu_tup (ea_cons ev_c (ea_cons ev_c ea_nil)) (by show 2 ≤ 100000; decide)
    have pc : Paired ClsV [.ty "tuple", .ty "list"] [.type "tuple", .type "list"] := .cons (.ty _) (.cons (.ty _) .nil)
    rcases cut_same hs with hL | ⟨m, a, b, xs, ys, rfl, rfl, rfl, hab, hl, hll, hall⟩
    · obtain ⟨rfl, tn, bb, bi, ty, k1, k2, k3, k4, heq⟩ := leaf_facts (K := K) hL
      refine q_when (b := false) (et_B (ev_isiT (ev_var rfl) tt ty pc (kitAny_cons (kit_ty k1) (fun _ => kitAny_cons (kit_ty k2) (fun _ => kitAny_nil) nofun) nofun))) (fun hb => nomatch hb) fun _ H1 e1 => ?_
      have ty1 : ∀ H2, Ex H1 H2 → TyX K H2 y (.type tn) := fun H2 e2 => ty H2 (e1.trans e2)
      have is1 : ∀ {σ0 : L2.St} {i : Nat} {c : String} {b : Bool}, σ0[i]? = some (some y) → kitB tn c = some b → Ev (tCB (rIsi K) (tCons (tVar i) (tCons (tC (.ty c)) tNil))) σ0 H1 (.bl b) := fun {σ0 i c b} hσ hk => ev_cb (ea_cons (ev_var hσ) (ea_cons ev_c ea_nil)) (rc_isi (.ty c) ty1 (kit_ty hk))
      have t1 : EvT (tOr (tTest (tOp rNe (tCB (rIsi K) (tCons (tVar 0) (tCons (tC (.ty "bool")) tNil))) (tCB (rIsi K) (tCons (tVar 1) (tCons (tC (.ty "bool")) tNil))))) (tTest (tOp rNe (tCB (rIsi K) (tCons (tVar 0) (tCons (tC (.ty "int")) tNil))) (tCB (rIsi K) (tCons (tVar 1) (tCons (tC (.ty "int")) tNil)))))) [some y, some y, none, none] H1 false := by
        have a1 := ev_neB (is1 (σ0 := [some y, some y, none, none]) (i := 0) rfl k3) (is1 (i := 1) rfl k3)
        have a2 := ev_neB (is1 (σ0 := [some y, some y, none, none]) (i := 0) rfl k4) (is1 (i := 1) rfl k4)
        rw [bne_self_eq_false] at a1 a2
        exact et_or0 (et_test a1) (et_test a2)
      refine q_when (b := false) t1 (fun hb => nomatch hb) fun _ H2 e2 => ?_
      exact s_ret (Ev.mono (e1.trans e2) (ev_op (ev_var rfl) (ev_var rfl) heq)) fun H3 e3 => k H3 ((e1.trans e2).trans e3)
    · obtain ⟨tn, c1, hk, tya, tyb⟩ : ∃ (tn : String) (c1 : Bool), (kitB tn "tuple" = some c1 ∧ kitB tn "list" = some (!c1)) ∧ (∀ H1, Ex H H1 → TyX K H1 (.ref a) (.type tn)) ∧ ∀ H1, Ex H H1 → TyX K H1 (.ref b) (.type tn) := by
        rcases hab with ⟨p, q⟩ | ⟨p, q⟩
        · exact ⟨"tuple", true, by decide +kernel, fun _ e => .base (.tup (e _ _ p)), fun _ e => .base (.tup (e _ _ q))⟩
        · exact ⟨"list", false, by decide +kernel, fun _ e => .base (.lst (e _ _ p)), fun _ e => .base (.lst (e _ _ q))⟩
      have any : PySem.W.kitAny K (.type tn) [.type "tuple", .type "list"] = some true := by
        cases c1 with
        | true => exact kitAny_cons (b := true) (kit_ty hk.1) nofun fun _ => rfl
        | false => exact kitAny_cons (b := false) (kit_ty hk.1) (fun _ => kitAny_cons (b := true) (kit_ty hk.2) nofun fun _ => rfl) nofun
      refine q_when (b := true) (et_B (ev_isiT (ev_var rfl) tt tya pc any)) (fun _ H1 e1 => ?_) fun hb => nomatch hb
      have tya1 : ∀ H2, Ex H1 H2 → TyX K H2 (.ref a) (.type tn) := fun H2 e2 => tya H2 (e1.trans e2)
      have tyb1 : ∀ H2, Ex H1 H2 → TyX K H2 (.ref b) (.type tn) := fun H2 e2 => tyb H2 (e1.trans e2)
      have t1 : EvT (tOr (tTest (tOp rNe (tCB (rIsi K) (tCons (tVar 0) (tCons (tC (.ty "tuple")) tNil))) (tCB (rIsi K) (tCons (tVar 1) (tCons (tC (.ty "tuple")) tNil))))) (tNot (tB (tCB (rIsiT K) (tCons (tVar 1) (tCons (tTup (tCons (tC (.ty "tuple")) (tCons (tC (.ty "list")) tNil))) tNil)))))) [some (.ref a), some (.ref b), none, none] H1 false := by
        have a1 := ev_neB (ev_cb (σ := [some (.ref a), some (.ref b), none, none]) (ea_cons (ev_var (i := 0) rfl) (ea_cons ev_c ea_nil)) (rc_isi (.ty "tuple") tya1 (kit_ty hk.1))) (ev_cb (ea_cons (ev_var (i := 1) rfl) (ea_cons ev_c ea_nil)) (rc_isi (.ty "tuple") tyb1 (kit_ty hk.1)))
        rw [bne_self_eq_false] at a1
        exact et_or0 (et_test a1) (et_not (et_B (ev_isiT (ev_var rfl) tt tyb1 pc any)))
      refine q_when (b := false) t1 (fun hb => nomatch hb) fun _ H2 e2 => ?_
      have e02 := e1.trans e2
      have sq : (SqL K H2 a xs ∧ SqL K H2 b ys) ∨ (SqT K H2 a xs ∧ SqT K H2 b ys) := by
        rcases hab with ⟨p, q⟩ | ⟨p, q⟩
        · exact .inr ⟨st_of (e02 _ _ p), st_of (e02 _ _ q)⟩
        · exact .inl ⟨sq_of (e02 _ _ p), sq_of (e02 _ _ q)⟩
      have sa : ∀ H3, Ex H2 H3 → SqL K H3 a xs ∨ SqT K H3 a xs := fun H3 e3 => by
        rcases sq with ⟨p, _⟩ | ⟨p, _⟩
        · exact .inl (ex_l e3 p)
        · exact .inr (ex_t e3 p)
      have sb : ∀ H3, Ex H2 H3 → SqL K H3 b ys ∨ SqT K H3 b ys := fun H3 e3 => by
        rcases sq with ⟨_, p⟩ | ⟨_, p⟩
        · exact .inl (ex_l e3 p)
        · exact .inr (ex_t e3 p)
      have l1 : Ev (tCB (fun xs H Q => ∃ p ys, xs = [.ref p] ∧ (SqL K H p ys ∨ SqT K H p ys) ∧ Q (.int (ys.length : Nat)) H) (tCons (tVar 0) tNil)) [some (.ref a), some (.ref b), none, none] H2 (.int (xs.length : Nat)) := ev_cb (ea_cons (ev_var rfl) ea_nil) fun H3 e3 Q' q' => ⟨a, xs, rfl, sa H3 e3, q' H3 (Ex.refl _)⟩
      have l2 : Ev (tCB (fun xs H Q => ∃ p ys, xs = [.ref p] ∧ (SqL K H p ys ∨ SqT K H p ys) ∧ Q (.int (ys.length : Nat)) H) (tCons (tVar 1) tNil)) [some (.ref a), some (.ref b), none, none] H2 (.int (xs.length : Nat)) := by
        rw [hll]
        exact ev_cb (ea_cons (ev_var rfl) ea_nil) fun H3 e3 Q' q' => ⟨b, ys, rfl, sb H3 e3, q' H3 (Ex.refl _)⟩
      have lq := ev_eqI l1 l2
      rw [decide_eq_true (show ((xs.length : Nat) : Int) = ((xs.length : Nat) : Int) from rfl)] at lq
      have z : EvL (tLc (RZ.iZipA K (tCons (tVar 0) (tCons (tVar 1) tNil))) (gTup K 2 (gCons (gName 2) (gCons (gName 3) gNil))) tYes (tCall (spS K (m + 1)) [] E0 (tCons (tVar 2) (tCons (tVar 3) tNil))) [2, 3]) [some (.ref a), some (.ref b), none, none] H2 ((List.range xs.length).map fun _ => V.bl true) :=
        el_lcZ (fun _ => .bl true) (ev_var rfl) (ev_var rfl) sq hl hll (fun _ _ => rfl) fun i u v H3 e3 hu hv => ev_call (ea_cons (ev_var rfl) (ea_cons (ev_var rfl) ea_nil)) fun H4 e4 Q' q' E' => ⟨u, v, rfl, Sm.ex ((e02.trans e3).trans e4) (hall i u v hu hv), q'⟩
      have az := ev_all (K := K) (bs := List.replicate xs.length true) z (by rw [List.map_const', List.length_range, List.map_replicate])
      have at' : (List.replicate xs.length true).all id = true := by
        rw [List.all_eq_true]
        intro c hc
        exact (List.mem_replicate.mp hc).2
      rw [at'] at az
      exact s_ret (v := .bl true) (ev_andV lq fun _ => az) fun H3 e3 => k H3 (e02.trans e3)
theorem ok_same (F : FnP K "_law_same" s_l_same f fd) (T : Txt K mg) (g : mg "_law_same" = some (.ref f)) (kp : PySem.W.keepIn K (.ref f) = true) (b : Binds K fd ["_law_one", "_law_other"] []) : ∀ n, L_same P w K mg base n
  | 0 => ⟨f, fd, ⟨fun _ _ _ _ h => h.elim, fun _ _ _ _ _ _ _ _ _ _ _ _ _ h => h.elim⟩, g, kp, b⟩
  | n + 1 => ⟨f, fd, step_same F T (ok_same F T g kp b n), g, kp, b⟩
end
end K05

namespace K05
open PySem PySem.Spec PyProof.Rows L2 Evl
/-! the law's rows -/
def rowV (r : Mk.Row) : List V := [.str (ofL r.1), .int r.2.1, .int r.2.2]
def RowsAt (H : Hp) (rs : List V) (L : List Mk.Row) : Prop := rs.length = L.length ∧ ∀ (i : Nat) (v : V) (r : Mk.Row), rs[i]? = some v → L[i]? = some r → ∃ a, v = .ref a ∧ H a = some (.tup (rowV r))
theorem RowsAt.ex {H H' : Hp} {rs : List V} {L : List Mk.Row} (h : RowsAt H rs L) (e : Ex H H') : RowsAt H' rs L := ⟨h.1, fun i v r h1 h2 => by
  obtain ⟨a, ha, hb⟩ := h.2 i v r h1 h2
  exact ⟨a, ha, e _ _ hb⟩⟩
theorem RowsAt.nil {H : Hp} : RowsAt H [] [] := ⟨rfl, fun i v r h => nomatch (show ([] : List V)[i]? = some v from h)⟩
theorem RowsAt.app {H : Hp} {rs rs2 : List V} {L L2 : List Mk.Row} (h : RowsAt H rs L) (h2 : RowsAt H rs2 L2) : RowsAt H (rs ++ rs2) (L ++ L2) := ⟨by rw [List.length_append, List.length_append, h.1, h2.1], fun i v r q1 q2 => by
  by_cases lt : i < rs.length
  · rw [List.getElem?_append_left lt] at q1
    rw [List.getElem?_append_left (by rw [← h.1]; exact lt)] at q2
    exact h.2 i v r q1 q2
  · rw [List.getElem?_append_right (by omega)] at q1
    rw [List.getElem?_append_right (by rw [← h.1]; omega), ← h.1] at q2
    exact h2.2 _ v r q1 q2⟩
theorem RowsAt.one {H : Hp} {a : Addr} {r : Mk.Row} (h : H a = some (.tup (rowV r))) : RowsAt H [.ref a] [r] := ⟨rfl, fun i v q h1 h2 => by
  cases i with
  | zero =>
    cases h1
    cases h2
    exact ⟨a, rfl, h⟩
  | succ i => simp at h1⟩
theorem RowsAt.at {H : Hp} {rs : List V} {L : List Mk.Row} (h : RowsAt H rs L) {i : Nat} {v : V} (hi : rs[i]? = some v) : ∃ (a : Addr) (r : Mk.Row), L[i]? = some r ∧ v = .ref a ∧ H a = some (.tup (rowV r)) := by
  have lt : i < L.length := by
    rw [← h.1]
    exact (List.getElem?_eq_some_iff.mp hi).1
  obtain ⟨a, h1, h2⟩ := h.2 i v L[i] hi (List.getElem?_eq_getElem lt)
  exact ⟨a, _, List.getElem?_eq_getElem lt, h1, h2⟩
/-- a list of rows at l -/
def LRows (H : Hp) (l : Addr) (L : List Mk.Row) : Prop := ∃ rs, H l = some (.lst rs) ∧ RowsAt H rs L
theorem LRows.ex {H H' : Hp} {l : Addr} {L : List Mk.Row} (h : LRows H l L) (e : Ex H H') : LRows H' l L := by
  obtain ⟨rs, h1, h2⟩ := h
  exact ⟨rs, e _ _ h1, h2.ex e⟩
def sp_rows : Sp := fun vs H Q _ => vs = [] ∧ ∀ p H2, H p = none → Ex H H2 → LRows H2 p (Mk.upto 5) → Q (.ref p) H2
theorem len_level : ∀ n, (Mk.level n).length = 2 ^ n
  | 0 => rfl
  | n + 1 => by
    show (Mk.longer (Mk.level n)).length = _
    unfold Mk.longer
    rw [List.length_flatMap]
    have : (List.map (fun r : Mk.Row => [(r.1 ++ [60], 2 * r.2.1 - 1, 2 * r.2.2), (r.1 ++ [62], 2 * r.2.1 + 1, 2 * r.2.2)].length) (Mk.level n)) = List.replicate (Mk.level n).length 2 := by
      rw [List.eq_replicate_iff]
      exact ⟨by rw [List.length_map], fun b hb => by
        obtain ⟨r, _, rfl⟩ := List.mem_map.mp hb
        rfl⟩
    rw [this, List.sum_replicate_nat, len_level n, Nat.pow_succ]
theorem lens5 : ∀ n ∈ List.range 6, (Mk.upto n).length ≤ 63 ∧ (Mk.level n).length ≤ 32 := by decide +kernel
theorem marks5 : ∀ n ∈ List.range 6, ∀ r ∈ Mk.level n, r.1.length ≤ 5 := by decide +kernel
section
variable {P : Program} {w : World} {K : PySem.W.Frag} {mg : Str → Option Value} {base : Heap} {f : Addr} {fd : FuncData}
theorem ok_rows (F : FnP K "_law_rows" s_l_rows f fd) (T : Txt K mg) : FnOk P w K mg base CX0 1 f fd [] sp_rows := by
  refine F.ok sc_l_rows (fun vs H Q E h => ?_) (fun cdv A outer s H vs Q E hr h => ?_)
  · obtain ⟨rfl, _⟩ := h
    rfl
  · obtain ⟨rfl, k⟩ := h
    refine ⟨_, PSs.nox (pss_cons (ps_set (i := 0) sc_l_rows.nd rfl (Or.inl rfl) (pe_lst (pa_cons (pe_tup (pa_cons pe_str (pa_cons pe_int (pa_cons pe_int pa_nil)))) pa_nil)))
      (pss_cons (ps_set (i := 1) sc_l_rows.nd rfl (Or.inl rfl) (pv 0))
      (pss_cons (ps_for PassesOwn.never rfl (pi_range1 (by rfl) T.b_range (pa_cons pe_int pa_nil)) (pg_name (i := 2) sc_l_rows.nd rfl (Or.inl rfl)) (pss_cons (ps_set (i := 3) sc_l_rows.nd rfl (Or.inl rfl) (pe_lst pa_nil))
        (pss_cons (ps_for PassesOwn.never rfl (pi_list (pv 1)) (pg_tup rfl (pgs_cons (pg_name (i := 4) sc_l_rows.nd rfl (Or.inl rfl)) (pgs_cons (pg_name (i := 5) sc_l_rows.nd rfl (Or.inl rfl)) (pgs_cons (pg_name (i := 6) sc_l_rows.nd rfl (Or.inl rfl)) pgs_nil)))) (pss_one (ps_set (i := 3) sc_l_rows.nd rfl (Or.inl rfl) (pe_op op_cat (pv 3) (pe_lst (pa_cons (pe_tup (pa_cons (pe_op op_add_str (pv 4) pe_str) (pa_cons (pe_op op_sub (pe_op op_mul pe_int (pv 5)) pe_int) (pa_cons (pe_op op_mul pe_int (pv 6)) pa_nil)))) (pa_cons (pe_tup (pa_cons (pe_op op_add_str (pv 4) pe_str) (pa_cons (pe_op op_add (pe_op op_mul pe_int (pv 5)) pe_int) (pa_cons (pe_op op_mul pe_int (pv 6)) pa_nil)))) pa_nil)))))))
        (pss_cons (ps_set (i := 1) sc_l_rows.nd rfl (Or.inl rfl) (pv 3))
        (pss_one (ps_set (i := 0) sc_l_rows.nd rfl (Or.inl rfl) (pe_op op_cat (pv 0) (pv 3))))))))
      (pss_one (ps_ret (pv 0)))))), ?_⟩
    refine q_set (x_lst (x_cons (Evl.EvU.go (eu_tup (ea_cons ev_c (ea_cons ev_c (ea_cons ev_c ea_nil))) (by show 3 ≤ 100000; decide)) fun t1 H1 ht1 e1 h1 => x_nil ⟨by show 1 ≤ sizeLine; decide, fun l1 hl1 => ?_⟩)))
    have e0 : Ex H (upd H1 l1 (.lst [.ref t1])) := e1.trans (Ex.new hl1)
    have r0 : LRows (upd H1 l1 (.lst [.ref t1])) l1 (Mk.level 0) := ⟨_, upd_same, RowsAt.one ((Ex.new hl1) _ _ h1)⟩
    have n0 : H l1 = none := fresh_back e1 hl1
    generalize upd H1 l1 (.lst [.ref t1]) = G at *
    refine q_asg (ev_var rfl) fun H2 e2 => ?_
    refine q_forR1 (n := 5) (ea_cons ev_c ea_nil) ⟨by decide, by decide⟩ (fun i σ' H' => Ex H H' ∧ ∃ (fa la : Addr) (v2 v3 v4 v5 v6 : Option V), σ' = [some (.ref fa), some (.ref la), v2, v3, v4, v5, v6] ∧ H fa = none ∧ LRows H' fa (Mk.upto i) ∧ LRows H' la (Mk.level i)) (fun H3 e3 => ⟨(e0.trans e2).trans e3, l1, l1, _, _, _, _, _, rfl, n0, r0.ex (e2.trans e3), r0.ex (e2.trans e3)⟩) ?_ ?_
    · rintro i σ' H' hi ⟨e, fa, la, v2, v3, v4, v5, v6, rfl, nfa, hfa, hla⟩
      have hi5 : i < 5 := by omega
      have b1 := lens5 i (List.mem_range.mpr (by omega))
      have b2 := lens5 (i + 1) (List.mem_range.mpr (by omega))
      have m1 := marks5 i (List.mem_range.mpr (by omega))
      obtain ⟨rs, hrs, hR⟩ := hla
      refine q_set (Evl.EvL.go (el_lst ea_nil (by show 0 ≤ 100000; decide)) fun lo H3 hlo e3 h3 => ?_)
      refine q_forT3 (K := K) (rs := rs) (ev_var rfl) (fun j σ' H' => Ex H3 H' ∧ ∃ (lo : Addr) (v4 v5 v6 : Option V), σ' = [some (.ref fa), some (.ref la), some (.int (i : Int)), some (.ref lo), v4, v5, v6] ∧ LRows H' lo (Mk.longer ((Mk.level i).take j)) ∧ j ≤ 32) (fun H4 e4 => ⟨e4, lo, _, _, _, rfl, ⟨[], e4 _ _ h3, RowsAt.nil⟩, by decide⟩) (fun j σ' H' hj ⟨e4, _⟩ => sq_of ((e3.trans e4) _ _ hrs)) ?_ ?_
      · rintro j v σ' H4 hj ⟨e4, lo, v4, v5, v6, rfl, hlo4, hj32⟩
        obtain ⟨ra, r, hr1, rfl, hr2⟩ := hR.at hj
        have hjl : j < (Mk.level i).length := (List.getElem?_eq_some_iff.mp hr1).1
        refine ⟨ra, _, _, _, rfl, (e3.trans e4) _ _ hr2, ?_⟩
        obtain ⟨ls, hls, hlR⟩ := hlo4
        have lls : ls.length ≤ 64 := by
          rw [hlR.1]
          unfold Mk.longer
          rw [List.length_flatMap]
          have : ((List.take j (Mk.level i)).map fun r : Mk.Row => [(r.1 ++ [60], 2 * r.2.1 - 1, 2 * r.2.2), (r.1 ++ [62], 2 * r.2.1 + 1, 2 * r.2.2)].length) = List.replicate (List.take j (Mk.level i)).length 2 := by
            rw [List.eq_replicate_iff]
            exact ⟨by rw [List.length_map], fun b hb => by
              obtain ⟨r, _, rfl⟩ := List.mem_map.mp hb
              rfl⟩
          rw [this, List.sum_replicate_nat, List.length_take]
          omega
        have mr := m1 r (List.mem_of_getElem? hr1)
        have cat : ∀ (c : Nat) {σ0 : L2.St} {H0 : Hp} (z : Str), z = ⟨#[c]⟩ → σ0[4]? = some (some (.str (ofL r.1))) → Ev (tOp (fun x y H Q => ∃ i j : Str, x = .str i ∧ y = .str j ∧ i.length + j.length ≤ sizeLine ∧ Q (.str (i ++ j)) H) (tVar 4) (tC (.str z))) σ0 H0 (.str (ofL (r.1 ++ [c]))) := fun c {σ0 H0} z hz hσ => by
          subst hz
          refine ev_op (ev_var hσ) ev_c fun H5 _ Q' q' => ⟨_, _, rfl, rfl, ?_, ?_⟩
          · show (ofL r.1).cps.size + 1 ≤ sizeLine
            rw [sizeLine_eq]
            simp [ofL]
            omega
          · have : ofL r.1 ++ (⟨#[c]⟩ : Str) = ofL (r.1 ++ [c]) := by
              show (⟨r.1.toArray ++ #[c]⟩ : Str) = ⟨(r.1 ++ [c]).toArray⟩
              simp
            rw [this]
            exact q' H5 (Ex.refl _)
        have cm : ∀ z : Int, CMul 2 z := fun z => .inl ⟨by decide, by decide⟩
        refine x_set (x_op (x_var rfl (x_lst (x_cons (Evl.EvU.go (eu_tup (ea_cons (cat 60 _ lt_sign rfl) (ea_cons (ev_sub (ev_mul ev_c (ev_var rfl) (cm _)) ev_c) (ea_cons (ev_mul ev_c (ev_var rfl) (cm _)) ea_nil))) (by show 3 ≤ 100000; decide)) fun p1 H5 hp1 e5 h5 => ?_)))))
        refine x_cons (Evl.EvU.go (eu_tup (ea_cons (cat 62 _ gt_sign rfl) (ea_cons (ev_add (ev_mul ev_c (ev_var rfl) (cm _)) ev_c) (ea_cons (ev_mul ev_c (ev_var rfl) (cm _)) ea_nil))) (by show 3 ≤ 100000; decide)) fun p2 H6 hp2 e6 h6 => x_nil ⟨by show 2 ≤ sizeLine; decide, fun p3 hp3 => ⟨lo, p3, ls, _, rfl, rfl, ?_, upd_same, ?_, fun p4 hp4 => ?_⟩⟩)
        · exact ((e5.trans e6).trans (Ex.new hp3)) _ _ hls
        · rw [sizeLine_eq]
          simp
          omega
        · have n4 := Ex.new (o := .lst (ls ++ [.ref p1, .ref p2])) hp4
          have e47 := ((e5.trans e6).trans (Ex.new hp3)).trans n4
          have e37 := e4.trans e47
          refine ⟨e37, p4, _, _, _, rfl, ⟨_, upd_same, ?_⟩, by omega⟩
          have tk : (Mk.level i).take (j + 1) = (Mk.level i).take j ++ [r] := by
            rw [List.take_succ, hr1]
            rfl
          have lg : Mk.longer ((Mk.level i).take (j + 1)) = Mk.longer ((Mk.level i).take j) ++ ([(r.1 ++ [60], 2 * r.2.1 - 1, 2 * r.2.2)] ++ [(r.1 ++ [62], 2 * r.2.1 + 1, 2 * r.2.2)]) := by
            rw [tk]
            unfold Mk.longer
            rw [List.flatMap_append]
            rfl
          rw [lg]
          exact (hlR.ex e47).app ((RowsAt.one (((e6.trans (Ex.new hp3)).trans n4) _ _ h5)).app (RowsAt.one (((Ex.new hp3).trans n4) _ _ h6)))
      · rintro σ' H4 ⟨e4, lo4, v4, v5, v6, rfl, hlo4, _⟩
        rw [hR.1, List.take_length] at hlo4
        refine q_asg (ev_var rfl) fun H5 e5 => ?_
        obtain ⟨fs, hfs, hfR⟩ := hfa
        obtain ⟨ls, hls, hlR⟩ := hlo4
        have lf : fs.length ≤ 63 := by
          rw [hfR.1]
          exact b1.1
        have ll : ls.length ≤ 32 := by
          rw [hlR.1]
          exact b2.2
        have e35 := (e3.trans e4).trans e5
        refine x_set (x_op (x_var rfl (x_var rfl ⟨fa, lo4, fs, ls, rfl, rfl, e35 _ _ hfs, e5 _ _ hls, ?_, fun p6 hp6 => ?_⟩)))
        · rw [sizeLine_eq]
          omega
        · have e6 := Ex.new (o := .lst (fs ++ ls)) hp6
          refine ⟨(e.trans e35).trans e6, p6, lo4, _, _, _, _, _, rfl, fresh_back (e.trans e35) hp6, ⟨_, upd_same, ?_⟩, ⟨ls, (e5.trans e6) _ _ hls, hlR.ex (e5.trans e6)⟩⟩
          exact (hfR.ex (e35.trans e6)).app (hlR.ex (e5.trans e6))
    · rintro σ' H' ⟨e, fa, la, v2, v3, v4, v5, v6, rfl, nfa, hfa, hla⟩
      exact s_ret (ev_var rfl) fun H3 e3 => k fa H3 nfa (e.trans e3) (hfa.ex e3)
end
end K05

namespace K05
open PySem PySem.Spec PyProof.Rows L2 Evl
def sp_good : Sp := fun vs H Q _ => ∃ t m : Int, vs = [.int t, .int m] ∧ ∀ H2, Ex H H2 → Q (.bl (Mk.good t m)) H2
def sp_refused (K : PySem.W.Frag) : Sp := fun vs H Q _ => ∃ (x y : V) (a b : Option Int), vs = [x, y] ∧ Ar K H x a ∧ Ar K H y b ∧ good2 a b = false ∧ Sm 3 H x x ∧ Sm 3 H y y ∧ ∀ H2, Ex H H2 → Q (.bl true) H2
def sp_right : Sp := fun vs H Q _ => ∃ (l : Addr) (t m : Int), vs = [.ref l, .int t, .int m] ∧ LRows H l (Mk.upto 5) ∧ ∀ H2, Ex H H2 → Q (.bl true) H2
section
variable {P : Program} {w : World} {K : PySem.W.Frag} {mg : Str → Option Value} {base : Heap} {f : Addr} {fd : FuncData}
theorem ok_good (F : FnP K "_law_is_good" s_l_is_good f fd) (T : Txt K mg) : FnOk P w K mg base CX0 1 f fd ["_law_top", "_law_many"] sp_good := by
  refine F.ok sc_l_is_good (fun vs H Q E h => ?_) (fun cdv A outer s H vs Q E hr h => ?_)
  · obtain ⟨t, m, rfl, _⟩ := h
    rfl
  · obtain ⟨t, m, rfl, k⟩ := h
    refine ⟨_, PSs.nox (pss_cons (ps_if (pt_cmpR op_eq (pv 1) pe_int (nomark _)) (pss_one (ps_ret (pe_cmpR op_eq (pv 0) pe_int (nomark _)))) pss_nil)
      (pss_one (ps_ret (pe_and (pe_chain op_le op_le pe_int (pv 1) pe_int) (pe_and (pe_cmpR op_eq (pe_op op_mod (pv 0) pe_int) pe_int (nomark _)) (pe_and (pe_cmpR op_lt (pe_callB call_abs (by rfl) T.b_abs (by decide +kernel) (pa_cons (pv 0) pa_nil)) (pe_op op_pow pe_int pe_int) (nomark _)) (pe_one (pe_cmpR op_lt (pe_callB call_abs (by rfl) T.b_abs (by decide +kernel) (pa_cons (pv 0) pa_nil)) (pe_ix ix_list (pe_lst (pa_cons pe_int (pa_cons pe_int (pa_cons pe_int (pa_cons pe_int (pa_cons pe_int (pa_cons pe_int pa_nil))))))) (pv 1) (fun _ _ => rfl)) (nomark _))))))))), ?_⟩
    refine q_when (et_test (ev_eqI (ev_var rfl) ev_c)) (fun hb H1 e1 => ?_) fun hb H1 e1 => ?_
    · have m0 : m = 0 := of_decide_eq_true hb
      refine s_ret (ev_eqI (ev_var rfl) ev_c) fun H2 e2 => ?_
      have := k H2 (e1.trans e2)
      subst m0
      exact this
    · have m0 : m ≠ 0 := of_decide_eq_false hb
      have chain : Ev (tChain (rI0 fun i j => V.bl (decide (i ≤ j))) (rI0 fun i j => V.bl (decide (i ≤ j))) (tC (V.int 1)) (tVar 1) (tC (V.int 5))) [some (.int t), some (.int m)] H1 (.bl (decide (1 ≤ m) && decide (m ≤ 5))) := fun H2 e2 Q' q' => ⟨.int m, rfl, 1, m, rfl, rfl, decide (1 ≤ m), rfl, by
        by_cases h1 : 1 ≤ m
        · rw [decide_eq_true h1, Bool.true_and] at q'
          rw [decide_eq_true h1]
          refine iteT ⟨m, 5, rfl, rfl, q' H2 (Ex.refl _)⟩
        · rw [decide_eq_false h1, Bool.false_and] at q'
          rw [decide_eq_false h1]
          exact iteF (q' H2 (Ex.refl _))⟩
      refine s_ret (ev_andV chain fun hc => ev_andV (ev_eqI (ev_mod (ev_var rfl) ev_c (by decide)) ev_c) fun _ => ev_andV (ev_lt (ev_cb (ea_cons (ev_var rfl) ea_nil) rc_abs) (ev_op ev_c ev_c (rv_I (show CPow 2 5 from ⟨by decide, by decide, by decide⟩)))) fun _ => (ev_lt (j := 2 ^ m.toNat) (ev_cb (ea_cons (ev_var rfl) ea_nil) rc_abs) ?_)) fun H2 e2 => ?_
      · rw [Bool.and_eq_true, decide_eq_true_eq, decide_eq_true_eq] at hc
        refine fun H2 e2 Q' q' => x_op (Evl.EvL.go (el_lst (ea_cons ev_c (ea_cons ev_c (ea_cons ev_c (ea_cons ev_c (ea_cons ev_c (ea_cons ev_c ea_nil)))))) (by show 6 ≤ 100000; decide)) fun l H3 hl e3 h3 => x_var rfl ⟨l, _, _, _, rfl, rfl, sq_of h3, ?_, q' H3 e3⟩)
        have hm : m = 1 ∨ m = 2 ∨ m = 3 ∨ m = 4 ∨ m = 5 := by omega
        rcases hm with rfl | rfl | rfl | rfl | rfl <;> rfl
      · have := k H2 (e1.trans e2)
        have ee : Mk.good t m = (decide (1 ≤ m) && decide (m ≤ 5) && (decide (t % 2 = 1) && (decide ((t.natAbs : Int) < 2 ^ (5 : Int).toNat) && decide ((t.natAbs : Int) < 2 ^ m.toNat)))) := by
          unfold Mk.good
          by_cases h1 : m < 0 ∨ 5 < m
          · rw [if_pos (by simpa using h1)]
            have : (decide (1 ≤ m) && decide (m ≤ 5)) = false := by
              rw [Bool.and_eq_false_iff, decide_eq_false_iff_not, decide_eq_false_iff_not]
              omega
            rw [this]
            rfl
          · rw [if_neg (by simpa using h1), if_neg m0]
            have hm : m = 1 ∨ m = 2 ∨ m = 3 ∨ m = 4 ∨ m = 5 := by omega
            rw [Bool.eq_iff_iff]
            simp only [Bool.and_eq_true, decide_eq_true_eq]
            have p5 : (2 : Int) ^ (5 : Int).toNat = 32 := by decide
            rw [p5]
            rcases hm with rfl | rfl | rfl | rfl | rfl
            · show _ ∧ t.natAbs < 2 ↔ (_ ∧ _) ∧ _ ∧ _ ∧ (t.natAbs : Int) < 2
              omega
            · show _ ∧ t.natAbs < 4 ↔ (_ ∧ _) ∧ _ ∧ _ ∧ (t.natAbs : Int) < 4
              omega
            · show _ ∧ t.natAbs < 8 ↔ (_ ∧ _) ∧ _ ∧ _ ∧ (t.natAbs : Int) < 8
              omega
            · show _ ∧ t.natAbs < 16 ↔ (_ ∧ _) ∧ _ ∧ _ ∧ (t.natAbs : Int) < 16
              omega
            · show _ ∧ t.natAbs < 32 ↔ (_ ∧ _) ∧ _ ∧ _ ∧ (t.natAbs : Int) < 32
              omega
        rw [ee] at this
        exact this
structure Mb (P : Program) (w : World) (K : PySem.W.Frag) (mg : Str → Option Value) (base : Heap) : Prop where
  ex : ∃ (fp : Addr) (fdP : FuncData), FnOk P w K mg base (L2.CX P w) 4 fp fdP ["top", "many"] (sp_marks K) ∧ mg "marks_by" = some (.ref fp) ∧ PySem.W.keepIn K (.ref fp) = true ∧ Binds K fdP ["top", "many"] []
theorem ok_refused (F : FnP K "_law_refused" s_l_refused f fd) (T : Txt K mg) (MB : Mb P w K mg base) (D_l_kind : Dn P w K mg base 1 "_law_kind" ["_law_e"] (sp_kind K)) (D_l_same : L_same P w K mg base 5) : FnOk P w K mg base CX0 6 f fd ["_law_top", "_law_many"] (sp_refused K) := by
  obtain ⟨fp, fdP, G_marks, g_marks, k_marks, b_marks⟩ := MB.ex
  refine F.ok sc_l_refused (fun vs H Q E h => ?_) (fun cdv A outer s H vs Q E hr h => ?_)
  · obtain ⟨x, y, a, b, rfl, _⟩ := h
    rfl
  · obtain ⟨x, y, a, b, rfl, hx, hy, hg, sx, sy, k⟩ := h
    refine ⟨_, PSs.nox (pss_cons (ps_set (i := 2) sc_l_refused.nd rfl (Or.inl rfl) pe_non)
      (pss_cons (ps_try_hold (i := 3) (tb := fun W => tDrop (tCallS (sp_marks K) (WE W) (tCons (tVar 0) (tCons (tVar 1) tNil)))) (ts := fun _ _ _ => tAsg (tVar 3) (gName 2)) (Wo := fun _ _ _ _ => False) rfl rfl rfl sc_l_refused.nd rfl rfl ⟨rfl, by decide, Or.inl T.g_RoseError⟩ takes0 (fun W pn xe tk _ => pss_one (ps_expr (by exact (pe_callS G_marks (hr.mono (by decide)) (by rfl) g_marks k_marks b_marks (fun σ => passAt tk σ) (by exact (pa_cons (pv 0) (pa_cons (pv 1) pa_nil))))))) (fun a oe cls d pn hz hf => pss_one (ps_set (i := 2) sc_l_refused.nd rfl (Or.inl rfl) (pv 3))))
      (pss_one (ps_ret (pe_and (pe_cmpR op_notN (pv 2) pe_non (nomark _)) (pe_and (pe_cmpR op_eq (pe_cd D_l_kind (hr.mono (by decide)) (by rfl) (pa_cons (pv 2) pa_nil)) pe_int (nomark _)) (pe_one (pe_cd D_l_same (hr.mono (by decide)) (by rfl) (pa_cons (pe_xk (pv 2)) (pa_cons (pe_tup (pa_cons (pv 0) (pa_cons (pv 1) pa_nil))) pa_nil)))))))))), ?_⟩
    refine q_asg ev_c fun H1 e1 => ?_
    refine ⟨x, rfl, y, rfl, x, y, a, b, rfl, hx.ex e1, hy.ex e1, fun _ H2 tp d e2 htp hd => ⟨true, T.exm, fun _ ae ha => ⟨.ref ae, rfl, ?_⟩, fun q => Bool.noConfusion q⟩, fun t m ha hb hgd => ?_⟩
    · have nda : d ≠ ae := fun q => by
        rw [← q, upd_same] at ha
        cases ha
      have xa : ExcAt (upd (upd H2 d (.xd [("thing", .ref tp)])) ae (exk ae (.ref (He.ga K "NoStep")) (some d))) ae (He.ga K "NoStep") d [("thing", .ref tp)] := ⟨upd_same, by rw [upd_ne nda, upd_same]⟩
      have eG : Ex H (upd (upd H2 d (.xd [("thing", .ref tp)])) ae (exk ae (.ref (He.ga K "NoStep")) (some d))) := ((e1.trans e2).trans (Ex.new hd)).trans (Ex.new ha)
      have tpG : upd (upd H2 d (.xd [("thing", .ref tp)])) ae (exk ae (.ref (He.ga K "NoStep")) (some d)) tp = some (.tup [x, y]) := ((Ex.new hd).trans (Ex.new ha)) _ _ htp
      dsimp only [gName]
      generalize upd (upd H2 d (.xd [("thing", .ref tp)])) ae (exk ae (.ref (He.ga K "NoStep")) (some d)) = G at xa eG tpG
      have isn : Ev (tOp (fun x y H Q => y = V.non ∧ Q (V.bl !decide (x = V.non)) H) (tVar 2) (tC V.non)) [some x, some y, some (.ref ae), none] G (.bl true) := fun H3 _ Q' q' => ⟨_, rfl, rfl, q' H3 (Ex.refl _)⟩
      have kd : Ev (tOp rEq (tCall (sp_kind K) [] E0 (tCons (tVar 2) tNil)) (tC (.int 2))) [some x, some y, some (.ref ae), none] G (.bl true) := ev_eqI (i := 2) (j := 2) (ev_call (ea_cons (ev_var rfl) ea_nil) fun H3 e3 Q' q' E' => ⟨ae, d, _, rfl, xa.ex e3, q'⟩) ev_c
      have sm : Ev (tCall (spS K 5) [] E0 (tCons (tXk K (tVar 2) "thing") (tCons (tTup (tCons (tVar 0) (tCons (tVar 1) tNil))) tNil))) [some x, some y, some (.ref ae), none] G (.bl true) := fun H3 e3 Q' q' => by
        refine x_call (x_cons (Evl.Ev.go (ev_xk (ev_var rfl) (xa.ex e3) T.xk T.noat (by simp [List.lookup])) fun H4 e4 => x_cons (Evl.EvU.go (eu_tup (ea_cons (ev_var rfl) (ea_cons (ev_var rfl) ea_nil)) (by show 2 ≤ 100000; decide)) fun tq H5 htq e5 h5 => x_nil ⟨.ref tp, .ref tq, rfl, ?_, fun H6 e6 => q' H6 ((e4.trans e5).trans e6)⟩)))
        have eA := ((eG.trans e3).trans e4).trans e5
        refine .inr ⟨tp, tq, [x, y], [x, y], rfl, rfl, .inl ⟨((e3.trans e4).trans e5) _ _ tpG, h5⟩, by show 2 ≤ 1000; decide, rfl, fun i u v hu hv => ?_⟩
        match i, hu, hv with
        | 0, hu, hv =>
          cases hu
          cases hv
          exact Sm.ex eA sx
        | 1, hu, hv =>
          cases hu
          cases hv
          exact Sm.ex eA sy
        | i + 2, hu, hv => simp at hu
      exact s_ret (v := .bl true) (ev_andV isn fun _ => ev_andV kd fun _ => sm) fun H3 e3 => k H3 (eG.trans e3)
    · subst ha hb
      rw [show good2 (some t) (some m) = Mk.good t m from rfl, hgd] at hg
      cases hg
end
end K05

namespace K05
open PySem PySem.Spec PyProof.Rows L2 Evl
def sp_marks0 : Sp := fun vs H Q _ => ∃ t m : Int, vs = [.int t, .int m] ∧ Mk.good t m = true ∧ ∀ H2, Ex H H2 → Q (.str (ofL (Mk.mk m.toNat t))) H2
abbrev M_marks (P : Program) (w : World) (K : PySem.W.Frag) (mg : Str → Option Value) (base : Heap) : Prop := Dn P w K mg base 4 "marks_by" ["top", "many"] sp_marks0
theorem marks_calm {P : Program} {w : World} {K : PySem.W.Frag} {mg : Str → Option Value} {base : Heap} (h : Mb P w K mg base) : M_marks P w K mg base := by
  obtain ⟨f, fd, F, g, kp, b⟩ := h.ex
  refine ⟨f, fd, FnOk.calm F fun vs H Q E h => ?_, g, kp, b⟩
  obtain ⟨t, m, rfl, hg, k⟩ := h
  refine ⟨.int t, .int m, some t, some m, rfl, .int t, .int m, fun q => ?_, fun t' m' h1 h2 _ => ?_⟩
  · rw [show good2 (some t) (some m) = Mk.good t m from rfl, hg] at q
    cases q
  · cases h1
    cases h2
    exact k
theorem ev_eqS {σ : L2.St} {H : Hp} {ta tb : TE} {z : Str} (ha : Ev ta σ H (.str z)) (hb : Ev tb σ H (.str z)) : Ev (tOp rEq ta tb) σ H (.bl true) := by
  have h := ev_op ha hb (rv_eq (x := .str z) (y := .str z) rfl)
  rw [decide_eq_true (show V.str z = V.str z from rfl)] at h
  exact h
theorem ev_neS {σ : L2.St} {H : Hp} {ta tb : TE} {z : Str} (ha : Ev ta σ H (.str z)) (hb : Ev tb σ H (.str z)) : Ev (tOp rNe ta tb) σ H (.bl false) := by
  have h := ev_op ha hb (rv_ne (x := .str z) (y := .str z) rfl)
  rw [decide_eq_true (show V.str z = V.str z from rfl)] at h
  exact h
theorem ofL_len (l : List Nat) : (ofL l).length = l.length := by simp [ofL, Str.length]
/-- what a comprehension gives, by the rows' list -/
theorem given_rows (L : List Mk.Row) (p : Mk.Row → Bool) : given L.length (fun i => match L[i]? with | some r => p r | none => false) (fun i => match L[i]? with | some r => V.str (ofL r.1) | none => .non) = ((L.filter p).map (·.1)).map fun l => V.str (ofL l) := by
  unfold given
  induction L with
  | nil => rfl
  | cons r t ih =>
    rw [List.length_cons, List.range_succ_eq_map, List.filter_cons, List.filter_map]
    have e1 : (fun i => match (r :: t)[i]? with | some r => p r | none => false) ∘ Nat.succ = fun i => match t[i]? with | some r => p r | none => false := rfl
    rw [e1]
    by_cases hp : p r = true
    · rw [if_pos (show (match (r :: t)[0]? with | some r => p r | none => false) = true from hp), List.filter_cons_of_pos hp, List.map_cons, List.map_map, List.map_cons, List.map_cons]
      congr 1
    · rw [if_neg (show ¬ (match (r :: t)[0]? with | some r => p r | none => false) = true from hp), List.filter_cons_of_neg hp, List.map_map]
      exact ih
section
variable {P : Program} {w : World} {K : PySem.W.Frag} {mg : Str → Option Value} {base : Heap} {f : Addr} {fd : FuncData}
abbrev L_refused (P : Program) (w : World) (K : PySem.W.Frag) (mg : Str → Option Value) (base : Heap) : Prop := Dn P w K mg base 6 "_law_refused" ["_law_top", "_law_many"] (sp_refused K)
theorem ok_right (F : FnP K "_law_right" s_l_right f fd) (T : Txt K mg) (D_l_is_good : Dn P w K mg base 1 "_law_is_good" ["_law_top", "_law_many"] sp_good) (D_l_refused : L_refused P w K mg base) (D_marks_by : M_marks P w K mg base) : FnOk P w K mg base CX0 7 f fd ["_law_rows_here", "_law_top", "_law_many"] sp_right := by
  refine F.ok sc_l_right (fun vs H Q E h => ?_) (fun cdv A outer s H vs Q E hr h => ?_)
  · obtain ⟨l, t, m, rfl, _⟩ := h
    rfl
  · obtain ⟨l, t, m, rfl, hl, k⟩ := h
    refine ⟨_, PSs.nox (pss_cons (ps_if (pt_not (pt_val (pe_cd D_l_is_good (hr.mono (by decide)) (by rfl) (pa_cons (pv 1) (pa_cons (pv 2) pa_nil))))) (pss_one (ps_ret (pe_cd D_l_refused (hr.mono (by decide)) (by rfl) (pa_cons (pv 1) (pa_cons (pv 2) pa_nil))))) pss_nil)
      (pss_cons (ps_setLc (i := 3) (own := [("_law_marks", 4), ("_law_one", 5), ("_law_bottom", 6)]) (g := (gTup K 3 (gCons (gName 4) (gCons (gName 5) (gCons (gName 6) gNil))))) (tt := _) rfl sc_l_right.nd rfl rfl (sw_true rfl rfl rfl rfl) (pi_list (pv 0)) (blkOk_by (own := [("_law_marks", 4), ("_law_one", 5), ("_law_bottom", 6)]) (N := ["_law_rows_here", "_law_top", "_law_many", "_law_due", "_law_marks", "_law_one", "_law_bottom"]) (sc := defScope s_l_right) (by decide +kernel)) (fun _ _ _ _ _ => (pg_tup rfl (pgs_cons (pg_name (i := 4) sc_l_right.nd rfl (Or.inl rfl)) (pgs_cons (pg_name (i := 5) sc_l_right.nd rfl (Or.inl rfl)) (pgs_cons (pg_name (i := 6) sc_l_right.nd rfl (Or.inl rfl)) pgs_nil))))) (fun _ _ _ _ _ => (pts_one (PW.pt (pw_and (pt_cmpR op_eq (pv 5) (pv 1) (nomark _)) (pw_and1 (pt_cmpR op_eq (pe_callB call_len_str (by rfl) T.b_len (by decide +kernel) (pa_cons (pv 4) pa_nil)) (pv 2) (nomark _))))))) (fun _ _ _ _ _ => (pv 4)))
      (pss_one (ps_ret (pe_and (pe_cmpR op_eq (pe_cd D_marks_by (hr.mono (by decide)) (by rfl) (pa_cons (pv 1) (pa_cons (pv 2) pa_nil))) (pe_ix ix_list (pv 3) pe_int (fun _ _ => rfl)) (nomark _)) (pe_one (pe_cmpR op_eq (pe_callB call_len_seq (by rfl) T.b_len (by decide +kernel) (pa_cons (pv 3) pa_nil)) pe_int (nomark _)))))))), ?_⟩
    have gd : Ev (tCall sp_good [] E0 (tCons (tVar 1) (tCons (tVar 2) tNil))) [some (.ref l), some (.int t), some (.int m), none, none, none, none] H (.bl (Mk.good t m)) := ev_call (ea_cons (ev_var rfl) (ea_cons (ev_var rfl) ea_nil)) fun H1 e Q' q E' => ⟨t, m, rfl, q⟩
    refine q_when (et_not (et_B gd)) (fun hb H1 e1 => ?_) fun hb H1 e1 => ?_
    · have g0 : Mk.good t m = false := by simpa using hb
      exact s_ret (v := .bl true) (ev_call (ea_cons (ev_var rfl) (ea_cons (ev_var rfl) ea_nil)) fun H2 e Q' q E' => ⟨.int t, .int m, some t, some m, rfl, .int t, .int m, g0, Sm.leaf ⟨rfl, .inr (.inr (.inl ⟨t, rfl⟩))⟩, Sm.leaf ⟨rfl, .inr (.inr (.inl ⟨m, rfl⟩))⟩, q⟩) fun H2 e2 => k H2 (e1.trans e2)
    · have g0 : Mk.good t m = true := by simpa using hb
      obtain ⟨rs, hrs, hR⟩ := hl.ex e1
      let pr : Mk.Row → Bool := fun r => decide (r.2.1 = t) && decide ((r.1.length : Int) = m)
      have hpr : ∀ r, pr r = (decide (r.2.1 = t) && decide ((r.1.length : Int) = m)) := fun _ => rfl
      clear_value pr
      have L : EvL (tLc (iList K (tVar 0)) (gTup K 3 (gCons (gName 4) (gCons (gName 5) (gCons (gName 6) gNil)))) (tAnd (tTest (tOp rEq (tVar 5) (tVar 1))) (tTest (tOp rEq (tCB (fun xs H Q => ∃ z : Str, xs = [V.str z] ∧ z.length ≤ sizeLine ∧ Q (V.int z.length) H) (tCons (tVar 4) tNil)) (tVar 2)))) (tVar 4) [4, 5, 6]) [some (.ref l), some (.int t), some (.int m), none, none, none, none] H1 ((((Mk.upto 5).filter pr).map (·.1)).map fun l => V.str (ofL l)) := by
        rw [← given_rows, ← hR.1]
        refine el_lcT3 (rs := rs) _ _ (ev_var rfl) (sq_of hrs) (by rw [hR.1, Mk.rows_len]; decide) (fun _ _ _ => rfl) fun i u hi => ?_
        obtain ⟨a, r, hr1, rfl, hr2⟩ := hR.at hi
        refine ⟨a, _, _, _, rfl, hr2, fun H2 e2 => ?_⟩
        have rok := List.all_eq_true.mp Mk.rows_ok r (List.mem_of_getElem? hr1)
        have r5 : r.1.length ≤ 5 := by
          unfold Mk.lowOk at rok
          simp only [Bool.and_eq_true, decide_eq_true_eq] at rok
          exact rok.2.2.2.2.2.2.1
        rw [hr1]
        refine ⟨?_, fun _ => ev_var rfl⟩
        show EvT _ _ H2 (pr r)
        rw [hpr]
        refine et_and (et_test (ev_eqI (ev_var rfl) (ev_var rfl))) fun _ => et_test (ev_eqI (ev_cb (ea_cons (ev_var rfl) ea_nil) fun H3 _ Q' q' => ⟨ofL r.1, rfl, sz_of (by rw [ofL_len]; omega), ?_⟩) (ev_var rfl))
        rw [ofL_len]
        exact q' H3 (Ex.refl _)
      have due := Mk.due_one g0
      have fe : (Mk.upto 5).filter pr = (Mk.upto 5).filter fun r => decide (r.2.1 = t) && decide ((r.1.length : Int) = m) := List.filter_congr fun r _ => hpr r
      rw [fe, due] at L
      refine q_set (Evl.EvL.go L fun q H2 hq e2 h2 => ?_)
      have mv : Ev (tCall sp_marks0 [] E0 (tCons (tVar 1) (tCons (tVar 2) tNil))) [some (.ref l), some (.int t), some (.int m), some (.ref q), none, none, none] H2 (.str (ofL (Mk.mk m.toNat t))) := ev_call (ea_cons (ev_var rfl) (ea_cons (ev_var rfl) ea_nil)) fun H3 e Q' q' E' => ⟨t, m, rfl, g0, q'⟩
      refine s_ret (v := .bl true) (ev_andV (ev_eqS mv (ev_op (ev_var rfl) ev_c (rv_ixL (sq_of h2) rfl))) fun _ => ev_eqI (i := 1) (j := 1) (ev_cb (ea_cons (ev_var rfl) ea_nil) fun H3 e3 Q' q' => ⟨q, _, rfl, .inl (sq_of (e3 _ _ h2)), q' H3 (Ex.refl _)⟩) ev_c) fun H3 e3 => k H3 ((e1.trans e2).trans e3)
end
end K05

namespace K05
open PySem PySem.Spec PyProof.Rows L2 Evl
/-! things that are no whole numbers, alike with themselves -/
def Od (K : PySem.W.Frag) (H : Hp) (v : V) : Prop := Ar K H v none ∧ Sm 3 H v v
theorem Od.ex {K : PySem.W.Frag} {H H' : Hp} {v : V} (h : Od K H v) (e : Ex H H') : Od K H' v := ⟨h.1.ex e, Sm.ex e h.2⟩
section
variable {K : PySem.W.Frag} {σ : L2.St} {H H' : Hp} {te : TE} {tA : TA} {Q : VK}
def EvG (K : PySem.W.Frag) (te : TE) (σ : L2.St) (H : Hp) : Prop := ∀ H1, Ex H H1 → ∀ Q : VK, (∀ v H2, Ex H1 H2 → Od K H2 v → Q v H2) → te σ H1 Q
def EvGA (K : PySem.W.Frag) (tA : TA) (σ : L2.St) (H : Hp) (n : Nat) : Prop := ∀ H1, Ex H H1 → ∀ Q : List V → Hp → Prop, (∀ vs H2, Ex H1 H2 → vs.length = n → (∀ v ∈ vs, Od K H2 v) → Q vs H2) → tA σ H1 Q
theorem EvGA.go {n : Nat} {QA : List V → Hp → Prop} (h : EvGA K tA σ H n) (k : ∀ vs H2, Ex H H2 → vs.length = n → (∀ v ∈ vs, Od K H2 v) → QA vs H2) : tA σ H QA := h H (Ex.refl _) _ k
theorem eg_nil : EvGA K tNil σ H 0 := fun H1 _ Q q => q [] H1 (Ex.refl _) rfl fun v hv => nomatch hv
theorem eg_cons {n : Nat} (h : EvG K te σ H) (h2 : EvGA K tA σ H n) : EvGA K (tCons te tA) σ H (n + 1) := fun H1 e Q q =>
  h H1 e _ fun v H2 e2 hv => h2 H2 (e.trans e2) _ fun vs H3 e3 hl hs => q (v :: vs) H3 (e2.trans e3) (by rw [List.length_cons, hl]) fun u hu => by
    rcases List.mem_cons.mp hu with rfl | hu
    · exact hv.ex e3
    · exact hs u hu
theorem wh_no {v : V} {a : String} (hx : ∀ H1, Ex H H1 → TyX K H1 v (.type a)) {bi bb : Bool} (h1 : kitB a "int" = some bi) (h2 : kitB a "bool" = some bb) (h : (bi && !bb) = false) : Ar K H v none := .odd v ⟨.type a, bi, bb, hx, kit_ty h1, kit_ty h2, h.symm⟩
theorem lf_i {i : Int} {n : Nat} : Sm n H (.int i) (.int i) := Sm.leaf ⟨rfl, .inr (.inr (.inl ⟨i, rfl⟩))⟩
theorem od_non : Od K H .non := ⟨wh_no (bi := false) (bb := false) (fun _ _ => .base .non) (by decide +kernel) (by decide +kernel) rfl, Sm.leaf ⟨rfl, .inl rfl⟩⟩
theorem od_str {z : Str} : Od K H (.str z) := ⟨wh_no (bi := false) (bb := false) (fun _ _ => .base (.str z)) (by decide +kernel) (by decide +kernel) rfl, Sm.leaf ⟨rfl, .inr (.inr (.inr (.inl ⟨z, rfl⟩)))⟩⟩
theorem od_bl {b : Bool} : Od K H (.bl b) := ⟨wh_no (bi := true) (bb := true) (fun _ _ => .base (.bl b)) (by decide +kernel) (by decide +kernel) rfl, Sm.leaf ⟨rfl, .inr (.inl ⟨b, rfl⟩)⟩⟩
theorem od_dict {a : Addr} (h : H a = some (.dK [])) : Od K H (.ref a) := ⟨wh_no (bi := false) (bb := false) (fun _ e => .base (.dK (e _ _ h))) (by decide +kernel) (by decide +kernel) rfl, Sm.leaf ⟨rfl, .inr (.inr (.inr (.inr ⟨a, rfl, h⟩)))⟩⟩
theorem sm_lst {a : Addr} {xs : List V} {n : Nat} (h : H a = some (.lst xs)) (hl : xs.length ≤ 1000) (hs : ∀ x ∈ xs, Sm n H x x) : Sm (n + 1) H (.ref a) (.ref a) := .inr ⟨a, a, xs, xs, rfl, rfl, .inr ⟨h, h⟩, hl, rfl, fun i u v hu hv => by
  rw [hu] at hv
  cases hv
  exact hs u (List.mem_of_getElem? hu)⟩
theorem sm_tup {a : Addr} {xs : List V} {n : Nat} (h : H a = some (.tup xs)) (hl : xs.length ≤ 1000) (hs : ∀ x ∈ xs, Sm n H x x) : Sm (n + 1) H (.ref a) (.ref a) := .inr ⟨a, a, xs, xs, rfl, rfl, .inl ⟨h, h⟩, hl, rfl, fun i u v hu hv => by
  rw [hu] at hv
  cases hv
  exact hs u (List.mem_of_getElem? hu)⟩
theorem od_lst {a : Addr} {xs : List V} (h : H a = some (.lst xs)) (hl : xs.length ≤ 1000) (hs : ∀ x ∈ xs, Sm 2 H x x) : Od K H (.ref a) := ⟨wh_no (bi := false) (bb := false) (fun _ e => .base (.lst (e _ _ h))) (by decide +kernel) (by decide +kernel) rfl, sm_lst h hl hs⟩
theorem od_tup {a : Addr} {xs : List V} (h : H a = some (.tup xs)) (hl : xs.length ≤ 1000) (hs : ∀ x ∈ xs, Sm 2 H x x) : Od K H (.ref a) := ⟨wh_no (bi := false) (bb := false) (fun _ e => .base (.tup (e _ _ h))) (by decide +kernel) (by decide +kernel) rfl, sm_tup h hl hs⟩
theorem eg_c {v : V} (h : ∀ H1, Od K H1 v) : EvG K (tC v) σ H := fun H1 _ Q q => q v H1 (Ex.refl _) (h H1)
theorem eg_ints {ns : List Int} (h : EvL te σ H (ns.map V.int)) (hl : ns.length ≤ 1000) : EvG K te σ H := fun H1 e Q q => h H1 e _ fun p H2 _ e2 h2 => q _ _ e2 (od_lst h2 (by rw [List.length_map]; exact hl) fun x hx => by
  obtain ⟨i, _, rfl⟩ := List.mem_map.mp hx
  exact lf_i)
theorem eg_intsT {ns : List Int} (h : EvU te σ H (ns.map V.int)) (hl : ns.length ≤ 1000) : EvG K te σ H := fun H1 e Q q => h H1 e _ fun p H2 _ e2 h2 => q _ _ e2 (od_tup h2 (by rw [List.length_map]; exact hl) fun x hx => by
  obtain ⟨i, _, rfl⟩ := List.mem_map.mp hx
  exact lf_i)
theorem eg_dict : EvG K tDNewK σ H := fun H1 e Q q p hp => q _ _ (Ex.new hp) (od_dict upd_same)
theorem eg_deep : EvG K (tTup (tCons (tLst tNil) tNil)) σ H := fun H1 e Q q => x_tup (x_cons (Evl.EvL.go (el_lst ea_nil (by show 0 ≤ 100000; decide)) fun p H2 hp e2 h2 => x_nil ⟨by show 1 ≤ sizeLine; decide, fun r hr => q _ _ (e2.trans (Ex.new hr)) (od_tup upd_same (by show 1 ≤ 1000; decide) fun x hx => by
  rw [List.mem_singleton.mp hx]
  exact sm_lst (n := 1) ((Ex.new hr) _ _ h2) (by show 0 ≤ 1000; decide) fun y hy => nomatch hy)⟩))
end
def sp_law (K : PySem.W.Frag) : Sp := fun vs H Q _ => ∃ (a : Addr) (ns : List Int), vs = [.ref a] ∧ SqL K H a (ns.map V.int) ∧ ns.length ≤ 63 ∧ ∀ H', Q (.bl true) H'
section
variable {P : Program} {w : World} {K : PySem.W.Frag} {mg : Str → Option Value} {base : Heap} {f : Addr} {fd : FuncData}
theorem at_l {L : List V} {j : Int} (h0 : 0 ≤ j) (h1 : j < L.length) : ∃ v ∈ L, atI L j = some v := by
  obtain ⟨n, rfl⟩ := Int.eq_ofNat_of_zero_le h0
  have hn : n < L.length := by omega
  exact ⟨L[n], List.getElem_mem hn, atI_nat (List.getElem?_eq_getElem hn)⟩
theorem ok_law (F : FnP K "law" s_law f fd) (T : Txt K mg) (D_step_of : Dn P w K mg base 1 "step_of" ["marks"] sp_step) (D_marks_by : M_marks P w K mg base) (D_l_same : L_same P w K mg base 5) (D_l_low : Dn P w K mg base 1 "_law_low" ["_law_top", "_law_bottom"] sp_low)
    (D_l_rows : Dn P w K mg base 1 "_law_rows" [] sp_rows) (D_l_cell : Dn P w K mg base 1 "_law_cell" ["_law_script", "_law_k"] (sp_cell K)) (D_l_pool : Dn P w K mg base 1 "_law_pool" ["_law_cell_here"] sp_pool) (D_l_take : L_take P w K mg base) (D_l_number : L_number P w K mg base)
    (D_l_right : Dn P w K mg base 7 "_law_right" ["_law_rows_here", "_law_top", "_law_many"] sp_right) (D_l_refused : L_refused P w K mg base) :
    FnOk P w K mg base CX0 8 f fd ["_law_script"] (sp_law K) := by
  refine F.ok sc_law (fun vs H Q E h => ?_) (fun cdv A outer s H vs Q E hr h => ?_)
  · obtain ⟨a, ns, rfl, _⟩ := h
    rfl
  · obtain ⟨l, ns, rfl, hs, hlen, k⟩ := h
    refine ⟨_, PSs.nox (pss_cons (ps_set (i := 1) sc_law.nd rfl (Or.inl rfl) (pe_cd0 D_l_rows (hr.mono (by decide)) (by rfl)))
      (pss_cons (ps_for PassesOwn.never rfl (pi_list (pv 1)) (pg_tup rfl (pgs_cons (pg_name (i := 2) sc_law.nd rfl (Or.inl rfl)) (pgs_cons (pg_name (i := 3) sc_law.nd rfl (Or.inl rfl)) (pgs_cons (pg_name (i := 4) sc_law.nd rfl (Or.inl rfl)) pgs_nil)))) (pss_one (ps_if (PW.pt (pw_or (pt_not (pt_val (pe_cd D_l_same (hr.mono (by decide)) (by rfl) (pa_cons (pe_cd D_step_of (hr.mono (by decide)) (by rfl) (pa_cons (pv 2) pa_nil)) (pa_cons (pe_cd D_l_low (hr.mono (by decide)) (by rfl) (pa_cons (pv 3) (pa_cons (pv 4) pa_nil))) pa_nil))))) (pw_or1 (pt_cmpR op_ne (pe_cd D_marks_by (hr.mono (by decide)) (by rfl) (pa_cons (pv 3) (pa_cons (pe_callB call_len_str (by rfl) T.b_len (by decide +kernel) (pa_cons (pv 2) pa_nil)) pa_nil))) (pv 2) (nomark _))))) (pss_one (ps_ret pe_bl)) pss_nil)))
      (pss_cons (ps_set (i := 5) sc_law.nd rfl (Or.inl rfl) (pe_lst (pa_cons pe_non (pa_cons pe_str (pa_cons pe_str (pa_cons pe_bl (pa_cons pe_bl (pa_cons (pe_lst pa_nil) (pa_cons (pe_lst (pa_cons pe_int pa_nil)) (pa_cons pe_dnewK (pa_cons (pe_tup (pa_cons pe_int pa_nil)) (pa_cons (pe_tup (pa_cons (pe_lst pa_nil) pa_nil)) (pa_cons (pe_tup (pa_cons pe_int (pa_cons pe_int pa_nil))) pa_nil)))))))))))))
      (pss_cons (ps_for PassesOwn.never rfl (pi_range1 (by rfl) T.b_range (pa_cons (pe_callB (call_max2 rfl) (by rfl) T.b_max (by decide +kernel) (pa_cons pe_int (pa_cons (pe_callB (call_min2 rfl) (by rfl) T.b_min (by decide +kernel) (pa_cons (pe_callB call_len_seq (by rfl) T.b_len (by decide +kernel) (pa_cons (pv 0) pa_nil)) (pa_cons pe_int pa_nil))) pa_nil))) pa_nil)) (pg_name (i := 6) sc_law.nd rfl (Or.inl rfl)) (pss_cons (ps_set (i := 7) sc_law.nd rfl (Or.inl rfl) (pe_cd D_l_pool (hr.mono (by decide)) (by rfl) (pa_cons (pe_cd D_l_cell (hr.mono (by decide)) (by rfl) (pa_cons (pv 0) (pa_cons (pv 6) pa_nil))) pa_nil)))
        (pss_cons (ps_set (i := 8) sc_law.nd rfl (Or.inl rfl) (pe_ix ix_list (pe_lst (pa_cons (pe_cd D_l_take (hr.mono (by decide)) (by rfl) (pa_cons (pv 7) (pa_cons pe_int pa_nil))) (pa_cons (pe_op op_sub (pe_cd D_l_take (hr.mono (by decide)) (by rfl) (pa_cons (pv 7) (pa_cons pe_int pa_nil))) pe_int) (pa_cons (pe_cd D_l_number (hr.mono (by decide)) (by rfl) (pa_cons (pv 7) pa_nil)) pa_nil)))) (pe_cd D_l_take (hr.mono (by decide)) (by rfl) (pa_cons (pv 7) (pa_cons pe_int pa_nil))) (fun _ _ => rfl)))
        (pss_cons (ps_set (i := 3) sc_law.nd rfl (Or.inl rfl) (pe_ix ix_list (pe_lst (pa_cons (pe_op op_sub (pe_cd D_l_take (hr.mono (by decide)) (by rfl) (pa_cons (pv 7) (pa_cons pe_int pa_nil))) pe_int) (pa_cons (pe_op op_sub (pe_cd D_l_take (hr.mono (by decide)) (by rfl) (pa_cons (pv 7) (pa_cons pe_int pa_nil))) pe_int) (pa_cons (pe_cd D_l_number (hr.mono (by decide)) (by rfl) (pa_cons (pv 7) pa_nil)) pa_nil)))) (pe_cd D_l_take (hr.mono (by decide)) (by rfl) (pa_cons (pv 7) (pa_cons pe_int pa_nil))) (fun _ _ => rfl)))
        (pss_cons (ps_if (pt_not (pt_val (pe_cd D_l_right (hr.mono (by decide)) (by rfl) (pa_cons (pv 1) (pa_cons (pv 3) (pa_cons (pv 8) pa_nil)))))) (pss_one (ps_ret pe_bl)) pss_nil)
        (pss_cons (ps_set (i := 9) sc_law.nd rfl (Or.inl rfl) (pe_ix ix_list (pv 5) (pe_cd D_l_take (hr.mono (by decide)) (by rfl) (pa_cons (pv 7) (pa_cons pe_int pa_nil))) (fun _ _ => rfl)))
        (pss_one (ps_if (PW.pt (pw_or (pt_not (pt_val (pe_cd D_l_refused (hr.mono (by decide)) (by rfl) (pa_cons (pv 9) (pa_cons (pv 8) pa_nil))))) (pw_or (pt_not (pt_val (pe_cd D_l_refused (hr.mono (by decide)) (by rfl) (pa_cons (pv 3) (pa_cons (pv 9) pa_nil))))) (pw_or1 (pt_not (pt_val (pe_cd D_l_refused (hr.mono (by decide)) (by rfl) (pa_cons (pv 9) (pa_cons (pv 9) pa_nil))))))))) (pss_one (ps_ret pe_bl)) pss_nil))))))))
      (pss_one (ps_ret pe_bl)))))), ?_⟩
    refine q_set (x_call (x_nil ⟨rfl, fun rw H1 hrw e1 hR => ?_⟩))
    obtain ⟨rs, hrs, hRA⟩ := id hR
    refine q_forT3 (K := K) (rs := rs) (ev_var rfl) (fun j σ' H' => Ex H1 H' ∧ ∃ v2 v3 v4, σ' = [some (.ref l), some (.ref rw), v2, v3, v4, none, none, none, none, none]) (fun H2 e2 => ⟨e2, _, _, _, rfl⟩) (fun j σ' H' hj ⟨e2, _⟩ => sq_of (e2 _ _ hrs)) ?_ ?_
    · rintro j v σ' H2 hj ⟨e2, v2, v3, v4, rfl⟩
      obtain ⟨ra, r, hr1, rfl, hr2⟩ := hRA.at hj
      refine ⟨ra, _, _, _, rfl, e2 _ _ hr2, ?_⟩
      have rok := List.all_eq_true.mp Mk.rows_ok r (List.mem_of_getElem? hr1)
      unfold Mk.lowOk at rok
      simp only [Bool.and_eq_true, decide_eq_true_eq] at rok
      obtain ⟨g1, g2, g3, g4, g5, g6, g7, g8⟩ := rok
      have sm : Ev (tCall (spS K 5) [] E0 (tCons (tCall sp_step [] E0 (tCons (tVar 2) tNil)) (tCons (tCall sp_low [] E0 (tCons (tVar 3) (tCons (tVar 4) tNil))) tNil))) [some (.ref l), some (.ref rw), some (.str (ofL r.1)), some (.int r.2.1), some (.int r.2.2), none, none, none, none, none] H2 (.bl true) := fun H3 e3 Q' q' => by
        refine x_call (x_cons (x_call (x_cons (x_var rfl (x_nil ⟨r.1, rfl, g7, fun p H4 hp e4 h4 => ?_⟩)))))
        refine x_cons (x_call (x_cons (x_var rfl (x_cons (x_var rfl (x_nil ⟨r.2.1, r.2.2, rfl, g3, g1, fun p2 H5 hp2 e5 h5 => ?_⟩))))))
        refine x_nil ⟨.ref p, .ref p2, rfl, ?_, fun H6 e6 => q' H6 ((e4.trans e5).trans e6)⟩
        refine .inr ⟨p, p2, _, _, rfl, rfl, .inl ⟨e5 _ _ h4, h5⟩, by show 2 ≤ 1000; decide, rfl, fun i u v hu hv => ?_⟩
        rw [g2] at hu
        match i, hu, hv with
        | 0, hu, hv =>
          cases hu
          cases hv
          exact lf_i
        | 1, hu, hv =>
          cases hu
          cases hv
          exact lf_i
        | i + 2, hu, hv => simp at hu
      have mk : Ev (tOp rNe (tCall sp_marks0 [] E0 (tCons (tVar 3) (tCons (tCB (fun xs H Q => ∃ z : Str, xs = [V.str z] ∧ z.length ≤ sizeLine ∧ Q (V.int z.length) H) (tCons (tVar 2) tNil)) tNil))) (tVar 2)) [some (.ref l), some (.ref rw), some (.str (ofL r.1)), some (.int r.2.1), some (.int r.2.2), none, none, none, none, none] H2 (.bl false) := by
        refine ev_neS (z := ofL r.1) (ev_call (vs := [.int r.2.1, .int (r.1.length : Int)]) (ea_cons (ev_var rfl) (ea_cons (ev_cb (ea_cons (ev_var rfl) ea_nil) fun H3 _ Q' q' => ⟨ofL r.1, rfl, sz_of (by rw [ofL_len]; omega), by rw [ofL_len]; exact q' H3 (Ex.refl _)⟩) ea_nil)) fun H3 e Q' q' E' => ⟨_, _, rfl, g5, ?_⟩) (ev_var rfl)
        rw [Int.toNat_natCast, g6]
        exact q'
      exact s_when (b := false) (et_or0 (et_not (et_B sm)) (et_test mk)) (fun hb => nomatch hb) fun _ H3 e3 => ⟨e2.trans e3, _, _, _, rfl⟩
    · rintro σ' H2 ⟨e2, v2, v3, v4, rfl⟩
      refine q_set (x_lst (EvGA.go (K := K) (n := 11) (eg_cons (eg_c fun _ => od_non) (eg_cons (eg_c fun _ => od_str) (eg_cons (eg_c fun _ => od_str) (eg_cons (eg_c fun _ => od_bl) (eg_cons (eg_c fun _ => od_bl) (eg_cons (eg_ints (ns := []) (el_lst ea_nil (by show 0 ≤ 100000; decide)) (by decide)) (eg_cons (eg_ints (ns := [1]) (el_lst (ea_cons ev_c ea_nil) (by show 1 ≤ 100000; decide)) (by decide)) (eg_cons eg_dict
        (eg_cons (eg_intsT (ns := [1]) (eu_tup (ea_cons ev_c ea_nil) (by show 1 ≤ 100000; decide)) (by decide)) (eg_cons eg_deep (eg_cons (eg_intsT (ns := [1, 2]) (eu_tup (ea_cons ev_c (ea_cons ev_c ea_nil)) (by show 2 ≤ 100000; decide)) (by decide)) eg_nil))))))))))) fun vs H3 e3 hvl hod => ⟨by rw [hvl]; decide, fun od hod3 => ?_⟩))
      have e04 : Ex H (upd H3 od (.lst vs)) := ((e1.trans e2).trans e3).trans (Ex.new hod3)
      have R4 : LRows (upd H3 od (.lst vs)) rw (Mk.upto 5) := hR.ex ((e2.trans e3).trans (Ex.new hod3))
      have O4 : ∀ v ∈ vs, Od K (upd H3 od (.lst vs)) v := fun v hv => (hod v hv).ex (Ex.new hod3)
      have h4 : upd H3 od (.lst vs) od = some (.lst vs) := upd_same
      generalize upd H3 od (.lst vs) = G at *
      have nlen : ((ns.map V.int).length : Int) ≤ 63 := by
        rw [List.length_map]
        omega
      have hsG := ex_l e04 hs
      obtain ⟨turns, tn, tb⟩ : ∃ turns : Int, Ev (tCB (fun xs H Q => ∃ i j, xs = [.int i, .int j] ∧ Q (.int (if j > i then j else i)) H) (tCons (tC (.int 1)) (tCons (tCB (fun xs H Q => ∃ i j, xs = [.int i, .int j] ∧ Q (.int (if j < i then j else i)) H) (tCons (tCB (fun xs H Q => ∃ p ys, xs = [.ref p] ∧ (SqL K H p ys ∨ SqT K H p ys) ∧ Q (.int (ys.length : Nat)) H) (tCons (tVar 0) tNil)) (tCons (tC (.int 12)) tNil))) tNil))) [some (.ref l), some (.ref rw), v2, v3, v4, some (.ref od), none, none, none, none] G (.int turns) ∧ 0 ≤ turns ∧ turns ≤ 20 := by
        refine ⟨_, ev_cb (ea_cons ev_c (ea_cons (ev_cb (ea_cons (ev_cb (ea_cons (ev_var rfl) ea_nil) (fun H1 e Q' q => ⟨l, _, rfl, .inl (ex_l e hsG), q H1 (Ex.refl _)⟩)) (ea_cons ev_c ea_nil)) fun H1 _ Q' q => ⟨_, _, rfl, q H1 (Ex.refl _)⟩) ea_nil)) fun H1 _ Q' q => ⟨_, _, rfl, q H1 (Ex.refl _)⟩, ?_⟩
        generalize ((ns.map V.int).length : Int) = n at nlen
        split <;> split <;> omega
      refine q_forR1 (n := turns) (ea_cons tn ea_nil) ⟨tb.1, by omega⟩ (fun i σ' H' => Ex G H' ∧ ∃ v2 v3 v4 v6 v7 v8 v9, σ' = [some (.ref l), some (.ref rw), v2, v3, v4, some (.ref od), v6, v7, v8, v9]) (fun H6 e6 => ⟨e6, _, _, _, _, _, _, _, rfl⟩) ?_ ?_
      · rintro i σ' H' hi ⟨e, v2, v3, v4, v6, v7, v8, v9, rfl⟩
        refine q_set (x_call (x_cons (x_call (x_cons (x_var rfl (x_cons (x_var rfl (x_nil ⟨l, ns, i, rfl, ex_l e hsG, by omega, fun c H5 e5 => ?_⟩))))))))
        refine x_nil ⟨c, rfl, fun p H6 hp6 e6 pp => ?_⟩
        have f6 : Ex G H6 := (e.trans e5).trans e6
        have np : G p = none := fresh_back (e.trans e5) hp6
        have pick : ∀ {r : Addr} {a b c d : Int} {H0 H2 : Hp}, H0 r = some (.lst [.int a, .int b, .int c]) → r ≠ p → 0 ≤ d → d < 3 → But p H0 H2 → ∃ v : Int, atI [V.int a, V.int b, V.int c] d = some (.int v) ∧ SqL K H2 r [.int a, .int b, .int c] := fun {r a b c d H0 H2} h0 ne d0 d1 bt => by
          have hd : d = 0 ∨ d = 1 ∨ d = 2 := by omega
          refine (?_ : ∃ v : Int, atI [V.int a, V.int b, V.int c] d = some (.int v)).imp fun v hv => ⟨hv, sq_of (bt _ _ ne h0)⟩
          rcases hd with rfl | rfl | rfl
          · exact ⟨a, rfl⟩
          · exact ⟨b, rfl⟩
          · exact ⟨c, rfl⟩
        -- many
        refine q_set (x_op (x_lst (x_cons (take_go rfl ev_c pp (by decide) (by decide) fun d1 H7 _ _ b7 p7 => x_cons (x_op (take_go rfl ev_c p7 (by decide) (by decide) fun d2 H8 _ _ b8 p8 => x_c ⟨_, _, rfl, rfl, ?_⟩))))))
        refine x_cons (number_go rfl p8 fun n3 H9 _ b9 p9 => x_nil ⟨by show 3 ≤ sizeLine; decide, fun r9 hr9 => ?_⟩)
        have p9' := pool_ex p9 (Ex.new (o := .lst [.int d1, .int (d2 - 2), .int n3]) hr9)
        refine take_go rfl ev_c p9' (by decide) (by decide) fun d4 H10 d40 d41 b10 p10 => ?_
        obtain ⟨m, hm, hsm⟩ := pick (H0 := upd H9 r9 (.lst [.int d1, .int (d2 - 2), .int n3])) upd_same (pool_ne p9 hr9) d40 d41 b10
        refine ⟨r9, _, _, _, rfl, rfl, hsm, hm, ?_⟩
        have B10 : But p G H10 := (((((But.ex f6).trans b7).trans b8).trans b9).trans (But.ex (Ex.new hr9))).trans b10
        -- top
        refine q_set (x_op (x_lst (x_cons (x_op (take_go rfl ev_c p10 (by decide) (by decide) fun d1 H11 _ _ b11 p11 => x_c ⟨_, _, rfl, rfl, x_cons (x_op (take_go rfl ev_c p11 (by decide) (by decide) fun d2 H12 _ _ b12 p12 => x_c ⟨_, _, rfl, rfl, ?_⟩))⟩)))))
        refine x_cons (number_go rfl p12 fun n3 H13 _ b13 p13 => x_nil ⟨by show 3 ≤ sizeLine; decide, fun r13 hr13 => ?_⟩)
        have p13' := pool_ex p13 (Ex.new (o := .lst [.int (d1 - 40), .int (d2 - 3), .int n3]) hr13)
        refine take_go rfl ev_c p13' (by decide) (by decide) fun d5 H14 d50 d51 b14 p14 => ?_
        obtain ⟨t, ht, hst⟩ := pick (H0 := upd H13 r13 (.lst [.int (d1 - 40), .int (d2 - 3), .int n3])) upd_same (pool_ne p13 hr13) d50 d51 b14
        refine ⟨r13, _, _, _, rfl, rfl, hst, ht, ?_⟩
        have B14 : But p G H14 := ((((B10.trans b11).trans b12).trans b13).trans (But.ex (Ex.new hr13))).trans b14
        have E14 : Ex G H14 := B14.new np
        have rg : ∀ {σ0 : L2.St}, σ0[1]? = some (some (.ref rw)) → σ0[3]? = some (some (.int t)) → σ0[8]? = some (some (.int m)) → Ev (tCall sp_right [] E0 (tCons (tVar 1) (tCons (tVar 3) (tCons (tVar 8) tNil)))) σ0 H14 (.bl true) := fun h1 h2 h3 => ev_call (ea_cons (ev_var h1) (ea_cons (ev_var h2) (ea_cons (ev_var h3) ea_nil))) fun H15 e15 Q' q' E' => ⟨rw, t, m, rfl, R4.ex (E14.trans e15), q'⟩
        refine q_when (b := false) (et_not (et_B (rg rfl rfl rfl))) (fun hb => nomatch hb) fun _ H15 e15 => ?_
        refine q_set (x_op (x_var rfl (take_go rfl ev_c (pool_ex p14 e15) (by decide) (by decide) fun d6 H16 d60 d61 b16 p16 => ?_)))
        have B16 : But p G H16 := (B14.trans (But.ex e15)).trans b16
        have E16 : Ex G H16 := B16.new np
        obtain ⟨th, hth, hat⟩ := at_l (L := vs) d60 (by rw [hvl]; exact d61)
        refine ⟨od, _, _, _, rfl, rfl, sq_of (E16 _ _ h4), hat, ?_⟩
        have O := (O4 th hth).ex E16
        have rf : ∀ {i j : Nat} {x y : V} {a b : Option Int} {σ0 : L2.St}, σ0[i]? = some (some x) → σ0[j]? = some (some y) → Ar K H16 x a → Ar K H16 y b → good2 a b = false → Sm 3 H16 x x → Sm 3 H16 y y → Ev (tCall (sp_refused K) [] E0 (tCons (tVar i) (tCons (tVar j) tNil))) σ0 H16 (.bl true) := fun h1 h2 ax ay hg sx sy => ev_call (ea_cons (ev_var h1) (ea_cons (ev_var h2) ea_nil)) fun H17 e17 Q' q' E' => ⟨_, _, _, _, rfl, ax.ex e17, ay.ex e17, hg, Sm.ex e17 sx, Sm.ex e17 sy, q'⟩
        exact s_when (b := false) (et_or0 (et_not (et_B (rf rfl rfl O.1 (.int m) rfl O.2 lf_i))) (et_or0 (et_not (et_B (rf rfl rfl (.int t) O.1 rfl lf_i O.2))) (et_not (et_B (rf rfl rfl O.1 O.1 rfl O.2 O.2))))) (fun hb => nomatch hb) fun _ H17 e17 => ⟨E16.trans e17, _, _, _, _, _, _, _, rfl⟩
      · rintro σ' H' ⟨e, v2, v3, v4, v6, v7, v8, v9, rfl⟩
        exact s_ret ev_c fun H1 e1 => k H1
end
end K05

namespace K05
open PySem PySem.Spec PyProof.Rows L2 Evl
theorem facts {P : Program} {w : World} {K : PySem.W.Frag} {h : Heap} {mg : Str → Option Value} {f : Addr} (X : K.In h) (G : h.Ns mainGlobals mg) (hfa : mg ("law" : Str) = some (.ref f)) (c : He.SaysD fa fn K) (cx : ex K = true) :
    ∃ fd : FuncData, (∀ (s : Shared) (v : Value), BindsTo s fd ⟨[v], []⟩ [("_law_script", v)]) ∧ ∀ base : Heap, K.In base → base.Ns mainGlobals mg → FnOk P w K mg base CX0 8 f fd ["_law_script"] (sp_law K) := by
  obtain ⟨c1, cx⟩ := He.ba cx
  obtain ⟨c2, cx⟩ := He.ba cx
  obtain ⟨c3, cx⟩ := He.ba cx
  obtain ⟨c4, c5⟩ := He.ba cx
  have T : Txt K mg := { b_isinstance := He.free_ok X G (c.fact 16 (f := .free "isinstance") rfl), b_int := He.free_ok X G (c.fact 17 (f := .free "int") rfl), b_bool := He.free_ok X G (c.fact 18 (f := .free "bool") rfl), b_abs := He.free_ok X G (c.fact 19 (f := .free "abs") rfl), b_len := He.free_ok X G (c.fact 20 (f := .free "len") rfl), b_divmod := He.free_ok X G (c.fact 21 (f := .free "divmod") rfl), b_range := He.free_ok X G (c.fact 22 (f := .free "range") rfl), b_max := He.free_ok X G (c.fact 23 (f := .free "max") rfl), b_min := He.free_ok X G (c.fact 24 (f := .free "min") rfl), b_tuple := He.free_ok X G (c.fact 25 (f := .free "tuple") rfl), b_list := He.free_ok X G (c.fact 26 (f := .free "list") rfl), b_zip := He.free_ok X G (c.fact 27 (f := .free "zip") rfl), b_all := He.free_ok X G (c.fact 28 (f := .free "all") rfl), b_ValueError := He.free_ok X G (c.fact 29 (f := .free "ValueError") rfl), g_RoseError := He.glo_ok X G (c.fact 30 (f := .glo "RoseError") rfl), g_NoStep := He.glo_ok X G (c.fact 31 (f := .glo "NoStep") rfl), g_NoTurn := He.glo_ok X G (c.fact 38 (f := .glo "NoTurn") rfl), g_NoName := He.glo_ok X G (c.fact 39 (f := .glo "NoName") rfl), g_NoRose := He.glo_ok X G (c.fact 40 (f := .glo "NoRose") rfl), g_NoText := He.glo_ok X G (c.fact 41 (f := .glo "NoText") rfl), g_NoWind := He.glo_ok X G (c.fact 42 (f := .glo "NoWind") rfl), g_NoPair := He.glo_ok X G (c.fact 43 (f := .glo "NoPair") rfl), g_NoRoom := He.glo_ok X G (c.fact 44 (f := .glo "NoRoom") rfl), g_NoWalk := He.glo_ok X G (c.fact 45 (f := .glo "NoWalk") rfl), g_NoRow := He.glo_ok X G (c.fact 46 (f := .glo "NoRow") rfl), g_LostError := He.glo_ok X G (c.fact 47 (f := .glo "LostError") rfl), g_NoDeed := He.glo_ok X G (c.fact 48 (f := .glo "NoDeed") rfl), g_NoSuch := He.glo_ok X G (c.fact 49 (f := .glo "NoSuch") rfl), g_NoWord := He.glo_ok X G (c.fact 50 (f := .glo "NoWord") rfl), g_ON := He.str_ok X G (c.fact 35 (f := .str "ON" ">") rfl), g_BACK := He.str_ok X G (c.fact 36 (f := .str "BACK" "<") rfl), g_MOST_MARKS := He.int_ok X G (c.fact 37 (f := .int "MOST_MARKS" 5) rfl), base := baseB_ok c3, oex := oexB_ok c2, xk := xkB_ok c1, noat := He.noat_ok (c.fact 32 (f := .noat "NoStep" "thing") rfl), mi := He.meth_ok (c.fact 33 (f := .meth "NoStep" "__init__") rfl), kit := c4, kv := of_decide_eq_true c5, exm := He.exm_ok (c.fact 34 (f := .exm "NoStep" "RoseError" true) rfl) }
  obtain ⟨fd_NoStep_init, F0_NoStep_init⟩ := c.def_ 0 (d := d_NoStep_init) rfl
  have F_NoStep_init : FnM K "__init__" "NoStep.__init__" s_NoStep_init (He.ma K (He.ga K "NoStep") "__init__") fd_NoStep_init := F0_NoStep_init
  have b_NoStep_init : Binds K fd_NoStep_init ["self", "thing"] [] := F_NoStep_init.bindsN fun _ _ _ _ _ _ us hl => match us, hl with | [_, _], _ => rfl
  obtain ⟨fd_is_whole, F0_is_whole⟩ := c.def_ 1 (d := d_is_whole) rfl
  have F_is_whole : FnP K "is_whole" s_is_whole (He.ga K "is_whole") fd_is_whole := F0_is_whole
  have g_is_whole := He.glo_ok X G (c.fact 0 (f := .glo "is_whole") rfl)
  have b_is_whole : Binds K fd_is_whole ["thing"] [] := F_is_whole.bindsN fun _ _ _ _ _ _ us hl => match us, hl with | [_], _ => rfl
  obtain ⟨fd_step_of, F0_step_of⟩ := c.def_ 2 (d := d_step_of) rfl
  have F_step_of : FnP K "step_of" s_step_of (He.ga K "step_of") fd_step_of := F0_step_of
  have g_step_of := He.glo_ok X G (c.fact 1 (f := .glo "step_of") rfl)
  have b_step_of : Binds K fd_step_of ["marks"] [] := F_step_of.bindsN fun _ _ _ _ _ _ us hl => match us, hl with | [_], _ => rfl
  obtain ⟨fd_marks_by, F0_marks_by⟩ := c.def_ 3 (d := d_marks_by) rfl
  have F_marks_by : FnP K "marks_by" s_marks_by (He.ga K "marks_by") fd_marks_by := F0_marks_by
  have g_marks_by := He.glo_ok X G (c.fact 2 (f := .glo "marks_by") rfl)
  have b_marks_by : Binds K fd_marks_by ["top", "many"] [] := F_marks_by.bindsN fun _ _ _ _ _ _ us hl => match us, hl with | [_, _], _ => rfl
  obtain ⟨fd_makes_marks, F0_makes_marks⟩ := c.def_ 4 (d := d_makes_marks) rfl
  have F_makes_marks : FnP K "makes_marks" s_makes_marks (He.ga K "makes_marks") fd_makes_marks := F0_makes_marks
  have g_makes_marks := He.glo_ok X G (c.fact 3 (f := .glo "makes_marks") rfl)
  have b_makes_marks : Binds K fd_makes_marks ["top", "many"] [] := F_makes_marks.bindsN fun _ _ _ _ _ _ us hl => match us, hl with | [_, _], _ => rfl
  obtain ⟨fd_l_cell, F0_l_cell⟩ := c.def_ 5 (d := d_l_cell) rfl
  have F_l_cell : FnP K "_law_cell" s_l_cell (He.ga K "_law_cell") fd_l_cell := F0_l_cell
  have g_l_cell := He.glo_ok X G (c.fact 4 (f := .glo "_law_cell") rfl)
  have b_l_cell : Binds K fd_l_cell ["_law_script", "_law_k"] [] := F_l_cell.bindsN fun _ _ _ _ _ _ us hl => match us, hl with | [_, _], _ => rfl
  obtain ⟨fd_l_pool, F0_l_pool⟩ := c.def_ 6 (d := d_l_pool) rfl
  have F_l_pool : FnP K "_law_pool" s_l_pool (He.ga K "_law_pool") fd_l_pool := F0_l_pool
  have g_l_pool := He.glo_ok X G (c.fact 5 (f := .glo "_law_pool") rfl)
  have b_l_pool : Binds K fd_l_pool ["_law_cell_here"] [] := F_l_pool.bindsN fun _ _ _ _ _ _ us hl => match us, hl with | [_], _ => rfl
  obtain ⟨fd_l_take, F0_l_take⟩ := c.def_ 7 (d := d_l_take) rfl
  have F_l_take : FnP K "_law_take" s_l_take (He.ga K "_law_take") fd_l_take := F0_l_take
  have g_l_take := He.glo_ok X G (c.fact 6 (f := .glo "_law_take") rfl)
  have b_l_take : Binds K fd_l_take ["_law_pool_here", "_law_many"] [] := F_l_take.bindsN fun _ _ _ _ _ _ us hl => match us, hl with | [_, _], _ => rfl
  obtain ⟨fd_l_low, F0_l_low⟩ := c.def_ 8 (d := d_l_low) rfl
  have F_l_low : FnP K "_law_low" s_l_low (He.ga K "_law_low") fd_l_low := F0_l_low
  have g_l_low := He.glo_ok X G (c.fact 7 (f := .glo "_law_low") rfl)
  have b_l_low : Binds K fd_l_low ["_law_top", "_law_bottom"] [] := F_l_low.bindsN fun _ _ _ _ _ _ us hl => match us, hl with | [_, _], _ => rfl
  obtain ⟨fd_l_number, F0_l_number⟩ := c.def_ 9 (d := d_l_number) rfl
  have F_l_number : FnP K "_law_number" s_l_number (He.ga K "_law_number") fd_l_number := F0_l_number
  have g_l_number := He.glo_ok X G (c.fact 8 (f := .glo "_law_number") rfl)
  have b_l_number : Binds K fd_l_number ["_law_pool_here"] [] := F_l_number.bindsN fun _ _ _ _ _ _ us hl => match us, hl with | [_], _ => rfl
  obtain ⟨fd_l_kind, F0_l_kind⟩ := c.def_ 10 (d := d_l_kind) rfl
  have F_l_kind : FnP K "_law_kind" s_l_kind (He.ga K "_law_kind") fd_l_kind := F0_l_kind
  have g_l_kind := He.glo_ok X G (c.fact 9 (f := .glo "_law_kind") rfl)
  have b_l_kind : Binds K fd_l_kind ["_law_e"] [] := F_l_kind.bindsN fun _ _ _ _ _ _ us hl => match us, hl with | [_], _ => rfl
  obtain ⟨fd_l_same, F0_l_same⟩ := c.def_ 11 (d := d_l_same) rfl
  have F_l_same : FnP K "_law_same" s_l_same (He.ga K "_law_same") fd_l_same := F0_l_same
  have g_l_same := He.glo_ok X G (c.fact 10 (f := .glo "_law_same") rfl)
  have b_l_same : Binds K fd_l_same ["_law_one", "_law_other"] [] := F_l_same.bindsN fun _ _ _ _ _ _ us hl => match us, hl with | [_, _], _ => rfl
  obtain ⟨fd_l_rows, F0_l_rows⟩ := c.def_ 12 (d := d_l_rows) rfl
  have F_l_rows : FnP K "_law_rows" s_l_rows (He.ga K "_law_rows") fd_l_rows := F0_l_rows
  have g_l_rows := He.glo_ok X G (c.fact 11 (f := .glo "_law_rows") rfl)
  have b_l_rows : Binds K fd_l_rows [] [] := F_l_rows.bindsN fun _ _ _ _ _ _ us hl => match us, hl with | [], _ => rfl
  obtain ⟨fd_l_refused, F0_l_refused⟩ := c.def_ 13 (d := d_l_refused) rfl
  have F_l_refused : FnP K "_law_refused" s_l_refused (He.ga K "_law_refused") fd_l_refused := F0_l_refused
  have g_l_refused := He.glo_ok X G (c.fact 12 (f := .glo "_law_refused") rfl)
  have b_l_refused : Binds K fd_l_refused ["_law_top", "_law_many"] [] := F_l_refused.bindsN fun _ _ _ _ _ _ us hl => match us, hl with | [_, _], _ => rfl
  obtain ⟨fd_l_is_good, F0_l_is_good⟩ := c.def_ 14 (d := d_l_is_good) rfl
  have F_l_is_good : FnP K "_law_is_good" s_l_is_good (He.ga K "_law_is_good") fd_l_is_good := F0_l_is_good
  have g_l_is_good := He.glo_ok X G (c.fact 13 (f := .glo "_law_is_good") rfl)
  have b_l_is_good : Binds K fd_l_is_good ["_law_top", "_law_many"] [] := F_l_is_good.bindsN fun _ _ _ _ _ _ us hl => match us, hl with | [_, _], _ => rfl
  obtain ⟨fd_l_right, F0_l_right⟩ := c.def_ 15 (d := d_l_right) rfl
  have F_l_right : FnP K "_law_right" s_l_right (He.ga K "_law_right") fd_l_right := F0_l_right
  have g_l_right := He.glo_ok X G (c.fact 14 (f := .glo "_law_right") rfl)
  have b_l_right : Binds K fd_l_right ["_law_rows_here", "_law_top", "_law_many"] [] := F_l_right.bindsN fun _ _ _ _ _ _ us hl => match us, hl with | [_, _, _], _ => rfl
  obtain ⟨fd_law, F0_law⟩ := c.def_ 16 (d := d_law) rfl
  have F_law : FnP K "law" s_law (He.ga K "law") fd_law := F0_law
  have g_law := He.glo_ok X G (c.fact 15 (f := .glo "law") rfl)
  have e := hfa.symm.trans g_law
  cases e
  have bl := FunD.bindsA (ps := ["_law_script"]) F_law fun _ _ _ _ _ _ us hl => match us, hl with | [_], _ => rfl
  refine ⟨fd_law, fun s v => bl s [v] rfl, fun base _ _ => ?_⟩
  have Dw : Dn P w K mg base 1 "is_whole" ["thing"] (sp_whole K) := ⟨_, _, ok_whole F_is_whole T, g_is_whole, F_is_whole.kp, b_is_whole⟩
  have Ds : Dn P w K mg base 1 "step_of" ["marks"] sp_step := ⟨_, _, ok_step F_step_of T, g_step_of, F_step_of.kp, b_step_of⟩
  have Dm : Dn P w K mg base 2 "makes_marks" ["top", "many"] (sp_makes K) := ⟨_, _, ok_makes F_makes_marks T Dw, g_makes_marks, F_makes_marks.kp, b_makes_marks⟩
  have Mb' : Mb P w K mg base := ⟨_, _, ok_marks F_marks_by T Dm (ok_init F_NoStep_init T) b_NoStep_init, g_marks_by, F_marks_by.kp, b_marks_by⟩
  have M0 : M_marks P w K mg base := marks_calm Mb'
  have Dc : Dn P w K mg base 1 "_law_cell" ["_law_script", "_law_k"] (sp_cell K) := ⟨_, _, ok_cell F_l_cell T, g_l_cell, F_l_cell.kp, b_l_cell⟩
  have Dp' : Dn P w K mg base 1 "_law_pool" ["_law_cell_here"] sp_pool := ⟨_, _, ok_pool F_l_pool T, g_l_pool, F_l_pool.kp, b_l_pool⟩
  have Dt : Dn P w K mg base 1 "_law_take" ["_law_pool_here", "_law_many"] sp_take := ⟨_, _, ok_take F_l_take T, g_l_take, F_l_take.kp, b_l_take⟩
  have Dl : Dn P w K mg base 1 "_law_low" ["_law_top", "_law_bottom"] sp_low := ⟨_, _, ok_low F_l_low T, g_l_low, F_l_low.kp, b_l_low⟩
  have Dn' : Dn P w K mg base 2 "_law_number" ["_law_pool_here"] sp_number := ⟨_, _, ok_number F_l_number T Dt, g_l_number, F_l_number.kp, b_l_number⟩
  have Dk : Dn P w K mg base 1 "_law_kind" ["_law_e"] (sp_kind K) := ⟨_, _, ok_kind F_l_kind T, g_l_kind, F_l_kind.kp, b_l_kind⟩
  have Dsm := ok_same (P := P) (w := w) (base := base) F_l_same T g_l_same F_l_same.kp b_l_same 5
  have Dr : Dn P w K mg base 1 "_law_rows" [] sp_rows := ⟨_, _, ok_rows F_l_rows T, g_l_rows, F_l_rows.kp, b_l_rows⟩
  have Drf : Dn P w K mg base 6 "_law_refused" ["_law_top", "_law_many"] (sp_refused K) := ⟨_, _, ok_refused F_l_refused T Mb' Dk Dsm, g_l_refused, F_l_refused.kp, b_l_refused⟩
  have Dg : Dn P w K mg base 1 "_law_is_good" ["_law_top", "_law_many"] sp_good := ⟨_, _, ok_good F_l_is_good T, g_l_is_good, F_l_is_good.kp, b_l_is_good⟩
  have Drt : Dn P w K mg base 7 "_law_right" ["_law_rows_here", "_law_top", "_law_many"] sp_right := ⟨_, _, ok_right F_l_right T Dg Drf M0, g_l_right, F_l_right.kp, b_l_right⟩
  exact ok_law F_law T Ds M0 Dsm Dl Dr Dc Dp' Dt Dn' Drt Drf
end K05
open PySem PySem.W PySem.Calls PyProof.Rows
set_option maxRecDepth 100000 in
set_option maxHeartbeats 0 in
theorem PySem.Challenge.cw_rosenames_k05_steps_of_marks_and_back_holds : PySem.Challenge.rw_rosenames_k05_steps_of_marks_and_back.Holds := by
  w_on; o_law
  refine HandSHeadRun.head_any (r := OpenLaw.row PySem.Challenge.rw_rosenames_k05_steps_of_marks_and_back) (q := view (OpenLaw.row PySem.Challenge.rw_rosenames_k05_steps_of_marks_and_back).prog [37]) (H := K05.hk) (ob := K05.ob) (M := 6000) (loose := K05.names) (d := HandSHeadRun.topDef (OpenLaw.row PySem.Challenge.rw_rosenames_k05_steps_of_marks_and_back).prog 37) (kwd := []) K05.ob_eq
    (by kernel_rfl) (fun s => by kernel_rfl) K05.run (by kernel_rfl) (by kernel_rfl) (by kernel_rfl) (by rfl) (by first | assumption | decide +kernel) (by decide +kernel) ⟨rfl, rfl, rfl, rfl, rfl, by decide +kernel⟩ ?hw ?hc
  case hw => w_witness2
  case hc =>
    refine L2.walk_ofE (l := PySem.Challenge.rw_rosenames_k05_steps_of_marks_and_back) (n := 63) (k := 8) (x := "_law_script") (CX := L2.CX0) rfl (by decide) (by kernel_rfl) ⟨rfl, by decide, by decide⟩ ?F (fun _ _ _ _ z => z)
    intro w mg fa h Y G hmg0
    obtain ⟨K, KX, c, cx⟩ := Y
    have hmg : mg ("law" : PySem.Str) = some (.ref fa) := by
      have e : (HandSHeadRun.topDef (OpenLaw.row PySem.Challenge.rw_rosenames_k05_steps_of_marks_and_back).prog 37).name = ("law" : PySem.Str) := by kernel_rfl
      rw [← e]
      exact hmg0
    obtain ⟨fd, hb, hF⟩ := K05.facts (P := (PySem.Challenge.rw_rosenames_k05_steps_of_marks_and_back).prog) (w := w) KX G hmg c cx
    exact ⟨K, fd, K05.sp_law K, KX, hb, fun H a ns hl _ hS => ⟨a, ns, rfl, hS, hl, fun _ => rfl⟩, hF⟩

