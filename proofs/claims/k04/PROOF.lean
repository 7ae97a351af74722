import PyProof.Rows.All
import Wide.All
import OpenK.AllK
import Wide.FinOn
import KE.KStateDown
import HandS.ForMost
import HandS.Exc
import HandS.Defaults
import HandS.MakeKw
import HandS.IsInst
import HandS.Wide
import HandS.WideBits
import HandS.Evl
import HandS.WordsExc
import HandS.Head0
import HandS.Head1
import HandS.Head2
import HandS.HeadEnd
import HandS.HeadHook1
import HandS.HeadHook2
import KE.KExcIs
import HandS.ExcInit
import HandS.Iter
import PyProof.EnumMake
import PyProof.Draws
import PyProof.StrOps2
import HandS.EndBits
import PySem.Challenge.RW_rosenames_k04_names_parted
set_option Elab.async false
set_option linter.all false
set_option maxRecDepth 100000
set_option maxHeartbeats 0
/-! The head's Hook with one Bool more; a def by its name; what an own class needs for isinstance. -/
namespace L2
open PySem PySem.Spec PyProof.Rows
/-- what the module's names reach, and the cell of the statics -/
def asN (g : Addr → Option Obj) (n : Nat) : List Addr := cStatics :: He.asD g n
def hookM (n : Nat) (fa : List He.Fa) (fn : List He.DefD) (ex : PySem.W.Frag → Bool) : PySem.W.Hook where
  α := He.AlD × Bool
  obs := fun s => (He.obsD fa fn (He.frG s.heap.get? (asN s.heap.get? n)), ex (He.frG s.heap.get? (asN s.heap.get? n)))
  val := fun _ => (He.valD fn, true)
  says := fun _ h => ∃ K : PySem.W.Frag, K.In h ∧ He.SaysD fa fn K ∧ ex K = true
  of := fun _ _ e => ⟨_, He.frG_in, congrArg (fun z : He.AlD × Bool => z.1) e, congrArg (fun z : He.AlD × Bool => z.2) e⟩
  keeps := fun _ _ _ ⟨K, hK, c⟩ k => ⟨K, PySem.W.Frag.In.keeps hK k, c⟩
/-- isinstance of an own class's instances -/
structure IsC (K : PySem.W.Frag) (C : Addr) : Prop where
  ha : PySem.W.findIn K (.ref C) "__class__" = some (some (.builtin "object.__class__"))
  hn : PySem.W.specialIn K (.builtin "object.__class__") "__get__" = some (some (.builtin "getset_descriptor.__get__"))
  htk : PySem.W.takesIn K (.builtin "object.__class__") = some true
  hm : PySem.W.mroIn K C (.type "object") = some true
def tyB (K : PySem.W.Frag) (x : Str) : Bool :=
  He.eqO (PySem.W.findIn K (.ref (He.ga K x)) "__class__") (some (some (.builtin "object.__class__"))) &&
  (He.eqO (PySem.W.specialIn K (.builtin "object.__class__") "__get__") (some (some (.builtin "getset_descriptor.__get__"))) &&
  (decide (PySem.W.takesIn K (.builtin "object.__class__") = some true) && decide (PySem.W.mroIn K (He.ga K x) (.type "object") = some true)))
theorem tyB_ok {K : PySem.W.Frag} {x : Str} (h : tyB K x = true) : IsC K (He.ga K x) := by
  obtain ⟨h1, h⟩ := He.ba h
  obtain ⟨h2, h⟩ := He.ba h
  obtain ⟨h3, h4⟩ := He.ba h
  exact ⟨He.eqO_ok h1, He.eqO_ok h2, of_decide_eq_true h3, of_decide_eq_true h4⟩
/-- a def of the module by its name: where it stands, what it promises, how it binds -/
structure Dn (P : Program) (w : World) (K : PySem.W.Frag) (mg : Str → Option Value) (base : Heap) (k : Nat) (x : Str) (ps : List Str) (sp : Sp) : Prop where
  ex : ∃ (f : Addr) (fd : FuncData), FnOk P w K mg base CX0 k f fd ps sp ∧ mg x = some (.ref f) ∧ PySem.W.keepIn K (.ref f) = true ∧ Binds K fd ps []
section
variable {X : Cx} {k : Nat} {x : Str} {ps : List Str} {sp : Sp} {e : Expr} {es : List Expr} {t : TA} {p pos : Pos}
theorem pe_cd (D : Dn X.prog X.w X.K X.mg X.base k x ps sp) (hr : Room k X.A) (hg : Gl X x) (ha : PA X (e :: es) t) (hdb : (x == ("__debug__" : Str)) = false := by decide)
    (he : starEach (e :: es) X.env = (false, eval e X.env) :: starEach es X.env := by rfl) (hpl : (backTo pos (starEach es X.env)).any (·.1) = false := by rfl) :
    PE X (.Call (.Name x p) (e :: es) [] pos) (tCall sp [] E0 t) := by
  obtain ⟨f, fd, F, m, kp, b⟩ := D.ex
  exact pe_call F hr hg m kp b .nil pass0 ha hdb he hpl
theorem pe_cd0 (D : Dn X.prog X.w X.K X.mg X.base k x ps sp) (hr : Room k X.A) (hg : Gl X x) (hdb : (x == ("__debug__" : Str)) = false := by decide) :
    PE X (.Call (.Name x p) [] [] pos) (tCall sp [] E0 tNil) := by
  obtain ⟨f, fd, F, m, kp, b⟩ := D.ex
  exact pe_call0 F hr hg m kp b .nil pass0 hdb
end
end L2
/-! More of what evaluates to what (heaps that only grow), and heaps that change at one place. -/
namespace L2
open PySem PySem.Spec PyProof.Rows Evl
/-- all but what stands at p is as it was -/
def But (p : Addr) (H H' : Hp) : Prop := ∀ b o, b ≠ p → H b = some o → H' b = some o
theorem But.refl {p : Addr} (H : Hp) : But p H H := fun _ _ _ h => h
theorem But.trans {p : Addr} {H H1 H2 : Hp} (a : But p H H1) (b : But p H1 H2) : But p H H2 := fun c o n h => b c o n (a c o n h)
theorem But.ex {p : Addr} {H H' : Hp} (e : Ex H H') : But p H H' := fun b o _ h => e b o h
theorem But.upd {p : Addr} {H : Hp} {o : HO} : But p H (upd H p o) := fun b u n h => by
  rw [upd_ne n]
  exact h
/-- what p is not known to H: then it is an extension -/
theorem But.new {p : Addr} {H H' : Hp} (e : But p H H') (h : H p = none) : Ex H H' := fun b o q => e b o (ne_of_none q h) q
section
variable {K : PySem.W.Frag} {σ : L2.St} {H H' : Hp} {ta tb te : TE} {x y z v : V}
theorem ev_fld {a C dx : Addr} {fs : List (Str × V)} {f : Str} (h : Ev ta σ H (.ref a)) (ho : H a = some (.ins C dx fs)) (hc : Cls K C) (hn : NoAttr K C f) (hl : fs.lookup f = some v) : Ev (tFld K ta f) σ H v :=
  fun H1 e Q q => h H1 e _ fun H2 e2 => ⟨a, C, dx, fs, v, rfl, (e.trans e2) _ _ ho, hc, hn, hl, q H2 e2⟩
theorem rc_isi {x c : V} {t u : Value} {b : Bool} (hc : ClsV c u) (hx : ∀ H1, Ex H H1 → TyX K H1 x t) (hk : PySem.W.kitOne K t u = some b) : RC (rIsi K) [x, c] H (.bl b) :=
  fun H1 e Q q => ⟨x, c, t, u, b, rfl, hc, hx H1 e, hk, q H1 (Ex.refl _)⟩
theorem rc_isiI {i : Int} : RC (rIsi K) [.int i, .ty "int"] H (.bl true) := rc_isi (.ty "int") (fun _ _ => .base (.int i)) (kit_ty (by decide +kernel))
theorem rc_isiB {i : Int} : RC (rIsi K) [.int i, .ty "bool"] H (.bl false) := rc_isi (.ty "bool") (fun _ _ => .base (.int i)) (kit_ty (by decide +kernel))
theorem kit_self {t : Value} : PySem.W.kitOne K t t = some true := by
  unfold PySem.W.kitOne
  rw [if_pos (beq_self_eq_true t)]
theorem rc_isiC {a C dx : Addr} {fs : List (Str × V)} (ho : H a = some (.ins C dx fs)) (hc : Cls K C) (hi : IsC K C) : RC (rIsi K) [.ref a, .ref C] H (.bl true) :=
  rc_isi (.own C) (fun _ e => .base (.ins (e _ _ ho) hc hi.ha hi.hn hi.htk hi.hm)) kit_self
def rAbs : List V → Hp → VK → Prop := fun xs H Q => ∃ i, xs = [.int i] ∧ Q (.int (if i < 0 then -i else i)) H
theorem rc_abs {i : Int} : RC (fun xs H Q => ∃ i, xs = [.int i] ∧ Q (.int (if i < 0 then -i else i)) H) [.int i] H (.int (i.natAbs : Int)) := fun H1 _ Q q => ⟨i, rfl, by
  have e : (if i < 0 then -i else i) = (i.natAbs : Int) := by
    by_cases h : i < 0
    · rw [if_pos h]
      omega
    · rw [if_neg h]
      omega
  rw [e]
  exact q H1 (Ex.refl _)⟩
/-- tuples' items by a written place -/
theorem ev_ixT {p : Addr} {xs : List V} {j : Nat} (h : Ev ta σ H (.ref p)) (hs : H p = some (.tup xs)) (hj : xs[j]? = some v) : Ev (tOp (rIxT K) ta (tC (.int (j : Int)))) σ H v :=
  ev_op h ev_c (rv_ixT (st_of hs) (atI_nat hj))
theorem ev_mulW {i j : Int} {n m : Nat} (ha : Ev ta σ H (.int i)) (hb : Ev tb σ H (.int j)) (hi : i.natAbs < 2 ^ n) (hj : j.natAbs < 2 ^ m) (h0 : 0 < n := by decide) (h1 : 0 < m := by decide) (h : n + m ≤ 1000000 := by decide) :
    Ev (tOp (rI CMulW fun i j => .int (i * j)) ta tb) σ H (.int (i * j)) := ev_op ha hb (rv_I (wide_mul hi hj h0 h1 h))
theorem ev_mul {i j : Int} (ha : Ev ta σ H (.int i)) (hb : Ev tb σ H (.int j)) (h : CMul i j) : Ev (tOp (rI CMul fun i j => .int (i * j)) ta tb) σ H (.int (i * j)) := ev_op ha hb (rv_I h)
theorem ev_add {i j : Int} (ha : Ev ta σ H (.int i)) (hb : Ev tb σ H (.int j)) : Ev (tOp (rI0 fun i j => .int (i + j)) ta tb) σ H (.int (i + j)) := ev_op ha hb rv_I0
theorem ev_sub {i j : Int} (ha : Ev ta σ H (.int i)) (hb : Ev tb σ H (.int j)) : Ev (tOp (rI0 fun i j => .int (i - j)) ta tb) σ H (.int (i - j)) := ev_op ha hb rv_I0
theorem ev_mod {i j : Int} (ha : Ev ta σ H (.int i)) (hb : Ev tb σ H (.int j)) (h : 0 < j) : Ev (tOp (rI (fun _ j => 0 < j) fun i j => .int (i % j)) ta tb) σ H (.int (i % j)) := ev_op ha hb (rv_I h)
theorem ev_fdivW {i j : Int} {n : Nat} (ha : Ev ta σ H (.int i)) (hb : Ev tb σ H (.int j)) (h : 0 < j) (hj : j.natAbs < 2 ^ n) (h0 : 0 < n := by decide) (h1 : n ≤ 9000 := by decide) : Ev (tOp (rI CDivW fun i j => .int (i / j)) ta tb) σ H (.int (i / j)) :=
  ev_op ha hb (rv_I (wide_div h hj h0 h1))
theorem ev_lt {i j : Int} (ha : Ev ta σ H (.int i)) (hb : Ev tb σ H (.int j)) : Ev (tOp (rI0 fun i j => .bl (decide (i < j))) ta tb) σ H (.bl (decide (i < j))) := ev_op ha hb rv_I0
theorem ev_gt {i j : Int} (ha : Ev ta σ H (.int i)) (hb : Ev tb σ H (.int j)) : Ev (tOp (rI0 fun i j => .bl (decide (j < i))) ta tb) σ H (.bl (decide (j < i))) := ev_op ha hb rv_I0
theorem ev_ge {i j : Int} (ha : Ev ta σ H (.int i)) (hb : Ev tb σ H (.int j)) : Ev (tOp (rI0 fun i j => .bl (decide (j ≤ i))) ta tb) σ H (.bl (decide (j ≤ i))) := ev_op ha hb rv_I0
theorem ev_eqI {i j : Int} (ha : Ev ta σ H (.int i)) (hb : Ev tb σ H (.int j)) : Ev (tOp rEq ta tb) σ H (.bl (decide (i = j))) := by
  have h := ev_op ha hb (rv_eq (x := .int i) (y := .int j) rfl)
  have e : decide (V.int i = V.int j) = decide (i = j) := by
    rw [Bool.eq_iff_iff]
    simp
  rw [e] at h
  exact h
theorem ev_neI {i j : Int} (ha : Ev ta σ H (.int i)) (hb : Ev tb σ H (.int j)) : Ev (tOp rNe ta tb) σ H (.bl (!decide (i = j))) := by
  have h := ev_op ha hb (rv_ne (x := .int i) (y := .int j) rfl)
  have e : decide (V.int i = V.int j) = decide (i = j) := by
    rw [Bool.eq_iff_iff]
    simp
  rw [e] at h
  exact h
theorem pow_big {n : Nat} {i : Int} {m : Nat} (h : i.natAbs < 2 ^ n) (hm : n ≤ m) : i.natAbs < 2 ^ m := Nat.lt_of_lt_of_le h (Nat.pow_le_pow_right (by decide) hm)
theorem ev_neg {i : Int} (ha : Ev ta σ H (.int i)) : Ev (tUn (rU fun i => .int (-i)) ta) σ H (.int (-i)) := ev_un ha ru_neg
end
end L2
/-! Readings opened one step. -/
namespace L2
open PySem PySem.Spec PyProof.Rows Evl
section
variable {σ : L2.St} {H : Hp} {D : Ends} {te ta tb : TE} {tA : TA} {t u : TS} {tt tu : TT} {Q : VK} {QT : Bool → Hp → Prop} {QA : List V → Hp → Prop} {vs xs dvs : List V} {v : V} {b : Bool}
theorem x_ret (h : te σ H D.rt) : tRet te D σ H := h
theorem x_seq (h : t { D with nx := u D } σ H) : tSeq t u D σ H := h
theorem x_asg {g : TG} (h : te σ H fun x H1 => g x σ H1 D.nx) : tAsg te g D σ H := h
theorem x_set {i : Nat} (h : te σ H fun x H1 => D.nx (σ.set i (some x)) H1) : tAsg te (gName i) D σ H := h
theorem x_drop (h : te σ H fun _ H1 => D.nx σ H1) : tDrop te D σ H := h
theorem x_par {i j : Nat} (h : tA σ H fun vs H1 => ∃ v w, vs = [v, w] ∧ D.nx ((σ.set i (some v)).set j (some w)) H1) : tPar i j tA D σ H := h
theorem x_op {r : R2} (h : ta σ H fun x H1 => tb σ H1 fun y H2 => r x y H2 Q) : tOp r ta tb σ H Q := h
theorem x_cb {r : List V → Hp → VK → Prop} (h : tA σ H fun vs H1 => r vs H1 Q) : tCB r tA σ H Q := h
theorem x_call {sp : Sp} {E : XK} (h : tA σ H fun vs H1 => sp (vs ++ dvs) H1 Q E) : tCall sp dvs E tA σ H Q := h
theorem x_cons {tr : TA} (h : ta σ H fun x H1 => tr σ H1 fun xs H2 => QA (x :: xs) H2) : tCons ta tr σ H QA := h
theorem x_nil (h : QA [] H) : tNil σ H QA := h
theorem x_if (h : tt σ H fun b H1 => if b = true then t D σ H1 else u D σ H1) : tIfS tt t u D σ H := h
theorem x_B (h : te σ H fun x H1 => ∃ c, x = .bl c ∧ QT c H1) : tB te σ H QT := h
theorem x_test (h : te σ H fun x H1 => ∃ c, x = .bl c ∧ QT c H1) : tTest te σ H QT := h
theorem x_not (h : tt σ H fun c H1 => QT (!c) H1) : tNot tt σ H QT := h
theorem x_or (h : tt σ H fun c H1 => if c = true then QT true H1 else tu σ H1 QT) : tOr tt tu σ H QT := h
theorem x_and (h : tt σ H fun c H1 => if c = true then tu σ H1 QT else QT false H1) : tAnd tt tu σ H QT := h
theorem x_meth {C : Addr} {m : Str} {sp : Sp} {E : XK} (h : ta σ H fun x H1 => ∃ a dx fs, x = .ref a ∧ H1 a = some (.ins C dx fs) ∧ fs.lookup m = none ∧ tA σ H1 fun vs H2 => sp (x :: (vs ++ dvs)) H2 Q E) : tMeth C m sp dvs E ta tA σ H Q := h
theorem x_lst (h : tA σ H fun xs H1 => xs.length ≤ sizeLine ∧ ∀ p, H1 p = none → Q (.ref p) (upd H1 p (.lst xs))) : tLst tA σ H Q := h
theorem x_tup (h : tA σ H fun xs H1 => xs.length ≤ sizeLine ∧ ∀ p, H1 p = none → Q (.ref p) (upd H1 p (.tup xs))) : tTup tA σ H Q := h
theorem x_c (h : Q v H) : tC v σ H Q := h
theorem x_var {i : Nat} (e : σ[i]? = some (some v)) (h : Q v H) : tVar i σ H Q := ⟨v, e, h⟩
theorem x_while {W : Nat → St → Hp → Prop} (m : Nat) (w0 : W m σ H) (h : ∀ m σ H, W m σ H → tt σ H fun b H1 => if b = true then ∃ N : St → Hp → Prop, (∀ σ' H', N σ' H' → ∃ m', m' < m ∧ W m' σ' H') ∧ t { D with nx := N, ct := N, bk := D.nx } σ H1 else D.nx σ H1) : tWhile tt t D σ H := ⟨W, ⟨m, w0⟩, h⟩
theorem Evl.Ev.go (h : Ev te σ H v) (k : ∀ H1, Ex H H1 → Q v H1) : te σ H Q := h H (Ex.refl _) _ k
theorem Evl.EvT.go (h : EvT tt σ H b) (k : ∀ H1, Ex H H1 → QT b H1) : tt σ H QT := h H (Ex.refl _) _ k
theorem Evl.EvA.go (h : EvA tA σ H vs) (k : ∀ H1, Ex H H1 → QA vs H1) : tA σ H QA := h H (Ex.refl _) _ k
theorem Evl.EvU.go (h : EvU te σ H xs) (k : ∀ p H1, H p = none → Ex H H1 → H1 p = some (.tup xs) → Q (.ref p) H1) : te σ H Q := h H (Ex.refl _) _ k
theorem Evl.EvL.go (h : EvL te σ H xs) (k : ∀ p H1, H p = none → Ex H H1 → H1 p = some (.lst xs) → Q (.ref p) H1) : te σ H Q := h H (Ex.refl _) _ k
end
end L2
/-! The same with something behind. -/
namespace L2
open PySem PySem.Spec PyProof.Rows Evl
section
variable {σ : L2.St} {H : Hp} {D : Ends} {te : TE} {tA : TA} {t u tz : TS} {tt : TT}
theorem q_par {i j : Nat} (h : tA σ H fun vs H1 => ∃ v w, vs = [v, w] ∧ tz D ((σ.set i (some v)).set j (some w)) H1) : tSeq (tPar i j tA) tz D σ H := h
theorem q_set {i : Nat} (h : te σ H fun x H1 => tz D (σ.set i (some x)) H1) : tSeq (tAsg te (gName i)) tz D σ H := h
theorem q_asgX {g : TG} (h : te σ H fun x H1 => g x σ H1 (tz D)) : tSeq (tAsg te g) tz D σ H := h
theorem q_dropX (h : te σ H fun _ H1 => tz D σ H1) : tSeq (tDrop te) tz D σ H := h
theorem q_ifX (h : tt σ H fun b H1 => if b = true then t { D with nx := tz D } σ H1 else u { D with nx := tz D } σ H1) : tSeq (tIfS tt t u) tz D σ H := h
end
end L2
/-! An exception that a clause has caught and given to another name: it is tracked behind the suite; its fields are read, its class is asked. -/
namespace L2
open PySem PySem.Spec PyProof.Rows
/-- at a: a caught exception, by its class and its dict -/
def exk (a : Addr) (cls : Value) (d : Option Addr) : HO := .ext fun h => ∃ (oe : Obj) (vs : Array Value), h.get? a = some oe ∧ Zc cls d oe ∧ oe.data = .fields vs
section
variable {X : Cx} {pins : List (Addr × Obj)} {σ : St} {H : Hp} {s : Shared}
theorem exk_ok {P : Program} {w : World} {H : Hp} {h : Heap} {a : Addr} {cls : Value} {d : Option Addr} {oe : Obj} {vs : Array Value} (e : h.get? a = some oe) (z : Zc cls d oe) (q : oe.data = .fields vs) : ObjOk P w H h a (exk a cls d) :=
  ⟨⟨oe, vs, e, z, q⟩, ⟨oe, e⟩, fun _ _ ⟨o, v, e1, r⟩ k => ⟨o, v, k o e1, r⟩⟩
theorem exk_at {P : Program} {w : World} {h : Heap} {a : Addr} {cls : Value} {d : Option Addr} (ok : HOk P w H h) (e : H a = some (exk a cls d)) : ∃ (oe : Obj) (vs : Array Value), h.get? a = some oe ∧ Zc cls d oe ∧ oe.data = .fields vs := by
  have q : ObjOk P w H h a (.ext fun h => ∃ (oe : Obj) (vs : Array Value), h.get? a = some oe ∧ Zc cls d oe ∧ oe.data = .fields vs) := ok a _ e
  exact q.1
/-- an object that came up behind the entry, and isn't tracked, is tracked from now on -/
theorem Inv.taken {a : Addr} {o : HO} {oe : Obj} (I : Inv X pins σ H s) (ha : s.heap.get? a = some oe) (na : H a = none) (n0 : X.s_0.heap.get? a = none) (nL : a ≠ X.env.locals) (nC : ∀ v, oe.data ≠ .cell v) (nP : ∀ p ∈ X.pn ++ pins, p.1 ≠ a)
    (new : ObjOk X.prog X.w (upd H a o) s.heap a o) : Inv X pins σ (upd H a o) s := by
  have ne0 : ∀ {b : Addr} {u : Obj}, X.s_0.heap.get? b = some u → b ≠ a := fun {b u} q z => by
    rw [z, n0] at q
    cases q
  refine ⟨I.ok, I.os, I.bare, ⟨I.base.keep, I.base.slot, fun b u q n z => ?_, I.base.there, fun b xs q => ?_, fun b u v q => ?_, fun b ps q => ?_⟩, I.loc, I.cell, ?_, fun y c e => ?_, fun p hp => ?_, fun b u q => ?_, I.len⟩
  · rw [upd_ne (ne0 q)]
    exact I.base.free b u q n z
  · have z := I.base.tups b xs q
    rw [upd_ne (ne_of_none z na)]
    exact z
  · have z := I.base.frzs b u v q
    rw [upd_ne (ne_of_none z na)]
    exact z
  · obtain ⟨m, z⟩ := I.base.tbls b ps q
    exact ⟨m, by rw [upd_ne (ne_of_none z na)]; exact z⟩
  · rw [upd_ne (Ne.symm nL)]
    exact I.free
  · have n : c ≠ a := fun z => by
      obtain ⟨v, o', h1, h2⟩ := I.cell y c e
      rw [z, ha] at h1
      cases h1
      exact nC _ h2
    rw [upd_ne n]
    exact I.freeC y c e
  · obtain ⟨h1, h2, h3⟩ := I.pin p hp
    exact ⟨h1, by rw [upd_ne (nP p hp)]; exact h2, h3⟩
  · by_cases hb : b = a
    · subst hb
      rw [upd_same] at q
      cases q
      exact new
    · rw [upd_ne hb] at q
      exact (I.hok b u q).stay (fun _ _ _ r => r) (fun c r => by rw [upd_ne (ne_of_none r na)]; exact r) fun c xs r => by rw [upd_ne (ne_of_none r na)]; exact r
end
/-- what 'except x as n: suite' wishes of the body, the exception tracked behind the suite -/
def wHold (K : PySem.W.Frag) (c : Value) (i : Nat) (ts : Addr → Value → Option Addr → TS) (Wo : WX) (D : Ends) : WX := fun cls d σ H => ∃ b, PySem.W.exmOne K cls c = some b ∧
  (b = true → ∀ a, H a = none → ts a cls d ⟨fun σ' H' => D.nx (σ'.set i none) (upd H' a (exk a cls d)), D.rt, fun _ _ => False, fun _ _ => False⟩ (σ.set i (some (.ref a))) H) ∧ (b = false → Wo cls d σ H)
section
variable {X : Cx} {x n : Str} {c : Value} {i : Nat} {body rest : List Stmt} {st0 : Stmt} {np pos pos' : Pos} {tb : WX → TS} {ts : Addr → Value → Option Addr → TS} {Wo : WX}
theorem ps_try_hold (hs : X.stack = X.env :: X.outer) (hf : X.env.frame = some X.env.locals) (hex : X.ex = []) (hN : X.N.Nodup) (hi : X.N[i]? = some n) (hln : X.env.kindOf n = some .local) (hc : Names X x c) (tk : Takes X Wo)
    (hb : ∀ (W : WX) (pn : List (Addr × Obj)) (xe : Value → Shared → Prop), Takes (X.tr pn xe) W → PassesOwn (model X.prog X.w) X.A X.env xe → PSs (X.tr pn xe) body (tb W))
    (hu : ∀ (a : Addr) (oe : Obj) (cls : Value) (d : Option Addr) (pn : List (Addr × Obj)), Zc cls d oe → (∃ vs, oe.data = .fields vs) → PSs (X.suite a ((a, oe) :: pn)) (st0 :: rest) (ts a cls d)) :
    PS X (.Try body [.ExceptHandler (some (.Name x np)) (some n) (st0 :: rest) pos'] [] [] pos) (fun D σ H => tb (wHold X.K c i ts Wo D) D σ H) := by
  refine ⟨fun pins s σ H D I h => ?_⟩
  have ok := I.ok
  have frA : X.A.frames = some (X.env :: X.outer) := ok.frames.trans (congrArg some hs)
  refine wpAny_Try_except ?_
  let xe1 : Value → Shared → Prop := fun e s1 => wpAny (model X.prog X.w) X.A (noteFrame e X.env) (fun _ s2 => wpAny (model X.prog X.w) X.A (setFlight e none) (fun _ s3 =>
    wpAny (model X.prog X.w) X.A (handleBy e X.env [.ExceptHandler (some (.Name x np)) (some n) (st0 :: rest) pos']) (SP X pins D) X.xe s3) X.xe s2) X.xe s1
  have took : Takes (X.tr (X.pn ++ pins) xe1) (wHold X.K c i ts Wo D) := by
    rintro u s1 ⟨a, B, sI, pins', σ1, H1, cls, d, rfl, J0, below, up, sky, na, eos, gb, b, eb, yes, no⟩
    have J : Inv X pins σ1 H1 sI := J0.ofTry ok
    rw [show (X.tr (X.pn ++ pins) xe1).stack = X.env :: X.outer from hs] at sky
    show wpAny (model X.prog X.w) X.A (noteFrame (.ref a) X.env) _ _ _
    refine Sky.land Zc.steady frA hf sky fun h3 f3 up3 => ?_
    have J3 : Inv X pins σ1 H1 { s1 with heap := h3 } := J.landed below f3.1 (up.trans up3) eos gb
    obtain ⟨o3, v3, e3, z3, d3⟩ := f3.there
    have nfr : a ∉ frs (X.env :: X.outer) := fun hm => by
      obtain ⟨_, o', q, hno⟩ := f3.2.2.1.mem hm
      rw [e3] at q
      cases q
      exact hno _ d3
    have nL : a ≠ X.env.locals := fun z => nfr (List.mem_filterMap.mpr ⟨X.env, List.mem_cons_self, hf.trans (congrArg some z.symm)⟩)
    have nF : a ∉ X.fs := fun hm => by
      obtain ⟨en, he, q⟩ := List.mem_filterMap.mp hm
      exact nfr (List.mem_filterMap.mpr ⟨en, List.mem_cons_of_mem _ he, q⟩)
    -- it wasn't there at the entry, nor is it pinned
    have gone : ∀ {b : Addr} {o : Obj}, sI.heap.get? b = some o → b ≠ a := fun {b o} q z => by
      subst z
      have := below b o q (by rw [show (X.tr (X.pn ++ pins) xe1).stack = X.env :: X.outer from hs]; exact nfr)
      rw [f3.2.1] at this
      cases this
    have n0 : X.s_0.heap.get? a = none := by
      cases q : X.s_0.heap.get? a with
      | none => rfl
      | some o =>
        obtain ⟨o', q'⟩ := J.base.there a o q (by rw [hex]; exact fun z => nomatch z)
        exact absurd rfl (gone q')
    have nP : ∀ p ∈ X.pn ++ pins, p.1 ≠ a := fun p hp => gone (J.pin p hp).1
    have S3 := J3.suite e3 d3 na nL nF
    refine wpAny_handleBy_cons (codeAny_handlers_test ?_) (by intro q; cases q)
    have LT : PySem.W.Looks (model X.prog X.w) h3 (typeOf (.ref a)) cls := fun _ _ _ _ k q => wpAny_typeOf_ref (k _ _ e3) (by rw [z3.1]; exact q)
    have LM := PySem.W.exm_one (M := model X.prog X.w) J3.kIn LT eb
    have named : ∀ {Q E : Value → Shared → Prop}, Q c { s1 with heap := h3 } → wpAny (model X.prog X.w) (X.A.mark (some (.ref a))) (eval (.Name x np) X.env) Q E { s1 with heap := h3 } := fun {Q E} q => by
      obtain ⟨g1, g2, g3 | ⟨g3, g4, g5⟩⟩ := hc
      · exact ld_glob (X := X.suite a ((a, o3) :: (X.pn ++ pins))) S3 g1 g3 q g2
      · exact ld_blt (X := X.suite a ((a, o3) :: (X.pn ++ pins))) S3 g1 g3 g4 q g5 g2
    refine named (LM.here ?_)
    cases b with
    | true =>
      refine codeAny_handlers_suite_as (HandSPX.lands_againZ f3 fun h4 f4 up4 => ?_)
      have J4 : Inv X pins σ1 H1 { s1 with heap := h4 } := J.landed below f4.1 ((up.trans up3).trans up4) eos gb
      obtain ⟨o4, v4, e4, z4, d4⟩ := f4.there
      refine store_ok (X := X.suite a ((a, o4) :: (X.pn ++ pins))) (v := .ref a) (J4.suite e4 d4 na nL nF) hN hi (.inl hln) rfl (fun s5 S5 => ?_) (.inr hln)
      refine wpAny_mono ((hu a o4 cls d (X.pn ++ pins) z4 ⟨_, d4⟩).run [] s5 _ H1 _ S5 (yes rfl a na)) (fun fl s6 q6 => ?_) fun _ _ z => z.elim
      cases fl with
      | next =>
        obtain ⟨σ6, H6, S6, r6⟩ := q6
        refine gone_ok (X := X.suite a ((a, o4) :: (X.pn ++ pins))) S6 hN hi hln fun s7 S7 => ?_
        obtain ⟨e7, n7, _⟩ := S7.pin (a, o4) (List.mem_append_left _ List.mem_cons_self)
        exact ⟨_, _, (S7.unsuite ok).taken e7 n7 n0 nL (fun v z => by rw [d4] at z; cases z) nP (exk_ok e7 z4 d4), r6⟩
      | ret u =>
        obtain ⟨v6, σ6, H6, S6, rv, r6⟩ := q6
        exact gone_ok (S6.unsuite ok) hN hi hln fun s7 J7 => ⟨_, _, _, J7, rv, r6⟩
      | brk =>
        obtain ⟨_, _, _, r6⟩ := q6
        exact r6.elim
      | cont =>
        obtain ⟨_, _, _, r6⟩ := q6
        exact r6.elim
    | false =>
      refine wpAny_handleBy_nil ?_
      obtain ⟨_, _, _, oe, vs, T, oT, ts', he, hz, hd, h1, hr⟩ := id f3
      unfold PySem.passOn
      refine wpAny_bind (wpAny_field he hd h1 ?_)
      rw [if_neg (show ¬ ((Value.ref T == Value.none) = true) by simp)]
      have on : wpAny (model X.prog X.w) X.A (setFlight (.ref a) X.env.frame) (fun _ s4 => wpAny (model X.prog X.w) X.A (throw (.ref a) : Sem Flow) (SP X pins D) X.xe s4) X.xe { s1 with heap := h3 } := by
        rw [hf]
        refine HandSPX.setFlight_upZ f3 fun h4 g4 up4 => wpAny_throw (tk _ _ ?_)
        exact ⟨a, B, sI, pins, σ1, H1, cls, d, rfl, J, below, (up.trans up3).trans up4, .inr (.inr (by rw [hs]; exact g4)), na, eos, gb, no rfl⟩
      first
        | exact wpAny_bind (wpAny_pure (wpAny_bind on))
        | exact wpAny_bind on
  refine wpAny_mono ((hb _ (X.pn ++ pins) xe1 took PassesOwn.looking).run [] s σ H D (I.toTry _) h) (fun fl s1 q => ?_) fun _ _ z => z
  cases fl with
  | next =>
    obtain ⟨σ', H', J', r⟩ := q
    exact wpAny_execs_nil ⟨σ', H', J'.ofTry ok, r⟩
  | brk =>
    obtain ⟨σ', H', J', r⟩ := q
    exact ⟨σ', H', J'.ofTry ok, r⟩
  | cont =>
    obtain ⟨σ', H', J', r⟩ := q
    exact ⟨σ', H', J'.ofTry ok, r⟩
  | ret u =>
    obtain ⟨v, σ', H', J', rv, r⟩ := q
    exact ⟨v, σ', H', J'.ofTry ok, rv, r⟩
end
/-- what the class of a caught exception says of reading and asking it -/
structure XkC (K : PySem.W.Frag) (C : Addr) : Prop where
  ga : PySem.W.findIn K (.ref C) "__getattribute__" = some (some (.builtin "BaseException.__getattribute__"))
  gg : PySem.W.findIn K (.ref C) "__getattr__" = some none
  sub : PySem.W.subIn K (.ref C) (.type "BaseException") = some true
  hd : PySem.W.hasDictIn K C = true
  is : IsC K C
def xkB (K : PySem.W.Frag) (x : Str) : Bool :=
  He.eqO (PySem.W.findIn K (.ref (He.ga K x)) "__getattribute__") (some (some (.builtin "BaseException.__getattribute__"))) && (He.eqO (PySem.W.findIn K (.ref (He.ga K x)) "__getattr__") (some none) &&
  (decide (PySem.W.subIn K (.ref (He.ga K x)) (.type "BaseException") = some true) && (PySem.W.hasDictIn K (He.ga K x) && tyB K x)))
theorem xkB_ok {K : PySem.W.Frag} {x : Str} (h : xkB K x = true) : XkC K (He.ga K x) := by
  obtain ⟨h1, h⟩ := He.ba h
  obtain ⟨h2, h⟩ := He.ba h
  obtain ⟨h3, h⟩ := He.ba h
  obtain ⟨h4, h5⟩ := He.ba h
  exact ⟨He.eqO_ok h1, He.eqO_ok h2, of_decide_eq_true h3, h4, tyB_ok h5⟩
/-- an exception of the class at C, with these fields -/
structure ExcAt (H : Hp) (a C d : Addr) (fs : List (Str × V)) : Prop where
  at_ : H a = some (exk a (.ref C) (some d))
  dict : H d = some (.xd fs)
theorem ExcAt.ex {H H' : Hp} {a C d : Addr} {fs : List (Str × V)} (x : ExcAt H a C d fs) (e : Evl.Ex H H') : ExcAt H' a C d fs := ⟨e _ _ x.at_, e _ _ x.dict⟩
section
variable {X : Cx} {pins : List (Addr × Obj)} {σ : St} {H : Hp} {s : Shared} {a C d : Addr} {fs : List (Str × V)}
theorem ExcAt.inst (I : Inv X pins σ H s) (x : ExcAt H a C d fs) : ∃ (oe od : Obj) (mA : Str → Option Value), PySem.W.InstAt s.heap a oe C (some od) ∧ (∀ f, RelO (fs.lookup f) (mA f)) ∧ ∀ name, PySem.W.lookIn name od = some (mA name) := by
  obtain ⟨oe, vs, e1, z, e2⟩ := exk_at I.hok x.at_
  have q : ObjOk X.prog X.w H s.heap d (.xd fs) := I.hok d _ x.dict
  obtain ⟨mA, hn, r⟩ := q
  obtain ⟨od, ho, hl⟩ := lookIn_ns hn
  exact ⟨oe, od, mA, ⟨e1, z.1, by unfold PySem.W.notCls; rw [e2] <;> rfl, by rw [z.2]; exact ho⟩, r, hl⟩
/-- e.f of a caught exception -/
def tXk (K : PySem.W.Frag) (te : TE) (f : Str) : TE := fun σ H Q => te σ H fun x H1 => ∃ (a C d : Addr) (fs : List (Str × V)) (v : V), x = .ref a ∧ ExcAt H1 a C d fs ∧ XkC K C ∧ NoAttr K C f ∧ fs.lookup f = some v ∧ Q v H1
theorem pe_xk {e : Expr} {te : TE} {pos : Pos} {f : Str} (he : PE X e te) (hb : attributeBase e f X.env (eval e X.env) = eval e X.env := by rfl) : PE X (.Attribute e f pos) (tXk X.K te f) := by
  refine ⟨fun pins s σ H Q I h => ?_⟩
  refine attr_of hb (thn (he.run pins s σ H _ I h) fun u s1 ⟨x, H1, I1, rx, a, C, d, fs, v, ex, xa, T, hno, l, q⟩ => ?_)
  subst ex
  obtain rfl : u = Value.ref a := rx
  obtain ⟨oe, od, mA, J, r, hl⟩ := xa.inst I1
  obtain ⟨w', hw, rw'⟩ := RelO.some_of (v := v) (o := mA f) (by rw [← l]; exact r f)
  exact HandSPX.exc_get I1.kIn J T.ga T.gg T.sub (PySem.W.findObj_own T.hd hno rfl (by rw [hl, hw])) (handed_of rw') ⟨v, H1, I1.tok _, rw', q⟩
theorem xk_kit (I : Inv X pins σ H s) (x : ExcAt H a C d fs) (T : XkC X.K C) : ∃ P : Heap → Prop, PySem.W.KitX X.K (.ref a) (.ref C) P ∧ P s.heap := by
  obtain ⟨oe, od, mA, J, _, _⟩ := x.inst I
  obtain ⟨cd, hcd, _⟩ := PySem.W.any_some T.hd
  exact ⟨_, PySem.W.kitx_exc (by rw [hcd]; rfl) T.ga T.gg T.sub T.is.ha T.is.hn T.is.htk T.is.hm, J⟩
/-- isinstance(e, c), isinstance(e, (c1, ..)) of a caught exception -/
def rIsk (K : PySem.W.Frag) : List V → Hp → VK → Prop := fun xs H Q => ∃ (a C d : Addr) (fs : List (Str × V)) (c : V) (u : Value) (b : Bool), xs = [.ref a, c] ∧ ExcAt H a C d fs ∧ XkC K C ∧ ClsV c u ∧ PySem.W.kitOne K (.ref C) u = some b ∧ Q (.bl b) H
def rIskT (K : PySem.W.Frag) : List V → Hp → VK → Prop := fun xs H Q => ∃ (a C d tp : Addr) (fs : List (Str × V)) (cs : List V) (us : List Value) (b : Bool), xs = [.ref a, .ref tp] ∧ ExcAt H a C d fs ∧ XkC K C ∧ H tp = some (.tup cs) ∧ Paired ClsV cs us ∧
  PySem.W.kitAny K (.ref C) us = some b ∧ Q (.bl b) H
theorem call_isk : CallR X (.builtin "isinstance") (rIsk X.K) := by
  intro pins s σ H xs us Q I r h
  obtain ⟨a, C, d, fs, c, u, b, rfl, xa, T, k, e, q⟩ := h
  obtain ⟨u1, u2, rfl, r1, r2⟩ := vals2 r
  obtain rfl : u1 = Value.ref a := r1
  have e2 := k.eq r2
  subst e2
  obtain ⟨P, Z, p⟩ := xk_kit I xa T
  exact PySem.W.kia_one Z I.kIn p e (fun z => nomatch z) fun tk => ⟨.bl b, H, I.tok tk, rfl, q⟩
theorem call_iskT : CallR X (.builtin "isinstance") (rIskT X.K) := by
  intro pins s σ H xs us Q I r h
  obtain ⟨a, C, d, tp, fs, cs, ws, b, rfl, xa, T, hT, k, e, q⟩ := h
  obtain ⟨u1, u2, rfl, r1, r2⟩ := vals2 r
  obtain rfl : u1 = Value.ref a := r1
  obtain rfl : u2 = Value.ref tp := r2
  obtain ⟨P, Z, p⟩ := xk_kit I xa T
  have ot : ObjOk X.prog X.w H s.heap tp (.tup cs) := I.hok tp _ hT
  obtain ⟨_, its, rv, o, h1, h2, n, h3⟩ := ot
  have e3 := ClsV.all k rv
  subst e3
  obtain ⟨oc, od, dt, sl⟩ := o
  simp only at h2 h3
  subst h2 h3
  exact PySem.W.kia_tup Z I.kIn p h1 e (fun z => nomatch z) fun tk => ⟨.bl b, H, I.tok tk, rfl, q⟩
end
/-! R.__init__(self, ..), R an own class over ValueError that has no __init__ -/
structure BaseC (K : PySem.W.Frag) (R : Addr) : Prop where
  rd : PySem.W.readsIn K R (.type "type") = true
  ga : PySem.W.specialIn K (.ref R) "__getattribute__" = some (some (.builtin "type.__getattribute__"))
  at_ : PySem.W.findCls K (.ref R) (.type "type") "__init__" = some (.val (.builtin "ValueError.__init__"))
def baseB (K : PySem.W.Frag) (x : Str) : Bool := PySem.W.readsIn K (He.ga K x) (.type "type") && (He.eqO (PySem.W.specialIn K (.ref (He.ga K x)) "__getattribute__") (some (some (.builtin "type.__getattribute__"))) &&
  (match PySem.W.findCls K (.ref (He.ga K x)) (.type "type") "__init__" with
    | some (.val (.builtin m)) => decide (m = "ValueError.__init__")
    | _ => false))
theorem baseB_ok {K : PySem.W.Frag} {x : Str} (h : baseB K x = true) : BaseC K (He.ga K x) := by
  obtain ⟨h1, h⟩ := He.ba h
  obtain ⟨h2, h3⟩ := He.ba h
  refine ⟨h1, He.eqO_ok h2, ?_⟩
  split at h3
  · rename_i m q
    rw [q, of_decide_eq_true h3]
  · cases h3
section
variable {X : Cx} {e : Expr} {es : List Expr} {ta : TA} {p1 p2 pos : Pos} {R : Addr} {x : Str}
theorem pe_baseinit {pl : Sem Bool} (hg : Gl X x) (hm : X.mg x = some (.ref R)) (B : BaseC X.K R) (ha : PA X (e :: es) ta)
    (hc : eval (.Call (.Attribute (.Name x p1) "__init__" p2) (e :: es) [] pos) X.env = (do
      let ov ← eval (.Name x p1) X.env
      standAt p2.atName
      let (f, first) ← holding [ov] (getMethod ov "__init__" pl)
      callWith pos f first (backTo pos (starEach (e :: es) X.env)) (backToKw pos (keywordEach [] X.env))) := by rfl)
    (hd : (x == ("__debug__" : Str)) = false := by decide) (he : starEach (e :: es) X.env = (false, eval e X.env) :: starEach es X.env := by rfl) (hpl : (backTo pos (starEach es X.env)).any (·.1) = false := by rfl) :
    PE X (.Call (.Attribute (.Name x p1) "__init__" p2) (e :: es) [] pos) (tVeI X.K ta) := by
  refine ⟨fun pins s σ H Q I h => ?_⟩
  refine PySem.W.methodCall_KW (ld_glob I hg hm ?_ hd) hc
  refine PySem.W.method_cls I.kIn B.ga (PySem.W.cls_value I.kIn B.rd B.at_ (by decide +kernel) ?_)
  show wpAny _ _ (callWith pos (Value.builtin "ValueError.__init__") [] (backTo pos (starEach (e :: es) X.env)) []) _ _ _
  refine PyProof.Rows.callWith_method1 (thn (ha.run pos pins _ σ H _ (I.tok _) h) fun us s1 ⟨vs, H1, I1, r1, a, C, ws, ev, hl, T, ea, q⟩ => ?_) he hpl
  subst ev
  cases r1 with
  | @cons _ u0 _ ur r0 rr =>
    obtain rfl : u0 = Value.ref a := r0
    have hz : ur.length ≤ sizeLine := by
      rw [← Paired.length rr, sizeLine_eq]
      omega
    exact oinit_ok T I1 ea hz fun s' J => ⟨.non, H1, J, rfl, q⟩
end
end L2
/-! constants of the module; what an own exception class must say to be made -/
namespace L2
open PySem PySem.Spec PyProof.Rows
section
variable {X : Cx} {x : Str} {pos : Pos}
theorem pe_gi {i : Int} (hg : Gl X x) (h : ∃ t, X.mg x = some (.int i t)) (hd : (x == ("__debug__" : Str)) = false := by decide) : PE X (.Name x pos) (tC (.int i)) := by
  obtain ⟨t, h⟩ := h
  exact pe_glob hg h ⟨t, rfl⟩ hd
theorem pe_gs {z : Str} (hg : Gl X x) (h : ∃ t, X.mg x = some (.str z t)) (hd : (x == ("__debug__" : Str)) = false := by decide) : PE X (.Name x pos) (tC (.str z)) := by
  obtain ⟨t, h⟩ := h
  exact pe_glob hg h ⟨t, rfl⟩ hd
end
def oexL (K : PySem.W.Frag) (C : Addr) : Bool := match K.lookup C with
  | some ⟨.type "type", _, .cls cd, sl⟩ => (match cd.mro, sl.toList with
    | .ref B :: bm, [_, _, _, _, some (.builtin n), _] => decide (B = C) && (decide (n = "ValueError.__new__") && (!cd.hasDel && (cd.hasDict && PySem.HandSPX.refsVE bm)))
    | _, _ => false)
  | _ => false
theorem oexL_ok {K : PySem.W.Frag} {C : Addr} (h : oexL K C = true) : ∃ nm q N bs bm sn sub ab col dd k0 k1 k2 k3 k5, K.lookup C = some (excClassObj nm q C N bs bm true sn sub ab col dd k0 k1 k2 k3 k5 "ValueError.__new__") ∧ PySem.HandSPX.refsVE bm = true := by
  unfold oexL at h
  split at h
  · rename_i dd cd sl ho
    split at h
    · rename_i B bm k0 k1 k2 k3 n k5 hm hs
      obtain ⟨h1, h⟩ := He.ba h
      obtain ⟨h2, h⟩ := He.ba h
      obtain ⟨h3, h⟩ := He.ba h
      obtain ⟨h4, h5⟩ := He.ba h
      have e1 := of_decide_eq_true h1
      have e2 := of_decide_eq_true h2
      subst e1 e2
      obtain ⟨nm, bs, mro, ns, qn, hd, sn, sub, ab, col, del⟩ := cd
      have e3 : del = false := by
        cases del with
        | false => rfl
        | true => cases h3
      have e4 : hd = true := h4
      have e5 : mro = .ref B :: bm := hm
      subst e3 e4 e5
      have e6 : sl = #[k0, k1, k2, k3, some (.builtin "ValueError.__new__"), k5] := by
        obtain ⟨l⟩ := sl
        simp only at hs
        rw [hs]
      subst e6
      exact ⟨nm, qn, ns, bs, bm, sn, sub, ab, col, dd, k0, k1, k2, k3, k5, ho, h5⟩
    · cases h
  · cases h
def oexB (K : PySem.W.Frag) (x : Str) : Bool := oexL K (He.ga K x) && (He.eqO (PySem.W.findIn K (.ref (He.ga K x)) "__setattr__") (some (some (.builtin "object.__setattr__"))) &&
  (decide (PySem.W.subIn K (.ref (He.ga K x)) (.type "BaseException") = some true) && (decide (PySem.W.typeIn K (.ref (He.ga K x)) = some (.type "type")) && PySem.W.keepIn K (.ref (He.ga K x)))))
theorem oexB_ok {K : PySem.W.Frag} {x : Str} (h : oexB K x = true) : OexC K (He.ga K x) := by
  obtain ⟨h1, h⟩ := He.ba h
  obtain ⟨h2, h⟩ := He.ba h
  obtain ⟨h3, h⟩ := He.ba h
  obtain ⟨h4, h5⟩ := He.ba h
  exact ⟨oexL_ok h1, He.eqO_ok h2, of_decide_eq_true h3, of_decide_eq_true h4, h5⟩
/-- an exception's class asked of others -/
def kitsB (K : PySem.W.Frag) (x : Str) (ys : List (Str × Bool)) : Bool := ys.all fun y => decide (PySem.W.kitOne K (.ref (He.ga K x)) (.ref (He.ga K y.1)) = some y.2)
theorem kitsB_ok {K : PySem.W.Frag} {x : Str} {ys : List (Str × Bool)} (h : kitsB K x ys = true) {y : Str} {b : Bool} (m : (y, b) ∈ ys) : PySem.W.kitOne K (.ref (He.ga K x)) (.ref (He.ga K y)) = some b :=
  of_decide_eq_true (List.all_eq_true.mp h (y, b) m)
/-- the own __init__ of such a class: R.__init__(self, text); self.f = value -/
def sp_exi (C : Addr) (f : Str) : Sp := fun vs H Q _ => ∃ (a : Addr) (v : V), vs = [.ref a, v] ∧ H a = some (exo a C none) ∧ ∀ dx, H dx = none → dx ≠ a → Q .non (upd (upd H dx (exd dx [(f, v)])) a (exo a C (some dx)))
section
variable {X : Cx} {C : Addr} {f : Str}
/-- what raise C(e) asks, by that __init__ -/
theorem mk_exi {σ : St} {H : Hp} {Q : XK} {ta : TA} {v : V} (h : Evl.EvA ta σ H [v]) (k : ∀ H1 d, Evl.Ex H H1 → H1 d = none → Q (.ref C) (some d) (upd H1 d (.xd [(f, v)]))) : tMkO C (sp_exi C f) [] ta σ H Q :=
  h H (Evl.Ex.refl _) _ fun H1 e1 => ⟨by show 1 ≤ 1000; decide, fun a ha => by
    refine ⟨a, v, rfl, upd_same, fun dx hdx ne => ⟨rfl, dx, [(f, v)], upd_same, ?_, ?_, ?_⟩⟩
    · rw [upd_ne ne, upd_same]
    · rw [upd_ne ne] at hdx
      exact hdx
    · have hd1 : H1 dx = none := by
        rw [upd_ne ne] at hdx
        exact hdx
      have e : upd (del (upd (upd (upd H1 a (exo a C none)) dx (exd dx [(f, v)])) a (exo a C (some dx))) a) dx (.xd [(f, v)]) = upd H1 dx (.xd [(f, v)]) := by
        funext b
        by_cases hb : b = dx
        · rw [hb, upd_same, upd_same]
        · rw [upd_ne hb, upd_ne hb]
          by_cases hba : b = a
          · rw [hba, del_same, ha]
          · rw [del_ne hba, upd_ne hba, upd_ne hb, upd_ne hba]
      rw [e]
      exact k H1 dx e1 hd1⟩
end
end L2
/-! for i, c in enumerate(text); text * n. -/
namespace L2
open PySem PySem.Spec PyProof.Rows
/-- a text's signs, each with its number in a new pair -/
def Itse (z : Str) : It := ⟨fun i _ => i < z.cps.size, fun i H v H' => ∃ (T : Addr) (c : Nat), v = .ref T ∧ H T = none ∧ H' = upd H T (.tup [.int (i : Nat), .str ⟨#[c]⟩]) ∧ z.cps[i]? = some c, fun i _ => i = z.cps.size⟩
theorem draws_str {prog : Program} {w : World} {A : Around} (hh : A.handled = none) (it : Addr) (z : Str) (t : Tok) :
    Draws prog w A it [it] z.cps.size (fun i v => ∃ c u, z.cps[i]? = some c ∧ v = .str ⟨#[c]⟩ u) (fun i h => h.IsStrIter it (strIterType z) z t i) := by
  unfold strIterType
  by_cases ha : z.cps.all (· < 128) = true
  · rw [if_pos ha]
    exact Draws.strAscii hh it z t
  · rw [if_neg ha]
    exact Draws.strWide hh it z t
theorem turn_enumS {P : Program} {w : World} {K : PySem.W.Frag} {elts : List Expr} {kk : Nat} {tpos : Pos} (z : Str) (t : Tok) (e it : Addr) :
    Turn P w K (.Tuple elts kk tpos) (Itse z) [e, it] e (fun i h => (∃ old, IsEnum h e it ((i : Nat) : Int) old) ∧ h.IsStrIter it (strIterType z) z t i ∧ e ≠ it) where
  mem := by simp
  obj := fun i h st b hb => by
    obtain ⟨⟨old, he⟩, ⟨o, ho, hc, hd⟩, _⟩ := st
    have bb : b = e ∨ b = it := by simpa using hb
    rcases bb with q | q
    · subst q
      exact ⟨_, he, fun v y => nomatch y⟩
    · subst q
      exact ⟨o, ho, fun v y => by rw [hd] at y; cases y⟩
  keep := fun i h h' st k => by
    obtain ⟨⟨old, he⟩, ⟨o, ho, r⟩, ne⟩ := st
    exact ⟨⟨old, k e (by simp) _ he⟩, ⟨o, k it (by simp) _ ho, r⟩, ne⟩
  item := by
    intro X hP hw hK hc i pins s σ H E I hf st hg
    subst hP hw hK
    obtain ⟨⟨old, he⟩, hit, ne⟩ := st
    have le : e < s.heap.objs.size := Heap.lt_size he
    have li : it < s.heap.objs.size := by
      obtain ⟨_, q, _⟩ := hit
      exact Heap.lt_size q
    refine wpAny_pyNext_enum_itemD (draws_str (A := X.A.in1) (I.ok.hd hc) it z t) he hit hg ne (by simpa using ne) fun x h' tk px ho st' hT hz hk => ?_
    obtain ⟨c, u, ec, rfl⟩ := px
    refine ⟨_, rfl, wpAny_letOwnedTupleGo_enum (s := { s with heap := h', toks := tk + 1 }) ho fun h'' he' sb => ?_⟩
    have hT2 : h''.get? s.heap.objs.size = some { cls := .type "tuple", data := .seq #[.int i tk, .str ⟨#[c]⟩ u] } := (sb.2 _ (Nat.ne_of_gt le)).trans hT
    have new : ObjOk X.prog X.w (upd H s.heap.objs.size (.tup [.int (i : Nat), .str ⟨#[c]⟩])) h'' s.heap.objs.size (.tup [.int (i : Nat), .str ⟨#[c]⟩]) :=
      ⟨by show 2 ≤ sizeLine; decide, [.int i tk, .str ⟨#[c]⟩ u], .cons ⟨_, rfl⟩ (.cons ⟨_, rfl⟩ .nil), ⟨_, hT2, rfl, _, rfl⟩⟩
    have J : Inv X pins σ (upd H s.heap.objs.size (.tup [.int (i : Nat), .str ⟨#[c]⟩])) { s with heap := h'', toks := tk + 1 } :=
      I.turnedNew (ch := [e, it]) (fun b ob hb q => (sb.2 b (fun y => hb (by simp [y]))).trans (hk b ob (fun y => hb (by simp [y])) (fun y => hb (by simp [y])) q)) hf (Nat.le_refl _) new
    refine ⟨.ref s.heap.objs.size, _, J, rfl, ⟨_, c, rfl, I.hok.fresh (Nat.le_refl _), rfl, ec⟩, ⟨⟨.str ⟨#[c]⟩ u, ?_⟩, ?_, ne⟩, fun b hb => ?_⟩
    · have e1 : ((i + 1 : Nat) : Int) = (i : Int) + 1 := by omega
      rw [e1]
      exact he'
    · obtain ⟨o, q, r⟩ := st'
      exact ⟨o, (sb.2 it (Ne.symm ne)).trans q, r⟩
    · have lb : b < s.heap.objs.size := by
        have bb : b = e ∨ b = it := by simpa using hb
        rcases bb with q | q
        · rw [q]
          exact le
        · rw [q]
          exact li
      rw [upd_ne (Nat.ne_of_lt lb)]
      exact (hf b hb).1
  done := by
    intro X hP hw hK hc i pins s σ H E I hf st hg
    subst hP hw hK
    obtain ⟨⟨old, he⟩, hit, ne⟩ := st
    obtain ⟨f0, f1, f2, f3, f4, f5⟩ := hf it (by simp)
    have q : i = z.cps.size := hg
    subst q
    exact wpAny_pyNext_enum_endD (draws_str (A := X.A.in1) (I.ok.hd hc) it z t) he hit fun h' eb => ⟨rfl, I.turned (t' := s.toks) (fun b o hb y => eb b o hb y) f0 f1 f3 f4 f5⟩
  self := fun A i s Q E st h => by
    obtain ⟨⟨_, he⟩, _⟩ := st
    exact wpAny_pyIter_enum he h
def iEnumS (ta : TA) : TI := fun σ H R => ta σ H fun vs H1 => ∃ z : Str, vs = [.str z] ∧ R (Itse z) H1
theorem pi_enumS {X : Cx} {e : Expr} {ta : TA} {p pos tpos : Pos} {elts : List Expr} {kk : Nat} (hg : Gl X "enumerate") (hm : X.mg "enumerate" = none) (ha : PA X [e] ta) (hs : starEach [e] X.env = [(false, eval e X.env)] := by rfl) :
    PI X (.Tuple elts kk tpos) (.Call (.Name "enumerate" p) [e] [] pos) (iEnumS ta) := by
  refine ⟨fun pins s σ H R I h => ?_⟩
  refine Call_ (ld_blt I hg hm boot_enumerate (PyProof.Rows.callWith_type1 (thn (ha.run pos pins s σ H _ I h) fun us s1 ⟨vs, H1, I1, r1, z, ez, q⟩ => ?_) hs rfl))
  subst ez
  obtain ⟨u, rfl, t, rfl⟩ := vals1 r1
  refine call_enumerate_str fun h' he hit hsz hk => wpAny_pyIter_enum he ?_
  have J : Inv X pins σ H1 { s1 with heap := h' } := I1.kept (t' := s1.toks) hk
  refine ⟨s1.heap.objs.size + 1, [s1.heap.objs.size + 1, s1.heap.objs.size], _, _, H1, rfl, J, turn_enumS z t (s1.heap.objs.size + 1) s1.heap.objs.size, ⟨⟨.none, he⟩, hit, Nat.succ_ne_self _⟩, fun b hb => ?_, q⟩
  have bb : b = s1.heap.objs.size + 1 ∨ b = s1.heap.objs.size := by simpa using hb
  have lb : s1.heap.objs.size ≤ b := by
    rcases bb with q | q
    · rw [q]
      exact Nat.le_add_right _ _
    · rw [q]
      exact Nat.le_refl _
  exact I1.fpOk lb (I1.hok.fresh lb)
/-- the loop: Pv i holds ahead of the i-th sign -/
theorem for_enumS {z : Str} {g : TG} {tb : TS} {D : Ends} {σ : St} {H : Hp} (Pv : Nat → St → Hp → Prop) (h0 : Pv 0 σ H)
    (hs : ∀ i c σ H T, z.cps[i]? = some c → Pv i σ H → H T = none → g (.ref T) σ (upd H T (.tup [.int (i : Nat), .str ⟨#[c]⟩])) fun σ2 H2 => tb { D with nx := Pv (i + 1), ct := Pv (i + 1), bk := D.nx } σ2 H2) (hd : ∀ σ H, Pv z.cps.size σ H → D.nx σ H) :
    ∃ W : Nat → Nat → St → Hp → Prop, (∃ m, W 0 m σ H) ∧ ∀ i m σ H, W i m σ H →
      ((Itse z).stop i H ∧ D.nx σ H) ∨ ((Itse z).go i H ∧ ∃ N : St → Hp → Prop, (∀ σ' H', N σ' H' → ∃ m', m' < m ∧ W (i + 1) m' σ' H') ∧ ∀ x H', (Itse z).yld i H x H' → g x σ H' fun σ2 H2 => tb { D with nx := N, ct := N, bk := D.nx } σ2 H2) := by
  refine ⟨fun i m σ H => m = z.cps.size - i ∧ i ≤ z.cps.size ∧ Pv i σ H, ⟨z.cps.size, by simp, Nat.zero_le _, h0⟩, ?_⟩
  rintro i m σ H ⟨rfl, hi, p⟩
  by_cases lt : i < z.cps.size
  · refine .inr ⟨lt, Pv (i + 1), fun σ' H' p' => ⟨z.cps.size - (i + 1), by omega, rfl, lt, p'⟩, fun x H' y => ?_⟩
    obtain ⟨T, c, rfl, hT, rfl, ec⟩ := y
    exact hs i c σ H T ec p hT
  · have e : i = z.cps.size := by omega
    subst e
    exact .inl ⟨rfl, hd σ H p⟩
/-- text * n, n small -/
def rMulS : R2 := fun x y H Q => ∃ (z : Str) (n : Nat), x = .str z ∧ y = .int (n : Int) ∧ z.length ≤ 1000 ∧ n ≤ 1000 ∧ Q (.str ⟨(List.replicate n z.cps.toList).flatten.toArray⟩) H
theorem rep_fold (n : Nat) (a : Array Nat) (b : Array Nat) : ((List.replicate n a).foldl (· ++ ·) b).toList = b.toList ++ (List.replicate n a.toList).flatten := by
  induction n generalizing b with
  | zero => simp
  | succ n ih =>
    rw [List.replicate_succ, List.foldl_cons, ih, List.replicate_succ, List.flatten_cons]
    simp
theorem op_mulS {X : Cx} : OpR X (binaryOp .Mult) rMulS := by
  intro pins s σ H x y v u Q I rx ry h
  obtain ⟨z, n, rfl, rfl, hz, hn, q⟩ := h
  obtain ⟨t, rfl⟩ := rx
  obtain ⟨t', rfl⟩ := ry
  have zl : z.length = z.cps.size := rfl
  have big : z.length * n ≤ 1000 * 1000 := Nat.mul_le_mul hz hn
  refine PySem.P.mul_str (by rw [decide_eq_false (by omega), decide_eq_false (by omega)]; rfl) (fun h1 _ h2 => ?_) (fun h1 _ => ?_) ?_
  · have h3 : (n : Int) * ((2 ^ 63 - 1) / (n : Int)) > 2 ^ 63 - 1 - (n : Int) := by
      have := Int.lt_ediv_add_one_mul_self (2 ^ 63 - 1) (show (0 : Int) < n by omega)
      have e := Int.mul_comm ((2 ^ 63 - 1) / (n : Int)) n
      have e2 : ((2 ^ 63 - 1) / (n : Int) + 1) * (n : Int) = (2 ^ 63 - 1) / (n : Int) * n + n := by rw [Int.add_mul, Int.one_mul]
      omega
    have h4 : (n : Int) * ((2 ^ 63 - 1) / (n : Int)) ≤ (n : Int) * (z.length : Int) := Int.mul_le_mul_of_nonneg_left (by omega) (by omega)
    have h5 : (n : Int) * (z.length : Int) = ((z.length * n : Nat) : Int) := by rw [Int.natCast_mul, Int.mul_comm]
    omega
  · rw [Int.toNat_natCast]
    unfold PySem.Builtin.Str.tooLong
    exact decide_eq_false (by rw [sizeLine_eq]; omega)
  · by_cases h1 : (n : Int) < 1
    · rw [if_pos h1]
      have n0 : n = 0 := by omega
      subst n0
      exact ⟨by decide, ⟨.str _, H, I.tok _, ⟨_, rfl⟩, q⟩⟩
    · rw [if_neg h1]
      by_cases h2 : ((n : Int) == 1 || z.length == 0) = true
      · rw [if_pos h2]
        have e : (⟨(List.replicate n z.cps.toList).flatten.toArray⟩ : Str) = z := by
          rw [Bool.or_eq_true, beq_iff_eq, beq_iff_eq] at h2
          rcases h2 with h2 | h2
          · have : n = 1 := by omega
            subst this
            simp
          · have : z.cps = #[] := Array.eq_empty_of_size_eq_zero h2
            obtain ⟨cps⟩ := z
            dsimp only at this
            subst this
            simp
        rw [e] at q
        exact ⟨.str z, H, I, ⟨_, rfl⟩, q⟩
      · rw [if_neg h2]
        have e : (⟨(List.replicate (n : Int).toNat z.cps).foldl (· ++ ·) #[]⟩ : Str) = ⟨(List.replicate n z.cps.toList).flatten.toArray⟩ := by
          rw [Int.toNat_natCast]
          congr 1
          apply Array.ext'
          rw [rep_fold]
          simp
        rw [e]
        refine ⟨?_, ⟨.str _, H, I.tok _, ⟨_, rfl⟩, q⟩⟩
        show ((List.replicate n z.cps.toList).flatten.toArray).size ≤ sizeLine
        rw [List.size_toArray, List.length_flatten, List.map_replicate, List.sum_replicate_nat, sizeLine_eq]
        have zz : z.cps.toList.length = z.length := by simp [Str.length]
        rw [zz, Nat.mul_comm]
        omega
end L2
namespace L2
open PySem PySem.Spec PyProof.Rows _root_.Evl
section
variable {σ : L2.St} {H : Hp} {t u : TT} {b : Bool}
theorem et_and0 (h : EvT t σ H false) : EvT (tAnd t u) σ H false := fun H1 e Q q => h H1 e _ fun H2 e2 => iteF (q H2 e2)
theorem et_and1 (h : EvT t σ H true) (h2 : EvT u σ H b) : EvT (tAnd t u) σ H b := fun H1 e Q q => h H1 e _ fun H2 e2 => iteT (h2 H2 (e.trans e2) Q fun H3 e3 => q H3 (e2.trans e3))
theorem et_or1 (h : EvT t σ H true) : EvT (tOr t u) σ H true := fun H1 e Q q => h H1 e _ fun H2 e2 => iteT (q H2 e2)
theorem et_or0 (h : EvT t σ H false) (h2 : EvT u σ H b) : EvT (tOr t u) σ H b := fun H1 e Q q => h H1 e _ fun H2 e2 => iteF (h2 H2 (e.trans e2) Q fun H3 e3 => q H3 (e2.trans e3))
theorem q_forE {te : TE} {g : TG} {tu tz : TS} {D : Ends} {z : Str} (h : Ev te σ H (.str z)) (Pv : Nat → St → Hp → Prop) (h0 : ∀ H1, Ex H H1 → Pv 0 σ H1)
    (hs : ∀ i c σ' H' T, z.cps[i]? = some c → Pv i σ' H' → H' T = none → g (.ref T) σ' (upd H' T (.tup [.int (i : Nat), .str ⟨#[c]⟩])) fun σ2 H2 => tu { D with nx := Pv (i + 1), ct := Pv (i + 1), bk := tz D } σ2 H2) (hd : ∀ σ' H', Pv z.cps.size σ' H' → tz D σ' H') :
    tSeq (tFor (iEnumS (tCons te tNil)) g tu) tz D σ H := h H (Ex.refl _) _ fun H1 e1 => ⟨z, rfl, for_enumS (D := { D with nx := tz D }) Pv (h0 H1 e1) hs hd⟩
theorem q_two {K : PySem.W.Frag} {tA : TA} {i j : Nat} {tz : TS} {D : Ends} {v w : V} (h : EvA tA σ H [v, w]) (k : ∀ H1, Ex H H1 → tz D ((σ.set i (some v)).set j (some w)) H1) : tSeq (tAsg (tTup tA) (gTup K 2 (gCons (gName i) (gCons (gName j) gNil)))) tz D σ H :=
  h H (Ex.refl _) _ fun H1 e1 => ⟨by show 2 ≤ sizeLine; decide, fun p hp => ⟨p, _, rfl, st_of upd_same, rfl, _, _, rfl, _, _, rfl, rfl, k _ (e1.trans (Ex.new hp))⟩⟩
end
end L2
namespace Nm
/-- how many signs of the kind stand at the front, at most so many -/
def run (p : Nat → Bool) : Nat → List Nat → Nat
  | 0, _ => 0
  | _ + 1, [] => 0
  | m + 1, c :: r => if p c then run p m r + 1 else 0
theorem run_nil (p : Nat → Bool) (m : Nat) : run p m [] = 0 := by cases m <;> rfl
theorem run_stop {p : Nat → Bool} {m : Nat} {L : List Nat} {c : Nat} (h : L.head? = some c) (hp : p c = false) : run p m L = 0 := by
  cases m with
  | zero => rfl
  | succ m =>
    cases L with
    | nil => cases h
    | cons d r =>
      cases h
      show (if p c then _ else 0) = 0
      rw [hp]
      rfl
theorem run_go {p : Nat → Bool} {m : Nat} {L : List Nat} {c : Nat} (h : L.head? = some c) (hp : p c = true) (hm : 0 < m) : run p m L = run p (m - 1) (L.drop 1) + 1 := by
  cases m with
  | zero => cases hm
  | succ m =>
    cases L with
    | nil => cases h
    | cons d r =>
      cases h
      show (if p c then _ else 0) = _
      rw [hp]
      rfl
theorem head_drop {L : List Nat} {i c : Nat} (h : L[i]? = some c) : (L.drop i).head? = some c := by
  rw [List.head?_drop, h]
theorem run_le (p : Nat → Bool) : ∀ (m : Nat) (L : List Nat), run p m L ≤ L.length
  | 0, _ => Nat.zero_le _
  | _ + 1, [] => Nat.zero_le _
  | m + 1, c :: r => by
    show (if p c then run p m r + 1 else 0) ≤ _
    have := run_le p m r
    split
    · rw [List.length_cons]
      omega
    · exact Nat.zero_le _
theorem run_most (p : Nat → Bool) : ∀ (m : Nat) (L : List Nat), run p m L ≤ m
  | 0, _ => Nat.le_refl _
  | _ + 1, [] => Nat.zero_le _
  | m + 1, c :: r => by
    show (if p c then run p m r + 1 else 0) ≤ _
    have := run_most p m r
    split
    · omega
    · exact Nat.zero_le _
/-- what a text is told as: no name, at a sign; or a name, so many letters -/
def res (isL isM : Nat → Bool) (cs : List Nat) : Nat ⊕ Nat :=
  if run isL 6 cs = 0 then .inl 0 else if run isL 6 cs + run isM 5 (cs.drop (run isL 6 cs)) < cs.length then .inl (run isL 6 cs + run isM 5 (cs.drop (run isL 6 cs))) else .inr (run isL 6 cs)
structure J (isL isM : Nat → Bool) (cs : List Nat) (i l m : Nat) : Prop where
  at_ : i = l + m
  l6 : l ≤ 6
  m5 : m ≤ 5
  one : m = 0 → run isL 6 cs = l + run isL (6 - l) (cs.drop l)
  two : 0 < m → 0 < l ∧ run isL 6 cs = l ∧ run isM 5 (cs.drop l) = m + run isM (5 - m) (cs.drop i)
section
variable {isL isM : Nat → Bool} {cs : List Nat} {i l m c : Nat}
theorem j_start : J isL isM cs 0 0 0 := ⟨rfl, by decide, by decide, fun _ => (Nat.zero_add _).symm, fun h => absurd h (by decide)⟩
theorem j_letter (h : J isL isM cs i l m) (hc : cs[i]? = some c) (hL : isL c = true) (hm : m = 0) (hl : l < 6) : J isL isM cs (i + 1) (l + 1) m := by
  have e := h.at_
  subst hm
  have il : i = l := by omega
  subst il
  refine ⟨by omega, by omega, by decide, fun _ => ?_, fun q => absurd q (by decide)⟩
  have h1 := h.one rfl
  rw [run_go (head_drop hc) hL (by omega), List.drop_drop] at h1
  have e6 : 6 - (i + 1) = 6 - i - 1 := by omega
  rw [h1, e6]
  omega
theorem j_mark (h : J isL isM cs i l m) (hc : cs[i]? = some c) (hM : isM c = true) (hno : isM c = true → isL c = false) (hl : 0 < l) (hm : m < 5) : J isL isM cs (i + 1) l (m + 1) := by
  have e := h.at_
  refine ⟨by omega, h.l6, by omega, fun q => absurd q (by omega), fun _ => ⟨hl, ?_, ?_⟩⟩
  · by_cases m0 : m = 0
    · have h1 := h.one m0
      have il : i = l := by omega
      rw [← il, run_stop (head_drop hc) (hno hM)] at h1
      omega
    · exact (h.two (by omega)).2.1
  · by_cases m0 : m = 0
    · subst m0
      have il : i = l := by omega
      subst il
      rw [run_go (head_drop hc) hM (by decide), List.drop_drop]
      show run isM 4 (cs.drop (i + 1)) + 1 = 0 + 1 + run isM 4 (cs.drop (i + 1))
      omega
    · have h2 := (h.two (by omega)).2.2
      rw [run_go (head_drop hc) hM (by omega), List.drop_drop] at h2
      have e5 : 5 - (m + 1) = 5 - m - 1 := by omega
      rw [h2, e5]
      omega
theorem j_no (h : J isL isM cs i l m) (hc : cs[i]? = some c) (hA : ¬ (isL c = true ∧ m = 0 ∧ l < 6)) (hB : ¬ (isM c = true ∧ 0 < l ∧ m < 5)) : res isL isM cs = .inl i := by
  have e := h.at_
  have hlt : i < cs.length := (List.getElem?_eq_some_iff.mp hc).1
  by_cases m0 : m = 0
  · have il : i = l := by omega
    have h1 := h.one m0
    have z : run isL (6 - l) (cs.drop l) = 0 := by
      by_cases l6 : l < 6
      · cases q : isL c with
        | true => exact absurd ⟨q, m0, l6⟩ hA
        | false =>
          rw [← il]
          exact run_stop (head_drop hc) q
      · have : 6 - l = 0 := by omega
        rw [this]
        rfl
    rw [z] at h1
    unfold res
    by_cases l0 : l = 0
    · rw [if_pos (by omega)]
      have : i = 0 := by omega
      rw [this]
    · have zm : run isM 5 (cs.drop l) = 0 := by
        cases q : isM c with
        | true => exact absurd ⟨q, by omega, by omega⟩ hB
        | false =>
          rw [← il]
          exact run_stop (head_drop hc) q
      have rl : run isL 6 cs = l := by omega
      rw [if_neg (by omega), rl, zm, if_pos (by omega), Nat.add_zero, ← il]
  · obtain ⟨l0, rl, rm⟩ := h.two (by omega)
    have z : run isM (5 - m) (cs.drop i) = 0 := by
      by_cases m5 : m < 5
      · cases q : isM c with
        | true => exact absurd ⟨q, l0, m5⟩ hB
        | false => exact run_stop (head_drop hc) q
      · have : 5 - m = 0 := by omega
        rw [this]
        rfl
    rw [z] at rm
    unfold res
    rw [if_neg (by omega), rl, rm, if_pos (by omega)]
    congr 1
    omega
theorem j_end (h : J isL isM cs i l m) (hi : i = cs.length) : res isL isM cs = if l = 0 then .inl 0 else .inr l := by
  have e := h.at_
  have dn : cs.drop i = [] := by rw [hi, List.drop_length]
  by_cases m0 : m = 0
  · have il : i = l := by omega
    have h1 := h.one m0
    rw [← il, dn, run_nil] at h1
    unfold res
    by_cases l0 : l = 0
    · rw [if_pos (by omega), if_pos l0]
    · have rl : run isL 6 cs = l := by omega
      rw [if_neg (by omega), rl, ← il, dn, run_nil, if_neg (by omega), if_neg (by omega)]
  · obtain ⟨l0, rl, rm⟩ := h.two (by omega)
    rw [dn, run_nil] at rm
    unfold res
    rw [if_neg (by omega), rl, rm, if_neg (by omega), if_neg (by omega)]
end
end Nm

namespace K04
open PySem PySem.Spec PyProof.Rows L2
def topS (i : Nat) : Stmt := PySem.Challenge.pw_rosenames_k04_names_parted.main.body.getD i (.Pass ⟨0, 0, 0, 0⟩)
abbrev s_NoName_init : Stmt := inClass (topS 3) 0
theorem sc_NoName_init : FnScope ["self", "at"] ["self", "at"] (defScope s_NoName_init) := ⟨rfl, rfl, rfl, by decide +kernel, rfl, by decide +kernel, by decide +kernel⟩
abbrev s_parted : Stmt := topS 22
theorem sc_parted : FnScope ["text"] ["text"] (defScope s_parted) := ⟨rfl, rfl, rfl, by decide +kernel, rfl, by decide +kernel, by decide +kernel⟩
abbrev s_parted_within : Stmt := topS 23
theorem sc_parted_within : FnScope ["text", "most", "behind_word", "behind_marks"] ["text", "most"] (defScope s_parted_within) := ⟨rfl, rfl, rfl, by decide +kernel, rfl, by decide +kernel, by decide +kernel⟩
abbrev s_end_of_run : Stmt := topS 24
theorem sc_end_of_run : FnScope ["text", "begin", "signs", "most", "end"] ["text", "begin", "signs", "most"] (defScope s_end_of_run) := ⟨rfl, rfl, rfl, by decide +kernel, rfl, by decide +kernel, by decide +kernel⟩
abbrev s_l_pack : Stmt := topS 26
theorem sc_l_pack : FnScope ["_law_script", "_law_k", "_law_cell", "_law_own", "_law_one", "_law_two", "_law_found", "_law_number"] ["_law_script", "_law_k"] (defScope s_l_pack) := ⟨rfl, rfl, rfl, by decide +kernel, rfl, by decide +kernel, by decide +kernel⟩
abbrev s_l_take : Stmt := topS 27
theorem sc_l_take : FnScope ["_law_pool", "_law_many", "_law_digit"] ["_law_pool", "_law_many"] (defScope s_l_take) := ⟨rfl, rfl, rfl, by decide +kernel, rfl, by decide +kernel, by decide +kernel⟩
abbrev s_l_words : Stmt := topS 28
theorem sc_l_words : FnScope ["_law_pool", "_law_many", "_law_own", "_law_way", "_law_at", "_law_step", "_law_k", "_law_letters", "_law_size", "_law_stem", "_law_put", "_law_first"] ["_law_pool", "_law_many"] (defScope s_l_words) := ⟨rfl, rfl, rfl, by decide +kernel, rfl, by decide +kernel, by decide +kernel⟩
abbrev s_l_due : Stmt := topS 29
theorem sc_l_due : FnScope ["_law_thing", "_law_letters", "_law_marks", "_law_at", "_law_sign"] ["_law_thing"] (defScope s_l_due) := ⟨rfl, rfl, rfl, by decide +kernel, rfl, by decide +kernel, by decide +kernel⟩
abbrev s_l_told : Stmt := topS 30
theorem sc_l_told : FnScope ["_law_thing", "_law_caught", "_law_found", "e", "_law_part", "_law_others"] ["_law_thing"] (defScope s_l_told) := ⟨rfl, rfl, rfl, by decide +kernel, rfl, by decide +kernel, by decide +kernel⟩
abbrev s_l_spoilt : Stmt := topS 31
theorem sc_l_spoilt : FnScope ["_law_pool", "_law_text", "_law_signs", "_law_way", "_law_at", "_law_some", "_law_sign"] ["_law_pool", "_law_text"] (defScope s_l_spoilt) := ⟨rfl, rfl, rfl, by decide +kernel, rfl, by decide +kernel, by decide +kernel⟩
abbrev s_law : Stmt := topS 32
theorem sc_law : FnScope ["_law_script", "_law_things", "_law_deep", "_law_turn", "_law_thing", "_law_k", "_law_pool", "_law_name", "_law_mark", "_law_text"] ["_law_script"] (defScope s_law) := ⟨rfl, rfl, rfl, by decide +kernel, rfl, by decide +kernel, by decide +kernel⟩
def d_NoName_init : He.DefD := ⟨("NoName", some "__init__"), "__init__", "NoName.__init__", defArgs s_NoName_init, defBody s_NoName_init, defScope s_NoName_init, [], []⟩
def d_parted : He.DefD := ⟨("parted", none), "parted", "parted", defArgs s_parted, defBody s_parted, defScope s_parted, [], []⟩
def d_parted_within : He.DefD := ⟨("parted_within", none), "parted_within", "parted_within", defArgs s_parted_within, defBody s_parted_within, defScope s_parted_within, [], []⟩
def d_end_of_run : He.DefD := ⟨("end_of_run", none), "end_of_run", "end_of_run", defArgs s_end_of_run, defBody s_end_of_run, defScope s_end_of_run, [], []⟩
def d_l_pack : He.DefD := ⟨("_law_pack", none), "_law_pack", "_law_pack", defArgs s_l_pack, defBody s_l_pack, defScope s_l_pack, [], []⟩
def d_l_take : He.DefD := ⟨("_law_take", none), "_law_take", "_law_take", defArgs s_l_take, defBody s_l_take, defScope s_l_take, [], []⟩
def d_l_words : He.DefD := ⟨("_law_words", none), "_law_words", "_law_words", defArgs s_l_words, defBody s_l_words, defScope s_l_words, [], []⟩
def d_l_due : He.DefD := ⟨("_law_due", none), "_law_due", "_law_due", defArgs s_l_due, defBody s_l_due, defScope s_l_due, [], []⟩
def d_l_told : He.DefD := ⟨("_law_told", none), "_law_told", "_law_told", defArgs s_l_told, defBody s_l_told, defScope s_l_told, [], []⟩
def d_l_spoilt : He.DefD := ⟨("_law_spoilt", none), "_law_spoilt", "_law_spoilt", defArgs s_l_spoilt, defBody s_l_spoilt, defScope s_l_spoilt, [], []⟩
def d_law : He.DefD := ⟨("law", none), "law", "law", defArgs s_law, defBody s_law, defScope s_law, [], []⟩
def fn : List He.DefD := [d_NoName_init, d_parted, d_parted_within, d_end_of_run, d_l_pack, d_l_take, d_l_words, d_l_due, d_l_told, d_l_spoilt, d_law]
def fa0 : List He.Fa := [.glo "parted", .glo "parted_within", .glo "end_of_run", .glo "_law_pack", .glo "_law_take", .glo "_law_words", .glo "_law_due", .glo "_law_told", .glo "_law_spoilt", .glo "law", .free "isinstance", .free "str", .free "tuple", .free "divmod", .free "len", .free "range", .free "all", .free "bool", .free "enumerate", .free "max", .free "min", .free "ValueError", .glo "RoseError", .glo "NoName", .noat "NoName" "at", .meth "NoName" "__init__", .exm "NoName" "RoseError" true, .str "LETTERS" "abcdefghijklmnopqrstuvwxyz", .int "MOST_LETTERS" 6, .str "ON" ">"]
def fa1 : List He.Fa := [.str "BACK" "<", .int "MOST_MARKS" 5, .glo "NoPair", .glo "NoRoom", .glo "NoRose", .glo "NoRow", .glo "NoStep", .glo "NoText", .glo "NoTurn", .glo "NoWalk", .glo "NoWind", .glo "LostError", .glo "NoDeed", .glo "NoSuch", .glo "NoWord"]
def fa : List He.Fa := fa0 ++ fa1
def kits : List (Str × Bool) := [("NoPair", false), ("NoRoom", false), ("NoRose", false), ("NoRow", false), ("NoStep", false), ("NoText", false), ("NoTurn", false), ("NoWalk", false), ("NoWind", false), ("LostError", false), ("NoDeed", false), ("NoSuch", false), ("NoWord", false), ("NoName", true)]
def ex (K : PySem.W.Frag) : Bool := xkB K "NoName" && (oexB K "NoName" && (baseB K "RoseError" && (kitsB K "NoName" kits && decide (PySem.W.kitOne K (.ref (He.ga K "NoName")) (.type "ValueError") = some true))))
def ns0 : List PySem.Str := ["RoseError", "NoTurn", "NoName", "NoStep", "NoRose", "NoText", "NoWind", "NoPair", "NoRoom", "NoWalk", "NoRow", "LostError", "NoWord", "NoDeed", "NoSuch", "LETTERS", "MOST_LETTERS", "ON", "BACK", "MOST_MARKS", "parted", "parted_within", "end_of_run", "_law_pack", "_law_take", "_law_words", "_law_due", "_law_told", "_law_spoilt"]
def names : List PySem.Str := ns0
abbrev R : PySem.W.OpenRow := PySem.W.OpenLaw.row PySem.Challenge.rw_rosenames_k04_names_parted
def hk : PySem.W.Hook := hookM 5 fa fn ex
def ob (s : PySem.W.SharedT) : He.AlD × Bool := (He.obsD fa fn (He.frG (HandSHeadRun.getT s) (asN (HandSHeadRun.getT s) 5)), ex (He.frG (HandSHeadRun.getT s) (asN (HandSHeadRun.getT s) 5)))
theorem ob_eq (s : PySem.W.SharedT) : ob s = hk.obs s.abs := by
  have e : HandSHeadRun.getT s = s.abs.heap.get? := funext fun a => HandSHeadRun.getT_eq s a
  unfold ob
  rw [e]
  rfl
theorem run (w : World) : HandSHeadRun.RunEq R (PySem.W.view R.prog [32]) hk ob 6000 names w := by
  intro os
  kernel_rfl
end K04
namespace K04
open PySem PySem.Spec PyProof.Rows L2 Evl
structure Txt (K : PySem.W.Frag) (mg : Str → Option Value) : Prop where
  g_RoseError : mg "RoseError" = some (.ref (He.ga K "RoseError"))
  g_NoName : mg "NoName" = some (.ref (He.ga K "NoName"))
  g_NoPair : mg "NoPair" = some (.ref (He.ga K "NoPair"))
  g_NoRoom : mg "NoRoom" = some (.ref (He.ga K "NoRoom"))
  g_NoRose : mg "NoRose" = some (.ref (He.ga K "NoRose"))
  g_NoRow : mg "NoRow" = some (.ref (He.ga K "NoRow"))
  g_NoStep : mg "NoStep" = some (.ref (He.ga K "NoStep"))
  g_NoText : mg "NoText" = some (.ref (He.ga K "NoText"))
  g_NoTurn : mg "NoTurn" = some (.ref (He.ga K "NoTurn"))
  g_NoWalk : mg "NoWalk" = some (.ref (He.ga K "NoWalk"))
  g_NoWind : mg "NoWind" = some (.ref (He.ga K "NoWind"))
  g_LostError : mg "LostError" = some (.ref (He.ga K "LostError"))
  g_NoDeed : mg "NoDeed" = some (.ref (He.ga K "NoDeed"))
  g_NoSuch : mg "NoSuch" = some (.ref (He.ga K "NoSuch"))
  g_NoWord : mg "NoWord" = some (.ref (He.ga K "NoWord"))
  g_LETTERS : ∃ t, mg "LETTERS" = some (.str "abcdefghijklmnopqrstuvwxyz" t)
  g_MOST_LETTERS : ∃ t, mg "MOST_LETTERS" = some (.int 6 t)
  g_ON : ∃ t, mg "ON" = some (.str ">" t)
  g_BACK : ∃ t, mg "BACK" = some (.str "<" t)
  g_MOST_MARKS : ∃ t, mg "MOST_MARKS" = some (.int 5 t)
  base : BaseC K (He.ga K "RoseError")
  oex : OexC K (He.ga K "NoName")
  xk : XkC K (He.ga K "NoName")
  noat : NoAttr K (He.ga K "NoName") "at"
  mi : Meth K (He.ga K "NoName") "__init__" (He.ma K (He.ga K "NoName") "__init__")
  kit : kitsB K "NoName" kits = true
  kv : PySem.W.kitOne K (.ref (He.ga K "NoName")) (.type "ValueError") = some true
  exm : PySem.W.exmOne K (.ref (He.ga K "NoName")) (.ref (He.ga K "RoseError")) = some true
  b_isinstance : mg "isinstance" = none
  b_str : mg "str" = none
  b_tuple : mg "tuple" = none
  b_divmod : mg "divmod" = none
  b_len : mg "len" = none
  b_range : mg "range" = none
  b_all : mg "all" = none
  b_bool : mg "bool" = none
  b_enumerate : mg "enumerate" = none
  b_max : mg "max" = none
  b_min : mg "min" = none
  b_ValueError : mg "ValueError" = none
abbrev FnP (K : PySem.W.Frag) (x : Str) (st : Stmt) (f : Addr) (fd : FuncData) : Prop := FunD K x x (defArgs st) (defBody st) (defScope st) [] [] f fd
abbrev FnM (K : PySem.W.Frag) (x qual : Str) (st : Stmt) (f : Addr) (fd : FuncData) : Prop := FunD K x qual (defArgs st) (defBody st) (defScope st) [] [] f fd
/-! ### texts -/
def cs (z : Str) : List Nat := z.cps.toList
theorem cs_len (z : Str) : z.length = (cs z).length := by simp [cs, Str.length]
def isL (c : Nat) : Bool := decide (c ∈ cs "abcdefghijklmnopqrstuvwxyz")
def isM (c : Nat) : Bool := decide (c ∈ cs "><")
theorem isM_law (c : Nat) : decide (c ∈ cs "<>") = isM c := by
  have e1 : cs "<>" = [60, 62] := by decide +kernel
  have e2 : cs "><" = [62, 60] := by decide +kernel
  unfold isM
  rw [e1, e2]
  simp [or_comm]
theorem isM_no (c : Nat) (h : isM c = true) : isL c = false := by
  have e2 : cs "><" = [62, 60] := by decide +kernel
  have h1 := of_decide_eq_true h
  rw [e2] at h1
  simp only [List.mem_cons, List.mem_nil_iff, or_false] at h1
  rcases h1 with rfl | rfl <;> decide +kernel
def takeS (z : Str) (n : Nat) : Str := ⟨((cs z).take n).toArray⟩
def dropS (z : Str) (n : Nat) : Str := ⟨((cs z).drop n).toArray⟩
theorem cut_take (z : Str) (n : Nat) : cutS z none (some (n : Int)) = takeS z n := by
  unfold cutS takeS
  rw [HT.sIx_none, HT.sIx_nat, List.drop_zero, Nat.sub_zero]
  congr 2
  show List.take (min n z.length) z.cps.toList = _
  rw [cs_len]
  by_cases h : n ≤ (cs z).length
  · rw [Nat.min_eq_left h]
    rfl
  · rw [Nat.min_eq_right (by omega)]
    show List.take (cs z).length (cs z) = _
    rw [List.take_of_length_le (Nat.le_refl _), List.take_of_length_le (by omega)]
theorem cut_drop (z : Str) (n : Nat) : cutS z (some (n : Int)) none = dropS z n := by
  unfold cutS dropS
  rw [HT.sIx_none, HT.sIx_nat]
  congr 1
  rw [cs_len]
  have e : z.cps.toList = cs z := rfl
  rw [e]
  by_cases h : n ≤ (cs z).length
  · rw [Nat.min_eq_left h, List.take_of_length_le (by rw [List.length_drop]; omega)]
  · rw [Nat.min_eq_right (by omega), List.drop_of_length_le (Nat.le_refl _), List.drop_of_length_le (by omega)]
    simp
/-! ### things, and what they are told as -/
inductive Th (K : PySem.W.Frag) (H : Hp) : V → Nat ⊕ Nat → Prop
  | text (z : Str) (h : z.length ≤ 1000) : Th K H (.str z) (Nm.res isL isM (cs z))
  | thing (x : V) (t : Value) (hx : ∀ H1, Ex H H1 → TyX K H1 x t) (hk : PySem.W.kitOne K t (.type "str") = some false) : Th K H x (.inl 0)
theorem Th.ex {K : PySem.W.Frag} {H H' : Hp} {x : V} {r : Nat ⊕ Nat} (h : Th K H x r) (e : Ex H H') : Th K H' x r := by
  cases h with
  | text z h => exact .text z h
  | thing x t hx hk => exact .thing x t (fun H1 e1 => hx H1 (e.trans e1)) hk
theorem Th.isi {K : PySem.W.Frag} {H : Hp} {x : V} {r : Nat ⊕ Nat} (h : Th K H x r) : (∃ z, x = .str z ∧ z.length ≤ 1000 ∧ r = Nm.res isL isM (cs z) ∧ RC (rIsi K) [x, .ty "str"] H (.bl true)) ∨ (r = .inl 0 ∧ RC (rIsi K) [x, .ty "str"] H (.bl false)) := by
  cases h with
  | text z h => exact .inl ⟨z, rfl, h, rfl, rc_isi (.ty "str") (fun _ _ => .base (.str z)) (kit_ty (by decide +kernel))⟩
  | thing x t hx hk => exact .inr ⟨rfl, rc_isi (.ty "str") hx hk⟩
section
variable {σ : L2.St} {H : Hp} {ta tb : TE} {x y : V}
theorem rc_lenS {z : Str} (hz : z.length ≤ 1000) : RC (fun xs H Q => ∃ z : Str, xs = [.str z] ∧ z.length ≤ sizeLine ∧ Q (.int z.length) H) [.str z] H (.int ((cs z).length : Int)) := fun H1 _ Q q =>
  ⟨z, rfl, sz_of (by omega), by rw [cs_len]; exact q H1 (Ex.refl _)⟩
theorem rv_inS {c : Nat} {z : Str} : RV (fun x y H Q => ∃ (c : Nat) (z : Str), x = .str ⟨#[c]⟩ ∧ y = .str z ∧ Q (.bl (decide (c ∈ z.cps.toList))) H) (.str ⟨#[c]⟩) (.str z) H (.bl (decide (c ∈ cs z))) := fun H1 _ Q q => ⟨c, z, rfl, rfl, q H1 (Ex.refl _)⟩
theorem ev_ixS {z : Str} {i c : Nat} (ha : Ev ta σ H (.str z)) (hb : Ev tb σ H (.int (i : Int))) (hz : z.length ≤ 1000) (hc : (cs z)[i]? = some c) : Ev (tOp rIxS ta tb) σ H (.str ⟨#[c]⟩) := ev_op ha hb (rv_ixS (by omega) (atI_nat hc))
theorem ev_take {z : Str} {n : Nat} (ha : Ev ta σ H (.str z)) (hb : Ev tb σ H (.int (n : Int))) (hz : z.length ≤ 1000) : Ev (tSl rSlS ta tNoPart (tPart tb)) σ H (.str (takeS z n)) := fun H1 e Q q =>
  ha H1 e _ fun H2 e2 => hb H2 (e.trans e2) _ fun H3 e3 => ⟨_, rfl, z, rfl, sz_of (by omega), by rw [cut_take]; exact q H3 (e2.trans e3)⟩
theorem ev_drop {z : Str} {n : Nat} (ha : Ev ta σ H (.str z)) (hb : Ev tb σ H (.int (n : Int))) (hz : z.length ≤ 1000) : Ev (tSl rSlS ta (tPart tb) tNoPart) σ H (.str (dropS z n)) := fun H1 e Q q =>
  ha H1 e _ fun H2 e2 => hb H2 (e.trans e2) _ fun H3 e3 => ⟨_, rfl, z, rfl, sz_of (by omega), by rw [cut_drop]; exact q H3 (e2.trans e3)⟩
end
/-! ### the program -/
def sp_run : Sp := fun vs H Q _ => ∃ (z sg : Str) (b m : Nat), vs = [.str z, .int (b : Int), .str sg, .int (m : Int)] ∧ z.length ≤ 1000 ∧
  ∀ H2, Ex H H2 → Q (.int ((b + Nm.run (fun c => decide (c ∈ cs sg)) m ((cs z).drop b) : Nat) : Int)) H2
def sp_pwr (K : PySem.W.Frag) : Sp := fun vs H Q E => ∃ (x : V) (r : Nat ⊕ Nat), vs = [x, .int 5] ∧ Th K H x r ∧ (∀ at_, r = .inl at_ → ∀ H1 d, Ex H H1 → H1 d = none → E (.ref (He.ga K "NoName")) (some d) (upd H1 d (.xd [("at", .int (at_ : Int))]))) ∧
  ∀ z n, x = .str z → r = .inr n → ∀ p H2, H p = none → Ex H H2 → H2 p = some (.tup [.str (takeS z n), .str (dropS z n)]) → Q (.ref p) H2
def sp_parted (K : PySem.W.Frag) : Sp := fun vs H Q E => ∃ (x : V) (r : Nat ⊕ Nat), vs = [x] ∧ Th K H x r ∧ (∀ at_, r = .inl at_ → ∀ H1 d, Ex H H1 → H1 d = none → E (.ref (He.ga K "NoName")) (some d) (upd H1 d (.xd [("at", .int (at_ : Int))]))) ∧
  ∀ z n, x = .str z → r = .inr n → ∀ p H2, H p = none → Ex H H2 → H2 p = some (.tup [.str (takeS z n), .str (dropS z n)]) → Q (.ref p) H2
section
variable {P : Program} {w : World} {K : PySem.W.Frag} {mg : Str → Option Value} {base : Heap} {f : Addr} {fd : FuncData}
theorem ok_init (F : FnM K "__init__" "NoName.__init__" s_NoName_init f fd) (T : Txt K mg) : FnOk P w K mg base CX0 1 f fd ["self", "at"] (sp_exi (He.ga K "NoName") "at") := by
  refine F.ok sc_NoName_init (fun vs H Q E h => ?_) (fun cdv A outer s H vs Q E hr h => ?_)
  · obtain ⟨a, v, rfl, _⟩ := h
    rfl
  · obtain ⟨a, v, rfl, ha, k⟩ := h
    refine ⟨_, PSs.nox (pss_cons (ps_expr (pe_baseinit (by rfl) T.g_RoseError T.base (pa_cons (pv 0) (pa_cons pe_str pa_nil))))
      (pss_one (ps_ost (pv 0) (pv 1)))), ?_⟩
    refine q_dropX (show tVeI K _ _ _ _ from x_cons (x_var rfl (x_cons (x_c (x_nil ⟨a, He.ga K "NoName", _, rfl, by show 1 ≤ 1000; decide, T.oex, ha, ?_⟩)))))
    exact ⟨_, rfl, _, rfl, a, He.ga K "NoName", rfl, T.oex, T.noat, .inl ⟨ha, k⟩⟩
theorem ok_run (F : FnP K "end_of_run" s_end_of_run f fd) (T : Txt K mg) : FnOk P w K mg base CX0 1 f fd ["text", "begin", "signs", "most"] sp_run := by
  refine F.ok sc_end_of_run (fun vs H Q E h => ?_) (fun cdv A outer s H vs Q E hr h => ?_)
  · obtain ⟨z, sg, b, m, rfl, _⟩ := h
    rfl
  · obtain ⟨z, sg, b, m, rfl, hz, q⟩ := h
    refine ⟨_, PSs.nox (pss_cons (ps_set (i := 4) sc_end_of_run.nd rfl (Or.inl rfl) (pv 1))
      (pss_cons (ps_while PassesOwn.never (PW.pt (pw_and (pt_cmpR op_lt (pv 4) (pe_callB call_len_str (by rfl) T.b_len (by decide +kernel) (pa_cons (pv 0) pa_nil)) (nomark _)) (pw_and (pt_cmpR op_lt (pv 4) (pe_op op_add (pv 1) (pv 3)) (nomark _)) (pw_and1 (pt_cmpR op_in_sign (pe_ix ix_str (pv 0) (pv 4) (fun _ _ => rfl)) (pv 2) (by rfl)))))) (pss_one (ps_aug (i := 4) sc_end_of_run.nd rfl (Or.inl rfl) pe_int ip_add)))
      (pss_one (ps_ret (pv 4))))), ?_⟩
    refine q_asg (ev_var rfl) fun H1 e1 => ?_
    refine q_while (fun n σ' H' => Ex H H' ∧ ∃ k : Nat, σ' = [some (.str z), some (.int (b : Int)), some (.str sg), some (.int (m : Int)), some (.int ((b + k : Nat) : Int))] ∧ k ≤ m ∧ n = m - k ∧
      Nm.run (fun c => decide (c ∈ cs sg)) m ((cs z).drop b) = k + Nm.run (fun c => decide (c ∈ cs sg)) (m - k) ((cs z).drop (b + k))) m ⟨e1, 0, rfl, Nat.zero_le _, rfl, (Nat.zero_add _).symm⟩ ?_
    rintro n σ' H' ⟨e, k, rfl, km, rfl, hr0⟩
    have t1 : EvT _ _ H' (decide (((b + k : Nat) : Int) < ((cs z).length : Int))) := et_test (ev_lt (ev_var (i := 4) (σ := [some (.str z), some (.int (b : Int)), some (.str sg), some (.int (m : Int)), some (.int ((b + k : Nat) : Int))]) rfl) (ev_cb (ea_cons (ev_var (i := 0) rfl) ea_nil) (rc_lenS hz)))
    have t2 : EvT _ _ H' (decide (((b + k : Nat) : Int) < (b : Int) + (m : Int))) := et_test (ev_lt (ev_var (i := 4) (σ := [some (.str z), some (.int (b : Int)), some (.str sg), some (.int (m : Int)), some (.int ((b + k : Nat) : Int))]) rfl) (ev_add (ev_var (i := 1) rfl) (ev_var (i := 3) rfl)))
    have fin : Nm.run (fun c => decide (c ∈ cs sg)) (m - k) ((cs z).drop (b + k)) = 0 → ∀ H1, Ex H' H1 → tRet (tVar 4) { nx := fun _ H' => Q .non H', rt := Q } [some (.str z), some (.int (b : Int)), some (.str sg), some (.int (m : Int)), some (.int ((b + k : Nat) : Int))] H1 := fun h0 H1 e1 => by
      refine s_ret (ev_var rfl) fun H2 e2 => ?_
      have := q H2 ((e.trans e1).trans e2)
      rw [hr0, h0] at this
      exact this
    by_cases c1 : b + k < (cs z).length
    · by_cases c2 : k < m
      · obtain ⟨c, hc⟩ : ∃ c, (cs z)[b + k]? = some c := ⟨(cs z)[b + k], List.getElem?_eq_getElem c1⟩
        rw [decide_eq_true (show ((b + k : Nat) : Int) < ((cs z).length : Int) by omega)] at t1
        rw [decide_eq_true (show ((b + k : Nat) : Int) < (b : Int) + (m : Int) by omega)] at t2
        refine ⟨decide (c ∈ cs sg), et_and1 t1 (et_and1 t2 (et_test (ev_op (ev_ixS (ev_var rfl) (ev_var rfl) hz hc) (ev_var rfl) rv_inS))), fun hb H1 e1 => ?_, fun hb H1 e1 => ?_⟩
        · refine ⟨fun σ2 H2 => Ex H H2 ∧ σ2 = [some (.str z), some (.int (b : Int)), some (.str sg), some (.int (m : Int)), some (.int (((b + k : Nat) : Int) + 1))], fun σ2 H2 ⟨e2, h2⟩ => ?_, ?_⟩
          · refine ⟨m - (k + 1), by omega, e2, k + 1, ?_, by omega, rfl, ?_⟩
            · rw [h2]
              have : ((b + k : Nat) : Int) + 1 = ((b + (k + 1) : Nat) : Int) := by omega
              rw [this]
            · rw [Nm.run_go (Nm.head_drop hc) hb (by omega), List.drop_drop] at hr0
              rw [hr0, show m - (k + 1) = m - k - 1 by omega, show b + (k + 1) = b + k + 1 by omega]
              omega
          · exact s_aug rfl ev_c fun H2 e2 => ⟨(e.trans e1).trans e2, rfl⟩
        · exact fin (Nm.run_stop (Nm.head_drop hc) hb) H1 e1
      · rw [decide_eq_true (show ((b + k : Nat) : Int) < ((cs z).length : Int) by omega)] at t1
        rw [decide_eq_false (show ¬ ((b + k : Nat) : Int) < (b : Int) + (m : Int) by omega)] at t2
        refine ⟨false, et_and1 t1 (et_and0 t2), fun hb => Bool.noConfusion hb, fun _ => fin ?_⟩
        have : m - k = 0 := by omega
        rw [this]
        rfl
    · rw [decide_eq_false (show ¬ ((b + k : Nat) : Int) < ((cs z).length : Int) by omega)] at t1
      refine ⟨false, et_and0 t1, fun hb => Bool.noConfusion hb, fun _ => fin ?_⟩
      rw [List.drop_of_length_le (by omega), Nm.run_nil]
abbrev Ir (P : Program) (w : World) (K : PySem.W.Frag) (mg : Str → Option Value) (base : Heap) : Prop := Dn P w K mg base 1 "end_of_run" ["text", "begin", "signs", "most"] sp_run
theorem ok_pw {fdI : FuncData} (F : FnP K "parted_within" s_parted_within f fd) (T : Txt K mg) (D_end_of_run : Ir P w K mg base) (G_init : FnOk P w K mg base CX0 1 (He.ma K (He.ga K "NoName") "__init__") fdI ["self", "at"] (sp_exi (He.ga K "NoName") "at")) (b_init : Binds K fdI ["self", "at"] []) :
    FnOk P w K mg base (L2.CX P w) 3 f fd ["text", "most"] (sp_pwr K) := by
  refine F.ok sc_parted_within (fun vs H Q E h => ?_) (fun cdv A outer s H vs Q E hr h => ?_)
  · obtain ⟨x, r, rfl, _⟩ := h
    rfl
  · obtain ⟨x, r, rfl, hx, hE, hQ⟩ := h
    refine ⟨_, (pss_cons (ps_if (pt_not (pt_val (pe_callB call_isi (by rfl) T.b_isinstance (by decide +kernel) (pa_cons (pv 0) (pa_cons (pe_bltn (v := .ty "str") (by rfl) T.b_str (by decide +kernel) rfl) pa_nil))))) (pss_one (ps_raise rfl (takes_of rfl rfl rfl rfl) (pmk_oex T.oex T.mi.at_ (beq_iff_eq.mp T.mi.fn) G_init (hr.mono (by decide)) b_init .nil pass0 (by rfl) T.g_NoName (pa_cons pe_int pa_nil)))) pss_nil)
      (pss_cons (ps_set (i := 2) sc_parted_within.nd rfl (Or.inl rfl) (pe_cd D_end_of_run (hr.mono (by decide)) (by rfl) (pa_cons (pv 0) (pa_cons pe_int (pa_cons (pe_gs (by rfl) T.g_LETTERS) (pa_cons (pe_gi (by rfl) T.g_MOST_LETTERS) pa_nil))))))
      (pss_cons (ps_if (pt_cmpR op_eq (pv 2) pe_int (nomark _)) (pss_one (ps_raise rfl (takes_of rfl rfl rfl rfl) (pmk_oex T.oex T.mi.at_ (beq_iff_eq.mp T.mi.fn) G_init (hr.mono (by decide)) b_init .nil pass0 (by rfl) T.g_NoName (pa_cons pe_int pa_nil)))) pss_nil)
      (pss_cons (ps_set (i := 3) sc_parted_within.nd rfl (Or.inl rfl) (pe_cd D_end_of_run (hr.mono (by decide)) (by rfl) (pa_cons (pv 0) (pa_cons (pv 2) (pa_cons (pe_op op_add_str (pe_gs (by rfl) T.g_ON) (pe_gs (by rfl) T.g_BACK)) (pa_cons (pv 1) pa_nil))))))
      (pss_cons (ps_if (pt_cmpR op_lt (pv 3) (pe_callB call_len_str (by rfl) T.b_len (by decide +kernel) (pa_cons (pv 0) pa_nil)) (nomark _)) (pss_one (ps_raise rfl (takes_of rfl rfl rfl rfl) (pmk_oex T.oex T.mi.at_ (beq_iff_eq.mp T.mi.fn) G_init (hr.mono (by decide)) b_init .nil pass0 (by rfl) T.g_NoName (pa_cons (pv 3) pa_nil)))) pss_nil)
      (pss_one (ps_ret (pe_tup (pa_cons (pe_slice sl_str (pv 0) po_none (po_some (pv 2))) (pa_cons (pe_slice sl_str (pv 0) (po_some (pv 2)) po_none) pa_nil)))))))))), ?_⟩
    rcases hx.isi with ⟨z, rfl, hz, rfl, hi⟩ | ⟨rfl, hi⟩
    · refine q_when (b := false) (et_not (et_B (ev_cb (ea_cons (ev_var rfl) (ea_cons ev_c ea_nil)) hi))) (fun hb => nomatch hb) fun _ H1 e1 => ?_
      have r1 : SpV sp_run [.str z, .int 0, .str "abcdefghijklmnopqrstuvwxyz", .int 6] H1 (.int ((Nm.run isL 6 (cs z) : Nat) : Int)) := fun H2 e2 Q' q' E' => ⟨z, _, 0, 6, rfl, hz, by rw [Nat.zero_add, List.drop_zero]; exact q'⟩
      refine q_asg (ev_call (ea_cons (ev_var rfl) (ea_cons ev_c (ea_cons ev_c (ea_cons ev_c ea_nil)))) r1) fun H2 e2 => ?_
      have hw : Nm.run isL 6 (cs z) ≤ (cs z).length := Nm.run_le _ _ _
      refine q_when (et_test (ev_eqI (ev_var rfl) ev_c)) (fun hb H3 e3 => ?_) fun hb H3 e3 => ?_
      · have h0 : Nm.run isL 6 (cs z) = 0 := by
          have := of_decide_eq_true hb
          omega
        refine mk_exi (ea_cons ev_c ea_nil) fun H4 d e4 hd => ?_
        refine hE 0 ?_ H4 d (((e1.trans e2).trans e3).trans e4) hd
        unfold Nm.res
        rw [if_pos h0]
      · have h0 : Nm.run isL 6 (cs z) ≠ 0 := by
          have := of_decide_eq_false hb
          omega
        have cat : Ev (tOp (fun x y H Q => ∃ i j : Str, x = .str i ∧ y = .str j ∧ i.length + j.length ≤ sizeLine ∧ Q (.str (i ++ j)) H) (tC (.str ">")) (tC (.str "<"))) [some (.str z), some (.int 5), some (.int ((Nm.run isL 6 (cs z) : Nat) : Int)), none] H3 (.str "><") :=
          ev_op ev_c ev_c fun H4 _ Q' q' => ⟨_, _, rfl, rfl, by decide +kernel, by rw [show ((">" : Str) ++ ("<" : Str)) = ("><" : Str) by decide +kernel]; exact q' H4 (Ex.refl _)⟩
        have r2 : SpV sp_run [.str z, .int ((Nm.run isL 6 (cs z) : Nat) : Int), .str "><", .int 5] H3 (.int ((Nm.run isL 6 (cs z) + Nm.run isM 5 ((cs z).drop (Nm.run isL 6 (cs z))) : Nat) : Int)) := fun H4 e4 Q' q' E' => ⟨z, _, _, 5, rfl, hz, q'⟩
        refine q_asg (ev_call (ea_cons (ev_var rfl) (ea_cons (ev_var rfl) (ea_cons cat (ea_cons (ev_var rfl) ea_nil)))) r2) fun H4 e4 => ?_
        refine q_when (et_test (ev_lt (ev_var rfl) (ev_cb (ea_cons (ev_var rfl) ea_nil) (rc_lenS hz)))) (fun hb H5 e5 => ?_) fun hb H5 e5 => ?_
        · have hlt := of_decide_eq_true hb
          refine mk_exi (ea_cons (ev_var rfl) ea_nil) fun H6 d e6 hd => ?_
          refine hE _ ?_ H6 d (((((e1.trans e2).trans e3).trans e4).trans e5).trans e6) hd
          unfold Nm.res
          rw [if_neg h0, if_pos (by omega)]
        · have hge := of_decide_eq_false hb
          refine s_retU (eu_tup (ea_cons (ev_take (ev_var rfl) (ev_var rfl) hz) (ea_cons (ev_drop (ev_var rfl) (ev_var rfl) hz) ea_nil)) (by show 2 ≤ 100000; decide)) fun p H6 hp e6 h6 => ?_
          have e15 := (((e1.trans e2).trans e3).trans e4).trans e5
          refine hQ z _ rfl ?_ p H6 (fresh_back e15 hp) (e15.trans e6) h6
          unfold Nm.res
          rw [if_neg h0, if_neg (by omega)]
    · refine q_when (b := true) (et_not (et_B (ev_cb (ea_cons (ev_var rfl) (ea_cons ev_c ea_nil)) hi))) (fun _ H1 e1 => ?_) fun hb => nomatch hb
      refine mk_exi (ea_cons ev_c ea_nil) fun H4 d e4 hd => ?_
      exact hE 0 rfl H4 d (e1.trans e4) hd
theorem ok_parted {fp : Addr} {fdP : FuncData} (F : FnP K "parted" s_parted f fd) (T : Txt K mg) (G_pw : FnOk P w K mg base (L2.CX P w) 3 fp fdP ["text", "most"] (sp_pwr K)) (g_pw : mg "parted_within" = some (.ref fp)) (k_pw : PySem.W.keepIn K (.ref fp) = true) (b_pw : Binds K fdP ["text", "most"] []) :
    FnOk P w K mg base (L2.CX P w) 4 f fd ["text"] (sp_parted K) := by
  refine F.ok sc_parted (fun vs H Q E h => ?_) (fun cdv A outer s H vs Q E hr h => ?_)
  · obtain ⟨x, r, rfl, _⟩ := h
    rfl
  · obtain ⟨x, r, rfl, hx, hE, hQ⟩ := h
    refine ⟨_, (pss_one (ps_ret (pe_callS G_pw (hr.mono (by decide)) (by rfl) g_pw k_pw b_pw (fun σ => passAt (takes_of rfl rfl rfl rfl) σ) (pa_cons (pv 0) (pa_cons (pe_gi (by rfl) T.g_MOST_MARKS) pa_nil))))), ?_⟩
    exact x_ret ⟨x, rfl, ⟨x, r, rfl, hx, hE, hQ⟩⟩
end
end K04

namespace K04
open PySem PySem.Spec PyProof.Rows L2 Evl
/-- what a thing is told as -/
def tellV (x : V) : Nat ⊕ Nat → List V
  | .inl i => [.str "no", .int (i : Int)]
  | .inr n => match x with
    | .str z => [.str "told", .str (takeS z n), .str (dropS z n)]
    | _ => []
def sp_tell (K : PySem.W.Frag) : Sp := fun vs H Q _ => ∃ (x : V) (r : Nat ⊕ Nat), vs = [x] ∧ Th K H x r ∧ ∀ p H2, H p = none → Ex H H2 → H2 p = some (.tup (tellV x r)) → Q (.ref p) H2
section
variable {K : PySem.W.Frag} {σ : L2.St} {H : Hp} {ta tu te : TE} {t : TT}
theorem rv_isN {x : V} : RV (fun x y H Q => y = .non ∧ Q (.bl (decide (x = .non))) H) x .non H (.bl (decide (x = .non))) := fun H1 _ Q q => ⟨rfl, q H1 (Ex.refl _)⟩
theorem rc_isk {a C d : Addr} {fs : List (Str × V)} {c : V} {u : Value} {b : Bool} (xa : ExcAt H a C d fs) (T : XkC K C) (hc : ClsV c u) (hk : PySem.W.kitOne K (.ref C) u = some b) : RC (rIsk K) [.ref a, c] H (.bl b) := fun H1 e Q q =>
  ⟨a, C, d, fs, c, u, b, rfl, xa.ex e, T, hc, hk, q H1 (Ex.refl _)⟩
theorem ev_iskT {a C d : Addr} {fs : List (Str × V)} {cls : List V} {us : List Value} {b : Bool} (ha : Ev ta σ H (.ref a)) (hu : EvU tu σ H cls) (xa : ExcAt H a C d fs) (T : XkC K C) (hc : Paired ClsV cls us) (hk : PySem.W.kitAny K (.ref C) us = some b) :
    Ev (tCB (rIskT K) (tCons ta (tCons tu tNil))) σ H (.bl b) := fun H1 e Q q =>
  ha H1 e _ fun H2 e2 => hu H2 (e.trans e2) _ fun tp H3 _ e3 h3 => ⟨a, C, d, tp, fs, cls, us, b, rfl, xa.ex ((e.trans e2).trans e3), T, h3, hc, hk, q H3 (e2.trans e3)⟩
theorem ev_xk {a C d : Addr} {fs : List (Str × V)} {f : Str} {v : V} (ha : Ev ta σ H (.ref a)) (xa : ExcAt H a C d fs) (T : XkC K C) (hn : NoAttr K C f) (hl : fs.lookup f = some v) : Ev (tXk K ta f) σ H v := fun H1 e Q q =>
  ha H1 e _ fun H2 e2 => ⟨a, C, d, fs, v, rfl, xa.ex (e.trans e2), T, hn, hl, q H2 e2⟩
/-- [e for x in tuple] -/
theorem el_lcT {a : Addr} {xs : List V} {tl : TE} {j : Nat} {vs : List Nat} (f : Nat → Bool) (v : Nat → V) (h : Ev tl σ H (.ref a)) (hx : SqT K H a xs) (hz : xs.length ≤ 40000) (hw : ∀ x, wipe ((wipe σ vs).set j (some x)) vs = wipe σ vs)
    (ht : ∀ (i : Nat) (x : V) H1, Ex H H1 → xs[i]? = some x → EvT t ((wipe σ vs).set j (some x)) H1 (f i)) (he : ∀ (i : Nat) (x : V) H1, Ex H H1 → xs[i]? = some x → f i = true → Ev te ((wipe σ vs).set j (some x)) H1 (v i)) :
    EvL (tLc (iTup K tl) (gName j) t te vs) σ H (given xs.length f v) := fun H0 e Q q => h H0 e _ fun H1 e1 => ⟨a, rfl, ⟨xs, ex_t (e.trans e1) hx⟩, fun Dl hD =>
  lc_tup (xs := xs) (Cw H1 f v Dl) ⟨hD, Ex.new hD, upd_same⟩ (fun i H' _ p => ex_t ((e.trans e1).trans p.2.1) hx)
    (fun i x H' hi p => ⟨hw x, cw_turn p (Nat.lt_of_lt_of_le (List.getElem?_eq_some_iff.mp hi).1 (Nat.le_trans hz (by decide))) (ht i x H1 (e.trans e1) hi) fun hf => he i x H1 (e.trans e1) hi hf⟩) fun H' p => q Dl H' (fresh_back e1 p.1) (e1.trans p.2.1) p.2.2⟩
theorem ev_all {xs : List V} {bs : List Bool} (h : EvL te σ H xs) (hx : xs = bs.map V.bl) : Ev (tCB (rAll K) (tCons te tNil)) σ H (.bl (bs.all id)) := fun H1 e Q q =>
  h H1 e _ fun p H2 _ e2 h2 => ⟨p, bs, rfl, sq_of (by rw [← hx]; exact h2), q H2 e2⟩
end
section
variable {P : Program} {w : World} {K : PySem.W.Frag} {mg : Str → Option Value} {base : Heap} {f : Addr} {fd : FuncData}
theorem ok_due (F : FnP K "_law_due" s_l_due f fd) (T : Txt K mg) : FnOk P w K mg base CX0 1 f fd ["_law_thing"] (sp_tell K) := by
  refine F.ok sc_l_due (fun vs H Q E h => ?_) (fun cdv A outer s H vs Q E hr h => ?_)
  · obtain ⟨x, r, rfl, _⟩ := h
    rfl
  · obtain ⟨x, r, rfl, hx, k⟩ := h
    refine ⟨_, PSs.nox (pss_cons (ps_if (pt_not (pt_val (pe_callB call_isi (by rfl) T.b_isinstance (by decide +kernel) (pa_cons (pv 0) (pa_cons (pe_bltn (v := .ty "str") (by rfl) T.b_str (by decide +kernel) rfl) pa_nil))))) (pss_one (ps_ret (pe_tup (pa_cons pe_str (pa_cons pe_int pa_nil))))) pss_nil)
      (pss_cons (ps_asg (pe_tup (pa_cons pe_int (pa_cons pe_int pa_nil))) (pg_tup rfl (pgs_cons (pg_name (i := 1) sc_l_due.nd rfl (Or.inl rfl)) (pgs_cons (pg_name (i := 2) sc_l_due.nd rfl (Or.inl rfl)) pgs_nil))))
      (pss_cons (ps_for PassesOwn.never rfl (pi_enumS (by rfl) T.b_enumerate (pa_cons (pv 0) pa_nil)) (pg_tup rfl (pgs_cons (pg_name (i := 3) sc_l_due.nd rfl (Or.inl rfl)) (pgs_cons (pg_name (i := 4) sc_l_due.nd rfl (Or.inl rfl)) pgs_nil))) (pss_one (ps_if (PW.pt (pw_and (pt_cmpR op_in_sign (pv 4) pe_str (by rfl)) (pw_and (pt_cmpR op_eq (pv 2) pe_int (nomark _)) (pw_and1 (pt_cmpR op_lt (pv 1) pe_int (nomark _)))))) (pss_one (ps_set (i := 1) sc_l_due.nd rfl (Or.inl rfl) (pe_op op_add (pv 1) pe_int))) (pss_one (ps_if (PW.pt (pw_and (pt_cmpR op_in_sign (pv 4) pe_str (by rfl)) (pw_and (pt_cmpR op_gt (pv 1) pe_int (nomark _)) (pw_and1 (pt_cmpR op_lt (pv 2) pe_int (nomark _)))))) (pss_one (ps_set (i := 2) sc_l_due.nd rfl (Or.inl rfl) (pe_op op_add (pv 2) pe_int))) (pss_one (ps_ret (pe_tup (pa_cons pe_str (pa_cons (pv 3) pa_nil))))))))))
      (pss_cons (ps_if (pt_cmpR op_eq (pv 1) pe_int (nomark _)) (pss_one (ps_ret (pe_tup (pa_cons pe_str (pa_cons pe_int pa_nil))))) pss_nil)
      (pss_one (ps_ret (pe_tup (pa_cons pe_str (pa_cons (pe_slice sl_str (pv 0) po_none (po_some (pv 1))) (pa_cons (pe_slice sl_str (pv 0) (po_some (pv 1)) po_none) pa_nil)))))))))), ?_⟩
    rcases hx.isi with ⟨z, rfl, hz, rfl, hi⟩ | ⟨rfl, hi⟩
    · refine q_when (b := false) (et_not (et_B (ev_cb (ea_cons (ev_var rfl) (ea_cons ev_c ea_nil)) hi))) (fun hb => nomatch hb) fun _ H1 e1 => ?_
      refine q_two (ea_cons ev_c (ea_cons ev_c ea_nil)) fun H2 e2 => ?_
      have e02 := e1.trans e2
      have told : ∀ (i : Nat) {D : Ends} {σ0 : L2.St} {H3 : Hp} {tt : TE}, D.rt = Q → Ex H H3 → Ev tt σ0 H3 (.int (i : Int)) → Nm.res isL isM (cs z) = .inl i → tRet (tTup (tCons (tC (.str "no")) (tCons tt tNil))) D σ0 H3 := fun i {D σ0 H3 tt} hD e3 ht hres => by
        refine s_retU (eu_tup (ea_cons ev_c (ea_cons ht ea_nil)) (by show 2 ≤ 100000; decide)) fun p H4 hp e4 h4 => ?_
        rw [hD]
        refine k p H4 (fresh_back e3 hp) (e3.trans e4) ?_
        rw [hres]
        exact h4
      refine q_forE (z := z) (ev_var rfl) (fun i σ' H' => Ex H H' ∧ ∃ (l m : Nat) (v1 v2 : Option V), σ' = [some (.str z), some (.int (l : Int)), some (.int (m : Int)), v1, v2] ∧ Nm.J isL isM (cs z) i l m) (fun H3 e3 => ⟨e02.trans e3, 0, 0, none, none, rfl, Nm.j_start⟩) ?_ ?_
      · rintro i c σ' H' Tp hc ⟨e, l, m, v1, v2, rfl, hj⟩ hT
        have hc2 : (cs z)[i]? = some c := by
          rw [← hc]
          simp [cs]
        refine ⟨Tp, _, rfl, st_of upd_same, rfl, _, _, rfl, _, _, rfl, rfl, ?_⟩
        have eT : Ex H (upd H' Tp (.tup [.int (i : Nat), .str ⟨#[c]⟩])) := e.trans (Ex.new hT)
        generalize upd H' Tp (.tup [.int (i : Nat), .str ⟨#[c]⟩]) = G at eT
        have tA : EvT (tAnd (tTest (tOp (fun x y H Q => ∃ (c : Nat) (z : Str), x = .str ⟨#[c]⟩ ∧ y = .str z ∧ Q (.bl (decide (c ∈ z.cps.toList))) H) (tVar 4) (tC (.str "abcdefghijklmnopqrstuvwxyz")))) (tAnd (tTest (tOp rEq (tVar 2) (tC (.int 0)))) (tTest (tOp (rI0 fun i j => .bl (decide (i < j))) (tVar 1) (tC (.int 6))))))
            [some (.str z), some (.int (l : Int)), some (.int (m : Int)), some (.int (i : Int)), some (.str ⟨#[c]⟩)] G (isL c && (decide ((m : Int) = 0) && decide ((l : Int) < 6))) :=
          et_and (et_test (ev_op (ev_var rfl) ev_c rv_inS)) fun _ => et_and (et_test (ev_eqI (ev_var rfl) ev_c)) fun _ => et_test (ev_lt (ev_var rfl) ev_c)
        have tB : ∀ H1, Ex G H1 → EvT (tAnd (tTest (tOp (fun x y H Q => ∃ (c : Nat) (z : Str), x = .str ⟨#[c]⟩ ∧ y = .str z ∧ Q (.bl (decide (c ∈ z.cps.toList))) H) (tVar 4) (tC (.str "<>")))) (tAnd (tTest (tOp (rI0 fun i j => .bl (decide (j < i))) (tVar 1) (tC (.int 0)))) (tTest (tOp (rI0 fun i j => .bl (decide (i < j))) (tVar 2) (tC (.int 5))))))
            [some (.str z), some (.int (l : Int)), some (.int (m : Int)), some (.int (i : Int)), some (.str ⟨#[c]⟩)] H1 (isM c && (decide ((0 : Int) < (l : Int)) && decide ((m : Int) < 5))) := fun H1 _ =>
          et_and (et_is (et_test (ev_op (ev_var rfl) ev_c rv_inS)) (isM_law c)) fun _ => et_and (et_test (ev_gt (ev_var rfl) ev_c)) fun _ => et_test (ev_lt (ev_var rfl) ev_c)
        refine s_if tA (fun hb H3 e3 => ?_) fun hb H3 e3 => ?_
        · rw [Bool.and_eq_true, Bool.and_eq_true, decide_eq_true_eq, decide_eq_true_eq] at hb
          refine s_asg (ev_add (ev_var rfl) ev_c) fun H4 e4 => ⟨(eT.trans e3).trans e4, l + 1, m, _, _, rfl, Nm.j_letter hj hc2 hb.1 (by omega) (by omega)⟩
        · refine s_if (tB H3 e3) (fun hb2 H4 e4 => ?_) fun hb2 H4 e4 => ?_
          · rw [Bool.and_eq_true, Bool.and_eq_true, decide_eq_true_eq, decide_eq_true_eq] at hb2
            exact s_asg (ev_add (ev_var rfl) ev_c) fun H5 e5 => ⟨((eT.trans e3).trans e4).trans e5, l, m + 1, _, _, rfl, Nm.j_mark hj hc2 hb2.1 (isM_no c) (by omega) (by omega)⟩
          · refine told i rfl ((eT.trans e3).trans e4) (ev_var rfl) (Nm.j_no hj hc2 (fun ⟨q1, q2, q3⟩ => ?_) fun ⟨q1, q2, q3⟩ => ?_)
            · rw [q1, decide_eq_true (show (m : Int) = 0 by omega), decide_eq_true (show (l : Int) < 6 by omega)] at hb
              cases hb
            · rw [q1, decide_eq_true (show (0 : Int) < (l : Int) by omega), decide_eq_true (show (m : Int) < 5 by omega)] at hb2
              cases hb2
      · rintro σ' H' ⟨e, l, m, v1, v2, rfl, hj⟩
        have hend := Nm.j_end hj (by simp [cs])
        refine q_when (et_test (ev_eqI (ev_var rfl) ev_c)) (fun hb H3 e3 => ?_) fun hb H3 e3 => ?_
        · have l0 : l = 0 := by
            have := of_decide_eq_true hb
            omega
          rw [if_pos l0] at hend
          exact told 0 rfl (e.trans e3) ev_c hend
        · have l0 : l ≠ 0 := by
            have := of_decide_eq_false hb
            omega
          rw [if_neg l0] at hend
          refine s_retU (eu_tup (ea_cons ev_c (ea_cons (ev_take (ev_var rfl) (ev_var rfl) hz) (ea_cons (ev_drop (ev_var rfl) (ev_var rfl) hz) ea_nil))) (by show 3 ≤ 100000; decide)) fun p H4 hp e4 h4 => ?_
          refine k p H4 (fresh_back (e.trans e3) hp) ((e.trans e3).trans e4) ?_
          rw [hend]
          exact h4
    · refine q_when (b := true) (et_not (et_B (ev_cb (ea_cons (ev_var rfl) (ea_cons ev_c ea_nil)) hi))) (fun _ H1 e1 => ?_) fun hb => nomatch hb
      exact s_retU (eu_tup (ea_cons ev_c (ea_cons ev_c ea_nil)) (by show 2 ≤ 100000; decide)) fun p H4 hp e4 h4 => k p H4 (fresh_back e1 hp) (e1.trans e4) h4
end
end K04

namespace K04
open PySem PySem.Spec PyProof.Rows L2 Evl
section
variable {P : Program} {w : World} {K : PySem.W.Frag} {mg : Str → Option Value} {base : Heap} {f : Addr} {fd : FuncData}
/-- parted as it is called -/
structure Pa (P : Program) (w : World) (K : PySem.W.Frag) (mg : Str → Option Value) (base : Heap) : Prop where
  ex : ∃ (fp : Addr) (fdP : FuncData), FnOk P w K mg base (L2.CX P w) 4 fp fdP ["text"] (sp_parted K) ∧ mg "parted" = some (.ref fp) ∧ PySem.W.keepIn K (.ref fp) = true ∧ Binds K fdP ["text"] []
theorem kit9 (T : Txt K mg) : PySem.W.kitAny K (.ref (He.ga K "NoName")) [.ref (He.ga K "NoPair"), .ref (He.ga K "NoRoom"), .ref (He.ga K "NoRose"), .ref (He.ga K "NoRow"), .ref (He.ga K "NoStep"), .ref (He.ga K "NoText"), .ref (He.ga K "NoTurn"), .ref (He.ga K "NoWalk"), .ref (He.ga K "NoWind")] = some false := by
  have k : ∀ {y : Str}, (y, false) ∈ kits → PySem.W.kitOne K (.ref (He.ga K "NoName")) (.ref (He.ga K y)) = some false := fun m => kitsB_ok T.kit m
  exact kitAny_cons (k (by decide +kernel)) (fun _ => kitAny_cons (k (by decide +kernel)) (fun _ => kitAny_cons (k (by decide +kernel)) (fun _ => kitAny_cons (k (by decide +kernel)) (fun _ => kitAny_cons (k (by decide +kernel)) (fun _ => kitAny_cons (k (by decide +kernel)) (fun _ => kitAny_cons (k (by decide +kernel)) (fun _ =>
    kitAny_cons (k (by decide +kernel)) (fun _ => kitAny_cons (k (by decide +kernel)) (fun _ => kitAny_nil) nofun) nofun) nofun) nofun) nofun) nofun) nofun) nofun) nofun
theorem kit4 (T : Txt K mg) : PySem.W.kitAny K (.ref (He.ga K "NoName")) [.ref (He.ga K "LostError"), .ref (He.ga K "NoDeed"), .ref (He.ga K "NoSuch"), .ref (He.ga K "NoWord")] = some false := by
  have k : ∀ {y : Str}, (y, false) ∈ kits → PySem.W.kitOne K (.ref (He.ga K "NoName")) (.ref (He.ga K y)) = some false := fun m => kitsB_ok T.kit m
  exact kitAny_cons (k (by decide +kernel)) (fun _ => kitAny_cons (k (by decide +kernel)) (fun _ => kitAny_cons (k (by decide +kernel)) (fun _ => kitAny_cons (k (by decide +kernel)) (fun _ => kitAny_nil) nofun) nofun) nofun) nofun
theorem ok_told (F : FnP K "_law_told" s_l_told f fd) (T : Txt K mg) (PA' : Pa P w K mg base) : FnOk P w K mg base CX0 5 f fd ["_law_thing"] (sp_tell K) := by
  obtain ⟨fp, fdP, G_parted, g_parted, k_parted, b_parted⟩ := PA'.ex
  refine F.ok sc_l_told (fun vs H Q E h => ?_) (fun cdv A outer s H vs Q E hr h => ?_)
  · obtain ⟨x, r, rfl, _⟩ := h
    rfl
  · obtain ⟨x, r, rfl, hx, k⟩ := h
    refine ⟨_, PSs.nox (pss_cons (ps_asg (pe_tup (pa_cons pe_non (pa_cons pe_non pa_nil))) (pg_tup rfl (pgs_cons (pg_name (i := 1) sc_l_told.nd rfl (Or.inl rfl)) (pgs_cons (pg_name (i := 2) sc_l_told.nd rfl (Or.inl rfl)) pgs_nil))))
      (pss_cons (ps_try_hold (i := 3) (tb := fun W => tAsg (tCallS (sp_parted K) (WE W) (tCons (tVar 0) tNil)) (gName 2)) (ts := fun _ _ _ => tAsg (tVar 3) (gName 1)) (Wo := fun _ _ _ _ => False) rfl rfl rfl sc_l_told.nd rfl rfl ⟨rfl, by decide, Or.inl T.g_RoseError⟩ takes0 (fun W pn xe tk _ => pss_one (ps_set (i := 2) sc_l_told.nd rfl (Or.inl rfl) (by exact (pe_callS G_parted (hr.mono (by decide)) (by rfl) g_parted k_parted b_parted (fun σ => passAt tk σ) (by exact (pa_cons (pv 0) pa_nil)))))) (fun a oe cls d pn hz hf => pss_one (ps_set (i := 1) sc_l_told.nd rfl (Or.inl rfl) (pv 3))))
      (pss_cons (ps_if (pt_cmpR op_isN (pv 1) pe_non (nomark _)) (pss_cons (ps_if (PW.pt (pw_or (pt_not (pt_val (pe_callB call_isi (by rfl) T.b_isinstance (by decide +kernel) (pa_cons (pv 2) (pa_cons (pe_bltn (v := .ty "tuple") (by rfl) T.b_tuple (by decide +kernel) rfl) pa_nil))))) (pw_or1 (pt_not (pt_val (pe_callB (cr_all rfl) (by rfl) T.b_all (by decide +kernel) (pa_cons (pe_lc (own := [("_law_part", 4)]) (g := (gName 4)) (tt := tYes) rfl sc_l_told.nd (pi_tup (pv 2)) (blkOk_by (own := [("_law_part", 4)]) (N := ["_law_thing", "_law_caught", "_law_found", "e", "_law_part", "_law_others"]) (sc := defScope s_l_told) (by decide +kernel)) (fun _ _ _ _ _ => (pg_name (i := 4) sc_l_told.nd rfl (Or.inl rfl))) (fun _ _ _ _ _ => pts_nil) (fun _ _ _ _ _ => (pe_callB (id := "isinstance") (r := rIsi K) call_isi (by rfl) T.b_isinstance (by decide +kernel) (pa_cons (pv 4) (pa_cons (pe_bltn (v := .ty "str") (by rfl) T.b_str (by decide +kernel) rfl) pa_nil))))) pa_nil))))))) (pss_one (ps_ret (pe_tup (pa_cons pe_str pa_nil)))) pss_nil)
        (pss_one (ps_ret (pe_op op_catT (pe_tup (pa_cons pe_str pa_nil)) (pv 2))))) pss_nil)
      (pss_cons (ps_set (i := 5) sc_l_told.nd rfl (Or.inl rfl) (pe_callB call_iskT (by rfl) T.b_isinstance (by decide +kernel) (pa_cons (pv 1) (pa_cons (pe_tup (pa_cons (pe_glob (v := .ref (He.ga K "NoPair")) (by rfl) T.g_NoPair rfl) (pa_cons (pe_glob (v := .ref (He.ga K "NoRoom")) (by rfl) T.g_NoRoom rfl) (pa_cons (pe_glob (v := .ref (He.ga K "NoRose")) (by rfl) T.g_NoRose rfl) (pa_cons (pe_glob (v := .ref (He.ga K "NoRow")) (by rfl) T.g_NoRow rfl) (pa_cons (pe_glob (v := .ref (He.ga K "NoStep")) (by rfl) T.g_NoStep rfl) (pa_cons (pe_glob (v := .ref (He.ga K "NoText")) (by rfl) T.g_NoText rfl) (pa_cons (pe_glob (v := .ref (He.ga K "NoTurn")) (by rfl) T.g_NoTurn rfl) (pa_cons (pe_glob (v := .ref (He.ga K "NoWalk")) (by rfl) T.g_NoWalk rfl) (pa_cons (pe_glob (v := .ref (He.ga K "NoWind")) (by rfl) T.g_NoWind rfl) pa_nil)))))))))) pa_nil))))
      (pss_cons (ps_if (PW.pt (pw_or (pt_val (pv 5)) (pw_or (pt_not (pt_val (pe_callB call_isk (by rfl) T.b_isinstance (by decide +kernel) (pa_cons (pv 1) (pa_cons (pe_glob (v := .ref (He.ga K "NoName")) (by rfl) T.g_NoName rfl) pa_nil))))) (pw_or (pt_not (pt_val (pe_callB call_isk (by rfl) T.b_isinstance (by decide +kernel) (pa_cons (pv 1) (pa_cons (pe_bltn (v := .ty "ValueError") (by rfl) T.b_ValueError (by decide +kernel) rfl) pa_nil))))) (pw_or1 (pt_val (pe_callB call_isi (by rfl) T.b_isinstance (by decide +kernel) (pa_cons (pe_xk (pv 1)) (pa_cons (pe_bltn (v := .ty "bool") (by rfl) T.b_bool (by decide +kernel) rfl) pa_nil))))))))) (pss_one (ps_ret (pe_tup (pa_cons pe_str pa_nil)))) pss_nil)
      (pss_cons (ps_if (pt_val (pe_callB call_iskT (by rfl) T.b_isinstance (by decide +kernel) (pa_cons (pv 1) (pa_cons (pe_tup (pa_cons (pe_glob (v := .ref (He.ga K "LostError")) (by rfl) T.g_LostError rfl) (pa_cons (pe_glob (v := .ref (He.ga K "NoDeed")) (by rfl) T.g_NoDeed rfl) (pa_cons (pe_glob (v := .ref (He.ga K "NoSuch")) (by rfl) T.g_NoSuch rfl) (pa_cons (pe_glob (v := .ref (He.ga K "NoWord")) (by rfl) T.g_NoWord rfl) pa_nil))))) pa_nil)))) (pss_one (ps_ret (pe_tup (pa_cons pe_str pa_nil)))) pss_nil)
      (pss_one (ps_ret (pe_tup (pa_cons pe_str (pa_cons (pe_xk (pv 1)) pa_nil))))))))))), ?_⟩
    refine q_two (ea_cons ev_c (ea_cons ev_c ea_nil)) fun H1 e1 => ?_
    refine ⟨x, rfl, x, r, rfl, hx.ex e1, fun at_ hr1 H2 d e2 hd => ⟨true, T.exm, fun _ a ha => ⟨.ref a, rfl, ?_⟩, fun q => Bool.noConfusion q⟩, fun z n hz hr1 p H2 hp e2 h2 => ?_⟩
    · -- caught
      have nda : d ≠ a := fun q => by
        rw [← q, upd_same] at ha
        cases ha
      have xa : ExcAt (upd (upd H2 d (.xd [("at", .int (at_ : Int))])) a (exk a (.ref (He.ga K "NoName")) (some d))) a (He.ga K "NoName") d [("at", .int (at_ : Int))] := ⟨upd_same, by rw [upd_ne nda, upd_same]⟩
      have eG : Ex H (upd (upd H2 d (.xd [("at", .int (at_ : Int))])) a (exk a (.ref (He.ga K "NoName")) (some d))) := ((e1.trans e2).trans (Ex.new hd)).trans (Ex.new ha)
      dsimp only [gName]
      generalize upd (upd H2 d (.xd [("at", .int (at_ : Int))])) a (exk a (.ref (He.ga K "NoName")) (some d)) = G at xa eG
      refine q_when (b := false) (et_test (ev_op (ev_var rfl) ev_c rv_isN)) (fun hb => nomatch hb) fun _ H3 e3 => ?_
      have xa3 := xa.ex e3
      refine q_asg (ev_iskT (ev_var rfl) (eu_tup (ea_cons ev_c (ea_cons ev_c (ea_cons ev_c (ea_cons ev_c (ea_cons ev_c (ea_cons ev_c (ea_cons ev_c (ea_cons ev_c (ea_cons ev_c ea_nil))))))))) (by show 9 ≤ 100000; decide)) xa3 T.xk
        (.cons (.own _) (.cons (.own _) (.cons (.own _) (.cons (.own _) (.cons (.own _) (.cons (.own _) (.cons (.own _) (.cons (.own _) (.cons (.own _) .nil))))))))) (kit9 T)) fun H4 e4 => ?_
      have xa4 := xa3.ex e4
      have at4 : ∀ {σ0 : L2.St} {H5 : Hp}, Ex H4 H5 → σ0[1]? = some (some (.ref a)) → Ev (tXk K (tVar 1) "at") σ0 H5 (.int (at_ : Int)) := fun e5 hσ => ev_xk (ev_var hσ) (xa4.ex e5) T.xk T.noat (by simp [List.lookup])
      refine q_when (b := false) (et_or0 (et_B (ev_var rfl)) (et_or0 (et_not (et_B (ev_cb (ea_cons (ev_var rfl) (ea_cons ev_c ea_nil)) (rc_isk xa4 T.xk (.own _) (kit_self (t := .ref (He.ga K "NoName"))))))) (et_or0 (et_not (et_B (ev_cb (ea_cons (ev_var rfl) (ea_cons ev_c ea_nil)) (rc_isk xa4 T.xk (.ty "ValueError") T.kv)))) (et_B (ev_cb (ea_cons (at4 (Ex.refl _) rfl) (ea_cons ev_c ea_nil)) rc_isiB))))) (fun hb => nomatch hb) fun _ H5 e5 => ?_
      have xa5 := xa4.ex e5
      refine q_when (b := false) (et_B (ev_iskT (ev_var rfl) (eu_tup (ea_cons ev_c (ea_cons ev_c (ea_cons ev_c (ea_cons ev_c ea_nil)))) (by show 4 ≤ 100000; decide)) xa5 T.xk (.cons (.own _) (.cons (.own _) (.cons (.own _) (.cons (.own _) .nil)))) (kit4 T))) (fun hb => nomatch hb) fun _ H6 e6 => ?_
      refine s_retU (eu_tup (ea_cons ev_c (ea_cons (at4 (e5.trans e6) rfl) ea_nil)) (by show 2 ≤ 100000; decide)) fun p H7 hp e7 h7 => ?_
      have eA := (((eG.trans e3).trans e4).trans e5).trans e6
      refine k p H7 (fresh_back eA hp) (eA.trans e7) ?_
      rw [hr1]
      exact h7
    · -- told
      subst hz
      have e02 : Ex H H2 := e1.trans e2
      dsimp only [gName]
      refine q_when (b := true) (et_test (ev_op (ev_var rfl) ev_c rv_isN)) (fun _ H3 e3 => ?_) fun hb => nomatch hb
      have h3 := e3 _ _ h2
      have al : EvL (tLc (iTup K (tVar 2)) (gName 4) tYes (tCB (rIsi K) (tCons (tVar 4) (tCons (tC (.ty "str")) tNil))) [4]) [some (.str z), some .non, some (.ref p), none, none, none] H3 (given 2 (fun _ => true) (fun _ => .bl true)) :=
        el_lcT (xs := [.str (takeS z n), .str (dropS z n)]) (fun _ => true) (fun _ => .bl true) (ev_var rfl) (st_of h3) (by show 2 ≤ 40000; decide) (fun _ => rfl) (fun _ _ H4 _ _ H5 _ Q' q' => q' H5 (Ex.refl _)) fun i v H4 e4 hi _ => by
          obtain ⟨y, rfl⟩ : ∃ y, v = V.str y := by
            match i, hi with
            | 0, hi => exact ⟨_, (Option.some.inj hi).symm⟩
            | 1, hi => exact ⟨_, (Option.some.inj hi).symm⟩
            | i + 2, hi => simp at hi
          exact ev_cb (ea_cons (ev_var rfl) (ea_cons ev_c ea_nil)) (rc_isi (.ty "str") (fun _ _ => .base (.str y)) (kit_ty (by decide +kernel)))
      have aa : Ev (tCB (rAll K) (tCons (tLc (iTup K (tVar 2)) (gName 4) tYes (tCB (rIsi K) (tCons (tVar 4) (tCons (tC (.ty "str")) tNil))) [4]) tNil)) [some (.str z), some .non, some (.ref p), none, none, none] H3 (.bl true) := ev_all (bs := [true, true]) al (by decide)
      refine q_when (b := false) (et_or0 (et_not (et_B (ev_cb (ea_cons (ev_var rfl) (ea_cons ev_c ea_nil)) (rc_isi (b := true) (.ty "tuple") (fun H4 e4 => .base (.tup (e4 _ _ h3))) kit_self)))) (et_not (et_B aa))) (fun hb => nomatch hb) fun _ H4 e4 => ?_
      refine x_ret (x_op (Evl.EvU.go (eu_tup (ea_cons ev_c ea_nil) (by show 1 ≤ 100000; decide)) fun q H5 hq e5 h5 => x_var rfl ⟨q, p, _, _, rfl, rfl, st_of h5, st_of ((e4.trans e5) _ _ h3), by simp, by show 3 ≤ sizeLine; decide, fun z => by simp at z, fun _ l hl => ?_⟩))
      have eA := ((e02.trans e3).trans e4).trans e5
      refine k l _ (fresh_back eA hl) (eA.trans (Ex.new hl)) ?_
      rw [hr1, upd_same]
      rfl
end
end K04

namespace K04
open PySem PySem.Spec PyProof.Rows L2 Evl
/-- the law's pool: one int -/
def Pool (H : Hp) (p : Addr) : Prop := ∃ a : Int, H p = some (.lst [.int a])
theorem pool_ex {H H' : Hp} {p : Addr} (h : Pool H p) (e : Ex H H') : Pool H' p := by
  obtain ⟨a, hp⟩ := h
  exact ⟨a, e _ _ hp⟩
theorem pool_ne {H : Hp} {p r : Addr} (h : Pool H p) (hr : H r = none) : r ≠ p := by
  obtain ⟨a, hp⟩ := h
  exact (ne_of_none hp hr).symm
def sp_pack (K : PySem.W.Frag) : Sp := fun vs H Q _ => ∃ (l : Addr) (ns : List Int) (k : Nat), vs = [.ref l, .int (k : Int)] ∧ SqL K H l (ns.map V.int) ∧ (∀ z ∈ ns, Builtin.Int.intBits z ≤ 1048576) ∧ k < 100 ∧
  ∀ p H2, H p = none → Ex H H2 → Pool H2 p → Q (.ref p) H2
def sp_take : Sp := fun vs H Q _ => ∃ (p : Addr) (m : Int), vs = [.ref p, .int m] ∧ 0 < m ∧ m < 1073741824 ∧ Pool H p ∧ ∀ (d : Int) H2, 0 ≤ d → d < m → But p H H2 → Pool H2 p → Q (.int d) H2
theorem pow_add {i j : Int} {n m : Nat} (hi : i.natAbs < 2 ^ n) (hj : j.natAbs < 2 ^ m) (h : m ≤ n) : (i + j).natAbs < 2 ^ (n + 1) := by
  have h1 : (2 : Nat) ^ m ≤ 2 ^ n := Nat.pow_le_pow_right (by decide) h
  have h2 : (2 : Nat) ^ (n + 1) = 2 ^ n * 2 := Nat.pow_succ ..
  omega
theorem pow_mul {i j : Int} {n m : Nat} (hi : i.natAbs < 2 ^ n) (hj : j.natAbs < 2 ^ m) : (i * j).natAbs < 2 ^ (n + m) := wide_lt hi hj
theorem ev_mulX {σ : L2.St} {H : Hp} {ta tb : TE} {i j : Int} {n m : Nat} (ha : Ev ta σ H (.int i)) (hb : Ev tb σ H (.int j)) (hi : i.natAbs < 2 ^ n) (hj : j.natAbs < 2 ^ m) (h : n + m ≤ 134217728) :
    Ev (tOp (rI CMulX fun i j => .int (i * j)) ta tb) σ H (.int (i * j)) := ev_op ha hb (rv_I (mulx_ok hi hj h))
section
variable {P : Program} {w : World} {K : PySem.W.Frag} {mg : Str → Option Value} {base : Heap} {f : Addr} {fd : FuncData}
theorem ok_take (F : FnP K "_law_take" s_l_take f fd) (T : Txt K mg) : FnOk P w K mg base CX0 1 f fd ["_law_pool", "_law_many"] sp_take := by
  refine F.ok sc_l_take (fun vs H Q E h => ?_) (fun cdv A outer s H vs Q E hr h => ?_)
  · obtain ⟨p, m, rfl, _⟩ := h
    rfl
  · obtain ⟨p, m, rfl, m0, m1, ⟨a, hp⟩, k⟩ := h
    refine ⟨_, PSs.nox (pss_cons (ps_asg (pe_callB call_divmod (by rfl) T.b_divmod (by decide +kernel) (pa_cons (pe_ix ix_list (pv 0) pe_int (fun _ _ => rfl)) (pa_cons (pv 1) pa_nil))) (pg_tup rfl (pgs_cons (pg_sub (pv 0) pe_int set_list) (pgs_cons (pg_name (i := 2) sc_l_take.nd rfl (Or.inl rfl)) pgs_nil))))
      (pss_one (ps_ret (pv 2)))), ?_⟩
    refine q_asgX (x_cb (Evl.EvA.go (ea_cons (ev_op (ev_var rfl) ev_c (rv_ixL (sq_of hp) (show atI [V.int a] 0 = some (V.int a) from rfl))) (ea_cons (ev_var rfl) ea_nil)) fun H5 e5 => ?_))
    have hp5 := e5 _ _ hp
    refine ⟨_, _, rfl, ⟨m0, m1⟩, fun r hr5 => ?_⟩
    have npr : p ≠ r := ne_of_none hp5 hr5
    have h6 : upd H5 r (.tup [.int (a / m), .int (a % m)]) p = some (.lst [.int a]) := by
      rw [upd_ne npr]
      exact hp5
    refine ⟨r, _, rfl, st_of upd_same, rfl, _, _, rfl, ?_⟩
    refine ⟨_, rfl, p, _, 0, 0, rfl, rfl, h6, rfl, ?_⟩
    refine ⟨_, _, rfl, ?_⟩
    refine ⟨rfl, ?_⟩
    refine s_ret (ev_var rfl) fun H7 e7 => ?_
    refine k _ H7 (Int.emod_nonneg _ (by omega)) (Int.emod_lt_of_pos _ m0) ?_ ⟨_, e7 _ _ upd_same⟩
    exact (((But.ex e5).trans (But.ex (Ex.new hr5))).trans But.upd).trans (But.ex e7)
def cOne : Int := 161803398874989484820458683436563811772030917980576286213547
def cTwo : Int := 271828182845904523536028747135266249775724709369995957496697
theorem cOne_lt : cOne.natAbs < 2 ^ 210 := by decide +kernel
theorem cTwo_lt : cTwo.natAbs < 2 ^ 210 := by decide +kernel
def tenSixty : Int := 10 ^ 60
theorem tenSixty_lt : tenSixty.natAbs < 2 ^ 200 := by decide +kernel
theorem tenSixty_pos : 0 < tenSixty := by decide +kernel
theorem ok_pack (F : FnP K "_law_pack" s_l_pack f fd) (T : Txt K mg) : FnOk P w K mg base CX0 1 f fd ["_law_script", "_law_k"] (sp_pack K) := by
  refine F.ok sc_l_pack (fun vs H Q E h => ?_) (fun cdv A outer s H vs Q E hr h => ?_)
  · obtain ⟨l, ns, k, rfl, _⟩ := h
    rfl
  · obtain ⟨l, ns, k, rfl, hs, hbits, hk, q⟩ := h
    refine ⟨_, PSs.nox (pss_cons (ps_set (i := 2) sc_l_pack.nd rfl (Or.inl rfl) (pe_op op_add (pe_op op_mulX pe_int (pv 1)) pe_int))
      (pss_cons (ps_for PassesOwn.never rfl (pi_list (pe_slice sl_list (pv 0) (po_some (pv 1)) (po_some (pe_op op_add (pv 1) pe_int)))) (pg_name (i := 3) sc_l_pack.nd rfl (Or.inl rfl)) (pss_one (ps_set (i := 2) sc_l_pack.nd rfl (Or.inl rfl) (pe_op op_add (pv 3) (pe_op op_mulX pe_int (pv 1))))))
      (pss_cons (ps_set (i := 4) sc_l_pack.nd rfl (Or.inl rfl) pe_int)
      (pss_cons (ps_set (i := 5) sc_l_pack.nd rfl (Or.inl rfl) pe_int)
      (pss_cons (ps_set (i := 6) sc_l_pack.nd rfl (Or.inl rfl) pe_int)
      (pss_cons (ps_for PassesOwn.never rfl (pi_list (pe_lst (pa_cons (pv 4) (pa_cons (pv 5) (pa_cons (pe_op op_add (pv 4) (pe_op op_mulX pe_int (pv 5))) (pa_cons (pe_op op_add (pv 5) (pe_op op_mulX pe_int (pv 4))) (pa_cons (pe_op op_add (pv 4) (pe_op op_mulX pe_int (pv 5))) pa_nil))))))) (pg_name (i := 7) sc_l_pack.nd rfl (Or.inl rfl)) (pss_one (ps_set (i := 6) sc_l_pack.nd rfl (Or.inl rfl) (pe_op op_add (pe_op op_mulX (pv 6) (pe_op op_pow pe_int pe_int)) (pe_op op_mod (pe_op op_mulX (pv 2) (pv 7)) (pe_op op_pow pe_int pe_int))))))
      (pss_one (ps_ret (pe_lst (pa_cons (pv 6) pa_nil)))))))))), ?_⟩
    have hk9 : (k : Int).natAbs < 2 ^ 7 := by omega
    refine q_asg (ev_add (ev_mulX (n := 13) (m := 7) ev_c (ev_var rfl) (by decide) hk9 (by decide)) ev_c) fun H1 e1 => ?_
    refine q_forNLn (K := K) (el_sl (ev_var rfl) (eo_some (ev_var rfl)) (eo_some (ev_add (ev_var rfl) ev_c)) (ex_l e1 hs)) (fun p i σ' H' => Ex H H' ∧ H' p = some (.lst (cutV (ns.map V.int) (some (k : Int)) (some ((k : Int) + 1)))) ∧ ∃ (z : Int) (n : Nat) (v : Option V), σ' = [some (.ref l), some (.int (k : Int)), some (.int z), v, none, none, none, none] ∧ z.natAbs < 2 ^ n ∧ n ≤ 2000000) (fun p H3 hp e3 h3 => ?_) (fun p i σ' H' _ ⟨_, h, _⟩ => sq_of h) (fun p i x σ' H' hi ⟨e, hp, z, n, v, hσ, z0, z1⟩ => ?_) fun p σ' H' ⟨e, hp, z, n, v, hσ, z0, z1⟩ => ?_
    · exact ⟨e1.trans e3, h3, _, 30, _, rfl, by omega, by decide⟩
    · subst hσ
      obtain ⟨u, hu, rfl⟩ : ∃ u ∈ ns, x = V.int u := by
        have hm := List.mem_of_getElem? hi
        unfold cutV at hm
        obtain ⟨u, hu, e⟩ := List.mem_map.mp (List.mem_of_mem_drop (List.mem_of_mem_take hm))
        exact ⟨u, hu, e.symm⟩
      have ub := natAbs_lt_pow_bits u
      have un := hbits u hu
      refine s_asg (ev_add (ev_var rfl) (ev_mulX (n := 5) (m := 7) ev_c (ev_var rfl) (by decide) hk9 (by decide))) fun H4 e4 => ⟨e.trans e4, e4 _ _ hp, _, Builtin.Int.intBits u + 12 + 1, _, rfl, pow_add (pow_big ub (by omega)) (pow_mul (n := 5) (m := 7) (by decide) hk9) (by omega), by omega⟩
    · subst hσ
      refine q_asg (v := .int cOne) ev_c fun H2 e2 => ?_
      refine q_asg (v := .int cTwo) ev_c fun H3 e3 => ?_
      refine q_asg ev_c fun H4 e4 => ?_
      have e04 : Ex H H4 := ((e.trans e2).trans e3).trans e4
      have b1 := cOne_lt
      have b2 := cTwo_lt
      generalize cOne = o at *
      generalize cTwo = t at *
      have L : EvL (tLst (tCons (tVar 4) (tCons (tVar 5) (tCons (tOp (rI0 fun i j => .int (i + j)) (tVar 4) (tOp (rI CMulX fun i j => .int (i * j)) (tC (.int 2)) (tVar 5))) (tCons (tOp (rI0 fun i j => .int (i + j)) (tVar 5) (tOp (rI CMulX fun i j => .int (i * j)) (tC (.int 4)) (tVar 4))) (tCons (tOp (rI0 fun i j => .int (i + j)) (tVar 4) (tOp (rI CMulX fun i j => .int (i * j)) (tC (.int 10)) (tVar 5))) tNil))))))
          [some (.ref l), some (.int (k : Int)), some (.int z), v, some (.int o), some (.int t), some (.int 0), none] H4 ([o, t, o + 2 * t, t + 4 * o, o + 10 * t].map V.int) :=
        el_lst (ea_cons (ev_var rfl) (ea_cons (ev_var rfl) (ea_cons (ev_add (ev_var rfl) (ev_mulX (n := 2) ev_c (ev_var rfl) (by decide) b2 (by decide))) (ea_cons (ev_add (ev_var rfl) (ev_mulX (n := 3) ev_c (ev_var rfl) (by decide) b1 (by decide))) (ea_cons (ev_add (ev_var rfl) (ev_mulX (n := 4) ev_c (ev_var rfl) (by decide) b2 (by decide))) ea_nil))))) (by show 5 ≤ 100000; decide)
      have big : ∀ x ∈ [o, t, o + 2 * t, t + 4 * o, o + 10 * t], x.natAbs < 2 ^ 220 := by
        intro x hx
        have c1 : ∀ {y : Int}, y.natAbs < 2 ^ 210 → y.natAbs < 2 ^ 220 := fun h => pow_big h (by decide)
        have c2 : ∀ {y z c : Int}, y.natAbs < 2 ^ 210 → z.natAbs < 2 ^ 210 → c.natAbs < 2 ^ 4 → (y + c * z).natAbs < 2 ^ 220 := fun h1 h2 h3 => pow_big (pow_add (pow_big h1 (show 210 ≤ 214 by decide)) (pow_mul h3 h2) (by decide)) (by decide)
        simp only [List.mem_cons, List.mem_nil_iff, or_false] at hx
        rcases hx with rfl | rfl | rfl | rfl | rfl
        · exact c1 b1
        · exact c1 b2
        · exact c2 b1 b2 (by decide)
        · exact c2 b2 b1 (by decide)
        · exact c2 b1 b2 (by decide)
      have hM : [o, t, o + 2 * t, t + 4 * o, o + 10 * t].length = 5 := rfl
      generalize [o, t, o + 2 * t, t + 4 * o, o + 10 * t] = M at *
      refine q_forNLn (K := K) L (fun p i σ' H' => Ex H H' ∧ H' p = some (.lst (M.map V.int)) ∧ ∃ (y : Int) (v2 : Option V), σ' = [some (.ref l), some (.int (k : Int)), some (.int z), v, some (.int o), some (.int t), some (.int y), v2] ∧ y.natAbs < 2 ^ (201 * i)) (fun p H5 hp e5 h5 => ?_) (fun p i σ' H' _ ⟨_, h, _⟩ => sq_of h) (fun p i x σ' H' hi ⟨e, hp, y, v2, hσ, y0⟩ => ?_) fun p σ' H' ⟨e, hp, y, v2, hσ, y0⟩ => ?_
      · exact ⟨e04.trans e5, h5, 0, _, rfl, by decide⟩
      · subst hσ
        have hlt : i < 5 := by
          have := (List.getElem?_eq_some_iff.mp hi).1
          rw [List.length_map] at this
          omega
        obtain ⟨u, hu, rfl⟩ : ∃ u ∈ M, x = V.int u := by
          obtain ⟨u, hu, e⟩ := List.mem_map.mp (List.mem_of_getElem? hi)
          exact ⟨u, hu, e.symm⟩
        have tp : ∀ {σ0 : L2.St} {H0 : Hp}, Ev (tOp (rI CPow fun i j => .int (i ^ j.toNat)) (tC (.int 10)) (tC (.int 60))) σ0 H0 (.int tenSixty) := ev_op ev_c ev_c (rv_I (show CPow 10 60 from ⟨by decide, by decide, by decide⟩))
        have t1 := tenSixty_lt
        have t2 := tenSixty_pos
        generalize tenSixty = ts at *
        have r1 := Int.emod_nonneg (z * u) (show ts ≠ 0 by omega)
        have r2 := Int.emod_lt_of_pos (z * u) t2
        refine s_asg (ev_add (ev_mulX (ev_var rfl) tp y0 t1 (by omega)) (ev_mod (ev_mulX (ev_var rfl) (ev_var rfl) z0 (big u hu) (by omega)) tp t2)) fun H6 e6 => ⟨e.trans e6, e6 _ _ hp, _, _, rfl, ?_⟩
        have e3 : 201 * (i + 1) = 201 * i + 200 + 1 := by omega
        rw [e3]
        exact pow_add (pow_mul y0 t1) (show (z * u % ts).natAbs < 2 ^ 200 by omega) (by omega)
      · subst hσ
        refine s_retL (el_lst (ea_cons (ev_var rfl) ea_nil) (by show 1 ≤ 100000; decide)) fun r H6 hr e6 h6 => q r H6 (fresh_back e hr) (e.trans e6) ⟨_, h6⟩
end
end K04

namespace K04
open PySem PySem.Spec PyProof.Rows L2 Evl
def Word (z : Str) : Prop := 1 ≤ (cs z).length ∧ (cs z).length ≤ 6 ∧ ∀ c ∈ cs z, isL c = true
def wordB (z : Str) : Bool := decide (1 ≤ (cs z).length) && (decide ((cs z).length ≤ 6) && (cs z).all isL)
theorem wordB_ok {z : Str} (h : wordB z = true) : Word z := by
  unfold wordB at h
  rw [Bool.and_eq_true, Bool.and_eq_true, decide_eq_true_eq, decide_eq_true_eq, List.all_eq_true] at h
  exact ⟨h.1, h.2.1, h.2.2⟩
def sp_words : Sp := fun vs H Q _ => ∃ (p : Addr) (m : Nat), vs = [.ref p, .int (m : Int)] ∧ m ≤ 100 ∧ Pool H p ∧
  ∀ (r : Addr) (ws : List Str) H2, H r = none → But p H H2 → Pool H2 p → H2 r = some (.tup (ws.map V.str)) → ws.length = m → (∀ z ∈ ws, Word z) → Q (.ref r) H2
abbrev L_take (P : Program) (w : World) (K : PySem.W.Frag) (mg : Str → Option Value) (base : Heap) : Prop := Dn P w K mg base 1 "_law_take" ["_law_pool", "_law_many"] sp_take
section
variable {K : PySem.W.Frag} {σ : L2.St} {H : Hp} {ta tb te tm : TE} {Q : VK} {p : Addr} {i : Nat} {m : Int}
theorem take_go {E : XK} (hσ : σ[i]? = some (some (.ref p))) (hm : Ev tm σ H (.int m)) (hp : Pool H p) (m0 : 0 < m) (m1 : m < 1073741824) (k : ∀ (d : Int) H2, 0 ≤ d → d < m → But p H H2 → Pool H2 p → Q (.int d) H2) : tCall sp_take [] E (tCons (tVar i) (tCons tm tNil)) σ H Q :=
  ⟨.ref p, hσ, hm H (Ex.refl _) _ fun H1 e1 => ⟨p, m, rfl, m0, m1, pool_ex hp e1, fun d H2 h1 h2 b pl => k d H2 h1 h2 ((But.ex e1).trans b) pl⟩⟩
/-- [e for j in range(n)], e takes out of the pool -/
theorem lc_pool {n : Nat} {j : Nat} {vs : List Nat} (R : V → Prop) (hn : n ≤ 1000) (hp : Pool H p) (hw : ∀ x, wipe ((wipe σ vs).set j (some x)) vs = wipe σ vs)
    (he : ∀ (i : Nat) H1, i < n → But p H H1 → Pool H1 p → ∀ Q' : VK, (∀ y H2, R y → But p H1 H2 → Pool H2 p → Q' y H2) → te ((wipe σ vs).set j (some (.int (i : Int)))) H1 Q')
    (k : ∀ (r : Addr) (ys : List V) H2, H r = none → But p H H2 → Pool H2 p → H2 r = some (.lst ys) → ys.length = n → (∀ y ∈ ys, R y) → Q (.ref r) H2) :
    tLc (iRng1 (fun _ H R => R [.int (n : Int)] H)) (gName j) tYes te vs σ H Q := by
  refine ⟨(n : Int), rfl, by omega, by omega, fun Dl hD => ?_⟩
  have nDp : Dl ≠ p := pool_ne hp hD
  refine lc_range (lo := 0) (n := n) (fun i H' => But p H H' ∧ Pool H' p ∧ ∃ ys : List V, H' Dl = some (.lst ys) ∧ ys.length = i ∧ ∀ y ∈ ys, R y) ⟨But.ex (Ex.new hD), pool_ex hp (Ex.new hD), [], upd_same, rfl, fun y hy => nomatch hy⟩ ?_ ?_
  · rintro i H' hi ⟨b, pl, ys, hy, yl, yr⟩
    have e0 : (0 : Int) + (i : Int) = (i : Int) := Int.zero_add _
    rw [e0]
    refine ⟨hw _, ?_⟩
    refine he i H' hi b pl _ fun y H2 hR b2 p2 => ?_
    refine ⟨ys, b2 _ _ nDp hy, ?_, ?_, ?_, ys ++ [y], upd_same, by rw [List.length_append, yl]; rfl, fun z hz => ?_⟩
    · rw [sizeLine_eq]
      omega
    · intro c o nc hc
      have ncD : c ≠ Dl := ne_of_none hc hD
      rw [upd_ne ncD]
      exact (b.trans b2) c o nc hc
    · obtain ⟨a, ha⟩ := p2
      exact ⟨a, by rw [upd_ne nDp.symm]; exact ha⟩
    · rcases List.mem_append.mp hz with hz | hz
      · exact yr z hz
      · rw [List.mem_singleton.mp hz]
        exact hR
  · rintro H' ⟨b, pl, ys, hy, yl, yr⟩
    exact k Dl ys H' hD b pl hy yl yr
end
theorem et_yes {σ : L2.St} {H : Hp} : EvT tYes σ H true := fun H8 _ Q' q' => q' H8 (Ex.refl _)
theorem lc_rng {σ : L2.St} {H : Hp} {te te0 : TE} {Q : VK} {g : TG} {t : TT} {vs : List Nat} (h : te0 σ H fun v H1 => tLc (iRng1 (fun _ H R => R [v] H)) g t te vs σ H1 Q) : tLc (iRng1 (tCons te0 tNil)) g t te vs σ H Q := h
theorem joinL_ones : ∀ zs : List Nat, TL.joinL [] (zs.map fun c => [c]) = zs
  | [] => rfl
  | [_] => rfl
  | a :: b :: r => by
    show [a] ++ ([] ++ TL.joinL [] ((b :: r).map fun c => [c])) = _
    rw [joinL_ones (b :: r)]
    rfl
theorem join_cs (zs : List Nat) : cs (Txt.join (Str.ofString "") (zs.map fun c => (⟨#[c]⟩ : Str))) = zs := by
  rw [TL.join_eq]
  show TL.tl _ = _
  rw [TL.tl_join, List.map_map]
  exact joinL_ones zs
theorem cs_app (x y : Str) : cs (x ++ y) = cs x ++ cs y := TL.tl_append x y
theorem cs_take (z : Str) (n : Nat) : cs (takeS z n) = (cs z).take n := rfl
theorem cs_drop (z : Str) (n : Nat) : cs (dropS z n) = (cs z).drop n := rfl
theorem sum_ones (zs : List Nat) : ((zs.map fun c => (⟨#[c]⟩ : Str)).map (·.length)).sum = zs.length := by
  induction zs with
  | nil => rfl
  | cons a r ih =>
    rw [List.map_cons, List.map_cons, List.sum_cons, ih, List.length_cons]
    show 1 + _ = _
    omega
theorem ev_cat {σ : L2.St} {H : Hp} {ta tb : TE} {x y : Str} (ha : Ev ta σ H (.str x)) (hb : Ev tb σ H (.str y)) (hx : x.length ≤ 10000) (hy : y.length ≤ 10000) : Ev (tOp (fun x y H Q => ∃ i j : Str, x = .str i ∧ y = .str j ∧ i.length + j.length ≤ sizeLine ∧ Q (.str (i ++ j)) H) ta tb) σ H (.str (x ++ y)) :=
  ev_op ha hb fun H4 _ Q' q' => ⟨_, _, rfl, rfl, sz_of (by omega), q' H4 (Ex.refl _)⟩
/-! the law's words -/
def ownS : List Str := ["rose", "none", "home", "away", "ok", "same", "on", "back", "own", "across", "corner", "wind"]
theorem own_word : ∀ z ∈ ownS, Word z := by
  have h : ownS.all wordB = true := by decide +kernel
  exact fun z hz => wordB_ok (List.all_eq_true.mp h z hz)
theorem own_len : ownS.length = 12 := rfl
def LT : Str := "abcdefghijklmnopqrstuvwxyz"
theorem LT_len : (cs LT).length = 26 := by decide +kernel
theorem at_some {α : Type} {L : List α} {j : Int} (h0 : 0 ≤ j) (h1 : j < L.length) : ∃ v ∈ L, atI L j = some v := by
  obtain ⟨n, rfl⟩ := Int.eq_ofNat_of_zero_le h0
  have hn : n < L.length := by omega
  exact ⟨L[n], List.getElem_mem hn, atI_nat (by rw [List.getElem?_eq_getElem hn])⟩
def go (j : Int) : Str := (atI ownS j).getD ""
theorem go_at {j : Int} (h0 : 0 ≤ j) (h1 : j < 12) : atI (ownS.map V.str) j = some (.str (go j)) ∧ Word (go j) := by
  obtain ⟨n, rfl⟩ := Int.eq_ofNat_of_zero_le h0
  have hn : n < ownS.length := by
    rw [own_len]
    omega
  have e : atI ownS (n : Int) = some ownS[n] := atI_nat (List.getElem?_eq_getElem hn)
  unfold go
  rw [e]
  exact ⟨atI_nat (by rw [List.getElem?_map, List.getElem?_eq_getElem hn]; rfl), own_word _ (List.getElem_mem hn)⟩
def gl (j : Int) : Nat := (atI (cs LT) j).getD 0
theorem gl_at {j : Int} (h0 : 0 ≤ j) (h1 : j < 26) : atI (cs LT) j = some (gl j) ∧ isL (gl j) = true := by
  obtain ⟨v, hv, e⟩ := at_some (L := cs LT) h0 (by rw [LT_len]; exact h1)
  unfold gl
  rw [e]
  exact ⟨rfl, decide_eq_true hv⟩
theorem given_all {n : Nat} {g : Nat → Str} : given n (fun _ => true) (fun i => V.str (g i)) = ((List.range n).map g).map V.str := by
  unfold given
  rw [List.filter_eq_self.mpr (fun _ _ => rfl), List.map_map]
  rfl
section
variable {P : Program} {w : World} {K : PySem.W.Frag} {mg : Str → Option Value} {base : Heap} {f : Addr} {fd : FuncData}
theorem ok_words (F : FnP K "_law_words" s_l_words f fd) (T : Txt K mg) (D_l_take : L_take P w K mg base) : FnOk P w K mg base CX0 2 f fd ["_law_pool", "_law_many"] sp_words := by
  refine F.ok sc_l_words (fun vs H Q E h => ?_) (fun cdv A outer s H vs Q E hr h => ?_)
  · obtain ⟨p, m, rfl, _⟩ := h
    rfl
  · obtain ⟨p, m, rfl, m1, hp, k⟩ := h
    refine ⟨_, PSs.nox (pss_cons (ps_set (i := 2) sc_l_words.nd rfl (Or.inr rfl) (pe_lst (pa_cons pe_str (pa_cons pe_str (pa_cons pe_str (pa_cons pe_str (pa_cons pe_str (pa_cons pe_str (pa_cons pe_str (pa_cons pe_str (pa_cons pe_str (pa_cons pe_str (pa_cons pe_str (pa_cons pe_str pa_nil))))))))))))))
      (pss_cons (ps_asg (pe_tup (pa_cons (pe_cd D_l_take (hr.mono (by decide)) (by rfl) (pa_cons (pv 0) (pa_cons pe_int pa_nil))) (pa_cons (pe_cd D_l_take (hr.mono (by decide)) (by rfl) (pa_cons (pv 0) (pa_cons pe_int pa_nil))) pa_nil))) (pg_tup rfl (pgs_cons (pg_name (i := 3) sc_l_words.nd rfl (Or.inl rfl)) (pgs_cons (pg_name (i := 4) sc_l_words.nd rfl (Or.inr rfl)) pgs_nil))))
      (pss_cons (ps_set (i := 5) sc_l_words.nd rfl (Or.inr rfl) (pe_ix ix_list (pe_lst (pa_cons pe_int (pa_cons pe_int (pa_cons pe_int (pa_cons pe_int pa_nil))))) (pe_cd D_l_take (hr.mono (by decide)) (by rfl) (pa_cons (pv 0) (pa_cons pe_int pa_nil))) (fun _ _ => rfl)))
      (pss_cons (ps_if (pt_cmpR op_eq (pv 3) pe_int (nomark _)) (pss_one (ps_ret (pe_callTy call_tuple_of (by rfl) T.b_tuple (by decide +kernel) (pa_cons (pe_lc (own := [("_law_k", 6)]) (g := (gName 6)) (tt := tYes) rfl sc_l_words.nd (pi_range1 (by rfl) T.b_range (pa_cons (pv 1) pa_nil)) (blkOk_by (own := [("_law_k", 6)]) (N := ["_law_pool", "_law_many", "_law_own", "_law_way", "_law_at", "_law_step", "_law_k", "_law_letters", "_law_size", "_law_stem", "_law_put", "_law_first"]) (sc := defScope s_l_words) (by decide +kernel)) (fun _ _ _ _ _ => (pg_name (i := 6) sc_l_words.nd rfl (Or.inl rfl))) (fun _ _ _ _ _ => pts_nil) (fun _ _ _ _ _ => (pe_ix (r := rIxL K) ix_list (pv 2) (pe_op op_mod (pe_op op_add (pv 4) (pe_op op_mulW (pv 5) (pv 6))) pe_int) (fun _ _ => rfl)))) pa_nil)))) pss_nil)
      (pss_cons (ps_set (i := 7) sc_l_words.nd rfl (Or.inr rfl) pe_str)
      (pss_cons (ps_set (i := 8) sc_l_words.nd rfl (Or.inl rfl) (pe_cd D_l_take (hr.mono (by decide)) (by rfl) (pa_cons (pv 0) (pa_cons pe_int pa_nil))))
      (pss_cons (ps_set (i := 9) sc_l_words.nd rfl (Or.inr rfl) (pe_join pe_str (pe_lc (own := [("_law_k", 6)]) (g := (gName 6)) (tt := tYes) rfl sc_l_words.nd (pi_range1 (by rfl) T.b_range (pa_cons (pv 8) pa_nil)) (blkOk_by (own := [("_law_k", 6)]) (N := ["_law_pool", "_law_many", "_law_own", "_law_way", "_law_at", "_law_step", "_law_k", "_law_letters", "_law_size", "_law_stem", "_law_put", "_law_first"]) (sc := defScope s_l_words) (by decide +kernel)) (fun _ _ _ _ _ => (pg_name (i := 6) sc_l_words.nd rfl (Or.inl rfl))) (fun _ _ _ _ _ => pts_nil) (fun _ _ _ _ _ => (pe_ix (r := rIxS) ix_str (pv 7) (pe_cd D_l_take (hr.mono (by decide)) (by rfl) (pa_cons (pv 0) (pa_cons pe_int pa_nil))) (fun _ _ => rfl))))))
      (pss_cons (ps_asg (pe_tup (pa_cons (pe_cd D_l_take (hr.mono (by decide)) (by rfl) (pa_cons (pv 0) (pa_cons (pe_op op_add (pe_callB call_len_str (by rfl) T.b_len (by decide +kernel) (pa_cons (pv 9) pa_nil)) pe_int) pa_nil))) (pa_cons (pe_cd D_l_take (hr.mono (by decide)) (by rfl) (pa_cons (pv 0) (pa_cons pe_int pa_nil))) pa_nil))) (pg_tup rfl (pgs_cons (pg_name (i := 10) sc_l_words.nd rfl (Or.inr rfl)) (pgs_cons (pg_name (i := 11) sc_l_words.nd rfl (Or.inr rfl)) pgs_nil))))
      (pss_cons (ps_if (pt_cmpR op_eq (pv 3) pe_int (nomark _)) (pss_one (ps_ret (pe_callTy call_tuple_of (by rfl) T.b_tuple (by decide +kernel) (pa_cons (pe_lc (own := [("_law_k", 6)]) (g := (gName 6)) (tt := tYes) rfl sc_l_words.nd (pi_range1 (by rfl) T.b_range (pa_cons (pv 1) pa_nil)) (blkOk_by (own := [("_law_k", 6)]) (N := ["_law_pool", "_law_many", "_law_own", "_law_way", "_law_at", "_law_step", "_law_k", "_law_letters", "_law_size", "_law_stem", "_law_put", "_law_first"]) (sc := defScope s_l_words) (by decide +kernel)) (fun _ _ _ _ _ => (pg_name (i := 6) sc_l_words.nd rfl (Or.inl rfl))) (fun _ _ _ _ _ => pts_nil) (fun _ _ _ _ _ => (pe_op op_mulS (pe_ix (r := rIxS) ix_str (pv 7) (pe_op op_mod (pe_op op_add (pv 11) (pe_op op_fdivNN (pv 6) pe_int)) pe_int) (fun _ _ => rfl)) (pe_op op_add pe_int (pe_op op_mod (pv 6) pe_int))))) pa_nil)))) pss_nil)
      (pss_one (ps_ret (pe_callTy call_tuple_of (by rfl) T.b_tuple (by decide +kernel) (pa_cons (pe_lc (own := [("_law_k", 6)]) (g := (gName 6)) (tt := tYes) rfl sc_l_words.nd (pi_range1 (by rfl) T.b_range (pa_cons (pv 1) pa_nil)) (blkOk_by (own := [("_law_k", 6)]) (N := ["_law_pool", "_law_many", "_law_own", "_law_way", "_law_at", "_law_step", "_law_k", "_law_letters", "_law_size", "_law_stem", "_law_put", "_law_first"]) (sc := defScope s_l_words) (by decide +kernel)) (fun _ _ _ _ _ => (pg_name (i := 6) sc_l_words.nd rfl (Or.inl rfl))) (fun _ _ _ _ _ => pts_nil) (fun _ _ _ _ _ => (pe_op op_add_str (pe_op op_add_str (pe_slice sl_str (pv 9) po_none (po_some (pv 10))) (pe_ix (r := rIxS) ix_str (pv 7) (pe_op op_mod (pe_op op_add (pv 11) (pe_op op_mulW (pv 5) (pv 6))) pe_int) (fun _ _ => rfl))) (pe_slice sl_str (pv 9) (po_some (pv 10)) po_none)))) pa_nil))))))))))))), ?_⟩
    refine q_set (Evl.EvL.go (xs := ownS.map V.str) (el_lst (ea_cons ev_c (ea_cons ev_c (ea_cons ev_c (ea_cons ev_c (ea_cons ev_c (ea_cons ev_c (ea_cons ev_c (ea_cons ev_c (ea_cons ev_c (ea_cons ev_c (ea_cons ev_c (ea_cons ev_c ea_nil)))))))))))) (by show 12 ≤ 100000; decide)) fun q H1 hq e1 h1 => ?_)
    have p1 := pool_ex hp e1
    have nqp : q ≠ p := pool_ne hp hq
    have B1 : But p H H1 := But.ex e1
    -- way, at
    refine q_asgX (x_tup (x_cons (take_go rfl ev_c p1 (by decide) (by decide) fun way H2 w0 w1 b2 p2 => x_cons (take_go rfl ev_c p2 (by decide) (by decide) fun at_ H3 a0 a1 b3 p3 => x_nil ⟨by show 2 ≤ sizeLine; decide, fun r hr3 => ⟨r, _, rfl, st_of upd_same, rfl, _, _, rfl, _, _, rfl, rfl, ?_⟩⟩))))
    have B3 : But p H (upd H3 r (.tup [.int way, .int at_])) := ((B1.trans b2).trans b3).trans (But.ex (Ex.new hr3))
    have p3' := pool_ex p3 (Ex.new (o := .tup [.int way, .int at_]) hr3)
    have h3 : upd H3 r (.tup [.int way, .int at_]) q = some (.lst (ownS.map V.str)) := (But.ex (p := p) (Ex.new hr3)) _ _ nqp (b3 _ _ nqp (b2 _ _ nqp h1))
    generalize upd H3 r (.tup [.int way, .int at_]) = G3 at *
    -- step
    refine q_set (x_op (Evl.EvL.go (xs := [1, 5, 7, 11].map V.int) (el_lst (ea_cons ev_c (ea_cons ev_c (ea_cons ev_c (ea_cons ev_c ea_nil)))) (by show 4 ≤ 100000; decide)) fun r4 H4 hr4 e4 h4 => take_go rfl ev_c (pool_ex p3' e4) (by decide) (by decide) fun d H5 d0 d1 b5 p5 => ?_))
    have nr4 : r4 ≠ p := pool_ne p3' hr4
    obtain ⟨step, hstep, hat⟩ : ∃ v ∈ ([1, 5, 7, 11] : List Int), atI ([1, 5, 7, 11].map V.int) d = some (.int v) := by
      obtain ⟨n, rfl⟩ := Int.eq_ofNat_of_zero_le d0
      have hn : n < ([1, 5, 7, 11] : List Int).length := by
        show n < 4
        omega
      exact ⟨([1, 5, 7, 11] : List Int)[n], List.getElem_mem hn, atI_nat (by rw [List.getElem?_map, List.getElem?_eq_getElem hn]; rfl)⟩
    have sb : step.natAbs < 2 ^ 4 ∧ 0 ≤ step := by
      simp only [List.mem_cons, List.mem_nil_iff, or_false] at hstep
      rcases hstep with rfl | rfl | rfl | rfl <;> decide
    refine ⟨r4, _, _, _, rfl, rfl, sq_of (b5 _ _ nr4 h4), hat, ?_⟩
    have B5 := (B3.trans (But.ex e4)).trans b5
    have h5 := b5 _ _ nqp (e4 _ _ h3)
    have fin : ∀ (g : Nat → Str) (tl : TE) (σ0 : L2.St) (H' : Hp) (D : Ends), (∀ i, i < m → Word (g i)) → But p H H' → Pool H' p → D.rt = Q → EvL tl σ0 H' (given m (fun _ => true) fun i => .str (g i)) → tRet (tCB (fun xs H_1 Q => ∃ p ys, xs = [V.ref p] ∧ ((SqL K H_1 p ys ∧ ∀ l, H_1 l = none → Q (V.ref l) (upd H_1 l (.tup ys))) ∨ SqT K H_1 p ys ∧ Q (V.ref p) H_1)) (tCons tl tNil)) D σ0 H' := fun g tl σ0 H' D hg b pl hD hl => by
      refine x_ret (x_cb (x_cons (Evl.EvL.go hl fun r H6 hr6 e6 h6 => x_nil ⟨r, _, rfl, .inl ⟨sq_of h6, fun l hl6 => ?_⟩⟩)))
      rw [hD]
      have hl' : H l = none := by
        cases q : H l with
        | none => rfl
        | some o =>
          have nlp : l ≠ p := fun z => by
            obtain ⟨a, ha⟩ := pool_ex pl e6
            rw [z, ha] at hl6
            cases hl6
          have := e6 _ _ (b l o nlp q)
          rw [this] at hl6
          cases hl6
      refine k l ((List.range m).map g) _ hl' ((b.trans (But.ex e6)).trans (But.ex (Ex.new hl6))) (pool_ex (pool_ex pl e6) (Ex.new hl6)) ?_ (by rw [List.length_map, List.length_range]) fun z hz => ?_
      · rw [upd_same, given_all]
      · obtain ⟨i, hi, rfl⟩ := List.mem_map.mp hz
        exact hg i (List.mem_range.mp hi)
    refine q_when (et_test (ev_eqI (ev_var rfl) ev_c)) (fun hb H6 e6 => ?_) fun hb H6 e6 => ?_
    · -- words of rows
      have h6 := e6 _ _ h5
      refine fin (fun i => go ((at_ + step * (i : Int)) % 12)) _ _ H6 _ (fun i hi => (go_at (Int.emod_nonneg _ (by decide)) (Int.emod_lt_of_pos _ (by decide))).2) (B5.trans (But.ex e6)) (pool_ex p5 e6) rfl ?_
      refine el_lcR1 (n := (m : Int)) (fun _ => true) (fun i => V.str (go ((at_ + step * (i : Int)) % 12))) (ea_cons (ev_var rfl) ea_nil) ⟨by omega, by omega⟩ (fun _ => rfl) (fun i H7 _ _ => et_yes) fun i H7 e7 hi _ => ?_
      have hi7 : (i : Int).natAbs < 2 ^ 7 := by omega
      exact ev_op (ev_var rfl) (ev_mod (ev_add (ev_var rfl) (ev_mulW (ev_var rfl) (ev_var rfl) sb.1 hi7)) ev_c (by decide)) (rv_ixL (sq_of (e7 _ _ h6)) (go_at (Int.emod_nonneg _ (by decide)) (Int.emod_lt_of_pos _ (by decide))).1)
    · refine q_asg (v := .str LT) ev_c fun H7 e7 => ?_
      have p7 := pool_ex p5 (e6.trans e7)
      have B7 := B5.trans (But.ex (e6.trans e7))
      refine q_set (take_go rfl ev_c p7 (by decide) (by decide) fun size H8 s0 s1 b8 p8 => ?_)
      refine q_set (show tM1 _ _ _ _ _ _ from x_c ⟨⟨_, rfl⟩, ?_⟩)
      obtain ⟨sz, rfl⟩ := Int.eq_ofNat_of_zero_le s0
      refine lc_rng (x_var rfl (lc_pool (R := fun y => ∃ c, y = .str ⟨#[c]⟩ ∧ isL c = true) (n := sz) (by omega) p8 (fun _ => rfl) ?_ ?_))
      · intro i H9 hi b9 p9 Q' q'
        refine x_op (x_var rfl (take_go rfl ev_c p9 (by decide) (by decide) fun d9 H10 d90 d91 b10 p10 => ?_))
        have g9 := gl_at d90 d91
        exact ⟨LT, d9, gl d9, rfl, rfl, sz_of (by decide +kernel), g9.1, q' _ _ ⟨_, rfl, g9.2⟩ b10 p10⟩
      · intro r9 ys H9 hr9 b9 p9 h9 yl yr
        obtain ⟨zs, rfl, zl⟩ : ∃ zs : List Nat, ys = (zs.map fun c => (⟨#[c]⟩ : Str)).map V.str ∧ ∀ c ∈ zs, isL c = true := by
          clear h9 yl
          induction ys with
          | nil => exact ⟨[], rfl, fun c hc => nomatch hc⟩
          | cons y r ih =>
            obtain ⟨zs, rfl, hz⟩ := ih fun y hy => yr y (List.mem_cons_of_mem _ hy)
            obtain ⟨c, rfl, hc⟩ := yr y List.mem_cons_self
            refine ⟨c :: zs, rfl, fun d hd => ?_⟩
            rcases List.mem_cons.mp hd with rfl | hd
            · exact hc
            · exact hz d hd
        rw [List.length_map, List.length_map] at yl
        refine ⟨_, r9, _, rfl, rfl, .inl (sq_of h9), ?_, ?_⟩
        · rw [sum_ones]
          show zs.length + _ * 0 ≤ _
          omega
        · have hst : cs (Txt.join (Str.ofString "") (zs.map fun c => (⟨#[c]⟩ : Str))) = zs := join_cs zs
          show tSeq _ _ _ _ _
          generalize Txt.join (Str.ofString "") (zs.map fun c => (⟨#[c]⟩ : Str)) = st at *
          have stl : st.length ≤ 5 := by
            rw [cs_len, hst]
            omega
          have B9 := (B7.trans b8).trans b9
          refine q_asgX (x_tup (x_cons (take_go rfl (ev_add (ev_cb (ea_cons (ev_var rfl) ea_nil) (rc_lenS (by omega))) ev_c) p9 (by omega) (by rw [← cs_len]; omega) fun put H10 u0 u1 b10 p10 => x_cons (take_go rfl ev_c p10 (by decide) (by decide) fun first H11 f0 f1 b11 p11 => x_nil ⟨by show 2 ≤ sizeLine; decide, fun r hr11 => ⟨r, _, rfl, st_of upd_same, rfl, _, _, rfl, _, _, rfl, rfl, ?_⟩⟩))))
          have B11 : But p H (upd H11 r (.tup [.int put, .int first])) := ((B9.trans b10).trans b11).trans (But.ex (Ex.new hr11))
          have p11' := pool_ex p11 (Ex.new (o := .tup [.int put, .int first]) hr11)
          generalize upd H11 r (.tup [.int put, .int first]) = G at *
          obtain ⟨pn, rfl⟩ := Int.eq_ofNat_of_zero_le u0
          rw [hst] at u1
          refine q_when (et_test (ev_eqI (ev_var rfl) ev_c)) (fun hb2 H12 e12 => ?_) fun hb2 H12 e12 => ?_
          · refine fin (fun i => ⟨(List.replicate (1 + i % 6) (cs ⟨#[gl ((first + ((i / 6 : Nat) : Int)) % 26)]⟩)).flatten.toArray⟩) _ _ H12 _ (fun i hi => ?_) (B11.trans (But.ex e12)) (pool_ex p11' e12) rfl ?_
            · have hg := (gl_at (j := (first + ((i / 6 : Nat) : Int)) % 26) (Int.emod_nonneg _ (by decide)) (Int.emod_lt_of_pos _ (by decide))).2
              generalize gl ((first + ((i / 6 : Nat) : Int)) % 26) = c at *
              have ec : ∀ n, cs ⟨(List.replicate n (cs ⟨#[c]⟩)).flatten.toArray⟩ = List.replicate n c := fun n => by
                show (List.replicate n [c]).flatten = _
                induction n with
                | zero => rfl
                | succ n ih =>
                  rw [List.replicate_succ, List.flatten_cons, ih]
                  rfl
              refine ⟨?_, ?_, fun d hd => ?_⟩
              · rw [ec, List.length_replicate]
                omega
              · rw [ec, List.length_replicate]
                omega
              · rw [ec] at hd
                rw [(List.mem_replicate.mp hd).2]
                exact hg
            · refine el_lcR1 (n := (m : Int)) (fun _ => true) (fun i => V.str ⟨(List.replicate (1 + i % 6) (cs ⟨#[gl ((first + ((i / 6 : Nat) : Int)) % 26)]⟩)).flatten.toArray⟩) (ea_cons (ev_var rfl) ea_nil) ⟨by omega, by omega⟩ (fun _ => rfl) (fun i H7 _ _ => et_yes) fun i H13 e13 hi _ => ?_
              refine ev_op (ev_op (ev_var rfl) (ev_mod (ev_add (ev_var rfl) (ev_op (ev_var rfl) ev_c (fun H14 _ Q' q' => ⟨i, 6, rfl, rfl, ⟨by decide, by decide⟩, q' H14 (Ex.refl _)⟩))) ev_c (by decide)) (rv_ixS (by decide +kernel) (gl_at (Int.emod_nonneg _ (by decide)) (Int.emod_lt_of_pos _ (by decide))).1)) (ev_add ev_c (ev_mod (ev_var rfl) ev_c (by decide))) fun H14 _ Q' q' => ?_
              exact ⟨_, 1 + i % 6, rfl, rfl, by show 1 ≤ 1000; decide, by omega, q' H14 (Ex.refl _)⟩
          · refine fin (fun i => takeS st pn ++ (⟨#[gl ((first + step * (i : Int)) % 26)]⟩ : Str) ++ dropS st pn) _ _ H12 _ (fun i hi => ?_) (B11.trans (But.ex e12)) (pool_ex p11' e12) rfl ?_
            · have hg := (gl_at (j := (first + step * (i : Int)) % 26) (Int.emod_nonneg _ (by decide)) (Int.emod_lt_of_pos _ (by decide))).2
              have ec : cs (takeS st pn ++ (⟨#[gl ((first + step * (i : Int)) % 26)]⟩ : Str) ++ dropS st pn) = zs.take pn ++ [gl ((first + step * (i : Int)) % 26)] ++ zs.drop pn := by
                rw [cs_app, cs_app, cs_take, cs_drop, hst]
                rfl
              unfold Word
              rw [ec]
              refine ⟨?_, ?_, fun d hd => ?_⟩
              · simp only [List.length_append, List.length_take, List.length_drop, List.length_cons, List.length_nil]
                omega
              · simp only [List.length_append, List.length_take, List.length_drop, List.length_cons, List.length_nil]
                omega
              · rw [List.mem_append, List.mem_append, List.mem_singleton] at hd
                rcases hd with (hd | rfl) | hd
                · exact zl d (List.mem_of_mem_take hd)
                · exact hg
                · exact zl d (List.mem_of_mem_drop hd)
            · refine el_lcR1 (n := (m : Int)) (fun _ => true) (fun i => V.str (takeS st pn ++ (⟨#[gl ((first + step * (i : Int)) % 26)]⟩ : Str) ++ dropS st pn)) (ea_cons (ev_var rfl) ea_nil) ⟨by omega, by omega⟩ (fun _ => rfl) (fun i H7 _ _ => et_yes) fun i H13 e13 hi _ => ?_
              have hi7 : (i : Int).natAbs < 2 ^ 7 := by omega
              have t1 : (takeS st pn).length ≤ 5 := by
                rw [cs_len, cs_take, List.length_take, ← cs_len]
                omega
              have t2 : (dropS st pn).length ≤ 5 := by
                rw [cs_len, cs_drop, List.length_drop, ← cs_len]
                omega
              refine ev_cat (ev_cat (ev_take (ev_var rfl) (ev_var rfl) (by omega)) (ev_op (ev_var rfl) (ev_mod (ev_add (ev_var rfl) (ev_mulW (ev_var rfl) (ev_var rfl) sb.1 hi7)) ev_c (by decide)) (rv_ixS (by decide +kernel) (gl_at (Int.emod_nonneg _ (by decide)) (Int.emod_lt_of_pos _ (by decide))).1)) (by omega) (by show 1 ≤ 10000; decide)) (ev_drop (ev_var rfl) (ev_var rfl) (by omega)) ?_ (by omega)
              rw [Str.length_append]
              show _ + 1 ≤ _
              omega
end
end K04

namespace K04
open PySem PySem.Spec PyProof.Rows L2 Evl
def sp_spoilt : Sp := fun vs H Q _ => ∃ (p : Addr) (z : Str), vs = [.ref p, .str z] ∧ z.length ≤ 100 ∧ Pool H p ∧ ∀ (y : Str) H2, y.length ≤ z.length + 1 → But p H H2 → Pool H2 p → Q (.str y) H2
theorem at_strs {L : List Str} {j : Int} (h0 : 0 ≤ j) (h1 : j < L.length) : ∃ v ∈ L, atI (L.map V.str) j = some (.str v) := by
  obtain ⟨n, rfl⟩ := Int.eq_ofNat_of_zero_le h0
  have hn : n < L.length := by omega
  exact ⟨L[n], List.getElem_mem hn, atI_nat (by rw [List.getElem?_map, List.getElem?_eq_getElem hn]; rfl)⟩
def signs : Str := " !\"#$&'()*+,-./0123456789:;<=>?@ABCDEFGHIJKLMNOPQRSTUVWXYZ[\\]^_`abcdefghijklmnopqrstuvwxyz{|}~\n"
theorem signs_len : ∀ z ∈ [signs, ("<><>az? AZ" : Str)], 0 < (cs z).length ∧ (cs z).length ≤ 200 := by decide +kernel
section
variable {P : Program} {w : World} {K : PySem.W.Frag} {mg : Str → Option Value} {base : Heap} {f : Addr} {fd : FuncData}
theorem ok_spoilt (F : FnP K "_law_spoilt" s_l_spoilt f fd) (T : Txt K mg) (D_l_take : L_take P w K mg base) : FnOk P w K mg base CX0 2 f fd ["_law_pool", "_law_text"] sp_spoilt := by
  refine F.ok sc_l_spoilt (fun vs H Q E h => ?_) (fun cdv A outer s H vs Q E hr h => ?_)
  · obtain ⟨p, z, rfl, _⟩ := h
    rfl
  · obtain ⟨p, z, rfl, hz, hp, k⟩ := h
    refine ⟨_, PSs.nox (pss_cons (ps_set (i := 2) sc_l_spoilt.nd rfl (Or.inl rfl) pe_str)
      (pss_cons (ps_par (i := 3) (j := 4) (by rfl) sc_l_spoilt.nd rfl rfl (by decide) rfl rfl (pa_cons (pe_cd D_l_take (hr.mono (by decide)) (by rfl) (pa_cons (pv 0) (pa_cons pe_int pa_nil))) (pa_cons (pe_cd D_l_take (hr.mono (by decide)) (by rfl) (pa_cons (pv 0) (pa_cons (pe_op op_add (pe_callB call_len_str (by rfl) T.b_len (by decide +kernel) (pa_cons (pv 1) pa_nil)) pe_int) pa_nil))) pa_nil)) (by rfl))
      (pss_cons (ps_set (i := 5) sc_l_spoilt.nd rfl (Or.inl rfl) (pe_ix ix_list (pe_lst (pa_cons (pv 2) (pa_cons pe_str pa_nil))) (pe_cd D_l_take (hr.mono (by decide)) (by rfl) (pa_cons (pv 0) (pa_cons pe_int pa_nil))) (fun _ _ => rfl)))
      (pss_cons (ps_set (i := 6) sc_l_spoilt.nd rfl (Or.inl rfl) (pe_ix ix_str (pv 5) (pe_cd D_l_take (hr.mono (by decide)) (by rfl) (pa_cons (pv 0) (pa_cons (pe_callB call_len_str (by rfl) T.b_len (by decide +kernel) (pa_cons (pv 5) pa_nil)) pa_nil))) (fun _ _ => rfl)))
      (pss_cons (ps_if (pt_cmpR op_lt (pv 3) pe_int (nomark _)) (pss_one (ps_ret (pe_op op_add_str (pe_op op_add_str (pe_slice sl_str (pv 1) po_none (po_some (pv 4))) (pv 6)) (pe_slice sl_str (pv 1) (po_some (pv 4)) po_none)))) pss_nil)
      (pss_cons (ps_if (pt_cmpR op_lt (pv 3) pe_int (nomark _)) (pss_one (ps_ret (pe_op op_add_str (pe_op op_add_str (pe_slice sl_str (pv 1) po_none (po_some (pv 4))) (pv 6)) (pe_slice sl_str (pv 1) (po_some (pe_op op_add (pv 4) pe_int)) po_none)))) pss_nil)
      (pss_one (ps_ret (pe_op op_add_str (pe_slice sl_str (pv 1) po_none (po_some (pv 4))) (pe_slice sl_str (pv 1) (po_some (pe_op op_add (pv 4) pe_int)) po_none)))))))))), ?_⟩
    refine q_asg (v := .str signs) ev_c fun H1 e1 => ?_
    have p1 := pool_ex hp e1
    refine q_par (x_cons (take_go rfl ev_c p1 (by decide) (by decide) fun way H2 w0 w1 b2 p2 => x_cons (take_go rfl (ev_add (ev_cb (ea_cons (ev_var rfl) ea_nil) (rc_lenS (by omega))) ev_c) p2 (by omega) (by rw [← cs_len]; omega) fun at_ H3 a0 a1 b3 p3 => x_nil ⟨_, _, rfl, ?_⟩)))
    have B3 := ((But.ex e1).trans b2).trans b3
    refine q_set (x_op (Evl.EvL.go (xs := [signs, "<><>az? AZ"].map V.str) (el_lst (ea_cons (ev_var rfl) (ea_cons ev_c ea_nil)) (by show 2 ≤ 100000; decide)) fun r4 H4 hr4 e4 h4 => take_go rfl ev_c (pool_ex p3 e4) (by decide) (by decide) fun d H5 d0 d1 b5 p5 => ?_))
    have nr4 : r4 ≠ p := pool_ne p3 hr4
    obtain ⟨sm, hsm, hat⟩ := at_strs (L := [signs, "<><>az? AZ"]) d0 d1
    have sl := signs_len sm hsm
    refine ⟨r4, _, _, _, rfl, rfl, sq_of (b5 _ _ nr4 h4), hat, ?_⟩
    have B5 := (B3.trans (But.ex e4)).trans b5
    refine q_set (x_op (x_var rfl (take_go rfl (ev_cb (ea_cons (ev_var rfl) ea_nil) (rc_lenS (by rw [cs_len]; omega))) p5 (by omega) (by omega) fun d6 H6 d60 d61 b6 p6 => ?_)))
    obtain ⟨c, _, hc⟩ := at_some (L := cs sm) d60 d61
    refine ⟨sm, d6, c, rfl, rfl, sz_of (by rw [cs_len]; omega), hc, ?_⟩
    have B6 := B5.trans b6
    obtain ⟨n, rfl⟩ := Int.eq_ofNat_of_zero_le a0
    rw [← cs_len] at a1
    have t1 : (takeS z n).length ≤ n := by
      rw [cs_len, cs_take, List.length_take]
      omega
    have t2 : ∀ j, (dropS z j).length = z.length - j := fun j => by rw [cs_len, cs_drop, List.length_drop, ← cs_len]
    have e11 : (n : Int) + 1 = ((n + 1 : Nat) : Int) := rfl
    have dr : ∀ {σ0 : L2.St} {H0 : Hp}, σ0[1]? = some (some (.str z)) → σ0[4]? = some (some (.int (n : Int))) → Ev (tSl rSlS (tVar 1) (tPart (tOp (rI0 fun i j => .int (i + j)) (tVar 4) (tC (.int 1)))) tNoPart) σ0 H0 (.str (dropS z (n + 1))) := fun h1 h4 => ev_drop (ev_var h1) (ev_add (ev_var h4) ev_c) (by omega)
    have h2 := t2 n
    have h3 := t2 (n + 1)
    refine q_when (et_test (ev_lt (ev_var rfl) ev_c)) (fun hb H7 e7 => ?_) fun hb H7 e7 => ?_
    · refine s_ret (ev_cat (ev_cat (ev_take (ev_var rfl) (ev_var rfl) (by omega)) (ev_var rfl) (by omega) (by show 1 ≤ 10000; decide)) (ev_drop (ev_var rfl) (ev_var rfl) (by omega)) ?_ (by omega)) fun H8 e8 => k _ H8 ?_ ((B6.trans (But.ex e7)).trans (But.ex e8)) (pool_ex p6 (e7.trans e8))
      · rw [Str.length_append]
        show _ + 1 ≤ _
        omega
      · rw [Str.length_append, Str.length_append]
        show _ + 1 + _ ≤ _
        omega
    · refine q_when (et_test (ev_lt (ev_var rfl) ev_c)) (fun hb H8 e8 => ?_) fun hb H8 e8 => ?_
      · refine s_ret (ev_cat (ev_cat (ev_take (ev_var rfl) (ev_var rfl) (by omega)) (ev_var rfl) (by omega) (by show 1 ≤ 10000; decide)) (dr rfl rfl) ?_ (by omega)) fun H9 e9 => k _ H9 ?_ (((B6.trans (But.ex e7)).trans (But.ex e8)).trans (But.ex e9)) (pool_ex p6 ((e7.trans e8).trans e9))
        · rw [Str.length_append]
          show _ + 1 ≤ _
          omega
        · rw [Str.length_append, Str.length_append]
          show _ + 1 + _ ≤ _
          omega
      · refine s_ret (ev_cat (ev_take (ev_var rfl) (ev_var rfl) (by omega)) (dr rfl rfl) (by omega) (by omega)) fun H9 e9 => k _ H9 ?_ (((B6.trans (But.ex e7)).trans (But.ex e8)).trans (But.ex e9)) (pool_ex p6 ((e7.trans e8).trans e9))
        rw [Str.length_append]
        omega
end
end K04

namespace K04
open PySem PySem.Spec PyProof.Rows L2 Evl
/-! a name of a word and marks -/
theorem run_app {p : Nat → Bool} : ∀ {m : Nat} {a b : List Nat}, (∀ c ∈ a, p c = true) → a.length ≤ m → Nm.run p m (a ++ b) = a.length + Nm.run p (m - a.length) b
  | m, [], b, _, _ => by simp
  | m, c :: r, b, h, hm => by
    cases m with
    | zero => simp at hm
    | succ m =>
      show (if p c then Nm.run p m (r ++ b) + 1 else 0) = _
      rw [h c List.mem_cons_self, if_pos rfl, run_app (fun d hd => h d (List.mem_cons_of_mem _ hd)) (by simp at hm; omega), List.length_cons, show m + 1 - (r.length + 1) = m - r.length by omega]
      omega
theorem res_name {ws ms : List Nat} (h1 : 1 ≤ ws.length) (h6 : ws.length ≤ 6) (hL : ∀ c ∈ ws, isL c = true) (h5 : ms.length ≤ 5) (hM : ∀ c ∈ ms, isM c = true) : Nm.res isL isM (ws ++ ms) = .inr ws.length := by
  have r1 : Nm.run isL 6 (ws ++ ms) = ws.length := by
    rw [run_app hL h6]
    have z : Nm.run isL (6 - ws.length) ms = 0 := by
      cases ms with
      | nil => exact Nm.run_nil _ _
      | cons c r => exact Nm.run_stop rfl (isM_no c (hM c List.mem_cons_self))
    omega
  have r2 : Nm.run isM 5 ms = ms.length := by
    have := run_app (b := []) hM h5
    rw [List.append_nil, Nm.run_nil] at this
    omega
  unfold Nm.res
  rw [r1, if_neg (by omega), List.drop_left, r2, List.length_append, if_neg (by omega)]
/-! told as due -/
def tellD (x : V) : Nat ⊕ Nat → PyData
  | .inl i => .tuple [.str "no", .int (i : Int)]
  | .inr n => match x with
    | .str z => .tuple [.str "told", .str (takeS z n), .str (dropS z n)]
    | _ => .tuple []
section
variable {K : PySem.W.Frag} {σ : L2.St} {H H' : Hp} {ta tb te tx : TE} {tA : TA} {Q : VK} {p : Addr} {i : Nat} {x : V} {r : Nat ⊕ Nat}
theorem tell_dp (h : H p = some (.tup (tellV x r))) : Dp K H (.ref p) (tellD x r) := by
  have h1 := st_of (K := K) h
  cases r with
  | inl i => exact .tup h1 (.cons (.str _) (.cons (.int _) .nil))
  | inr n =>
    cases x
    case str z => exact .tup h1 (.cons (.str _) (.cons (.str _) (.cons (.str _) .nil)))
    all_goals exact .tup h1 .nil
theorem lets_ok : ∀ c ∈ cs "abcdefghijklmnopqrstuvwxyz", c < 1114112 := by decide +kernel
theorem marks_ok : ∀ c ∈ cs "><", c < 1114112 := by decide +kernel
theorem take_run {p : Nat → Bool} : ∀ (m : Nat) (L : List Nat), ∀ c ∈ L.take (Nm.run p m L), p c = true
  | 0, L, c, h => by
    have : Nm.run p 0 L = 0 := rfl
    rw [this] at h
    simp at h
  | m + 1, [], c, h => by simp at h
  | m + 1, d :: r, c, h => by
    have e : Nm.run p (m + 1) (d :: r) = if p d then Nm.run p m r + 1 else 0 := rfl
    rw [e] at h
    by_cases hd : p d = true
    · rw [if_pos hd, List.take_succ_cons] at h
      rcases List.mem_cons.mp h with rfl | h
      · exact hd
      · exact take_run m r c h
    · rw [if_neg hd] at h
      simp at h
theorem res_chars {z : Str} {n : Nat} (h : Nm.res isL isM (cs z) = .inr n) : ∀ c ∈ cs z, c < 1114112 := by
  have hl : ∀ c, isL c = true → c < 1114112 := fun c hc => lets_ok c (of_decide_eq_true hc)
  have hm : ∀ c, isM c = true → c < 1114112 := fun c hc => marks_ok c (of_decide_eq_true hc)
  unfold Nm.res at h
  split at h
  · cases h
  · split at h
    · cases h
    · rename_i h1 h2
      intro c hc
      rw [← List.take_append_drop (Nm.run isL 6 (cs z)) (cs z)] at hc
      rcases List.mem_append.mp hc with hc | hc
      · exact hl c (take_run _ _ c hc)
      · refine hm c (take_run 5 ((cs z).drop (Nm.run isL 6 (cs z))) c ?_)
        rw [List.take_of_length_le (by rw [List.length_drop]; omega)]
        exact hc
theorem ok_list {L : List Nat} (h : ∀ c ∈ L, c < 1114112) : PyData.strOk ⟨L.toArray⟩ = true := by
  unfold PyData.strOk
  rw [Array.all_eq_true']
  intro c hc
  exact decide_eq_true (h c (by simpa using hc))
theorem tell_canlay (h : Th K H x r) : (tellD x r).canLay0 = true ∧ (tellD x r).depth ≤ 64 := by
  have n0 : PyData.strOk "no" = true := by decide +kernel
  have t0 : PyData.strOk "told" = true := by decide +kernel
  cases h with
  | thing x t hx hk =>
    show PyData.canLay0 (.tuple [.str "no", .int ((0 : Nat) : Int)]) = true ∧ PyData.depth (.tuple [.str "no", .int ((0 : Nat) : Int)]) ≤ 64
    exact ⟨by simp [PyData.canLay0, PyData.canLayAll0, n0], by simp [PyData.depth, PyData.depthAll]⟩
  | text z hz =>
    cases e : Nm.res isL isM (cs z) with
    | inl i =>
      show PyData.canLay0 (.tuple [.str "no", .int (i : Int)]) = true ∧ PyData.depth (.tuple [.str "no", .int (i : Int)]) ≤ 64
      exact ⟨by simp [PyData.canLay0, PyData.canLayAll0, n0], by simp [PyData.depth, PyData.depthAll]⟩
    | inr n =>
      have hc := res_chars e
      have o1 : PyData.strOk (takeS z n) = true := ok_list fun c m => hc c (List.mem_of_mem_take m)
      have o2 : PyData.strOk (dropS z n) = true := ok_list fun c m => hc c (List.mem_of_mem_drop m)
      show PyData.canLay0 (.tuple [.str "told", .str (takeS z n), .str (dropS z n)]) = true ∧ PyData.depth (.tuple [.str "told", .str (takeS z n), .str (dropS z n)]) ≤ 64
      exact ⟨by simp [PyData.canLay0, PyData.canLayAll0, t0, o1, o2], by simp [PyData.depth, PyData.depthAll]⟩
theorem tell_shaped (h : Th K H x r) : SeqAt.shaped (tellD x r) = true := by
  obtain ⟨h1, h2⟩ := tell_canlay h
  unfold SeqAt.shaped
  rw [h1, decide_eq_true h2]
  rfl
theorem tell_refl (h : Th K H x r) : PyData.eqv (tellD x r) (tellD x r) = true := SeqAt.eqv_refl _ (tell_canlay h).1
theorem ev_tells (hx : Ev tx σ H x) (ht : Th K H x r) : Ev (tOp (rEqD K) (tCall (sp_tell K) [] E0 (tCons tx tNil)) (tCall (sp_tell K) [] E0 (tCons tx tNil))) σ H (.bl true) := fun H1 e Q q =>
  hx H1 e _ fun H2 e2 => ⟨x, r, rfl, ht.ex (e.trans e2), fun a H3 _ e3 h3 => hx H3 ((e.trans e2).trans e3) _ fun H4 e4 => ⟨x, r, rfl, ht.ex (((e.trans e2).trans e3).trans e4), fun b H5 _ e5 h5 =>
    ⟨tellD x r, tellD x r, tell_dp ((e4.trans e5) _ _ h3), tell_dp h5, tell_shaped ht, tell_shaped ht, by rw [tell_refl ht]; exact q H5 (((e2.trans e3).trans e4).trans e5)⟩⟩⟩
theorem ev_tellN (hx : Ev tx σ H x) (ht : Th K H x r) : Ev (tOp (rNeD K) (tCall (sp_tell K) [] E0 (tCons tx tNil)) (tCall (sp_tell K) [] E0 (tCons tx tNil))) σ H (.bl false) := fun H1 e Q q =>
  hx H1 e _ fun H2 e2 => ⟨x, r, rfl, ht.ex (e.trans e2), fun a H3 _ e3 h3 => hx H3 ((e.trans e2).trans e3) _ fun H4 e4 => ⟨x, r, rfl, ht.ex (((e.trans e2).trans e3).trans e4), fun b H5 _ e5 h5 =>
    ⟨tellD x r, tellD x r, tell_dp ((e4.trans e5) _ _ h3), tell_dp h5, tell_shaped ht, tell_shaped ht, by rw [tell_refl ht]; exact q H5 (((e2.trans e3).trans e4).trans e5)⟩⟩⟩
/-- due(x)[0] of a name -/
theorem ev_first {z : Str} {n : Nat} (hx : Ev tx σ H (.str z)) (ht : Th K H (.str z) (.inr n)) : Ev (tOp (rIxT K) (tCall (sp_tell K) [] E0 (tCons tx tNil)) (tC (.int 0))) σ H (.str "told") := fun H1 e Q q =>
  hx H1 e _ fun H2 e2 => ⟨.str z, .inr n, rfl, ht.ex (e.trans e2), fun a H3 _ e3 h3 => ⟨a, _, _, _, rfl, rfl, st_of h3, rfl, q H3 (e2.trans e3)⟩⟩
/-! what comes of an expression is a thing -/
def Tg (K : PySem.W.Frag) (H : Hp) (v : V) : Prop := ∃ r, Th K H v r
theorem Tg.ex {v : V} (h : Tg K H v) (e : Ex H H') : Tg K H' v := by
  obtain ⟨r, h⟩ := h
  exact ⟨r, h.ex e⟩
def EvG (K : PySem.W.Frag) (te : TE) (σ : L2.St) (H : Hp) : Prop := ∀ H1, Ex H H1 → ∀ Q : VK, (∀ v H2, Ex H1 H2 → Tg K H2 v → Q v H2) → te σ H1 Q
def EvGA (K : PySem.W.Frag) (tA : TA) (σ : L2.St) (H : Hp) (n : Nat) : Prop := ∀ H1, Ex H H1 → ∀ Q : List V → Hp → Prop, (∀ vs H2, Ex H1 H2 → vs.length = n → (∀ v ∈ vs, Tg K H2 v) → Q vs H2) → tA σ H1 Q
theorem eg_nil : EvGA K tNil σ H 0 := fun H1 _ Q q => q [] H1 (Ex.refl _) rfl fun v hv => nomatch hv
theorem eg_cons {n : Nat} (h : EvG K te σ H) (h2 : EvGA K tA σ H n) : EvGA K (tCons te tA) σ H (n + 1) := fun H1 e Q q =>
  h H1 e _ fun v H2 e2 hv => h2 H2 (e.trans e2) _ fun vs H3 e3 hl hs => q (v :: vs) H3 (e2.trans e3) (by rw [List.length_cons, hl]) fun u hu => by
    rcases List.mem_cons.mp hu with rfl | hu
    · exact hv.ex e3
    · exact hs u hu
theorem eg_of {v : V} (h : ∀ H1, Ex H H1 → Tg K H1 v) (he : Ev te σ H v) : EvG K te σ H := fun H1 e Q q => he H1 e _ fun H2 e2 => q v H2 e2 (h H2 (e.trans e2))
theorem tg_str {z : Str} (h : z.length ≤ 1000) : Tg K H (.str z) := ⟨_, .text z h⟩
theorem tg_ty {v : V} {a : String} (hx : ∀ H1, Ex H H1 → TyX K H1 v (.type a)) (h : kitB a "str" = some false) : Tg K H v := ⟨_, .thing v (.type a) hx (kit_ty h)⟩
theorem eg_str {z : Str} (h : z.length ≤ 1000) : EvG K (tC (.str z)) σ H := eg_of (fun _ _ => tg_str h) ev_c
theorem eg_non : EvG K (tC .non) σ H := eg_of (fun _ _ => tg_ty (fun _ _ => .base .non) (by decide +kernel)) ev_c
theorem eg_bl {b : Bool} : EvG K (tC (.bl b)) σ H := eg_of (fun _ _ => tg_ty (fun _ _ => .base (.bl b)) (by decide +kernel)) ev_c
theorem eg_int {i : Int} : EvG K (tC (.int i)) σ H := eg_of (fun _ _ => tg_ty (fun _ _ => .base (.int i)) (by decide +kernel)) ev_c
theorem tg_tup {xs : List V} (h : H p = some (.tup xs)) : Tg K H (.ref p) := tg_ty (fun _ e => .base (.tup (e _ _ h))) (by decide +kernel)
theorem tg_lst {xs : List V} (h : H p = some (.lst xs)) : Tg K H (.ref p) := tg_ty (fun _ e => .base (.lst (e _ _ h))) (by decide +kernel)
theorem eg_tup {n : Nat} (h : EvGA K tA σ H n) (hn : n ≤ 100000) : EvG K (tTup tA) σ H := fun H1 e Q q => h H1 e _ fun vs H2 e2 hl _ => ⟨sz_of (by omega), fun p hp => q _ _ (e2.trans (Ex.new hp)) (tg_tup upd_same)⟩
theorem eg_lst {n : Nat} (h : EvGA K tA σ H n) (hn : n ≤ 100000) : EvG K (tLst tA) σ H := fun H1 e Q q => h H1 e _ fun vs H2 e2 hl _ => ⟨sz_of (by omega), fun p hp => q _ _ (e2.trans (Ex.new hp)) (tg_lst upd_same)⟩
theorem eg_dict : EvG K tDNewK σ H := fun H1 e Q q p hp => q _ _ (Ex.new hp) (tg_ty (fun _ e => .base (.dK (e _ _ upd_same))) (by decide +kernel))
/-- a new list of things -/
def NewG (K : PySem.W.Frag) (te : TE) (σ : L2.St) (H : Hp) (n : Nat) : Prop := ∀ H1, Ex H H1 → ∀ Q : VK, (∀ p vs H2, H1 p = none → Ex H1 H2 → H2 p = some (.lst vs) → vs.length = n → (∀ v ∈ vs, Tg K H2 v) → Q (.ref p) H2) → te σ H1 Q
theorem ng_lst {n : Nat} (h : EvGA K tA σ H n) (hn : n ≤ 100000) : NewG K (tLst tA) σ H n := fun H1 e Q q => h H1 e _ fun vs H2 e2 hl hv => ⟨sz_of (by omega), fun p hp => q p vs _ (fresh_back e2 hp) (e2.trans (Ex.new hp)) upd_same hl fun v m => (hv v m).ex (Ex.new hp)⟩
theorem ng_cat {n m : Nat} {a : Addr} {xs : List V} (ha : Ev ta σ H (.ref a)) (hx : H a = some (.lst xs)) (hl : xs.length = n) (hT : ∀ v ∈ xs, Tg K H v) (h : NewG K tb σ H m) (hn : n + m ≤ 100000) : NewG K (tOp rCat ta tb) σ H (n + m) := fun H1 e Q q =>
  ha H1 e _ fun H2 e2 => h H2 (e.trans e2) _ fun b ys H3 hb e3 h3 yl yT => ⟨a, b, xs, ys, rfl, rfl, ((e.trans e2).trans e3) _ _ hx, h3, sz_of (by omega), fun p hp => q p _ _ (fresh_back (e2.trans e3) hp) ((e2.trans e3).trans (Ex.new hp)) upd_same (by rw [List.length_append]; omega) fun v m => by
    rcases List.mem_append.mp m with m | m
    · exact (hT v m).ex (((e.trans e2).trans e3).trans (Ex.new hp))
    · exact (yT v m).ex (Ex.new hp)⟩
theorem NewG.go {n : Nat} (h : NewG K te σ H n) (k : ∀ p vs H2, H p = none → Ex H H2 → H2 p = some (.lst vs) → vs.length = n → (∀ v ∈ vs, Tg K H2 v) → Q (.ref p) H2) : te σ H Q := h H (Ex.refl _) _ k
/-- [told(x) == due(x) for x in things] -/
theorem el_tells {n j : Nat} {vs : List Nat} {tl : TE} (h : NewG K tl σ H n) (hn : n ≤ 1000) (hw : ∀ x, wipe ((wipe σ vs).set j (some x)) vs = wipe σ vs) (hj : ∀ x, ((wipe σ vs).set j (some x))[j]? = some (some x)) :
    EvL (tLc (iList K tl) (gName j) tYes (tOp (rEqD K) (tCall (sp_tell K) [] E0 (tCons (tVar j) tNil)) (tCall (sp_tell K) [] E0 (tCons (tVar j) tNil))) vs) σ H ((List.replicate n true).map V.bl) := fun H0 e Q q =>
  h H0 e _ fun a xs H1 ha e1 hx xl hT => by
    have L : EvL (tLc (iList K (tC (.ref a))) (gName j) tYes (tOp (rEqD K) (tCall (sp_tell K) [] E0 (tCons (tVar j) tNil)) (tCall (sp_tell K) [] E0 (tCons (tVar j) tNil))) vs) σ H1 (given xs.length (fun _ => true) fun _ => .bl true) :=
      el_lcL (fun _ => true) (fun _ => .bl true) ev_c (sq_of hx) (by omega) hw (fun _ _ _ _ _ => et_yes) fun i x H2 e2 hi _ => by
        obtain ⟨r, ht⟩ := hT x (List.mem_of_getElem? hi)
        exact ev_tells (ev_var (hj x)) (ht.ex e2)
    have eq : given xs.length (fun _ => true) (fun _ => V.bl true) = (List.replicate n true).map V.bl := by
      unfold given
      rw [List.filter_eq_self.mpr (fun _ _ => rfl), List.map_const', List.length_range, List.map_replicate, xl]
    rw [eq] at L
    exact L H1 (Ex.refl _) Q fun p H2 hp e2 h2 => q p H2 (fresh_back e1 hp) (e1.trans e2) h2
end
end K04

namespace K04
open PySem PySem.Spec PyProof.Rows L2 Evl
section
variable {P : Program} {w : World} {K : PySem.W.Frag} {mg : Str → Option Value} {base : Heap} {f : Addr} {fd : FuncData}
def sp_law (K : PySem.W.Frag) : Sp := fun vs H Q _ => ∃ (a : Addr) (ns : List Int), vs = [.ref a] ∧ SqL K H a (ns.map V.int) ∧ ns.length ≤ 63 ∧ (∀ z ∈ ns, Builtin.Int.intBits z ≤ 1048576) ∧ ∀ H', Q (.bl true) H'
theorem ones_of {R : Nat → Prop} : ∀ {ys : List V}, (∀ y ∈ ys, ∃ c, y = .str ⟨#[c]⟩ ∧ R c) → ∃ zs : List Nat, ys = (zs.map fun c => (⟨#[c]⟩ : Str)).map V.str ∧ ∀ c ∈ zs, R c
  | [], _ => ⟨[], rfl, fun c hc => nomatch hc⟩
  | y :: r, h => by
    obtain ⟨zs, rfl, hz⟩ := ones_of fun y hy => h y (List.mem_cons_of_mem _ hy)
    obtain ⟨c, rfl, hc⟩ := h y List.mem_cons_self
    refine ⟨c :: zs, rfl, fun d hd => ?_⟩
    rcases List.mem_cons.mp hd with rfl | hd
    · exact hc
    · exact hz d hd
theorem s15 {z : String} (h : decide ((Str.ofString z).length ≤ 1000) = true) : (Str.ofString z).length ≤ 1000 := of_decide_eq_true h
theorem ok_law (F : FnP K "law" s_law f fd) (T : Txt K mg) (D_l_take : L_take P w K mg base) (D_l_pack : Dn P w K mg base 1 "_law_pack" ["_law_script", "_law_k"] (sp_pack K)) (D_l_words : Dn P w K mg base 2 "_law_words" ["_law_pool", "_law_many"] sp_words)
    (D_l_due : Dn P w K mg base 1 "_law_due" ["_law_thing"] (sp_tell K)) (D_l_told : Dn P w K mg base 5 "_law_told" ["_law_thing"] (sp_tell K)) (D_l_spoilt : Dn P w K mg base 2 "_law_spoilt" ["_law_pool", "_law_text"] sp_spoilt) :
    FnOk P w K mg base CX0 6 f fd ["_law_script"] (sp_law K) := by
  refine F.ok sc_law (fun vs H Q E h => ?_) (fun cdv A outer s H vs Q E hr h => ?_)
  · obtain ⟨a, ns, rfl, _⟩ := h
    rfl
  · obtain ⟨l, ns, rfl, hs, hlen, hbits, k⟩ := h
    refine ⟨_, PSs.nox (pss_cons (ps_set (i := 1) sc_law.nd rfl (Or.inl rfl) (pe_lst (pa_cons pe_non (pa_cons pe_bl (pa_cons pe_bl (pa_cons pe_int (pa_cons pe_int (pa_cons pe_str (pa_cons (pe_tup pa_nil) (pa_cons (pe_tup (pa_cons pe_str pa_nil)) (pa_cons (pe_lst (pa_cons pe_str pa_nil)) (pa_cons (pe_lst pa_nil) (pa_cons pe_dnewK (pa_cons pe_str (pa_cons pe_str (pa_cons pe_str (pa_cons pe_str (pa_cons pe_str (pa_cons pe_str pa_nil)))))))))))))))))))
      (pss_cons (ps_set (i := 1) sc_law.nd rfl (Or.inl rfl) (pe_op op_cat (pv 1) (pe_lst (pa_cons pe_str (pa_cons pe_str (pa_cons pe_str (pa_cons pe_str (pa_cons pe_str (pa_cons pe_str (pa_cons pe_str (pa_cons pe_str (pa_cons pe_str (pa_cons pe_str (pa_cons (pe_tup (pa_cons (pe_lst pa_nil) pa_nil)) pa_nil))))))))))))))
      (pss_cons (ps_set (i := 2) sc_law.nd rfl (Or.inl rfl) pe_str)
      (pss_cons (ps_for PassesOwn.never rfl (pi_range1 (by rfl) T.b_range (pa_cons pe_int pa_nil)) (pg_name (i := 3) sc_law.nd rfl (Or.inl rfl)) (pss_one (ps_set (i := 2) sc_law.nd rfl (Or.inl rfl) (pe_tup (pa_cons (pv 2) (pa_cons (pv 3) pa_nil))))))
      (pss_cons (ps_if (pt_not (pt_val (pe_callB (cr_all rfl) (by rfl) T.b_all (by decide +kernel) (pa_cons (pe_lc (own := [("_law_thing", 4)]) (g := (gName 4)) (tt := tYes) rfl sc_law.nd (pi_list (pe_op op_cat (pv 1) (pe_lst (pa_cons (pv 2) pa_nil)))) (blkOk_by (own := [("_law_thing", 4)]) (N := ["_law_script", "_law_things", "_law_deep", "_law_turn", "_law_thing", "_law_k", "_law_pool", "_law_name", "_law_mark", "_law_text"]) (sc := defScope s_law) (by decide +kernel)) (fun _ _ _ _ _ => (pg_name (i := 4) sc_law.nd rfl (Or.inl rfl))) (fun _ _ _ _ _ => pts_nil) (fun _ _ _ _ _ => (pe_cmpR (r := rEqD K) (op_eqD hr.units) (pe_cd D_l_told (hr.mono (by decide)) (by rfl) (pa_cons (pv 4) pa_nil)) (pe_cd D_l_due (hr.mono (by decide)) (by rfl) (pa_cons (pv 4) pa_nil)) (nomark _)))) pa_nil)))) (pss_one (ps_ret pe_bl)) pss_nil)
      (pss_cons (ps_for PassesOwn.never rfl (pi_range1 (by rfl) T.b_range (pa_cons (pe_callB (call_max2 rfl) (by rfl) T.b_max (by decide +kernel) (pa_cons pe_int (pa_cons (pe_callB (call_min2 rfl) (by rfl) T.b_min (by decide +kernel) (pa_cons (pe_callB call_len_seq (by rfl) T.b_len (by decide +kernel) (pa_cons (pv 0) pa_nil)) (pa_cons pe_int pa_nil))) pa_nil))) pa_nil)) (pg_name (i := 5) sc_law.nd rfl (Or.inl rfl)) (pss_cons (ps_set (i := 6) sc_law.nd rfl (Or.inr rfl) (pe_cd D_l_pack (hr.mono (by decide)) (by rfl) (pa_cons (pv 0) (pa_cons (pv 5) pa_nil))))
        (pss_cons (ps_set (i := 7) sc_law.nd rfl (Or.inl rfl) (pe_ix ix_tup (pe_cd D_l_words (hr.mono (by decide)) (by rfl) (pa_cons (pv 6) (pa_cons pe_int pa_nil))) (pe_cd D_l_take (hr.mono (by decide)) (by rfl) (pa_cons (pv 6) (pa_cons pe_int pa_nil))) (fun _ _ => rfl)))
        (pss_cons (ps_set (i := 7) sc_law.nd rfl (Or.inl rfl) (pe_op op_add_str (pv 7) (pe_join pe_str (pe_lc (own := [("_law_mark", 8)]) (g := (gName 8)) (tt := tYes) rfl sc_law.nd (pi_range1 (by rfl) T.b_range (pa_cons (pe_cd D_l_take (hr.mono (by decide)) (by rfl) (pa_cons (pv 6) (pa_cons pe_int pa_nil))) pa_nil)) (blkOk_by (own := [("_law_mark", 8)]) (N := ["_law_script", "_law_things", "_law_deep", "_law_turn", "_law_thing", "_law_k", "_law_pool", "_law_name", "_law_mark", "_law_text"]) (sc := defScope s_law) (by decide +kernel)) (fun _ _ _ _ _ => (pg_name (i := 8) sc_law.nd rfl (Or.inl rfl))) (fun _ _ _ _ _ => pts_nil) (fun _ _ _ _ _ => (pe_ix (r := rIxS) ix_str pe_str (pe_cd D_l_take (hr.mono (by decide)) (by rfl) (pa_cons (pv 6) (pa_cons pe_int pa_nil))) (fun _ _ => rfl)))))))
        (pss_cons (ps_if (PW.pt (pw_or (pt_cmpR (op_neD hr.units) (pe_cd D_l_told (hr.mono (by decide)) (by rfl) (pa_cons (pv 7) pa_nil)) (pe_cd D_l_due (hr.mono (by decide)) (by rfl) (pa_cons (pv 7) pa_nil)) (nomark _)) (pw_or1 (pt_cmpR op_ne (pe_ix ix_tup (pe_cd D_l_due (hr.mono (by decide)) (by rfl) (pa_cons (pv 7) pa_nil)) pe_int (fun _ _ => rfl)) pe_str (nomark _))))) (pss_one (ps_ret pe_bl)) pss_nil)
        (pss_one (ps_for PassesOwn.never rfl (pi_range1 (by rfl) T.b_range (pa_cons pe_int pa_nil)) (pg_name (i := 3) sc_law.nd rfl (Or.inl rfl)) (pss_cons (ps_set (i := 9) sc_law.nd rfl (Or.inl rfl) (pe_cd D_l_spoilt (hr.mono (by decide)) (by rfl) (pa_cons (pv 6) (pa_cons (pv 7) pa_nil))))
          (pss_cons (ps_if (pt_cmpR op_eq (pe_op op_mod (pv 3) pe_int) pe_int (nomark _)) (pss_one (ps_set (i := 9) sc_law.nd rfl (Or.inl rfl) (pe_cd D_l_spoilt (hr.mono (by decide)) (by rfl) (pa_cons (pv 6) (pa_cons (pv 9) pa_nil))))) pss_nil)
          (pss_one (ps_if (pt_cmpR (op_neD hr.units) (pe_cd D_l_told (hr.mono (by decide)) (by rfl) (pa_cons (pv 9) pa_nil)) (pe_cd D_l_due (hr.mono (by decide)) (by rfl) (pa_cons (pv 9) pa_nil)) (nomark _)) (pss_one (ps_ret pe_bl)) pss_nil)))))))))))
      (pss_one (ps_ret pe_bl)))))))), ?_⟩
    have st : ∀ {z : String} {σ0 : L2.St} {H0 : Hp}, decide ((Str.ofString z).length ≤ 1000) = true → EvG K (tC (.str (Str.ofString z))) σ0 H0 := fun h => eg_str (s15 h)
    -- things
    refine q_set (NewG.go (K := K) (ng_lst (eg_cons eg_non (eg_cons eg_bl (eg_cons eg_bl (eg_cons eg_int (eg_cons eg_int (eg_cons (st (by decide +kernel)) (eg_cons (eg_tup eg_nil (by decide)) (eg_cons (eg_tup (eg_cons (st (by decide +kernel)) eg_nil) (by decide)) (eg_cons (eg_lst (eg_cons (st (by decide +kernel)) eg_nil) (by decide))
      (eg_cons (eg_lst eg_nil (by decide)) (eg_cons eg_dict (eg_cons (st (by decide +kernel)) (eg_cons (st (by decide +kernel)) (eg_cons (st (by decide +kernel)) (eg_cons (st (by decide +kernel)) (eg_cons (st (by decide +kernel)) (eg_cons (st (by decide +kernel)) eg_nil))))))))))))))))) (by decide)) fun t1 vs1 H1 ht1 e1 h1 l1 T1 => ?_)
    refine q_set (NewG.go (K := K) (ng_cat (ev_var rfl) h1 l1 T1 (ng_lst (eg_cons (st (by decide +kernel)) (eg_cons (st (by decide +kernel)) (eg_cons (st (by decide +kernel)) (eg_cons (st (by decide +kernel)) (eg_cons (st (by decide +kernel)) (eg_cons (st (by decide +kernel)) (eg_cons (st (by decide +kernel)) (eg_cons (st (by decide +kernel)) (eg_cons (st (by decide +kernel)) (eg_cons (st (by decide +kernel)) (eg_cons (eg_tup (eg_cons (eg_lst eg_nil (by decide)) eg_nil) (by decide)) eg_nil))))))))))) (by decide)) (by decide)) fun t2 vs2 H2 ht2 e2 h2 l2 T2 => ?_)
    refine q_asg ev_c fun H3 e3 => ?_
    have e03 := (e1.trans e2).trans e3
    have h3 := e3 _ _ h2
    refine q_forR1 (n := 8) (ea_cons ev_c ea_nil) ⟨by decide, by decide⟩ (fun i σ' H' => Ex H3 H' ∧ ∃ (dv : V) (v3 : Option V), σ' = [some (.ref l), some (.ref t2), some dv, v3, none, none, none, none, none, none] ∧ Tg K H' dv) (fun H4 e4 => ⟨e4, _, _, rfl, tg_str (by decide +kernel)⟩) ?_ ?_
    · rintro i σ' H' hi ⟨e, dv, v3, rfl, hd⟩
      refine x_set (Evl.EvU.go (eu_tup (ea_cons (ev_var rfl) (ea_cons (ev_var rfl) ea_nil)) (by show 2 ≤ 100000; decide)) fun q H4 hq e4 h4 => ⟨e.trans e4, _, _, rfl, tg_tup h4⟩)
    · rintro σ' H4 ⟨e4, dv, v3, rfl, hd⟩
      have h4 := e4 _ _ h3
      have T4 : ∀ v ∈ vs2, Tg K H4 v := fun v hv => (T2 v hv).ex (e3.trans e4)
      refine q_when (b := false) (et_not (et_B (ev_all (bs := List.replicate (17 + 11 + 1) true) (el_tells (ng_cat (ev_var rfl) h4 l2 T4 (ng_lst (eg_cons (eg_of (fun _ e => hd.ex e) (ev_var rfl)) eg_nil) (by decide)) (by decide)) (by decide) (fun _ => rfl) (fun _ => rfl)) rfl))) (fun hb => nomatch hb) fun _ H5 e5 => ?_
      have e05 : Ex H H5 := (e03.trans e4).trans e5
      have hs5 := ex_l e05 hs
      have nlen : ((ns.map V.int).length : Int) ≤ 63 := by
        rw [List.length_map]
        omega
      obtain ⟨turns, tn, tb⟩ : ∃ turns : Int, Ev (tCB (fun xs H Q => ∃ i j, xs = [.int i, .int j] ∧ Q (.int (if j > i then j else i)) H) (tCons (tC (.int 4)) (tCons (tCB (fun xs H Q => ∃ i j, xs = [.int i, .int j] ∧ Q (.int (if j < i then j else i)) H) (tCons (tCB (fun xs H Q => ∃ p ys, xs = [.ref p] ∧ (SqL K H p ys ∨ SqT K H p ys) ∧ Q (.int (ys.length : Nat)) H) (tCons (tVar 0) tNil)) (tCons (tC (.int 20)) tNil))) tNil))) [some (.ref l), some (.ref t2), some dv, v3, none, none, none, none, none, none] H5 (.int turns) ∧ 0 ≤ turns ∧ turns ≤ 20 := by
        refine ⟨_, ev_cb (ea_cons ev_c (ea_cons (ev_cb (ea_cons (ev_cb (ea_cons (ev_var rfl) ea_nil) (fun H1 e Q' q => ⟨l, _, rfl, .inl (ex_l e hs5), q H1 (Ex.refl _)⟩)) (ea_cons ev_c ea_nil)) fun H1 _ Q' q => ⟨_, _, rfl, q H1 (Ex.refl _)⟩) ea_nil)) fun H1 _ Q' q => ⟨_, _, rfl, q H1 (Ex.refl _)⟩, ?_⟩
        generalize ((ns.map V.int).length : Int) = n at nlen
        split <;> split <;> omega
      refine q_forR1 (n := turns) (ea_cons tn ea_nil) ⟨tb.1, by omega⟩ (fun i σ' H' => Ex H H' ∧ ∃ v1 v2 v3 v4 v5 v6 v7 v8 v9, σ' = [some (.ref l), v1, v2, v3, v4, v5, v6, v7, v8, v9]) (fun H6 e6 => ⟨e05.trans e6, _, _, _, _, _, _, _, _, _, rfl⟩) ?_ ?_
      · rintro i σ' H' hi ⟨e, v1, v2, v3, v4, v5, v6, v7, v8, v9, rfl⟩
        refine q_set (x_call (x_cons (x_var rfl (x_cons (x_var rfl (x_nil ⟨l, ns, i, rfl, ex_l e hs, hbits, by omega, fun p H6 hp6 e6 pp => ?_⟩))))))
        have f6 : Ex H H6 := e.trans e6
        have np : H p = none := fresh_back e hp6
        refine q_set (x_op (x_call (x_cons (x_var rfl (x_cons (x_c (x_nil ⟨p, 3, rfl, by decide, pp, fun r ws H7 hr7 b7 p7 h7 wl wW => ?_⟩)))))))
        refine take_go rfl ev_c p7 (by decide) (by decide) fun d H8 d0 d1 b8 p8 => ?_
        have nrp : r ≠ p := pool_ne pp hr7
        obtain ⟨wd, hwd, hat⟩ := at_strs (L := ws) d0 (by omega)
        refine ⟨r, _, _, _, rfl, rfl, st_of (b8 _ _ nrp h7), hat, ?_⟩
        have W := wW wd hwd
        have B8 := ((But.ex f6).trans b7).trans b8
        refine q_set (x_op (x_var rfl (show tM1 _ _ _ _ _ _ from x_c ⟨⟨_, rfl⟩, lc_rng (take_go rfl ev_c p8 (by decide) (by decide) fun many H9 m0 m1 b9 p9 => ?_)⟩)))
        obtain ⟨mn, rfl⟩ := Int.eq_ofNat_of_zero_le m0
        refine lc_pool (R := fun y => ∃ c, y = .str ⟨#[c]⟩ ∧ isM c = true) (n := mn) (by omega) p9 (fun _ => rfl) ?_ ?_
        · intro j H10 hj b10 p10 Q' q'
          refine x_op (x_c (take_go rfl ev_c p10 (by decide) (by decide) fun d9 H11 d90 d91 b11 p11 => ?_))
          obtain ⟨c, hc, hat9⟩ := at_some (L := cs "<>") d90 (by rw [show (cs "<>").length = 2 by decide +kernel]; exact d91)
          exact ⟨_, d9, c, rfl, rfl, sz_of (by decide +kernel), hat9, q' _ _ ⟨_, rfl, by rw [← isM_law]; exact decide_eq_true hc⟩ b11 p11⟩
        · intro r9 ys H10 hr9 b10 p10 h10 yl yr
          obtain ⟨zs, rfl, zl⟩ := ones_of yr
          rw [List.length_map, List.length_map] at yl
          refine ⟨_, r9, _, rfl, rfl, .inl (sq_of h10), ?_, ?_⟩
          · rw [sum_ones]
            show zs.length + _ * 0 ≤ _
            omega
          · have hst : cs (Txt.join (Str.ofString "") (zs.map fun c => (⟨#[c]⟩ : Str))) = zs := join_cs zs
            generalize Txt.join (Str.ofString "") (zs.map fun c => (⟨#[c]⟩ : Str)) = st at *
            have stl : st.length ≤ 5 := by
              rw [cs_len, hst]
              omega
            have wdl : wd.length ≤ 6 := by
              rw [cs_len]
              exact W.2.1
            refine ⟨_, _, rfl, rfl, sz_of (by omega), ?_⟩
            have B10 := (B8.trans b9).trans b10
            have res : Nm.res isL isM (cs (wd ++ st)) = .inr (cs wd).length := by
              rw [cs_app, hst]
              exact res_name W.1 W.2.1 W.2.2 (by omega) zl
            have nml : (wd ++ st).length ≤ 11 := by
              rw [Str.length_append]
              omega
            generalize wd ++ st = nm at *
            have TN : ∀ H0, Th K H0 (.str nm) (.inr (cs wd).length) := fun H0 => by
              rw [← res]
              exact .text nm (by omega)
            have ne : ∀ {H0 : Hp} {σ0 : L2.St} {ta : TE}, Ev ta σ0 H0 (.str (Str.ofString "told")) → Ev (tOp rNe ta (tC (.str (Str.ofString "told")))) σ0 H0 (.bl false) := fun h => ev_op h ev_c (rv_ne (x := .str (Str.ofString "told")) (y := .str (Str.ofString "told")) rfl)
            refine q_when (b := false) (et_or0 (et_test (ev_tellN (ev_var rfl) (TN _))) (et_test (ne (ev_first (ev_var rfl) (TN _))))) (fun hb => nomatch hb) fun _ H11 e11 => ?_
            have p11 := pool_ex p10 e11
            have B11 := B10.trans (But.ex e11)
            refine s_forR1 (n := 4) (ea_cons ev_c ea_nil) ⟨by decide, by decide⟩ (fun i σ' H' => But p H H' ∧ Pool H' p ∧ ∃ v1 v2 v3 v4 v5 v8 v9, σ' = [some (.ref l), v1, v2, v3, v4, v5, some (.ref p), some (.str nm), v8, v9]) (fun H12 e12 => ⟨B11.trans (But.ex e12), pool_ex p11 e12, _, _, _, _, _, _, _, rfl⟩) ?_ ?_
            · rintro j σ' H' hj ⟨b, pl, v1, v2, v3, v4, v5, v8, v9, rfl⟩
              refine q_set (x_call (x_cons (x_var rfl (x_cons (x_var rfl (x_nil ⟨p, nm, rfl, by omega, pl, fun y H12 yl b12 p12 => ?_⟩))))))
              have last : ∀ (y : Str) (H13 : Hp), y.length ≤ 1000 → But p H H13 → Pool H13 p → ∀ D : Ends, (∀ H14, Ex H13 H14 → D.nx [some (.ref l), v1, v2, some (.int (j : Int)), v4, v5, some (.ref p), some (.str nm), v8, some (.str y)] H14) →
                  tIfS (tTest (tOp (rNeD K) (tCall (sp_tell K) [] E0 (tCons (tVar 9) tNil)) (tCall (sp_tell K) [] E0 (tCons (tVar 9) tNil)))) (tRet (tC (.bl false))) tNext D [some (.ref l), v1, v2, some (.int (j : Int)), v4, v5, some (.ref p), some (.str nm), v8, some (.str y)] H13 := fun y H13 hy b13 p13 D kD =>
                s_when (b := false) (et_test (ev_tellN (ev_var rfl) (.text y hy))) (fun hb => nomatch hb) fun _ H14 e14 => kD H14 e14
              refine q_when (et_test (ev_eqI (ev_mod (ev_var rfl) ev_c (by decide)) ev_c)) (fun hb H13 e13 => ?_) fun hb H13 e13 => ?_
              · refine x_set (x_call (x_cons (x_var rfl (x_cons (x_var rfl (x_nil ⟨p, y, rfl, by omega, pool_ex p12 e13, fun y2 H14 yl2 b14 p14 => ?_⟩))))))
                have b14' := ((b.trans b12).trans (But.ex e13)).trans b14
                exact last y2 H14 (by omega) b14' p14 _ fun H15 e15 => ⟨b14'.trans (But.ex e15), pool_ex p14 e15, _, _, _, _, _, _, _, rfl⟩
              · have b13' := (b.trans b12).trans (But.ex e13)
                exact last y H13 (by omega) b13' (pool_ex p12 e13) _ fun H15 e15 => ⟨b13'.trans (But.ex e15), pool_ex p12 (e13.trans e15), _, _, _, _, _, _, _, rfl⟩
            · rintro σ' H' ⟨b, pl, v1, v2, v3, v4, v5, v8, v9, rfl⟩
              exact ⟨b.new np, _, _, _, _, _, _, _, _, _, rfl⟩
      · rintro σ' H' ⟨e, v1, v2, v3, v4, v5, v6, v7, v8, v9, rfl⟩
        exact s_ret ev_c fun H1 e1 => k H1
end
end K04

namespace L2
open PySem PySem.Spec PyProof.Rows PySem.W
/-- the end of a law row: what the written part says is found in the heap, the numbers' bits are told -/
theorem walk_bits {l : PySem.W.OpenLaw} {n k : Nat} {q : Program} {loose : List Str} {XP : (Str → Option Value) → Heap → Prop} {YP : World → Heap → Prop} {d : DefRec} {CX : CXT} {x : Str}
    (a1 : l.most = some n) (a2 : n ≤ sizeLine) (a3 : d.params.defaults = []) (a4 : Room k callerA)
    (F : ∀ (w : World) (mg : Str → Option Value) (fa : Addr) (h : Heap), YP w h → h.Ns mainGlobals mg → mg d.name = some (.ref fa) → ∃ (K : PySem.W.Frag) (fd : FuncData) (sp : Sp), K.In h ∧
      (∀ (s : Shared) (u : Value), BindsTo s fd ⟨[u], []⟩ [(x, u)]) ∧
      (∀ (H : Hp) (a : Addr) (ns : List Int), ns.length ≤ n → (∀ z ∈ ns, Builtin.Int.intBits z ≤ 1048576) → SqL K H a (ns.map V.int) → sp [.ref a] H (fun v _ => v = .bl true) fun _ _ _ => False) ∧
      ∀ base : Heap, K.In base → base.Ns mainGlobals mg → FnOk l.prog w K mg base CX k fa fd [x] sp)
    (a5 : ∀ (H : Hp) (s : Shared) (e : Value) (s' : Shared), CX [] H s (fun _ _ _ => False) e s' → False) :
    PySem.W.WalkO q loose XP YP l.row.toRowW d [] (fun f vs => PySem.call f vs) := by
  refine Att.attach_callB a1 a3 fun w s₀ s₁ mg mb fa o pm cd doc a vs ns G Y _ _ _ hmg hobj hints hlen hbits hg => ?_
  obtain ⟨K, fd, sp, KX, hb, hsp, hF⟩ := F w mg fa _ Y G.T.g hmg
  exact law_call KX G.T.g G.T.b G.T.builtins G.T.nolimit hg hobj hints (Nat.le_trans hlen a2) a4 hF hb (fun H _ hS => hsp H a ns hlen hbits hS) fun H e s' => a5 H s₁ e s'
end L2
namespace K04
open PySem PySem.Spec PyProof.Rows L2 Evl
theorem facts {P : Program} {w : World} {K : PySem.W.Frag} {h : Heap} {mg : Str → Option Value} {f : Addr} (X : K.In h) (G : h.Ns mainGlobals mg) (hfa : mg ("law" : Str) = some (.ref f)) (c : He.SaysD fa fn K) (cx : ex K = true) :
    ∃ fd : FuncData, (∀ (s : Shared) (v : Value), BindsTo s fd ⟨[v], []⟩ [("_law_script", v)]) ∧ ∀ base : Heap, K.In base → base.Ns mainGlobals mg → FnOk P w K mg base CX0 6 f fd ["_law_script"] (sp_law K) := by
  obtain ⟨c1, cx⟩ := He.ba cx
  obtain ⟨c2, cx⟩ := He.ba cx
  obtain ⟨c3, cx⟩ := He.ba cx
  obtain ⟨c4, c5⟩ := He.ba cx
  have T : Txt K mg := { b_isinstance := He.free_ok X G (c.fact 10 (f := .free "isinstance") rfl), b_str := He.free_ok X G (c.fact 11 (f := .free "str") rfl), b_tuple := He.free_ok X G (c.fact 12 (f := .free "tuple") rfl), b_divmod := He.free_ok X G (c.fact 13 (f := .free "divmod") rfl), b_len := He.free_ok X G (c.fact 14 (f := .free "len") rfl), b_range := He.free_ok X G (c.fact 15 (f := .free "range") rfl), b_all := He.free_ok X G (c.fact 16 (f := .free "all") rfl), b_bool := He.free_ok X G (c.fact 17 (f := .free "bool") rfl), b_enumerate := He.free_ok X G (c.fact 18 (f := .free "enumerate") rfl), b_max := He.free_ok X G (c.fact 19 (f := .free "max") rfl), b_min := He.free_ok X G (c.fact 20 (f := .free "min") rfl), b_ValueError := He.free_ok X G (c.fact 21 (f := .free "ValueError") rfl), g_RoseError := He.glo_ok X G (c.fact 22 (f := .glo "RoseError") rfl), g_NoName := He.glo_ok X G (c.fact 23 (f := .glo "NoName") rfl), g_NoPair := He.glo_ok X G (c.fact 32 (f := .glo "NoPair") rfl), g_NoRoom := He.glo_ok X G (c.fact 33 (f := .glo "NoRoom") rfl), g_NoRose := He.glo_ok X G (c.fact 34 (f := .glo "NoRose") rfl), g_NoRow := He.glo_ok X G (c.fact 35 (f := .glo "NoRow") rfl), g_NoStep := He.glo_ok X G (c.fact 36 (f := .glo "NoStep") rfl), g_NoText := He.glo_ok X G (c.fact 37 (f := .glo "NoText") rfl), g_NoTurn := He.glo_ok X G (c.fact 38 (f := .glo "NoTurn") rfl), g_NoWalk := He.glo_ok X G (c.fact 39 (f := .glo "NoWalk") rfl), g_NoWind := He.glo_ok X G (c.fact 40 (f := .glo "NoWind") rfl), g_LostError := He.glo_ok X G (c.fact 41 (f := .glo "LostError") rfl), g_NoDeed := He.glo_ok X G (c.fact 42 (f := .glo "NoDeed") rfl), g_NoSuch := He.glo_ok X G (c.fact 43 (f := .glo "NoSuch") rfl), g_NoWord := He.glo_ok X G (c.fact 44 (f := .glo "NoWord") rfl), g_LETTERS := He.str_ok X G (c.fact 27 (f := .str "LETTERS" "abcdefghijklmnopqrstuvwxyz") rfl), g_ON := He.str_ok X G (c.fact 29 (f := .str "ON" ">") rfl), g_BACK := He.str_ok X G (c.fact 30 (f := .str "BACK" "<") rfl), g_MOST_LETTERS := He.int_ok X G (c.fact 28 (f := .int "MOST_LETTERS" 6) rfl), g_MOST_MARKS := He.int_ok X G (c.fact 31 (f := .int "MOST_MARKS" 5) rfl), base := baseB_ok c3, oex := oexB_ok c2, xk := xkB_ok c1, noat := He.noat_ok (c.fact 24 (f := .noat "NoName" "at") rfl), mi := He.meth_ok (c.fact 25 (f := .meth "NoName" "__init__") rfl), kit := c4, kv := of_decide_eq_true c5, exm := He.exm_ok (c.fact 26 (f := .exm "NoName" "RoseError" true) rfl) }
  obtain ⟨fd_NoName_init, F0_NoName_init⟩ := c.def_ 0 (d := d_NoName_init) rfl
  have F_NoName_init : FnM K "__init__" "NoName.__init__" s_NoName_init (He.ma K (He.ga K "NoName") "__init__") fd_NoName_init := F0_NoName_init
  have b_NoName_init : Binds K fd_NoName_init ["self", "at"] [] := F_NoName_init.bindsN fun _ _ _ _ _ _ us hl => match us, hl with | [_, _], _ => rfl
  obtain ⟨fd_parted, F0_parted⟩ := c.def_ 1 (d := d_parted) rfl
  have F_parted : FnP K "parted" s_parted (He.ga K "parted") fd_parted := F0_parted
  have g_parted := He.glo_ok X G (c.fact 0 (f := .glo "parted") rfl)
  have b_parted : Binds K fd_parted ["text"] [] := F_parted.bindsN fun _ _ _ _ _ _ us hl => match us, hl with | [_], _ => rfl
  obtain ⟨fd_parted_within, F0_parted_within⟩ := c.def_ 2 (d := d_parted_within) rfl
  have F_parted_within : FnP K "parted_within" s_parted_within (He.ga K "parted_within") fd_parted_within := F0_parted_within
  have g_parted_within := He.glo_ok X G (c.fact 1 (f := .glo "parted_within") rfl)
  have b_parted_within : Binds K fd_parted_within ["text", "most"] [] := F_parted_within.bindsN fun _ _ _ _ _ _ us hl => match us, hl with | [_, _], _ => rfl
  obtain ⟨fd_end_of_run, F0_end_of_run⟩ := c.def_ 3 (d := d_end_of_run) rfl
  have F_end_of_run : FnP K "end_of_run" s_end_of_run (He.ga K "end_of_run") fd_end_of_run := F0_end_of_run
  have g_end_of_run := He.glo_ok X G (c.fact 2 (f := .glo "end_of_run") rfl)
  have b_end_of_run : Binds K fd_end_of_run ["text", "begin", "signs", "most"] [] := F_end_of_run.bindsN fun _ _ _ _ _ _ us hl => match us, hl with | [_, _, _, _], _ => rfl
  obtain ⟨fd_l_pack, F0_l_pack⟩ := c.def_ 4 (d := d_l_pack) rfl
  have F_l_pack : FnP K "_law_pack" s_l_pack (He.ga K "_law_pack") fd_l_pack := F0_l_pack
  have g_l_pack := He.glo_ok X G (c.fact 3 (f := .glo "_law_pack") rfl)
  have b_l_pack : Binds K fd_l_pack ["_law_script", "_law_k"] [] := F_l_pack.bindsN fun _ _ _ _ _ _ us hl => match us, hl with | [_, _], _ => rfl
  obtain ⟨fd_l_take, F0_l_take⟩ := c.def_ 5 (d := d_l_take) rfl
  have F_l_take : FnP K "_law_take" s_l_take (He.ga K "_law_take") fd_l_take := F0_l_take
  have g_l_take := He.glo_ok X G (c.fact 4 (f := .glo "_law_take") rfl)
  have b_l_take : Binds K fd_l_take ["_law_pool", "_law_many"] [] := F_l_take.bindsN fun _ _ _ _ _ _ us hl => match us, hl with | [_, _], _ => rfl
  obtain ⟨fd_l_words, F0_l_words⟩ := c.def_ 6 (d := d_l_words) rfl
  have F_l_words : FnP K "_law_words" s_l_words (He.ga K "_law_words") fd_l_words := F0_l_words
  have g_l_words := He.glo_ok X G (c.fact 5 (f := .glo "_law_words") rfl)
  have b_l_words : Binds K fd_l_words ["_law_pool", "_law_many"] [] := F_l_words.bindsN fun _ _ _ _ _ _ us hl => match us, hl with | [_, _], _ => rfl
  obtain ⟨fd_l_due, F0_l_due⟩ := c.def_ 7 (d := d_l_due) rfl
  have F_l_due : FnP K "_law_due" s_l_due (He.ga K "_law_due") fd_l_due := F0_l_due
  have g_l_due := He.glo_ok X G (c.fact 6 (f := .glo "_law_due") rfl)
  have b_l_due : Binds K fd_l_due ["_law_thing"] [] := F_l_due.bindsN fun _ _ _ _ _ _ us hl => match us, hl with | [_], _ => rfl
  obtain ⟨fd_l_told, F0_l_told⟩ := c.def_ 8 (d := d_l_told) rfl
  have F_l_told : FnP K "_law_told" s_l_told (He.ga K "_law_told") fd_l_told := F0_l_told
  have g_l_told := He.glo_ok X G (c.fact 7 (f := .glo "_law_told") rfl)
  have b_l_told : Binds K fd_l_told ["_law_thing"] [] := F_l_told.bindsN fun _ _ _ _ _ _ us hl => match us, hl with | [_], _ => rfl
  obtain ⟨fd_l_spoilt, F0_l_spoilt⟩ := c.def_ 9 (d := d_l_spoilt) rfl
  have F_l_spoilt : FnP K "_law_spoilt" s_l_spoilt (He.ga K "_law_spoilt") fd_l_spoilt := F0_l_spoilt
  have g_l_spoilt := He.glo_ok X G (c.fact 8 (f := .glo "_law_spoilt") rfl)
  have b_l_spoilt : Binds K fd_l_spoilt ["_law_pool", "_law_text"] [] := F_l_spoilt.bindsN fun _ _ _ _ _ _ us hl => match us, hl with | [_, _], _ => rfl
  obtain ⟨fd_law, F0_law⟩ := c.def_ 10 (d := d_law) rfl
  have F_law : FnP K "law" s_law (He.ga K "law") fd_law := F0_law
  have g_law := He.glo_ok X G (c.fact 9 (f := .glo "law") rfl)
  have e := hfa.symm.trans g_law
  cases e
  have bl := FunD.bindsA (ps := ["_law_script"]) F_law fun _ _ _ _ _ _ us hl => match us, hl with | [_], _ => rfl
  refine ⟨fd_law, fun s v => bl s [v] rfl, fun base _ _ => ?_⟩
  have Dr : Dn P w K mg base 1 "end_of_run" ["text", "begin", "signs", "most"] sp_run := ⟨_, _, ok_run F_end_of_run T, g_end_of_run, F_end_of_run.kp, b_end_of_run⟩
  have Gw := ok_pw F_parted_within T Dr (ok_init F_NoName_init T) b_NoName_init
  have Dp' : Pa P w K mg base := ⟨_, _, ok_parted F_parted T Gw g_parted_within F_parted_within.kp b_parted_within, g_parted, F_parted.kp, b_parted⟩
  have Dk : Dn P w K mg base 1 "_law_pack" ["_law_script", "_law_k"] (sp_pack K) := ⟨_, _, ok_pack F_l_pack T, g_l_pack, F_l_pack.kp, b_l_pack⟩
  have Dt : Dn P w K mg base 1 "_law_take" ["_law_pool", "_law_many"] sp_take := ⟨_, _, ok_take F_l_take T, g_l_take, F_l_take.kp, b_l_take⟩
  have Dw : Dn P w K mg base 2 "_law_words" ["_law_pool", "_law_many"] sp_words := ⟨_, _, ok_words F_l_words T Dt, g_l_words, F_l_words.kp, b_l_words⟩
  have Dd : Dn P w K mg base 1 "_law_due" ["_law_thing"] (sp_tell K) := ⟨_, _, ok_due F_l_due T, g_l_due, F_l_due.kp, b_l_due⟩
  have Do : Dn P w K mg base 5 "_law_told" ["_law_thing"] (sp_tell K) := ⟨_, _, ok_told F_l_told T Dp', g_l_told, F_l_told.kp, b_l_told⟩
  have Ds : Dn P w K mg base 2 "_law_spoilt" ["_law_pool", "_law_text"] sp_spoilt := ⟨_, _, ok_spoilt F_l_spoilt T Dt, g_l_spoilt, F_l_spoilt.kp, b_l_spoilt⟩
  exact ok_law F_law T Dt Dk Dw Dd Do Ds
end K04
open PySem PySem.W PySem.Calls PyProof.Rows
set_option maxRecDepth 100000 in
set_option maxHeartbeats 0 in
theorem PySem.Challenge.cw_rosenames_k04_names_parted_holds : PySem.Challenge.rw_rosenames_k04_names_parted.Holds := by
  w_on; o_law
  refine HandSHeadRun.head_any (r := OpenLaw.row PySem.Challenge.rw_rosenames_k04_names_parted) (q := view (OpenLaw.row PySem.Challenge.rw_rosenames_k04_names_parted).prog [32]) (H := K04.hk) (ob := K04.ob) (M := 6000) (loose := K04.names) (d := HandSHeadRun.topDef (OpenLaw.row PySem.Challenge.rw_rosenames_k04_names_parted).prog 32) (kwd := []) K04.ob_eq
    (by kernel_rfl) (fun s => by kernel_rfl) K04.run (by kernel_rfl) (by kernel_rfl) (by kernel_rfl) (by rfl) (by first | assumption | decide +kernel) (by decide +kernel) ⟨rfl, rfl, rfl, rfl, rfl, by decide +kernel⟩ ?hw ?hc
  case hw => w_witness2
  case hc =>
    refine L2.walk_bits (l := PySem.Challenge.rw_rosenames_k04_names_parted) (n := 63) (k := 6) (x := "_law_script") (CX := L2.CX0) rfl (by decide) (by kernel_rfl) ⟨rfl, by decide, by decide⟩ ?F (fun _ _ _ _ z => z)
    intro w mg fa h Y G hmg0
    obtain ⟨K, KX, c, cx⟩ := Y
    have hmg : mg ("law" : PySem.Str) = some (.ref fa) := by
      have e : (HandSHeadRun.topDef (OpenLaw.row PySem.Challenge.rw_rosenames_k04_names_parted).prog 32).name = ("law" : PySem.Str) := by kernel_rfl
      rw [← e]
      exact hmg0
    obtain ⟨fd, hb, hF⟩ := K04.facts (P := (PySem.Challenge.rw_rosenames_k04_names_parted).prog) (w := w) KX G hmg c cx
    exact ⟨K, fd, K04.sp_law K, KX, hb, fun H a ns hl hB hS => ⟨a, ns, rfl, hS, hl, hB, fun _ => rfl⟩, hF⟩

