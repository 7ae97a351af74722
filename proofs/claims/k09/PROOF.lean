import PyProof.Rows.All
import Wide.All
import OpenK.AllK
import Wide.FinOn
import KE.KStateDown
import HandS.ForMost
import HandS.Exc
import HandS.Defaults
import HandS.MakeKw
import HandS.IsInst
import HandS.Wide
import HandS.WideBits
import HandS.Evl
import HandS.WordsExc
import HandS.Head0
import HandS.Head1
import HandS.Head2
import HandS.HeadEnd
import HandS.HeadHook1
import HandS.HeadHook2
import KE.KExcIs
import HandS.ExcInit
import HandS.Iter
import PyProof.EnumMake
import PyProof.Draws
import PyProof.StrOps2
import HandS.Zip
import HandS.SetFor
import HandS.WideMore
import HandS.DictComp
import PyProof.Rows.CountFlat
import HandS.EndBits
import KE.KFmtOwn
import PyProof.InstNe
import HandS.OwnEq
import HandS.More
import HandS.SlotsOwn
import HandS.FStr
import HandS.Style
import PyProof.FString3
import PyProof.Rows.StrIntSpec
import HandS.Text
import HandS.Strs
import HandS.Sort
import HandS.StrMore
import HandS.RaiseMore
import PySem.Challenge.RW_rosenames_k09_names_of_winds
set_option Elab.async false
set_option linter.all false
set_option maxRecDepth 100000
set_option maxHeartbeats 0
/-! The head's Hook with one Bool more; a def by its name; what an own class needs for isinstance. -/
namespace L2
open PySem PySem.Spec PyProof.Rows
/-- what the module's names reach, and the cell of the statics -/
def asN (g : Addr → Option Obj) (n : Nat) : List Addr := cStatics :: He.asD g n
def hookM (n : Nat) (fa : List He.Fa) (fn : List He.DefD) (ex : PySem.W.Frag → Bool) : PySem.W.Hook where
  α := He.AlD × Bool
  obs := fun s => (He.obsD fa fn (He.frG s.heap.get? (asN s.heap.get? n)), ex (He.frG s.heap.get? (asN s.heap.get? n)))
  val := fun _ => (He.valD fn, true)
  says := fun _ h => ∃ K : PySem.W.Frag, K.In h ∧ He.SaysD fa fn K ∧ ex K = true
  of := fun _ _ e => ⟨_, He.frG_in, congrArg (fun z : He.AlD × Bool => z.1) e, congrArg (fun z : He.AlD × Bool => z.2) e⟩
  keeps := fun _ _ _ ⟨K, hK, c⟩ k => ⟨K, PySem.W.Frag.In.keeps hK k, c⟩
/-- isinstance of an own class's instances -/
structure IsC (K : PySem.W.Frag) (C : Addr) : Prop where
  ha : PySem.W.findIn K (.ref C) "__class__" = some (some (.builtin "object.__class__"))
  hn : PySem.W.specialIn K (.builtin "object.__class__") "__get__" = some (some (.builtin "getset_descriptor.__get__"))
  htk : PySem.W.takesIn K (.builtin "object.__class__") = some true
  hm : PySem.W.mroIn K C (.type "object") = some true
def tyB (K : PySem.W.Frag) (x : Str) : Bool :=
  He.eqO (PySem.W.findIn K (.ref (He.ga K x)) "__class__") (some (some (.builtin "object.__class__"))) &&
  (He.eqO (PySem.W.specialIn K (.builtin "object.__class__") "__get__") (some (some (.builtin "getset_descriptor.__get__"))) &&
  (decide (PySem.W.takesIn K (.builtin "object.__class__") = some true) && decide (PySem.W.mroIn K (He.ga K x) (.type "object") = some true)))
theorem tyB_ok {K : PySem.W.Frag} {x : Str} (h : tyB K x = true) : IsC K (He.ga K x) := by
  obtain ⟨h1, h⟩ := He.ba h
  obtain ⟨h2, h⟩ := He.ba h
  obtain ⟨h3, h4⟩ := He.ba h
  exact ⟨He.eqO_ok h1, He.eqO_ok h2, of_decide_eq_true h3, of_decide_eq_true h4⟩
/-- a def of the module by its name: where it stands, what it promises, how it binds -/
structure Dn (P : Program) (w : World) (K : PySem.W.Frag) (mg : Str → Option Value) (base : Heap) (k : Nat) (x : Str) (ps : List Str) (sp : Sp) : Prop where
  ex : ∃ (f : Addr) (fd : FuncData), FnOk P w K mg base CX0 k f fd ps sp ∧ mg x = some (.ref f) ∧ PySem.W.keepIn K (.ref f) = true ∧ Binds K fd ps []
section
variable {X : Cx} {k : Nat} {x : Str} {ps : List Str} {sp : Sp} {e : Expr} {es : List Expr} {t : TA} {p pos : Pos}
theorem pe_cd (D : Dn X.prog X.w X.K X.mg X.base k x ps sp) (hr : Room k X.A) (hg : Gl X x) (ha : PA X (e :: es) t) (hdb : (x == ("__debug__" : Str)) = false := by decide)
    (he : starEach (e :: es) X.env = (false, eval e X.env) :: starEach es X.env := by rfl) (hpl : (backTo pos (starEach es X.env)).any (·.1) = false := by rfl) :
    PE X (.Call (.Name x p) (e :: es) [] pos) (tCall sp [] E0 t) := by
  obtain ⟨f, fd, F, m, kp, b⟩ := D.ex
  exact pe_call F hr hg m kp b .nil pass0 ha hdb he hpl
theorem pe_cd0 (D : Dn X.prog X.w X.K X.mg X.base k x ps sp) (hr : Room k X.A) (hg : Gl X x) (hdb : (x == ("__debug__" : Str)) = false := by decide) :
    PE X (.Call (.Name x p) [] [] pos) (tCall sp [] E0 tNil) := by
  obtain ⟨f, fd, F, m, kp, b⟩ := D.ex
  exact pe_call0 F hr hg m kp b .nil pass0 hdb
end
end L2
/-! More of what evaluates to what (heaps that only grow), and heaps that change at one place. -/
namespace L2
open PySem PySem.Spec PyProof.Rows Evl
/-- all but what stands at p is as it was -/
def But (p : Addr) (H H' : Hp) : Prop := ∀ b o, b ≠ p → H b = some o → H' b = some o
theorem But.refl {p : Addr} (H : Hp) : But p H H := fun _ _ _ h => h
theorem But.trans {p : Addr} {H H1 H2 : Hp} (a : But p H H1) (b : But p H1 H2) : But p H H2 := fun c o n h => b c o n (a c o n h)
theorem But.ex {p : Addr} {H H' : Hp} (e : Ex H H') : But p H H' := fun b o _ h => e b o h
theorem But.upd {p : Addr} {H : Hp} {o : HO} : But p H (upd H p o) := fun b u n h => by
  rw [upd_ne n]
  exact h
/-- what p is not known to H: then it is an extension -/
theorem But.new {p : Addr} {H H' : Hp} (e : But p H H') (h : H p = none) : Ex H H' := fun b o q => e b o (ne_of_none q h) q
section
variable {K : PySem.W.Frag} {σ : L2.St} {H H' : Hp} {ta tb te : TE} {x y z v : V}
theorem ev_fld {a C dx : Addr} {fs : List (Str × V)} {f : Str} (h : Ev ta σ H (.ref a)) (ho : H a = some (.ins C dx fs)) (hc : Cls K C) (hn : NoAttr K C f) (hl : fs.lookup f = some v) : Ev (tFld K ta f) σ H v :=
  fun H1 e Q q => h H1 e _ fun H2 e2 => ⟨a, C, dx, fs, v, rfl, (e.trans e2) _ _ ho, hc, hn, hl, q H2 e2⟩
theorem rc_isi {x c : V} {t u : Value} {b : Bool} (hc : ClsV c u) (hx : ∀ H1, Ex H H1 → TyX K H1 x t) (hk : PySem.W.kitOne K t u = some b) : RC (rIsi K) [x, c] H (.bl b) :=
  fun H1 e Q q => ⟨x, c, t, u, b, rfl, hc, hx H1 e, hk, q H1 (Ex.refl _)⟩
theorem rc_isiI {i : Int} : RC (rIsi K) [.int i, .ty "int"] H (.bl true) := rc_isi (.ty "int") (fun _ _ => .base (.int i)) (kit_ty (by decide +kernel))
theorem rc_isiB {i : Int} : RC (rIsi K) [.int i, .ty "bool"] H (.bl false) := rc_isi (.ty "bool") (fun _ _ => .base (.int i)) (kit_ty (by decide +kernel))
theorem kit_self {t : Value} : PySem.W.kitOne K t t = some true := by
  unfold PySem.W.kitOne
  rw [if_pos (beq_self_eq_true t)]
theorem rc_isiC {a C dx : Addr} {fs : List (Str × V)} (ho : H a = some (.ins C dx fs)) (hc : Cls K C) (hi : IsC K C) : RC (rIsi K) [.ref a, .ref C] H (.bl true) :=
  rc_isi (.own C) (fun _ e => .base (.ins (e _ _ ho) hc hi.ha hi.hn hi.htk hi.hm)) kit_self
def rAbs : List V → Hp → VK → Prop := fun xs H Q => ∃ i, xs = [.int i] ∧ Q (.int (if i < 0 then -i else i)) H
theorem rc_abs {i : Int} : RC (fun xs H Q => ∃ i, xs = [.int i] ∧ Q (.int (if i < 0 then -i else i)) H) [.int i] H (.int (i.natAbs : Int)) := fun H1 _ Q q => ⟨i, rfl, by
  have e : (if i < 0 then -i else i) = (i.natAbs : Int) := by
    by_cases h : i < 0
    · rw [if_pos h]
      omega
    · rw [if_neg h]
      omega
  rw [e]
  exact q H1 (Ex.refl _)⟩
/-- tuples' items by a written place -/
theorem ev_ixT {p : Addr} {xs : List V} {j : Nat} (h : Ev ta σ H (.ref p)) (hs : H p = some (.tup xs)) (hj : xs[j]? = some v) : Ev (tOp (rIxT K) ta (tC (.int (j : Int)))) σ H v :=
  ev_op h ev_c (rv_ixT (st_of hs) (atI_nat hj))
theorem ev_mulW {i j : Int} {n m : Nat} (ha : Ev ta σ H (.int i)) (hb : Ev tb σ H (.int j)) (hi : i.natAbs < 2 ^ n) (hj : j.natAbs < 2 ^ m) (h0 : 0 < n := by decide) (h1 : 0 < m := by decide) (h : n + m ≤ 1000000 := by decide) :
    Ev (tOp (rI CMulW fun i j => .int (i * j)) ta tb) σ H (.int (i * j)) := ev_op ha hb (rv_I (wide_mul hi hj h0 h1 h))
theorem ev_mul {i j : Int} (ha : Ev ta σ H (.int i)) (hb : Ev tb σ H (.int j)) (h : CMul i j) : Ev (tOp (rI CMul fun i j => .int (i * j)) ta tb) σ H (.int (i * j)) := ev_op ha hb (rv_I h)
theorem ev_add {i j : Int} (ha : Ev ta σ H (.int i)) (hb : Ev tb σ H (.int j)) : Ev (tOp (rI0 fun i j => .int (i + j)) ta tb) σ H (.int (i + j)) := ev_op ha hb rv_I0
theorem ev_sub {i j : Int} (ha : Ev ta σ H (.int i)) (hb : Ev tb σ H (.int j)) : Ev (tOp (rI0 fun i j => .int (i - j)) ta tb) σ H (.int (i - j)) := ev_op ha hb rv_I0
theorem ev_mod {i j : Int} (ha : Ev ta σ H (.int i)) (hb : Ev tb σ H (.int j)) (h : 0 < j) : Ev (tOp (rI (fun _ j => 0 < j) fun i j => .int (i % j)) ta tb) σ H (.int (i % j)) := ev_op ha hb (rv_I h)
theorem ev_fdivW {i j : Int} {n : Nat} (ha : Ev ta σ H (.int i)) (hb : Ev tb σ H (.int j)) (h : 0 < j) (hj : j.natAbs < 2 ^ n) (h0 : 0 < n := by decide) (h1 : n ≤ 9000 := by decide) : Ev (tOp (rI CDivW fun i j => .int (i / j)) ta tb) σ H (.int (i / j)) :=
  ev_op ha hb (rv_I (wide_div h hj h0 h1))
theorem ev_lt {i j : Int} (ha : Ev ta σ H (.int i)) (hb : Ev tb σ H (.int j)) : Ev (tOp (rI0 fun i j => .bl (decide (i < j))) ta tb) σ H (.bl (decide (i < j))) := ev_op ha hb rv_I0
theorem ev_gt {i j : Int} (ha : Ev ta σ H (.int i)) (hb : Ev tb σ H (.int j)) : Ev (tOp (rI0 fun i j => .bl (decide (j < i))) ta tb) σ H (.bl (decide (j < i))) := ev_op ha hb rv_I0
theorem ev_ge {i j : Int} (ha : Ev ta σ H (.int i)) (hb : Ev tb σ H (.int j)) : Ev (tOp (rI0 fun i j => .bl (decide (j ≤ i))) ta tb) σ H (.bl (decide (j ≤ i))) := ev_op ha hb rv_I0
theorem ev_eqI {i j : Int} (ha : Ev ta σ H (.int i)) (hb : Ev tb σ H (.int j)) : Ev (tOp rEq ta tb) σ H (.bl (decide (i = j))) := by
  have h := ev_op ha hb (rv_eq (x := .int i) (y := .int j) rfl)
  have e : decide (V.int i = V.int j) = decide (i = j) := by
    rw [Bool.eq_iff_iff]
    simp
  rw [e] at h
  exact h
theorem ev_neI {i j : Int} (ha : Ev ta σ H (.int i)) (hb : Ev tb σ H (.int j)) : Ev (tOp rNe ta tb) σ H (.bl (!decide (i = j))) := by
  have h := ev_op ha hb (rv_ne (x := .int i) (y := .int j) rfl)
  have e : decide (V.int i = V.int j) = decide (i = j) := by
    rw [Bool.eq_iff_iff]
    simp
  rw [e] at h
  exact h
theorem pow_big {n : Nat} {i : Int} {m : Nat} (h : i.natAbs < 2 ^ n) (hm : n ≤ m) : i.natAbs < 2 ^ m := Nat.lt_of_lt_of_le h (Nat.pow_le_pow_right (by decide) hm)
theorem ev_neg {i : Int} (ha : Ev ta σ H (.int i)) : Ev (tUn (rU fun i => .int (-i)) ta) σ H (.int (-i)) := ev_un ha ru_neg
end
end L2
/-! Readings opened one step. -/
namespace L2
open PySem PySem.Spec PyProof.Rows Evl
section
variable {σ : L2.St} {H : Hp} {D : Ends} {te ta tb : TE} {tA : TA} {t u : TS} {tt tu : TT} {Q : VK} {QT : Bool → Hp → Prop} {QA : List V → Hp → Prop} {vs xs dvs : List V} {v : V} {b : Bool}
theorem x_ret (h : te σ H D.rt) : tRet te D σ H := h
theorem x_seq (h : t { D with nx := u D } σ H) : tSeq t u D σ H := h
theorem x_asg {g : TG} (h : te σ H fun x H1 => g x σ H1 D.nx) : tAsg te g D σ H := h
theorem x_set {i : Nat} (h : te σ H fun x H1 => D.nx (σ.set i (some x)) H1) : tAsg te (gName i) D σ H := h
theorem x_drop (h : te σ H fun _ H1 => D.nx σ H1) : tDrop te D σ H := h
theorem x_par {i j : Nat} (h : tA σ H fun vs H1 => ∃ v w, vs = [v, w] ∧ D.nx ((σ.set i (some v)).set j (some w)) H1) : tPar i j tA D σ H := h
theorem x_op {r : R2} (h : ta σ H fun x H1 => tb σ H1 fun y H2 => r x y H2 Q) : tOp r ta tb σ H Q := h
theorem x_cb {r : List V → Hp → VK → Prop} (h : tA σ H fun vs H1 => r vs H1 Q) : tCB r tA σ H Q := h
theorem x_call {sp : Sp} {E : XK} (h : tA σ H fun vs H1 => sp (vs ++ dvs) H1 Q E) : tCall sp dvs E tA σ H Q := h
theorem x_cons {tr : TA} (h : ta σ H fun x H1 => tr σ H1 fun xs H2 => QA (x :: xs) H2) : tCons ta tr σ H QA := h
theorem x_nil (h : QA [] H) : tNil σ H QA := h
theorem x_if (h : tt σ H fun b H1 => if b = true then t D σ H1 else u D σ H1) : tIfS tt t u D σ H := h
theorem x_B (h : te σ H fun x H1 => ∃ c, x = .bl c ∧ QT c H1) : tB te σ H QT := h
theorem x_test (h : te σ H fun x H1 => ∃ c, x = .bl c ∧ QT c H1) : tTest te σ H QT := h
theorem x_not (h : tt σ H fun c H1 => QT (!c) H1) : tNot tt σ H QT := h
theorem x_or (h : tt σ H fun c H1 => if c = true then QT true H1 else tu σ H1 QT) : tOr tt tu σ H QT := h
theorem x_and (h : tt σ H fun c H1 => if c = true then tu σ H1 QT else QT false H1) : tAnd tt tu σ H QT := h
theorem x_meth {C : Addr} {m : Str} {sp : Sp} {E : XK} (h : ta σ H fun x H1 => ∃ a dx fs, x = .ref a ∧ H1 a = some (.ins C dx fs) ∧ fs.lookup m = none ∧ tA σ H1 fun vs H2 => sp (x :: (vs ++ dvs)) H2 Q E) : tMeth C m sp dvs E ta tA σ H Q := h
theorem x_lst (h : tA σ H fun xs H1 => xs.length ≤ sizeLine ∧ ∀ p, H1 p = none → Q (.ref p) (upd H1 p (.lst xs))) : tLst tA σ H Q := h
theorem x_tup (h : tA σ H fun xs H1 => xs.length ≤ sizeLine ∧ ∀ p, H1 p = none → Q (.ref p) (upd H1 p (.tup xs))) : tTup tA σ H Q := h
theorem x_c (h : Q v H) : tC v σ H Q := h
theorem x_var {i : Nat} (e : σ[i]? = some (some v)) (h : Q v H) : tVar i σ H Q := ⟨v, e, h⟩
theorem x_while {W : Nat → St → Hp → Prop} (m : Nat) (w0 : W m σ H) (h : ∀ m σ H, W m σ H → tt σ H fun b H1 => if b = true then ∃ N : St → Hp → Prop, (∀ σ' H', N σ' H' → ∃ m', m' < m ∧ W m' σ' H') ∧ t { D with nx := N, ct := N, bk := D.nx } σ H1 else D.nx σ H1) : tWhile tt t D σ H := ⟨W, ⟨m, w0⟩, h⟩
theorem Evl.Ev.go (h : Ev te σ H v) (k : ∀ H1, Ex H H1 → Q v H1) : te σ H Q := h H (Ex.refl _) _ k
theorem Evl.EvT.go (h : EvT tt σ H b) (k : ∀ H1, Ex H H1 → QT b H1) : tt σ H QT := h H (Ex.refl _) _ k
theorem Evl.EvA.go (h : EvA tA σ H vs) (k : ∀ H1, Ex H H1 → QA vs H1) : tA σ H QA := h H (Ex.refl _) _ k
theorem Evl.EvU.go (h : EvU te σ H xs) (k : ∀ p H1, H p = none → Ex H H1 → H1 p = some (.tup xs) → Q (.ref p) H1) : te σ H Q := h H (Ex.refl _) _ k
theorem Evl.EvL.go (h : EvL te σ H xs) (k : ∀ p H1, H p = none → Ex H H1 → H1 p = some (.lst xs) → Q (.ref p) H1) : te σ H Q := h H (Ex.refl _) _ k
end
end L2
/-! The same with something behind. -/
namespace L2
open PySem PySem.Spec PyProof.Rows Evl
section
variable {σ : L2.St} {H : Hp} {D : Ends} {te : TE} {tA : TA} {t u tz : TS} {tt : TT}
theorem q_par {i j : Nat} (h : tA σ H fun vs H1 => ∃ v w, vs = [v, w] ∧ tz D ((σ.set i (some v)).set j (some w)) H1) : tSeq (tPar i j tA) tz D σ H := h
theorem q_set {i : Nat} (h : te σ H fun x H1 => tz D (σ.set i (some x)) H1) : tSeq (tAsg te (gName i)) tz D σ H := h
theorem q_asgX {g : TG} (h : te σ H fun x H1 => g x σ H1 (tz D)) : tSeq (tAsg te g) tz D σ H := h
theorem q_dropX (h : te σ H fun _ H1 => tz D σ H1) : tSeq (tDrop te) tz D σ H := h
theorem q_ifX (h : tt σ H fun b H1 => if b = true then t { D with nx := tz D } σ H1 else u { D with nx := tz D } σ H1) : tSeq (tIfS tt t u) tz D σ H := h
end
end L2
/-! An exception that a clause has caught and given to another name: it is tracked behind the suite; its fields are read, its class is asked. -/
namespace L2
open PySem PySem.Spec PyProof.Rows
/-- at a: a caught exception, by its class and its dict -/
def exk (a : Addr) (cls : Value) (d : Option Addr) : HO := .ext fun h => ∃ (oe : Obj) (vs : Array Value), h.get? a = some oe ∧ Zc cls d oe ∧ oe.data = .fields vs
section
variable {X : Cx} {pins : List (Addr × Obj)} {σ : St} {H : Hp} {s : Shared}
theorem exk_ok {P : Program} {w : World} {H : Hp} {h : Heap} {a : Addr} {cls : Value} {d : Option Addr} {oe : Obj} {vs : Array Value} (e : h.get? a = some oe) (z : Zc cls d oe) (q : oe.data = .fields vs) : ObjOk P w H h a (exk a cls d) :=
  ⟨⟨oe, vs, e, z, q⟩, ⟨oe, e⟩, fun _ _ ⟨o, v, e1, r⟩ k => ⟨o, v, k o e1, r⟩⟩
theorem exk_at {P : Program} {w : World} {h : Heap} {a : Addr} {cls : Value} {d : Option Addr} (ok : HOk P w H h) (e : H a = some (exk a cls d)) : ∃ (oe : Obj) (vs : Array Value), h.get? a = some oe ∧ Zc cls d oe ∧ oe.data = .fields vs := by
  have q : ObjOk P w H h a (.ext fun h => ∃ (oe : Obj) (vs : Array Value), h.get? a = some oe ∧ Zc cls d oe ∧ oe.data = .fields vs) := ok a _ e
  exact q.1
/-- an object that came up behind the entry, and isn't tracked, is tracked from now on -/
theorem Inv.taken {a : Addr} {o : HO} {oe : Obj} (I : Inv X pins σ H s) (ha : s.heap.get? a = some oe) (na : H a = none) (n0 : X.s_0.heap.get? a = none) (nL : a ≠ X.env.locals) (nC : ∀ v, oe.data ≠ .cell v) (nP : ∀ p ∈ X.pn ++ pins, p.1 ≠ a)
    (new : ObjOk X.prog X.w (upd H a o) s.heap a o) : Inv X pins σ (upd H a o) s := by
  have ne0 : ∀ {b : Addr} {u : Obj}, X.s_0.heap.get? b = some u → b ≠ a := fun {b u} q z => by
    rw [z, n0] at q
    cases q
  refine ⟨I.ok, I.os, I.bare, ⟨I.base.keep, I.base.slot, fun b u q n z => ?_, I.base.there, fun b xs q => ?_, fun b u v q => ?_, fun b ps q => ?_⟩, I.loc, I.cell, ?_, fun y c e => ?_, fun p hp => ?_, fun b u q => ?_, I.len⟩
  · rw [upd_ne (ne0 q)]
    exact I.base.free b u q n z
  · have z := I.base.tups b xs q
    rw [upd_ne (ne_of_none z na)]
    exact z
  · have z := I.base.frzs b u v q
    rw [upd_ne (ne_of_none z na)]
    exact z
  · obtain ⟨m, z⟩ := I.base.tbls b ps q
    exact ⟨m, by rw [upd_ne (ne_of_none z na)]; exact z⟩
  · rw [upd_ne (Ne.symm nL)]
    exact I.free
  · have n : c ≠ a := fun z => by
      obtain ⟨v, o', h1, h2⟩ := I.cell y c e
      rw [z, ha] at h1
      cases h1
      exact nC _ h2
    rw [upd_ne n]
    exact I.freeC y c e
  · obtain ⟨h1, h2, h3⟩ := I.pin p hp
    exact ⟨h1, by rw [upd_ne (nP p hp)]; exact h2, h3⟩
  · by_cases hb : b = a
    · subst hb
      rw [upd_same] at q
      cases q
      exact new
    · rw [upd_ne hb] at q
      exact (I.hok b u q).stay (fun _ _ _ r => r) (fun c r => by rw [upd_ne (ne_of_none r na)]; exact r) fun c xs r => by rw [upd_ne (ne_of_none r na)]; exact r
end
/-- what 'except x as n: suite' wishes of the body, the exception tracked behind the suite -/
def wHold (K : PySem.W.Frag) (c : Value) (i : Nat) (ts : Addr → Value → Option Addr → TS) (Wo : WX) (D : Ends) : WX := fun cls d σ H => ∃ b, PySem.W.exmOne K cls c = some b ∧
  (b = true → ∀ a, H a = none → ts a cls d ⟨fun σ' H' => D.nx (σ'.set i none) (upd H' a (exk a cls d)), D.rt, fun _ _ => False, fun _ _ => False⟩ (σ.set i (some (.ref a))) H) ∧ (b = false → Wo cls d σ H)
section
variable {X : Cx} {x n : Str} {c : Value} {i : Nat} {body rest : List Stmt} {st0 : Stmt} {np pos pos' : Pos} {tb : WX → TS} {ts : Addr → Value → Option Addr → TS} {Wo : WX}
theorem ps_try_hold (hs : X.stack = X.env :: X.outer) (hf : X.env.frame = some X.env.locals) (hex : X.ex = []) (hN : X.N.Nodup) (hi : X.N[i]? = some n) (hln : X.env.kindOf n = some .local) (hc : Names X x c) (tk : Takes X Wo)
    (hb : ∀ (W : WX) (pn : List (Addr × Obj)) (xe : Value → Shared → Prop), Takes (X.tr pn xe) W → PassesOwn (model X.prog X.w) X.A X.env xe → PSs (X.tr pn xe) body (tb W))
    (hu : ∀ (a : Addr) (oe : Obj) (cls : Value) (d : Option Addr) (pn : List (Addr × Obj)), Zc cls d oe → (∃ vs, oe.data = .fields vs) → PSs (X.suite a ((a, oe) :: pn)) (st0 :: rest) (ts a cls d)) :
    PS X (.Try body [.ExceptHandler (some (.Name x np)) (some n) (st0 :: rest) pos'] [] [] pos) (fun D σ H => tb (wHold X.K c i ts Wo D) D σ H) := by
  refine ⟨fun pins s σ H D I h => ?_⟩
  have ok := I.ok
  have frA : X.A.frames = some (X.env :: X.outer) := ok.frames.trans (congrArg some hs)
  refine wpAny_Try_except ?_
  let xe1 : Value → Shared → Prop := fun e s1 => wpAny (model X.prog X.w) X.A (noteFrame e X.env) (fun _ s2 => wpAny (model X.prog X.w) X.A (setFlight e none) (fun _ s3 =>
    wpAny (model X.prog X.w) X.A (handleBy e X.env [.ExceptHandler (some (.Name x np)) (some n) (st0 :: rest) pos']) (SP X pins D) X.xe s3) X.xe s2) X.xe s1
  have took : Takes (X.tr (X.pn ++ pins) xe1) (wHold X.K c i ts Wo D) := by
    rintro u s1 ⟨a, B, sI, pins', σ1, H1, cls, d, rfl, J0, below, up, sky, na, eos, gb, b, eb, yes, no⟩
    have J : Inv X pins σ1 H1 sI := J0.ofTry ok
    rw [show (X.tr (X.pn ++ pins) xe1).stack = X.env :: X.outer from hs] at sky
    show wpAny (model X.prog X.w) X.A (noteFrame (.ref a) X.env) _ _ _
    refine Sky.land Zc.steady frA hf sky fun h3 f3 up3 => ?_
    have J3 : Inv X pins σ1 H1 { s1 with heap := h3 } := J.landed below f3.1 (up.trans up3) eos gb
    obtain ⟨o3, v3, e3, z3, d3⟩ := f3.there
    have nfr : a ∉ frs (X.env :: X.outer) := fun hm => by
      obtain ⟨_, o', q, hno⟩ := f3.2.2.1.mem hm
      rw [e3] at q
      cases q
      exact hno _ d3
    have nL : a ≠ X.env.locals := fun z => nfr (List.mem_filterMap.mpr ⟨X.env, List.mem_cons_self, hf.trans (congrArg some z.symm)⟩)
    have nF : a ∉ X.fs := fun hm => by
      obtain ⟨en, he, q⟩ := List.mem_filterMap.mp hm
      exact nfr (List.mem_filterMap.mpr ⟨en, List.mem_cons_of_mem _ he, q⟩)
    -- it wasn't there at the entry, nor is it pinned
    have gone : ∀ {b : Addr} {o : Obj}, sI.heap.get? b = some o → b ≠ a := fun {b o} q z => by
      subst z
      have := below b o q (by rw [show (X.tr (X.pn ++ pins) xe1).stack = X.env :: X.outer from hs]; exact nfr)
      rw [f3.2.1] at this
      cases this
    have n0 : X.s_0.heap.get? a = none := by
      cases q : X.s_0.heap.get? a with
      | none => rfl
      | some o =>
        obtain ⟨o', q'⟩ := J.base.there a o q (by rw [hex]; exact fun z => nomatch z)
        exact absurd rfl (gone q')
    have nP : ∀ p ∈ X.pn ++ pins, p.1 ≠ a := fun p hp => gone (J.pin p hp).1
    have S3 := J3.suite e3 d3 na nL nF
    refine wpAny_handleBy_cons (codeAny_handlers_test ?_) (by intro q; cases q)
    have LT : PySem.W.Looks (model X.prog X.w) h3 (typeOf (.ref a)) cls := fun _ _ _ _ k q => wpAny_typeOf_ref (k _ _ e3) (by rw [z3.1]; exact q)
    have LM := PySem.W.exm_one (M := model X.prog X.w) J3.kIn LT eb
    have named : ∀ {Q E : Value → Shared → Prop}, Q c { s1 with heap := h3 } → wpAny (model X.prog X.w) (X.A.mark (some (.ref a))) (eval (.Name x np) X.env) Q E { s1 with heap := h3 } := fun {Q E} q => by
      obtain ⟨g1, g2, g3 | ⟨g3, g4, g5⟩⟩ := hc
      · exact ld_glob (X := X.suite a ((a, o3) :: (X.pn ++ pins))) S3 g1 g3 q g2
      · exact ld_blt (X := X.suite a ((a, o3) :: (X.pn ++ pins))) S3 g1 g3 g4 q g5 g2
    refine named (LM.here ?_)
    cases b with
    | true =>
      refine codeAny_handlers_suite_as (HandSPX.lands_againZ f3 fun h4 f4 up4 => ?_)
      have J4 : Inv X pins σ1 H1 { s1 with heap := h4 } := J.landed below f4.1 ((up.trans up3).trans up4) eos gb
      obtain ⟨o4, v4, e4, z4, d4⟩ := f4.there
      refine store_ok (X := X.suite a ((a, o4) :: (X.pn ++ pins))) (v := .ref a) (J4.suite e4 d4 na nL nF) hN hi (.inl hln) rfl (fun s5 S5 => ?_) (.inr hln)
      refine wpAny_mono ((hu a o4 cls d (X.pn ++ pins) z4 ⟨_, d4⟩).run [] s5 _ H1 _ S5 (yes rfl a na)) (fun fl s6 q6 => ?_) fun _ _ z => z.elim
      cases fl with
      | next =>
        obtain ⟨σ6, H6, S6, r6⟩ := q6
        refine gone_ok (X := X.suite a ((a, o4) :: (X.pn ++ pins))) S6 hN hi hln fun s7 S7 => ?_
        obtain ⟨e7, n7, _⟩ := S7.pin (a, o4) (List.mem_append_left _ List.mem_cons_self)
        exact ⟨_, _, (S7.unsuite ok).taken e7 n7 n0 nL (fun v z => by rw [d4] at z; cases z) nP (exk_ok e7 z4 d4), r6⟩
      | ret u =>
        obtain ⟨v6, σ6, H6, S6, rv, r6⟩ := q6
        exact gone_ok (S6.unsuite ok) hN hi hln fun s7 J7 => ⟨_, _, _, J7, rv, r6⟩
      | brk =>
        obtain ⟨_, _, _, r6⟩ := q6
        exact r6.elim
      | cont =>
        obtain ⟨_, _, _, r6⟩ := q6
        exact r6.elim
    | false =>
      refine wpAny_handleBy_nil ?_
      obtain ⟨_, _, _, oe, vs, T, oT, ts', he, hz, hd, h1, hr⟩ := id f3
      unfold PySem.passOn
      refine wpAny_bind (wpAny_field he hd h1 ?_)
      rw [if_neg (show ¬ ((Value.ref T == Value.none) = true) by simp)]
      have on : wpAny (model X.prog X.w) X.A (setFlight (.ref a) X.env.frame) (fun _ s4 => wpAny (model X.prog X.w) X.A (throw (.ref a) : Sem Flow) (SP X pins D) X.xe s4) X.xe { s1 with heap := h3 } := by
        rw [hf]
        refine HandSPX.setFlight_upZ f3 fun h4 g4 up4 => wpAny_throw (tk _ _ ?_)
        exact ⟨a, B, sI, pins, σ1, H1, cls, d, rfl, J, below, (up.trans up3).trans up4, .inr (.inr (by rw [hs]; exact g4)), na, eos, gb, no rfl⟩
      first
        | exact wpAny_bind (wpAny_pure (wpAny_bind on))
        | exact wpAny_bind on
  refine wpAny_mono ((hb _ (X.pn ++ pins) xe1 took PassesOwn.looking).run [] s σ H D (I.toTry _) h) (fun fl s1 q => ?_) fun _ _ z => z
  cases fl with
  | next =>
    obtain ⟨σ', H', J', r⟩ := q
    exact wpAny_execs_nil ⟨σ', H', J'.ofTry ok, r⟩
  | brk =>
    obtain ⟨σ', H', J', r⟩ := q
    exact ⟨σ', H', J'.ofTry ok, r⟩
  | cont =>
    obtain ⟨σ', H', J', r⟩ := q
    exact ⟨σ', H', J'.ofTry ok, r⟩
  | ret u =>
    obtain ⟨v, σ', H', J', rv, r⟩ := q
    exact ⟨v, σ', H', J'.ofTry ok, rv, r⟩
end
/-- what the class of a caught exception says of reading and asking it -/
structure XkC (K : PySem.W.Frag) (C : Addr) : Prop where
  ga : PySem.W.findIn K (.ref C) "__getattribute__" = some (some (.builtin "BaseException.__getattribute__"))
  gg : PySem.W.findIn K (.ref C) "__getattr__" = some none
  sub : PySem.W.subIn K (.ref C) (.type "BaseException") = some true
  hd : PySem.W.hasDictIn K C = true
  is : IsC K C
def xkB (K : PySem.W.Frag) (x : Str) : Bool :=
  He.eqO (PySem.W.findIn K (.ref (He.ga K x)) "__getattribute__") (some (some (.builtin "BaseException.__getattribute__"))) && (He.eqO (PySem.W.findIn K (.ref (He.ga K x)) "__getattr__") (some none) &&
  (decide (PySem.W.subIn K (.ref (He.ga K x)) (.type "BaseException") = some true) && (PySem.W.hasDictIn K (He.ga K x) && tyB K x)))
theorem xkB_ok {K : PySem.W.Frag} {x : Str} (h : xkB K x = true) : XkC K (He.ga K x) := by
  obtain ⟨h1, h⟩ := He.ba h
  obtain ⟨h2, h⟩ := He.ba h
  obtain ⟨h3, h⟩ := He.ba h
  obtain ⟨h4, h5⟩ := He.ba h
  exact ⟨He.eqO_ok h1, He.eqO_ok h2, of_decide_eq_true h3, h4, tyB_ok h5⟩
/-- an exception of the class at C, with these fields -/
structure ExcAt (H : Hp) (a C d : Addr) (fs : List (Str × V)) : Prop where
  at_ : H a = some (exk a (.ref C) (some d))
  dict : H d = some (.xd fs)
theorem ExcAt.ex {H H' : Hp} {a C d : Addr} {fs : List (Str × V)} (x : ExcAt H a C d fs) (e : Evl.Ex H H') : ExcAt H' a C d fs := ⟨e _ _ x.at_, e _ _ x.dict⟩
section
variable {X : Cx} {pins : List (Addr × Obj)} {σ : St} {H : Hp} {s : Shared} {a C d : Addr} {fs : List (Str × V)}
theorem ExcAt.inst (I : Inv X pins σ H s) (x : ExcAt H a C d fs) : ∃ (oe od : Obj) (mA : Str → Option Value), PySem.W.InstAt s.heap a oe C (some od) ∧ (∀ f, RelO (fs.lookup f) (mA f)) ∧ ∀ name, PySem.W.lookIn name od = some (mA name) := by
  obtain ⟨oe, vs, e1, z, e2⟩ := exk_at I.hok x.at_
  have q : ObjOk X.prog X.w H s.heap d (.xd fs) := I.hok d _ x.dict
  obtain ⟨mA, hn, r⟩ := q
  obtain ⟨od, ho, hl⟩ := lookIn_ns hn
  exact ⟨oe, od, mA, ⟨e1, z.1, by unfold PySem.W.notCls; rw [e2] <;> rfl, by rw [z.2]; exact ho⟩, r, hl⟩
/-- e.f of a caught exception -/
def tXk (K : PySem.W.Frag) (te : TE) (f : Str) : TE := fun σ H Q => te σ H fun x H1 => ∃ (a C d : Addr) (fs : List (Str × V)) (v : V), x = .ref a ∧ ExcAt H1 a C d fs ∧ XkC K C ∧ NoAttr K C f ∧ fs.lookup f = some v ∧ Q v H1
theorem pe_xk {e : Expr} {te : TE} {pos : Pos} {f : Str} (he : PE X e te) (hb : attributeBase e f X.env (eval e X.env) = eval e X.env := by rfl) : PE X (.Attribute e f pos) (tXk X.K te f) := by
  refine ⟨fun pins s σ H Q I h => ?_⟩
  refine attr_of hb (thn (he.run pins s σ H _ I h) fun u s1 ⟨x, H1, I1, rx, a, C, d, fs, v, ex, xa, T, hno, l, q⟩ => ?_)
  subst ex
  obtain rfl : u = Value.ref a := rx
  obtain ⟨oe, od, mA, J, r, hl⟩ := xa.inst I1
  obtain ⟨w', hw, rw'⟩ := RelO.some_of (v := v) (o := mA f) (by rw [← l]; exact r f)
  exact HandSPX.exc_get I1.kIn J T.ga T.gg T.sub (PySem.W.findObj_own T.hd hno rfl (by rw [hl, hw])) (handed_of rw') ⟨v, H1, I1.tok _, rw', q⟩
theorem xk_kit (I : Inv X pins σ H s) (x : ExcAt H a C d fs) (T : XkC X.K C) : ∃ P : Heap → Prop, PySem.W.KitX X.K (.ref a) (.ref C) P ∧ P s.heap := by
  obtain ⟨oe, od, mA, J, _, _⟩ := x.inst I
  obtain ⟨cd, hcd, _⟩ := PySem.W.any_some T.hd
  exact ⟨_, PySem.W.kitx_exc (by rw [hcd]; rfl) T.ga T.gg T.sub T.is.ha T.is.hn T.is.htk T.is.hm, J⟩
/-- isinstance(e, c), isinstance(e, (c1, ..)) of a caught exception -/
def rIsk (K : PySem.W.Frag) : List V → Hp → VK → Prop := fun xs H Q => ∃ (a C d : Addr) (fs : List (Str × V)) (c : V) (u : Value) (b : Bool), xs = [.ref a, c] ∧ ExcAt H a C d fs ∧ XkC K C ∧ ClsV c u ∧ PySem.W.kitOne K (.ref C) u = some b ∧ Q (.bl b) H
def rIskT (K : PySem.W.Frag) : List V → Hp → VK → Prop := fun xs H Q => ∃ (a C d tp : Addr) (fs : List (Str × V)) (cs : List V) (us : List Value) (b : Bool), xs = [.ref a, .ref tp] ∧ ExcAt H a C d fs ∧ XkC K C ∧ H tp = some (.tup cs) ∧ Paired ClsV cs us ∧
  PySem.W.kitAny K (.ref C) us = some b ∧ Q (.bl b) H
theorem call_isk : CallR X (.builtin "isinstance") (rIsk X.K) := by
  intro pins s σ H xs us Q I r h
  obtain ⟨a, C, d, fs, c, u, b, rfl, xa, T, k, e, q⟩ := h
  obtain ⟨u1, u2, rfl, r1, r2⟩ := vals2 r
  obtain rfl : u1 = Value.ref a := r1
  have e2 := k.eq r2
  subst e2
  obtain ⟨P, Z, p⟩ := xk_kit I xa T
  exact PySem.W.kia_one Z I.kIn p e (fun z => nomatch z) fun tk => ⟨.bl b, H, I.tok tk, rfl, q⟩
theorem call_iskT : CallR X (.builtin "isinstance") (rIskT X.K) := by
  intro pins s σ H xs us Q I r h
  obtain ⟨a, C, d, tp, fs, cs, ws, b, rfl, xa, T, hT, k, e, q⟩ := h
  obtain ⟨u1, u2, rfl, r1, r2⟩ := vals2 r
  obtain rfl : u1 = Value.ref a := r1
  obtain rfl : u2 = Value.ref tp := r2
  obtain ⟨P, Z, p⟩ := xk_kit I xa T
  have ot : ObjOk X.prog X.w H s.heap tp (.tup cs) := I.hok tp _ hT
  obtain ⟨_, its, rv, o, h1, h2, n, h3⟩ := ot
  have e3 := ClsV.all k rv
  subst e3
  obtain ⟨oc, od, dt, sl⟩ := o
  simp only at h2 h3
  subst h2 h3
  exact PySem.W.kia_tup Z I.kIn p h1 e (fun z => nomatch z) fun tk => ⟨.bl b, H, I.tok tk, rfl, q⟩
end
/-! R.__init__(self, ..), R an own class over ValueError that has no __init__ -/
structure BaseC (K : PySem.W.Frag) (R : Addr) : Prop where
  rd : PySem.W.readsIn K R (.type "type") = true
  ga : PySem.W.specialIn K (.ref R) "__getattribute__" = some (some (.builtin "type.__getattribute__"))
  at_ : PySem.W.findCls K (.ref R) (.type "type") "__init__" = some (.val (.builtin "ValueError.__init__"))
def baseB (K : PySem.W.Frag) (x : Str) : Bool := PySem.W.readsIn K (He.ga K x) (.type "type") && (He.eqO (PySem.W.specialIn K (.ref (He.ga K x)) "__getattribute__") (some (some (.builtin "type.__getattribute__"))) &&
  (match PySem.W.findCls K (.ref (He.ga K x)) (.type "type") "__init__" with
    | some (.val (.builtin m)) => decide (m = "ValueError.__init__")
    | _ => false))
theorem baseB_ok {K : PySem.W.Frag} {x : Str} (h : baseB K x = true) : BaseC K (He.ga K x) := by
  obtain ⟨h1, h⟩ := He.ba h
  obtain ⟨h2, h3⟩ := He.ba h
  refine ⟨h1, He.eqO_ok h2, ?_⟩
  split at h3
  · rename_i m q
    rw [q, of_decide_eq_true h3]
  · cases h3
section
variable {X : Cx} {e : Expr} {es : List Expr} {ta : TA} {p1 p2 pos : Pos} {R : Addr} {x : Str}
theorem pe_baseinit {pl : Sem Bool} (hg : Gl X x) (hm : X.mg x = some (.ref R)) (B : BaseC X.K R) (ha : PA X (e :: es) ta)
    (hc : eval (.Call (.Attribute (.Name x p1) "__init__" p2) (e :: es) [] pos) X.env = (do
      let ov ← eval (.Name x p1) X.env
      standAt p2.atName
      let (f, first) ← holding [ov] (getMethod ov "__init__" pl)
      callWith pos f first (backTo pos (starEach (e :: es) X.env)) (backToKw pos (keywordEach [] X.env))) := by rfl)
    (hd : (x == ("__debug__" : Str)) = false := by decide) (he : starEach (e :: es) X.env = (false, eval e X.env) :: starEach es X.env := by rfl) (hpl : (backTo pos (starEach es X.env)).any (·.1) = false := by rfl) :
    PE X (.Call (.Attribute (.Name x p1) "__init__" p2) (e :: es) [] pos) (tVeI X.K ta) := by
  refine ⟨fun pins s σ H Q I h => ?_⟩
  refine PySem.W.methodCall_KW (ld_glob I hg hm ?_ hd) hc
  refine PySem.W.method_cls I.kIn B.ga (PySem.W.cls_value I.kIn B.rd B.at_ (by decide +kernel) ?_)
  show wpAny _ _ (callWith pos (Value.builtin "ValueError.__init__") [] (backTo pos (starEach (e :: es) X.env)) []) _ _ _
  refine PyProof.Rows.callWith_method1 (thn (ha.run pos pins _ σ H _ (I.tok _) h) fun us s1 ⟨vs, H1, I1, r1, a, C, ws, ev, hl, T, ea, q⟩ => ?_) he hpl
  subst ev
  cases r1 with
  | @cons _ u0 _ ur r0 rr =>
    obtain rfl : u0 = Value.ref a := r0
    have hz : ur.length ≤ sizeLine := by
      rw [← Paired.length rr, sizeLine_eq]
      omega
    exact oinit_ok T I1 ea hz fun s' J => ⟨.non, H1, J, rfl, q⟩
end
end L2
/-! constants of the module; what an own exception class must say to be made -/
namespace L2
open PySem PySem.Spec PyProof.Rows
section
variable {X : Cx} {x : Str} {pos : Pos}
theorem pe_gi {i : Int} (hg : Gl X x) (h : ∃ t, X.mg x = some (.int i t)) (hd : (x == ("__debug__" : Str)) = false := by decide) : PE X (.Name x pos) (tC (.int i)) := by
  obtain ⟨t, h⟩ := h
  exact pe_glob hg h ⟨t, rfl⟩ hd
theorem pe_gs {z : Str} (hg : Gl X x) (h : ∃ t, X.mg x = some (.str z t)) (hd : (x == ("__debug__" : Str)) = false := by decide) : PE X (.Name x pos) (tC (.str z)) := by
  obtain ⟨t, h⟩ := h
  exact pe_glob hg h ⟨t, rfl⟩ hd
end
def oexL (K : PySem.W.Frag) (C : Addr) : Bool := match K.lookup C with
  | some ⟨.type "type", _, .cls cd, sl⟩ => (match cd.mro, sl.toList with
    | .ref B :: bm, [_, _, _, _, some (.builtin n), _] => decide (B = C) && (decide (n = "ValueError.__new__") && (!cd.hasDel && (cd.hasDict && PySem.HandSPX.refsVE bm)))
    | _, _ => false)
  | _ => false
theorem oexL_ok {K : PySem.W.Frag} {C : Addr} (h : oexL K C = true) : ∃ nm q N bs bm sn sub ab col dd k0 k1 k2 k3 k5, K.lookup C = some (excClassObj nm q C N bs bm true sn sub ab col dd k0 k1 k2 k3 k5 "ValueError.__new__") ∧ PySem.HandSPX.refsVE bm = true := by
  unfold oexL at h
  split at h
  · rename_i dd cd sl ho
    split at h
    · rename_i B bm k0 k1 k2 k3 n k5 hm hs
      obtain ⟨h1, h⟩ := He.ba h
      obtain ⟨h2, h⟩ := He.ba h
      obtain ⟨h3, h⟩ := He.ba h
      obtain ⟨h4, h5⟩ := He.ba h
      have e1 := of_decide_eq_true h1
      have e2 := of_decide_eq_true h2
      subst e1 e2
      obtain ⟨nm, bs, mro, ns, qn, hd, sn, sub, ab, col, del⟩ := cd
      have e3 : del = false := by
        cases del with
        | false => rfl
        | true => cases h3
      have e4 : hd = true := h4
      have e5 : mro = .ref B :: bm := hm
      subst e3 e4 e5
      have e6 : sl = #[k0, k1, k2, k3, some (.builtin "ValueError.__new__"), k5] := by
        obtain ⟨l⟩ := sl
        simp only at hs
        rw [hs]
      subst e6
      exact ⟨nm, qn, ns, bs, bm, sn, sub, ab, col, dd, k0, k1, k2, k3, k5, ho, h5⟩
    · cases h
  · cases h
def oexB (K : PySem.W.Frag) (x : Str) : Bool := oexL K (He.ga K x) && (He.eqO (PySem.W.findIn K (.ref (He.ga K x)) "__setattr__") (some (some (.builtin "object.__setattr__"))) &&
  (decide (PySem.W.subIn K (.ref (He.ga K x)) (.type "BaseException") = some true) && (decide (PySem.W.typeIn K (.ref (He.ga K x)) = some (.type "type")) && PySem.W.keepIn K (.ref (He.ga K x)))))
theorem oexB_ok {K : PySem.W.Frag} {x : Str} (h : oexB K x = true) : OexC K (He.ga K x) := by
  obtain ⟨h1, h⟩ := He.ba h
  obtain ⟨h2, h⟩ := He.ba h
  obtain ⟨h3, h⟩ := He.ba h
  obtain ⟨h4, h5⟩ := He.ba h
  exact ⟨oexL_ok h1, He.eqO_ok h2, of_decide_eq_true h3, of_decide_eq_true h4, h5⟩
/-- an exception's class asked of others -/
def kitsB (K : PySem.W.Frag) (x : Str) (ys : List (Str × Bool)) : Bool := ys.all fun y => decide (PySem.W.kitOne K (.ref (He.ga K x)) (.ref (He.ga K y.1)) = some y.2)
theorem kitsB_ok {K : PySem.W.Frag} {x : Str} {ys : List (Str × Bool)} (h : kitsB K x ys = true) {y : Str} {b : Bool} (m : (y, b) ∈ ys) : PySem.W.kitOne K (.ref (He.ga K x)) (.ref (He.ga K y)) = some b :=
  of_decide_eq_true (List.all_eq_true.mp h (y, b) m)
/-- the own __init__ of such a class: R.__init__(self, text); self.f = value -/
def sp_exi (C : Addr) (f : Str) : Sp := fun vs H Q _ => ∃ (a : Addr) (v : V), vs = [.ref a, v] ∧ H a = some (exo a C none) ∧ ∀ dx, H dx = none → dx ≠ a → Q .non (upd (upd H dx (exd dx [(f, v)])) a (exo a C (some dx)))
section
variable {X : Cx} {C : Addr} {f : Str}
/-- what raise C(e) asks, by that __init__ -/
theorem mk_exi {σ : St} {H : Hp} {Q : XK} {ta : TA} {v : V} (h : Evl.EvA ta σ H [v]) (k : ∀ H1 d, Evl.Ex H H1 → H1 d = none → Q (.ref C) (some d) (upd H1 d (.xd [(f, v)]))) : tMkO C (sp_exi C f) [] ta σ H Q :=
  h H (Evl.Ex.refl _) _ fun H1 e1 => ⟨by show 1 ≤ 1000; decide, fun a ha => by
    refine ⟨a, v, rfl, upd_same, fun dx hdx ne => ⟨rfl, dx, [(f, v)], upd_same, ?_, ?_, ?_⟩⟩
    · rw [upd_ne ne, upd_same]
    · rw [upd_ne ne] at hdx
      exact hdx
    · have hd1 : H1 dx = none := by
        rw [upd_ne ne] at hdx
        exact hdx
      have e : upd (del (upd (upd (upd H1 a (exo a C none)) dx (exd dx [(f, v)])) a (exo a C (some dx))) a) dx (.xd [(f, v)]) = upd H1 dx (.xd [(f, v)]) := by
        funext b
        by_cases hb : b = dx
        · rw [hb, upd_same, upd_same]
        · rw [upd_ne hb, upd_ne hb]
          by_cases hba : b = a
          · rw [hba, del_same, ha]
          · rw [del_ne hba, upd_ne hba, upd_ne hb, upd_ne hba]
      rw [e]
      exact k H1 dx e1 hd1⟩
end
end L2
/-! for i, c in enumerate(text); text * n. -/
namespace L2
open PySem PySem.Spec PyProof.Rows
/-- a text's signs, each with its number in a new pair -/
def Itse (z : Str) : It := ⟨fun i _ => i < z.cps.size, fun i H v H' => ∃ (T : Addr) (c : Nat), v = .ref T ∧ H T = none ∧ H' = upd H T (.tup [.int (i : Nat), .str ⟨#[c]⟩]) ∧ z.cps[i]? = some c, fun i _ => i = z.cps.size⟩
theorem draws_str {prog : Program} {w : World} {A : Around} (hh : A.handled = none) (it : Addr) (z : Str) (t : Tok) :
    Draws prog w A it [it] z.cps.size (fun i v => ∃ c u, z.cps[i]? = some c ∧ v = .str ⟨#[c]⟩ u) (fun i h => h.IsStrIter it (strIterType z) z t i) := by
  unfold strIterType
  by_cases ha : z.cps.all (· < 128) = true
  · rw [if_pos ha]
    exact Draws.strAscii hh it z t
  · rw [if_neg ha]
    exact Draws.strWide hh it z t
theorem turn_enumS {P : Program} {w : World} {K : PySem.W.Frag} {elts : List Expr} {kk : Nat} {tpos : Pos} (z : Str) (t : Tok) (e it : Addr) :
    Turn P w K (.Tuple elts kk tpos) (Itse z) [e, it] e (fun i h => (∃ old, IsEnum h e it ((i : Nat) : Int) old) ∧ h.IsStrIter it (strIterType z) z t i ∧ e ≠ it) where
  mem := by simp
  obj := fun i h st b hb => by
    obtain ⟨⟨old, he⟩, ⟨o, ho, hc, hd⟩, _⟩ := st
    have bb : b = e ∨ b = it := by simpa using hb
    rcases bb with q | q
    · subst q
      exact ⟨_, he, fun v y => nomatch y⟩
    · subst q
      exact ⟨o, ho, fun v y => by rw [hd] at y; cases y⟩
  keep := fun i h h' st k => by
    obtain ⟨⟨old, he⟩, ⟨o, ho, r⟩, ne⟩ := st
    exact ⟨⟨old, k e (by simp) _ he⟩, ⟨o, k it (by simp) _ ho, r⟩, ne⟩
  item := by
    intro X hP hw hK hc i pins s σ H E I hf st hg
    subst hP hw hK
    obtain ⟨⟨old, he⟩, hit, ne⟩ := st
    have le : e < s.heap.objs.size := Heap.lt_size he
    have li : it < s.heap.objs.size := by
      obtain ⟨_, q, _⟩ := hit
      exact Heap.lt_size q
    refine wpAny_pyNext_enum_itemD (draws_str (A := X.A.in1) (I.ok.hd hc) it z t) he hit hg ne (by simpa using ne) fun x h' tk px ho st' hT hz hk => ?_
    obtain ⟨c, u, ec, rfl⟩ := px
    refine ⟨_, rfl, wpAny_letOwnedTupleGo_enum (s := { s with heap := h', toks := tk + 1 }) ho fun h'' he' sb => ?_⟩
    have hT2 : h''.get? s.heap.objs.size = some { cls := .type "tuple", data := .seq #[.int i tk, .str ⟨#[c]⟩ u] } := (sb.2 _ (Nat.ne_of_gt le)).trans hT
    have new : ObjOk X.prog X.w (upd H s.heap.objs.size (.tup [.int (i : Nat), .str ⟨#[c]⟩])) h'' s.heap.objs.size (.tup [.int (i : Nat), .str ⟨#[c]⟩]) :=
      ⟨by show 2 ≤ sizeLine; decide, [.int i tk, .str ⟨#[c]⟩ u], .cons ⟨_, rfl⟩ (.cons ⟨_, rfl⟩ .nil), ⟨_, hT2, rfl, _, rfl⟩⟩
    have J : Inv X pins σ (upd H s.heap.objs.size (.tup [.int (i : Nat), .str ⟨#[c]⟩])) { s with heap := h'', toks := tk + 1 } :=
      I.turnedNew (ch := [e, it]) (fun b ob hb q => (sb.2 b (fun y => hb (by simp [y]))).trans (hk b ob (fun y => hb (by simp [y])) (fun y => hb (by simp [y])) q)) hf (Nat.le_refl _) new
    refine ⟨.ref s.heap.objs.size, _, J, rfl, ⟨_, c, rfl, I.hok.fresh (Nat.le_refl _), rfl, ec⟩, ⟨⟨.str ⟨#[c]⟩ u, ?_⟩, ?_, ne⟩, fun b hb => ?_⟩
    · have e1 : ((i + 1 : Nat) : Int) = (i : Int) + 1 := by omega
      rw [e1]
      exact he'
    · obtain ⟨o, q, r⟩ := st'
      exact ⟨o, (sb.2 it (Ne.symm ne)).trans q, r⟩
    · have lb : b < s.heap.objs.size := by
        have bb : b = e ∨ b = it := by simpa using hb
        rcases bb with q | q
        · rw [q]
          exact le
        · rw [q]
          exact li
      rw [upd_ne (Nat.ne_of_lt lb)]
      exact (hf b hb).1
  done := by
    intro X hP hw hK hc i pins s σ H E I hf st hg
    subst hP hw hK
    obtain ⟨⟨old, he⟩, hit, ne⟩ := st
    obtain ⟨f0, f1, f2, f3, f4, f5⟩ := hf it (by simp)
    have q : i = z.cps.size := hg
    subst q
    exact wpAny_pyNext_enum_endD (draws_str (A := X.A.in1) (I.ok.hd hc) it z t) he hit fun h' eb => ⟨rfl, I.turned (t' := s.toks) (fun b o hb y => eb b o hb y) f0 f1 f3 f4 f5⟩
  self := fun A i s Q E st h => by
    obtain ⟨⟨_, he⟩, _⟩ := st
    exact wpAny_pyIter_enum he h
def iEnumS (ta : TA) : TI := fun σ H R => ta σ H fun vs H1 => ∃ z : Str, vs = [.str z] ∧ R (Itse z) H1
theorem pi_enumS {X : Cx} {e : Expr} {ta : TA} {p pos tpos : Pos} {elts : List Expr} {kk : Nat} (hg : Gl X "enumerate") (hm : X.mg "enumerate" = none) (ha : PA X [e] ta) (hs : starEach [e] X.env = [(false, eval e X.env)] := by rfl) :
    PI X (.Tuple elts kk tpos) (.Call (.Name "enumerate" p) [e] [] pos) (iEnumS ta) := by
  refine ⟨fun pins s σ H R I h => ?_⟩
  refine Call_ (ld_blt I hg hm boot_enumerate (PyProof.Rows.callWith_type1 (thn (ha.run pos pins s σ H _ I h) fun us s1 ⟨vs, H1, I1, r1, z, ez, q⟩ => ?_) hs rfl))
  subst ez
  obtain ⟨u, rfl, t, rfl⟩ := vals1 r1
  refine call_enumerate_str fun h' he hit hsz hk => wpAny_pyIter_enum he ?_
  have J : Inv X pins σ H1 { s1 with heap := h' } := I1.kept (t' := s1.toks) hk
  refine ⟨s1.heap.objs.size + 1, [s1.heap.objs.size + 1, s1.heap.objs.size], _, _, H1, rfl, J, turn_enumS z t (s1.heap.objs.size + 1) s1.heap.objs.size, ⟨⟨.none, he⟩, hit, Nat.succ_ne_self _⟩, fun b hb => ?_, q⟩
  have bb : b = s1.heap.objs.size + 1 ∨ b = s1.heap.objs.size := by simpa using hb
  have lb : s1.heap.objs.size ≤ b := by
    rcases bb with q | q
    · rw [q]
      exact Nat.le_add_right _ _
    · rw [q]
      exact Nat.le_refl _
  exact I1.fpOk lb (I1.hok.fresh lb)
/-- the loop: Pv i holds ahead of the i-th sign -/
theorem for_enumS {z : Str} {g : TG} {tb : TS} {D : Ends} {σ : St} {H : Hp} (Pv : Nat → St → Hp → Prop) (h0 : Pv 0 σ H)
    (hs : ∀ i c σ H T, z.cps[i]? = some c → Pv i σ H → H T = none → g (.ref T) σ (upd H T (.tup [.int (i : Nat), .str ⟨#[c]⟩])) fun σ2 H2 => tb { D with nx := Pv (i + 1), ct := Pv (i + 1), bk := D.nx } σ2 H2) (hd : ∀ σ H, Pv z.cps.size σ H → D.nx σ H) :
    ∃ W : Nat → Nat → St → Hp → Prop, (∃ m, W 0 m σ H) ∧ ∀ i m σ H, W i m σ H →
      ((Itse z).stop i H ∧ D.nx σ H) ∨ ((Itse z).go i H ∧ ∃ N : St → Hp → Prop, (∀ σ' H', N σ' H' → ∃ m', m' < m ∧ W (i + 1) m' σ' H') ∧ ∀ x H', (Itse z).yld i H x H' → g x σ H' fun σ2 H2 => tb { D with nx := N, ct := N, bk := D.nx } σ2 H2) := by
  refine ⟨fun i m σ H => m = z.cps.size - i ∧ i ≤ z.cps.size ∧ Pv i σ H, ⟨z.cps.size, by simp, Nat.zero_le _, h0⟩, ?_⟩
  rintro i m σ H ⟨rfl, hi, p⟩
  by_cases lt : i < z.cps.size
  · refine .inr ⟨lt, Pv (i + 1), fun σ' H' p' => ⟨z.cps.size - (i + 1), by omega, rfl, lt, p'⟩, fun x H' y => ?_⟩
    obtain ⟨T, c, rfl, hT, rfl, ec⟩ := y
    exact hs i c σ H T ec p hT
  · have e : i = z.cps.size := by omega
    subst e
    exact .inl ⟨rfl, hd σ H p⟩
/-- text * n, n small -/
def rMulS : R2 := fun x y H Q => ∃ (z : Str) (n : Nat), x = .str z ∧ y = .int (n : Int) ∧ z.length ≤ 1000 ∧ n ≤ 1000 ∧ Q (.str ⟨(List.replicate n z.cps.toList).flatten.toArray⟩) H
theorem rep_fold (n : Nat) (a : Array Nat) (b : Array Nat) : ((List.replicate n a).foldl (· ++ ·) b).toList = b.toList ++ (List.replicate n a.toList).flatten := by
  induction n generalizing b with
  | zero => simp
  | succ n ih =>
    rw [List.replicate_succ, List.foldl_cons, ih, List.replicate_succ, List.flatten_cons]
    simp
theorem op_mulS {X : Cx} : OpR X (binaryOp .Mult) rMulS := by
  intro pins s σ H x y v u Q I rx ry h
  obtain ⟨z, n, rfl, rfl, hz, hn, q⟩ := h
  obtain ⟨t, rfl⟩ := rx
  obtain ⟨t', rfl⟩ := ry
  have zl : z.length = z.cps.size := rfl
  have big : z.length * n ≤ 1000 * 1000 := Nat.mul_le_mul hz hn
  refine PySem.P.mul_str (by rw [decide_eq_false (by omega), decide_eq_false (by omega)]; rfl) (fun h1 _ h2 => ?_) (fun h1 _ => ?_) ?_
  · have h3 : (n : Int) * ((2 ^ 63 - 1) / (n : Int)) > 2 ^ 63 - 1 - (n : Int) := by
      have := Int.lt_ediv_add_one_mul_self (2 ^ 63 - 1) (show (0 : Int) < n by omega)
      have e := Int.mul_comm ((2 ^ 63 - 1) / (n : Int)) n
      have e2 : ((2 ^ 63 - 1) / (n : Int) + 1) * (n : Int) = (2 ^ 63 - 1) / (n : Int) * n + n := by rw [Int.add_mul, Int.one_mul]
      omega
    have h4 : (n : Int) * ((2 ^ 63 - 1) / (n : Int)) ≤ (n : Int) * (z.length : Int) := Int.mul_le_mul_of_nonneg_left (by omega) (by omega)
    have h5 : (n : Int) * (z.length : Int) = ((z.length * n : Nat) : Int) := by rw [Int.natCast_mul, Int.mul_comm]
    omega
  · rw [Int.toNat_natCast]
    unfold PySem.Builtin.Str.tooLong
    exact decide_eq_false (by rw [sizeLine_eq]; omega)
  · by_cases h1 : (n : Int) < 1
    · rw [if_pos h1]
      have n0 : n = 0 := by omega
      subst n0
      exact ⟨by decide, ⟨.str _, H, I.tok _, ⟨_, rfl⟩, q⟩⟩
    · rw [if_neg h1]
      by_cases h2 : ((n : Int) == 1 || z.length == 0) = true
      · rw [if_pos h2]
        have e : (⟨(List.replicate n z.cps.toList).flatten.toArray⟩ : Str) = z := by
          rw [Bool.or_eq_true, beq_iff_eq, beq_iff_eq] at h2
          rcases h2 with h2 | h2
          · have : n = 1 := by omega
            subst this
            simp
          · have : z.cps = #[] := Array.eq_empty_of_size_eq_zero h2
            obtain ⟨cps⟩ := z
            dsimp only at this
            subst this
            simp
        rw [e] at q
        exact ⟨.str z, H, I, ⟨_, rfl⟩, q⟩
      · rw [if_neg h2]
        have e : (⟨(List.replicate (n : Int).toNat z.cps).foldl (· ++ ·) #[]⟩ : Str) = ⟨(List.replicate n z.cps.toList).flatten.toArray⟩ := by
          rw [Int.toNat_natCast]
          congr 1
          apply Array.ext'
          rw [rep_fold]
          simp
        rw [e]
        refine ⟨?_, ⟨.str _, H, I.tok _, ⟨_, rfl⟩, q⟩⟩
        show ((List.replicate n z.cps.toList).flatten.toArray).size ≤ sizeLine
        rw [List.size_toArray, List.length_flatten, List.map_replicate, List.sum_replicate_nat, sizeLine_eq]
        have zz : z.cps.toList.length = z.length := by simp [Str.length]
        rw [zz, Nat.mul_comm]
        omega
end L2
namespace L2
open PySem PySem.Spec PyProof.Rows _root_.Evl
section
variable {σ : L2.St} {H : Hp} {t u : TT} {b : Bool}
theorem et_and0 (h : EvT t σ H false) : EvT (tAnd t u) σ H false := fun H1 e Q q => h H1 e _ fun H2 e2 => iteF (q H2 e2)
theorem et_and1 (h : EvT t σ H true) (h2 : EvT u σ H b) : EvT (tAnd t u) σ H b := fun H1 e Q q => h H1 e _ fun H2 e2 => iteT (h2 H2 (e.trans e2) Q fun H3 e3 => q H3 (e2.trans e3))
theorem et_or1 (h : EvT t σ H true) : EvT (tOr t u) σ H true := fun H1 e Q q => h H1 e _ fun H2 e2 => iteT (q H2 e2)
theorem et_or0 (h : EvT t σ H false) (h2 : EvT u σ H b) : EvT (tOr t u) σ H b := fun H1 e Q q => h H1 e _ fun H2 e2 => iteF (h2 H2 (e.trans e2) Q fun H3 e3 => q H3 (e2.trans e3))
theorem q_forE {te : TE} {g : TG} {tu tz : TS} {D : Ends} {z : Str} (h : Ev te σ H (.str z)) (Pv : Nat → St → Hp → Prop) (h0 : ∀ H1, Ex H H1 → Pv 0 σ H1)
    (hs : ∀ i c σ' H' T, z.cps[i]? = some c → Pv i σ' H' → H' T = none → g (.ref T) σ' (upd H' T (.tup [.int (i : Nat), .str ⟨#[c]⟩])) fun σ2 H2 => tu { D with nx := Pv (i + 1), ct := Pv (i + 1), bk := tz D } σ2 H2) (hd : ∀ σ' H', Pv z.cps.size σ' H' → tz D σ' H') :
    tSeq (tFor (iEnumS (tCons te tNil)) g tu) tz D σ H := h H (Ex.refl _) _ fun H1 e1 => ⟨z, rfl, for_enumS (D := { D with nx := tz D }) Pv (h0 H1 e1) hs hd⟩
theorem q_two {K : PySem.W.Frag} {tA : TA} {i j : Nat} {tz : TS} {D : Ends} {v w : V} (h : EvA tA σ H [v, w]) (k : ∀ H1, Ex H H1 → tz D ((σ.set i (some v)).set j (some w)) H1) : tSeq (tAsg (tTup tA) (gTup K 2 (gCons (gName i) (gCons (gName j) gNil)))) tz D σ H :=
  h H (Ex.refl _) _ fun H1 e1 => ⟨by show 2 ≤ sizeLine; decide, fun p hp => ⟨p, _, rfl, st_of upd_same, rfl, _, _, rfl, _, _, rfl, rfl, k _ (e1.trans (Ex.new hp))⟩⟩
end
end L2
/-! for c in text; list.count of truths; comprehensions over zip and over rows. -/
namespace L2
open PySem PySem.Spec PyProof.Rows _root_.Evl
/-- for c in text, something behind -/
theorem q_forS {σ : L2.St} {H : Hp} {te : TE} {j : Nat} {tu tz : TS} {D : Ends} {z : Str} (h : Ev te σ H (.str z)) (Pv : Nat → St → Hp → Prop) (h0 : ∀ H1, Ex H H1 → Pv 0 σ H1)
    (hs : ∀ i c σ' H', z.cps[i]? = some c → Pv i σ' H' → tu { D with nx := Pv (i + 1), ct := Pv (i + 1), bk := tz D } (σ'.set j (some (.str ⟨#[c]⟩))) H') (hd : ∀ σ' H', Pv z.cps.size σ' H' → tz D σ' H') :
    tSeq (tFor (iStr te) (gName j) tu) tz D σ H := h H (Ex.refl _) _ fun H1 e1 => ⟨z, rfl, fun i m σ' H' => m = z.cps.size - i ∧ i ≤ z.cps.size ∧ Pv i σ' H', ⟨z.cps.size, by simp, Nat.zero_le _, h0 H1 e1⟩, by
      rintro i m σ' H' ⟨rfl, hi, p⟩
      by_cases lt : i < z.cps.size
      · refine .inr ⟨lt, Pv (i + 1), fun σ2 H2 p2 => ⟨z.cps.size - (i + 1), by omega, rfl, lt, p2⟩, fun x H2 y => ?_⟩
        obtain ⟨rfl, c, hc, rfl⟩ := y
        exact hs i c σ' _ hc p
      · have e : i = z.cps.size := by omega
        subst e
        exact .inl ⟨Nat.le_refl _, hd σ' H' p⟩⟩
/-- list.count of a truth, of truths -/
def rCntB (K : PySem.W.Frag) : V → List V → Hp → VK → Prop := fun x xs H Q => ∃ (p : Addr) (bs : List Bool) (k : Bool), x = .ref p ∧ xs = [.bl k] ∧ SqL K H p (bs.map V.bl) ∧ Q (.int (bs.count k : Nat)) H
theorem bools_vals : ∀ {bs : List Bool} {us : List Value}, Vals (bs.map V.bl) us → us = bs.map Value.bool
  | [], _, .nil => rfl
  | b :: r, _, .cons h t => by
    rw [bools_vals t]
    cases h
    rfl
theorem bools_reads (hp : Heap) : ∀ bs : List Bool, ∃ as, ReadsAll hp (bs.map Value.bool) (bs.map PyData.bool) as
  | [] => ⟨_, .nil⟩
  | b :: r => by
    obtain ⟨as, h⟩ := bools_reads hp r
    exact ⟨_, .cons (.bool b) h⟩
theorem bools_count (k : Bool) : ∀ bs : List Bool, countIn (.bool k) (bs.map PyData.bool) = ((bs.count k : Nat) : Int)
  | [] => rfl
  | b :: r => by
    rw [List.map_cons, countIn, bools_count k r, List.count_cons]
    cases b <;> cases k <;> simp [same] <;> omega
theorem mt_lcountB {X : Cx} : MtR X "list.count" (rCntB X.K) := by
  intro pins s σ H x xs v us Q I rx rxs h
  obtain ⟨p, bs, k, rfl, rfl, hs, q⟩ := h
  cases rx
  obtain ⟨u, rfl, ru⟩ := rxs.one
  cases ru
  obtain ⟨its, rv, ⟨⟨cls, dd, data, sl⟩, n, ho, hc, hdn, hd⟩, hlen⟩ := I.list hs
  simp only at hc hd
  have e := bools_vals rv
  obtain ⟨as, ra⟩ := bools_reads s.heap bs
  rw [← e] at ra
  refine count_list_bools (hp := s.heap) ⟨_, ho, hc, n, hd⟩ ra (by
    rw [List.all_eq_true]
    intro d hd
    obtain ⟨b, _, rfl⟩ := List.mem_map.mp hd
    rfl) ?_
  rw [bools_count]
  exact ⟨.int _, H, I.tok _, ⟨_, rfl⟩, q⟩
/-- what a comprehension that yields pairs wants of its iterator -/
theorem lc_pairs {K : PySem.W.Frag} {σ : L2.St} {H : Hp} {te : TE} {Q : VK} {J : It} {xs ys : List V} {j l : Nat} {vs : List Nat} (v : Nat → V) (hl : xs.length ≤ 1000)
    (hgo : ∀ i H', Ex H H' → i < xs.length → J.go i H') (hstop : ∀ H', Ex H H' → J.stop xs.length H')
    (hy : ∀ i x H' H'', Ex H H' → J.yld i H' x H'' → ∃ T a b, x = .ref T ∧ H' T = none ∧ H'' = upd H' T (.tup [a, b]) ∧ xs[i]? = some a ∧ ys[i]? = some b)
    (hw : ∀ x y, wipe (((wipe σ vs).set j (some x)).set l (some y)) vs = wipe σ vs)
    (he : ∀ (i : Nat) (x y : V) H1, Ex H H1 → xs[i]? = some x → ys[i]? = some y → Ev te (((wipe σ vs).set j (some x)).set l (some y)) H1 (v i))
    (k : ∀ p H1, H p = none → Ex H H1 → H1 p = some (.lst ((List.range xs.length).map v)) → Q (.ref p) H1) :
    tLc (fun _ H1 R => R J H1) (gTup K 2 (gCons (gName j) (gCons (gName l) gNil))) tYes te vs σ H Q := by
  intro D hD
  refine ⟨fun i m H' => m = xs.length - i ∧ i ≤ xs.length ∧ Ex H H' ∧ H' D = some (.lst ((List.range i).map v)), ⟨xs.length, rfl, Nat.zero_le _, Ex.new hD, upd_same⟩, ?_⟩
  rintro i m H' ⟨rfl, hi, e, h⟩
  by_cases lt : i < xs.length
  · refine .inr ⟨hgo i H' e lt, fun H2 => Ex H H2 ∧ H2 D = some (.lst ((List.range (i + 1)).map v)), fun H2 ⟨e2, h2⟩ => ⟨xs.length - (i + 1), by omega, rfl, lt, e2, h2⟩, fun x H2 y => ?_⟩
    obtain ⟨T, a, b, rfl, hT, rfl, hx, hyb⟩ := hy i x H' H2 e y
    refine ⟨T, _, rfl, st_of upd_same, rfl, _, _, rfl, _, _, rfl, rfl, hw a b, ?_⟩
    refine he i a b _ (e.trans (Ex.new hT)) hx hyb _ (Ex.refl _) _ fun H3 e3 => ?_
    have e03 : Ex H' H3 := (Ex.new hT).trans e3
    refine ⟨_, e03 _ _ h, ?_, ?_, ?_⟩
    · rw [List.length_map, List.length_range, sizeLine_eq]
      omega
    · exact Ex.mut (e.trans e03) hD
    · rw [upd_same, List.range_succ, List.map_append]
      rfl
  · have e2 : i = xs.length := by omega
    subst e2
    exact .inl ⟨hstop H' e, k D H' hD e h⟩
theorem el_lcZ {K : PySem.W.Frag} {σ : L2.St} {H : Hp} {ta tb te : TE} {a b : Addr} {xs ys : List V} {j l : Nat} {vs : List Nat} (v : Nat → V) (ha : Ev ta σ H (.ref a)) (hb : Ev tb σ H (.ref b)) (hxy : (SqL K H a xs ∧ SqL K H b ys) ∨ (SqT K H a xs ∧ SqT K H b ys)) (hl : xs.length ≤ 1000) (hll : xs.length = ys.length)
    (hw : ∀ x y, wipe (((wipe σ vs).set j (some x)).set l (some y)) vs = wipe σ vs)
    (he : ∀ (i : Nat) (x y : V) H1, Ex H H1 → xs[i]? = some x → ys[i]? = some y → Ev te (((wipe σ vs).set j (some x)).set l (some y)) H1 (v i)) :
    EvL (tLc (RZ.iZipA K (tCons ta (tCons tb tNil))) (gTup K 2 (gCons (gName j) (gCons (gName l) gNil))) tYes te vs) σ H ((List.range xs.length).map v) := fun H0 e Q q =>
  ha H0 e _ fun H1 e1 => hb H1 (e.trans e1) _ fun H2 e2 => by
    have eA : Ex H H2 := (e.trans e1).trans e2
    have lt2 : ∀ {i : Nat}, i < xs.length → ys[i]? = some (ys.getD i .non) := fun {i} hi => by
      rw [List.getD_eq_getElem?_getD, List.getElem?_eq_getElem (by omega)]
      rfl
    have lt1 : ∀ {i : Nat}, i < xs.length → xs[i]? = some (xs.getD i .non) := fun {i} hi => by
      rw [List.getD_eq_getElem?_getD, List.getElem?_eq_getElem hi]
      rfl
    rcases hxy with ⟨hx, hy⟩ | ⟨hx, hy⟩
    · refine ⟨a, b, xs, ys, rfl, .inl ⟨ex_l eA hx, ex_l eA hy, ?_⟩⟩
      exact lc_pairs (K := K) (H := H2) (J := Itz K a b) (xs := xs) (ys := ys) v hl (fun i H' e' hi => ⟨xs, ys, _, _, ex_l (eA.trans e') hx, ex_l (eA.trans e') hy, lt1 hi, lt2 hi⟩) (fun H' e' => ⟨xs, ys, ex_l (eA.trans e') hx, ex_l (eA.trans e') hy, .inl (Nat.le_refl _)⟩)
        (fun i x H' H'' e' y => by
          obtain ⟨T, x', y', rfl, hT, rfl, f1, f2⟩ := y
          exact ⟨T, x', y', rfl, hT, rfl, f1 _ (ex_l (eA.trans e') hx), f2 _ (ex_l (eA.trans e') hy)⟩) hw (fun i x y H3 e3 h1 h2 => he i x y H3 (eA.trans e3) h1 h2) fun p H3 hp e3 h3 => q p H3 (fresh_back (e1.trans e2) hp) ((e1.trans e2).trans e3) h3
    · refine ⟨a, b, xs, ys, rfl, .inr ⟨ex_t eA hx, ex_t eA hy, ?_⟩⟩
      exact lc_pairs (K := K) (H := H2) (J := RZ.ItzT K a b) (xs := xs) (ys := ys) v hl (fun i H' e' hi => ⟨xs, ys, _, _, ex_t (eA.trans e') hx, ex_t (eA.trans e') hy, lt1 hi, lt2 hi⟩) (fun H' e' => ⟨xs, ys, ex_t (eA.trans e') hx, ex_t (eA.trans e') hy, .inl (Nat.le_refl _)⟩)
        (fun i x H' H'' e' y => by
          obtain ⟨T, x', y', rfl, hT, rfl, f1, f2⟩ := y
          exact ⟨T, x', y', rfl, hT, rfl, f1 _ (ex_t (eA.trans e') hx), f2 _ (ex_t (eA.trans e') hy)⟩) hw (fun i x y H3 e3 h1 h2 => he i x y H3 (eA.trans e3) h1 h2) fun p H3 hp e3 h3 => q p H3 (fresh_back (e1.trans e2) hp) ((e1.trans e2).trans e3) h3
/-! ''.join of single signs -/
theorem jn_ones : ∀ zs : List Nat, TL.joinL [] (zs.map fun c => [c]) = zs
  | [] => rfl
  | [_] => rfl
  | a :: b :: r => by
    show [a] ++ ([] ++ TL.joinL [] ((b :: r).map fun c => [c])) = _
    rw [jn_ones (b :: r)]
    rfl
theorem jn_text (zs : List Nat) : Txt.join (Str.ofString "") (zs.map fun c => (⟨#[c]⟩ : Str)) = ⟨zs.toArray⟩ := by
  have h : TL.tl (Txt.join (Str.ofString "") (zs.map fun c => (⟨#[c]⟩ : Str))) = zs := by
    rw [TL.join_eq, TL.tl_join, List.map_map]
    exact jn_ones zs
  rw [← TL.mk_tl (Txt.join (Str.ofString "") (zs.map fun c => (⟨#[c]⟩ : Str))), h]
theorem jn_sum (zs : List Nat) : ((zs.map fun c => (⟨#[c]⟩ : Str)).map (·.length)).sum = zs.length := by
  induction zs with
  | nil => rfl
  | cons a r ih =>
    rw [List.map_cons, List.map_cons, List.sum_cons, ih, List.length_cons]
    show 1 + _ = _
    omega
/-- x //= e, something behind -/
theorem q_augF {σ : L2.St} {H : Hp} {te : TE} {tz : TS} {D : Ends} {i : Nat} {a b : Int} (hx : σ[i]? = some (some (.int a))) (h : Ev te σ H (.int b)) (hb : CDiv a b) (k : ∀ H1, Ex H H1 → tz D (σ.set i (some (.int (a / b)))) H1) : tSeq (tAug i te (rI CDiv fun i j => .int (i / j))) tz D σ H :=
  ⟨.int a, hx, h H (Ex.refl H) _ fun H1 e => ⟨a, b, rfl, rfl, hb, k H1 e⟩⟩
theorem et_yes {σ : L2.St} {H : Hp} : EvT tYes σ H true := fun H8 _ Q' q' => q' H8 (Ex.refl _)
/-! caught exceptions, asked -/
section
variable {K : PySem.W.Frag} {σ : L2.St} {H : Hp} {ta tu te : TE} {t : TT}
theorem rv_isN {x : V} : RV (fun x y H Q => y = .non ∧ Q (.bl (decide (x = .non))) H) x .non H (.bl (decide (x = .non))) := fun H1 _ Q q => ⟨rfl, q H1 (Ex.refl _)⟩
theorem rc_isk {a C d : Addr} {fs : List (Str × V)} {c : V} {u : Value} {b : Bool} (xa : ExcAt H a C d fs) (T : XkC K C) (hc : ClsV c u) (hk : PySem.W.kitOne K (.ref C) u = some b) : RC (rIsk K) [.ref a, c] H (.bl b) := fun H1 e Q q =>
  ⟨a, C, d, fs, c, u, b, rfl, xa.ex e, T, hc, hk, q H1 (Ex.refl _)⟩
theorem ev_iskT {a C d : Addr} {fs : List (Str × V)} {cls : List V} {us : List Value} {b : Bool} (ha : Ev ta σ H (.ref a)) (hu : EvU tu σ H cls) (xa : ExcAt H a C d fs) (T : XkC K C) (hc : Paired ClsV cls us) (hk : PySem.W.kitAny K (.ref C) us = some b) :
    Ev (tCB (rIskT K) (tCons ta (tCons tu tNil))) σ H (.bl b) := fun H1 e Q q =>
  ha H1 e _ fun H2 e2 => hu H2 (e.trans e2) _ fun tp H3 _ e3 h3 => ⟨a, C, d, tp, fs, cls, us, b, rfl, xa.ex ((e.trans e2).trans e3), T, h3, hc, hk, q H3 (e2.trans e3)⟩
theorem ev_xk {a C d : Addr} {fs : List (Str × V)} {f : Str} {v : V} (ha : Ev ta σ H (.ref a)) (xa : ExcAt H a C d fs) (T : XkC K C) (hn : NoAttr K C f) (hl : fs.lookup f = some v) : Ev (tXk K ta f) σ H v := fun H1 e Q q =>
  ha H1 e _ fun H2 e2 => ⟨a, C, d, fs, v, rfl, xa.ex (e.trans e2), T, hn, hl, q H2 e2⟩
/-- isinstance(x, (c, ..)) -/
theorem ev_isiT {x : V} {t : Value} {cls : List V} {us : List Value} {b : Bool} (hx : Ev ta σ H x) (hu : EvU tu σ H cls) (ht : ∀ H1, Ex H H1 → TyX K H1 x t) (hc : Paired ClsV cls us) (hk : PySem.W.kitAny K t us = some b) : Ev (tCB (rIsiT K) (tCons ta (tCons tu tNil))) σ H (.bl b) := fun H1 e Q q =>
  hx H1 e _ fun H2 e2 => hu H2 (e.trans e2) _ fun tp H3 _ e3 h3 => ⟨x, tp, cls, t, us, b, rfl, h3, hc, ht H3 ((e.trans e2).trans e3), hk, q H3 (e2.trans e3)⟩
theorem ev_all {xs : List V} {bs : List Bool} (h : EvL te σ H xs) (hx : xs = bs.map V.bl) : Ev (tCB (rAll K) (tCons te tNil)) σ H (.bl (bs.all id)) := fun H1 e Q q =>
  h H1 e _ fun p H2 _ e2 h2 => ⟨p, bs, rfl, sq_of (by rw [← hx]; exact h2), q H2 e2⟩
/-- xs + [..], of a list that stands there -/
theorem el_cat {a : Addr} {xs ys : List V} (ha : Ev ta σ H (.ref a)) (hx : H a = some (.lst xs)) (h : EvL tu σ H ys) (hn : xs.length + ys.length ≤ 100000) : EvL (tOp rCat ta tu) σ H (xs ++ ys) := fun H1 e Q q =>
  ha H1 e _ fun H2 e2 => h H2 (e.trans e2) _ fun b H3 hb e3 h3 => ⟨a, b, xs, ys, rfl, rfl, ((e.trans e2).trans e3) _ _ hx, h3, sz_of hn, fun p hp => q p _ (fresh_back (e2.trans e3) hp) ((e2.trans e3).trans (Ex.new hp)) upd_same⟩
theorem ev_eqB {a b : Bool} (ha : Ev ta σ H (.bl a)) (hb : Ev tu σ H (.bl b)) : Ev (tOp rEq ta tu) σ H (.bl (a == b)) := by
  have h := ev_op ha hb (rv_eq (x := .bl a) (y := .bl b) rfl)
  rw [dec_bl] at h
  exact h
theorem ev_neB {a b : Bool} (ha : Ev ta σ H (.bl a)) (hb : Ev tu σ H (.bl b)) : Ev (tOp rNe ta tu) σ H (.bl (a != b)) := by
  have h := ev_op ha hb (rv_ne (x := .bl a) (y := .bl b) rfl)
  rw [dec_bl] at h
  exact h
end
/-! rows of three: loops and comprehensions by their parts -/
section
variable {K : PySem.W.Frag} {σ : L2.St} {H : Hp} {ta te : TE} {t : TT} {D : Ends} {tu tz : TS} {a : Addr} {rs : List V} {j1 j2 j3 : Nat}
theorem q_forT3 (h : Ev ta σ H (.ref a)) (Pv : Nat → L2.St → Hp → Prop) (h0 : ∀ H1, Ex H H1 → Pv 0 σ H1) (hl : ∀ i σ' H', i ≤ rs.length → Pv i σ' H' → SqL K H' a rs)
    (hs : ∀ i v σ' H', rs[i]? = some v → Pv i σ' H' → ∃ r x y z, v = .ref r ∧ H' r = some (.tup [x, y, z]) ∧ tu { D with nx := Pv (i + 1), ct := Pv (i + 1), bk := tz D } (((σ'.set j1 (some x)).set j2 (some y)).set j3 (some z)) H') (hd : ∀ σ' H', Pv rs.length σ' H' → tz D σ' H') :
    tSeq (tFor (iList K ta) (gTup K 3 (gCons (gName j1) (gCons (gName j2) (gCons (gName j3) gNil)))) tu) tz D σ H := h H (Ex.refl _) _ fun H1 e1 => ⟨a, rfl, ⟨rs, hl 0 σ H1 (Nat.zero_le _) (h0 H1 e1)⟩, fun i m σ' H' => m = rs.length - i ∧ i ≤ rs.length ∧ Pv i σ' H', ⟨rs.length, by simp, Nat.zero_le _, h0 H1 e1⟩, by
      rintro i m σ' H' ⟨rfl, hi, p⟩
      have q := hl i σ' H' hi p
      by_cases lt : i < rs.length
      · refine .inr ⟨⟨rs, rs[i], q, by simp [lt]⟩, Pv (i + 1), fun σ2 H2 p2 => ⟨rs.length - (i + 1), by omega, rfl, lt, p2⟩, fun v H2 y => ?_⟩
        obtain ⟨rfl, y⟩ := y
        obtain ⟨r, x, y, z, rfl, hr, hb⟩ := hs i v σ' _ (y rs q) p
        exact ⟨r, _, rfl, st_of hr, rfl, _, _, rfl, _, _, rfl, _, _, rfl, rfl, hb⟩
      · have e : i = rs.length := by omega
        subst e
        exact .inl ⟨⟨rs, q, Nat.le_refl _⟩, hd σ' H' p⟩⟩
theorem el_lcT3 {vs : List Nat} (f : Nat → Bool) (v : Nat → V) (h : Ev ta σ H (.ref a)) (hx : SqL K H a rs) (hz : rs.length ≤ 40000) (hw : ∀ x y z, wipe ((((wipe σ vs).set j1 (some x)).set j2 (some y)).set j3 (some z)) vs = wipe σ vs)
    (hr : ∀ i u, rs[i]? = some u → ∃ r x y z, u = .ref r ∧ H r = some (.tup [x, y, z]) ∧ ∀ H1, Ex H H1 → EvT t ((((wipe σ vs).set j1 (some x)).set j2 (some y)).set j3 (some z)) H1 (f i) ∧ (f i = true → Ev te ((((wipe σ vs).set j1 (some x)).set j2 (some y)).set j3 (some z)) H1 (v i))) :
    EvL (tLc (iList K ta) (gTup K 3 (gCons (gName j1) (gCons (gName j2) (gCons (gName j3) gNil)))) t te vs) σ H (given rs.length f v) := fun H0 e Q q => h H0 e _ fun H1 e1 => ⟨a, rfl, ⟨rs, ex_l (e.trans e1) hx⟩, fun Dl hD =>
  lc_list (xs := rs) (Cw H1 f v Dl) ⟨hD, Ex.new hD, upd_same⟩ (fun i H' _ p => ex_l ((e.trans e1).trans p.2.1) hx) (fun i u H' hi p => by
      obtain ⟨r, x, y, z, rfl, hrr, hE⟩ := hr i u hi
      have hlt : i < rs.length := (List.getElem?_eq_some_iff.mp hi).1
      exact ⟨r, _, rfl, st_of (((e.trans e1).trans p.2.1) _ _ hrr), rfl, _, _, rfl, _, _, rfl, _, _, rfl, rfl, hw x y z, cw_turn p (by omega) (hE H1 (e.trans e1)).1 (hE H1 (e.trans e1)).2⟩)
    fun H' p => q Dl H' (fresh_back e1 p.1) (e1.trans p.2.1) p.2.2⟩
end
/-- what may raise, where it doesn't -/
theorem FnOk.calm {P : Program} {w : World} {K : PySem.W.Frag} {mg : Str → Option Value} {base : Heap} {k : Nat} {f : Addr} {fd : FuncData} {ps : List Str} {sp sp0 : Sp} (F : FnOk P w K mg base (L2.CX P w) k f fd ps sp) (h : ∀ vs H Q E, sp0 vs H Q E → sp vs H Q E0) : FnOk P w K mg base CX0 k f fd ps sp0 :=
  ⟨fun vs H Q E q => F.len _ _ _ _ (h _ _ _ _ q), fun A outer s H args us vs Q E hr he hb hv hs => codeAny_mono (F.run A outer s H args us vs Q _ hr he hb hv (h _ _ _ _ hs)) fun r s' hq => by
    cases r with
    | ok v =>
      cases v with
      | ret u => exact hq
      | _ => exact hq
    | error e =>
      obtain ⟨_, _, _, _, _, _, _, _, _, _, _, _, z⟩ := hq
      exact z⟩
end L2
/-! Own values at the machine's level: !=, what a built-in's == says to an own instance, in. -/
namespace OwQ
open PySem PySem.W PySem.Spec PyProof.Rows
section
variable {prog : Program} {w : World} {A : Around} {E : Value → Shared → Prop} {s : Shared} {K : PySem.W.Frag} {x C f : Addr} {ox : Obj} {od : Option Obj} {b tb : Value}
/-- a special that is a built-in's slot, at an own instance -/
theorem ifBound_B {M : Model} {name : Str} {id : String} {args : List Value} {Q : Option Value → Shared → Prop} (X : K.In s.heap) (I : InstAt s.heap x ox C od) (hs : findIn K (.ref C) name = some (some (.builtin id)))
    (hb : ∀ self, bindSpecial (.builtin id) self = pure (.builtin id, [self])) (h : wpAny M A (call (.builtin id) (.ref x :: args)) (fun v => Q (some v)) E s) : wpAny M A (callSpecialIfBound? (.ref x) name args) Q E s := by
  simp only [callSpecialIfBound?, bindSpecialIfBound?]
  refine wpAny_holding (wpAny_bind (wpAny_bind (wpAny_bind (I.type.here ((looks_findIn X hs).here ?_)))))
  refine wpAny_bind (wpAny_askSetting (wpAny_ite ?_))
  have fin : wpAny M A (call (.builtin id) ([.ref x] ++ args) >>= fun v => pure (some v)) Q E s := wpAny_bind (wpAny_mono h (fun v s' h' => wpAny_pure h') fun _ _ h' => h')
  split
  · exact wpAny_bind ((Looks.of_pure (hb _)).here (wpAny_pure (by exact fin)))
  · exact wpAny_tryCatch (wpAny_bind ((Looks.of_pure (hb _)).here (wpAny_pure (by exact fin))))
/-- object.__ne__ of an own instance with an own __eq__ -/
theorem one_ne {Q : Value → Shared → Prop} (hu : A.in1.units < cLine) (X : K.In s.heap) (I : InstAt s.heap x ox C od) (hm : mroIn K C (.type "object") = some true) (hs : findIn K (.ref C) "__eq__" = some (some (.ref f))) (hf : isFn K (.ref f) = true)
    (h : wpAny (model prog w) A.in1 (call (.ref f) [.ref x, b]) (fun v s' => ∃ r, v = .bool r ∧ Q (.bool (!r)) s') E s) : wpAny (model prog w) A (call (.builtin "object.__ne__") [.ref x, b]) Q E s := by
  refine wpAny_call (codeAny_call_builtin PySem.F.slot_object_ne.plain PySem.F.cmpEntry_ne (check_slot (i := "object.__ne__") (owner := "object") (n := "__ne__") PySem.F.cmpKind_ne PySem.F.cmpSplit_ne (I.type.andThen (looks_mroIn X hm)) (PySem.F.cmpArgs_ne _ _) ?_))
  unfold Builtin.«object.__ne__»
  refine wpAny_bind (m := slotArgs "__ne__" 1 _) (wpAny_pure ?_)
  refine wpAny_bind (m := cRoomFor _ _) (wpAny_cRoomFor hu ?_)
  refine wpAny_bind (m := callSpecialIfBound? (.ref x) (Str.ofString "__eq__") [b]) (ifBound_K X I hs hf (wpAny_mono h (fun r s' hr => ?_) fun _ _ y => y))
  obtain ⟨r, rfl, hq⟩ := hr
  exact wpAny_bind (wpAny_truthy_bool (wpAny_pure hq))
/-- x != b, x an own instance with an own __eq__ -/
theorem ne_K {L : Addr} {h₀ : Heap} {m : Str → Option Value} {Q : Value → Shared → Prop} (hu : A.in1.units < cLine) (F : Fr h₀ L s.heap m) (X₀ : K.In h₀) (I : InstAt s.heap x ox C od) (hb : Looks (model prog w) s.heap (typeOf b) tb) (hn : notFirst K C tb = true)
    (hne : findIn K (.ref C) "__ne__" = some (some (.builtin "object.__ne__"))) (hm : mroIn K C (.type "object") = some true) (hs : findIn K (.ref C) "__eq__" = some (some (.ref f))) (hf : isFn K (.ref f) = true)
    (h : wpAny (model prog w) A.in1 (call (.ref f) [.ref x, b]) (fun v s' => ∃ r, v = .bool r ∧ Q (.bool (!r)) s') E s) : wpAny (model prog w) A (richCompare .NotEq (.ref x) b) Q E s := by
  have X := X₀.keeps F.keep
  have hu0 : A.units < cLine := Nat.lt_of_succ_lt hu
  have one : wpAny (model prog w) A (tryCompare (.ref x) (cmpInfo .NotEq).2.1 b) (fun r s' => ∃ v, r = some v ∧ Q v s') E s := by
    unfold tryCompare
    refine wpAny_bind (ifBound_B X I hne PySem.F.slot_object_ne.bind (one_ne hu X I hm hs hf (wpAny_mono h (fun v s' hv => ?_) fun _ _ e => e)))
    obtain ⟨r, rfl, hq⟩ := hv
    exact ⟨r, rfl, wpAny_pure ⟨_, rfl, hq⟩⟩
  unfold richCompare
  simp only [oneThing_ref]
  refine wpAny_holding (wpAny_bind (wpAny_cRoomFor hu0 ?_))
  refine wpAny_bind (I.type.here (wpAny_bind (hb.here ?_)))
  split
  · rename_i q
    have e : subIn K tb (.ref C) = some false := by
      rcases Bool.or_eq_true_iff.mp hn with e | e
      · rw [beq_iff_eq.mp e] at q; simp at q
      · exact beq_iff_eq.mp e
    refine wpAny_bind ((looks_subIn X e).here ?_)
    simp only [Bool.false_eq_true, if_false]
    refine wpAny_bind (wpAny_mono one (fun r s' z => ?_) fun _ _ e => e)
    obtain ⟨v, rfl, hq⟩ := z
    exact wpAny_pure hq
  · refine wpAny_bind (wpAny_pure ?_)
    simp only [Bool.false_eq_true, if_false]
    refine wpAny_bind (wpAny_mono one (fun r s' z => ?_) fun _ _ e => e)
    obtain ⟨v, rfl, hq⟩ := z
    exact wpAny_pure hq
/-- a op x, a of a built-in kind that declines, x an own instance -/
theorem right_K {L : Addr} {h₀ : Heap} {m : Str → Option Value} {a : Value} {T ida : String} {op : CmpOp} {Q : Value → Shared → Prop} (hu : A.units < cLine) (F : Fr h₀ L s.heap m) (X₀ : K.In h₀) (I : InstAt s.heap x ox C od) (ha : s.TypeIs a T)
    (hn : subIn K (.ref C) (.type T) = some false) (h1 : Slot T (cmpInfo op).2.1 ida) (hd : ∀ P : Value → Shared → Prop, P .notImplemented s → wpAny (model prog w) A (call (.builtin ida) [a, .ref x]) P E s)
    (h : wpAny (model prog w) A (tryCompare (.ref x) (cmpInfo op).2.2 a) (fun r s' => ∃ v, r = some v ∧ Q v s') E s) : wpAny (model prog w) A (richCompare op a (.ref x)) Q E s := by
  have X := X₀.keeps F.keep
  rcases hi : cmpInfo op with ⟨sym, f, r⟩
  rw [hi] at h1 h
  simp only [richCompare, hi, ha.oneThing_none]
  try with_reducible refine wpAny_holding ?_
  refine wpAny_bind (wpAny_cRoomFor hu ?_)
  refine wpAny_bind (wpAny_typeOf ha (wpAny_bind (I.type.here ?_)))
  have hne : (Value.type T != Value.ref C) = true := by
    rw [bne_iff_ne]
    exact fun z => nomatch z
  simp only [hne, if_true]
  refine wpAny_bind ((looks_subIn X hn).here ?_)
  simp only [Bool.false_eq_true, if_false, Bool.not_false, if_true]
  refine wpAny_bind (m := tryCompare a _ _) (wpAny_tryCompare_declines ha h1 (hd _ ⟨rfl, ?_⟩))
  refine wpAny_bind (m := tryCompare (.ref x) _ _) (wpAny_mono h (fun r s' z => ?_) fun _ _ e => e)
  obtain ⟨v, rfl, hq⟩ := z
  exact wpAny_pure hq
theorem try_eq {Q : Value → Shared → Prop} (X : K.In s.heap) (I : InstAt s.heap x ox C od) (hs : findIn K (.ref C) "__eq__" = some (some (.ref f))) (hf : isFn K (.ref f) = true)
    (h : wpAny (model prog w) A (call (.ref f) [.ref x, b]) (fun v s' => ∃ r, v = .bool r ∧ Q (.bool r) s') E s) : wpAny (model prog w) A (tryCompare (.ref x) "__eq__" b) (fun r s' => ∃ v, r = some v ∧ Q v s') E s := by
  unfold tryCompare
  refine wpAny_bind (ifBound_K X I hs hf (wpAny_mono h (fun v s' hv => ?_) fun _ _ e => e))
  obtain ⟨r, rfl, hq⟩ := hv
  exact wpAny_pure ⟨_, rfl, hq⟩
end
/-! what the built-in kinds' == answers to an own instance -/
section
variable {prog : Program} {w : World} {A : Around} {E : Value → Shared → Prop} {s : Shared} {K : PySem.W.Frag} {x C : Addr} {ox : Obj} {od : Option Obj} {P : Value → Shared → Prop}
theorem dec_none (h : P .notImplemented s) : wpAny (model prog w) A (call (.builtin "NoneType.__eq__") [.none, .ref x]) P E s := by
  refine wpAny_call_entry PySem.F.slot_NoneType_eq rfl PySem.F.entry_NoneType_eq ?_ (PySem.F.args_NoneType_eq_2 _ _)
  obtain ⟨hp, g, d, tk, os⟩ := s
  wp_walk
  exact ⟨_, rfl, h⟩
theorem dec_str {z : Str} {t : Tok} {dx : Addr} (hx : s.heap.get? x = some (instObj C dx)) (h : P .notImplemented s) : wpAny (model prog w) A (call (.builtin "str.__eq__") [.str z t, .ref x]) P E s := by
  refine wpAny_call_entry PySem.F.slot_str_eq (typeIs_str _ _ _) PySem.F.entry_str_eq ?_ (PySem.F.args_str_eq_2 _ _)
  obtain ⟨hp, g, d, tk, os⟩ := s
  wp_walk using AutoSeq1.wpAny_loadPart' hx
  exact ⟨_, rfl, h⟩
theorem dec_int {i : Int} {t : Tok} {dx : Addr} (hx : s.heap.get? x = some (instObj C dx)) (h : P .notImplemented s) : wpAny (model prog w) A (call (.builtin "int.__eq__") [.int i t, .ref x]) P E s := by
  refine wpAny_call_entry PySem.F.slot_int_eq (typeIs_int _ _ _) PySem.F.entry_int_eq ?_ (PySem.F.args_int_eq_2 _ _)
  obtain ⟨hp, g, d, tk, os⟩ := s
  wp_walk using AutoSeq1.wpAny_loadPart' hx
  exact ⟨_, rfl, h⟩
theorem dec_bool {b : Bool} {dx : Addr} (hx : s.heap.get? x = some (instObj C dx)) (h : P .notImplemented s) : wpAny (model prog w) A (call (.builtin "int.__eq__") [.bool b, .ref x]) P E s := by
  refine wpAny_call_entry PySem.F.slot_bool_eq rfl PySem.F.entry_int_eq ?_ (PySem.F.args_int_eq_2 _ _)
  obtain ⟨hp, g, d, tk, os⟩ := s
  wp_walk using AutoSeq1.wpAny_loadPart' hx
  exact ⟨_, rfl, h⟩
theorem dec_list {l : Addr} (hl : s.TypeIs (.ref l) "list") (X : K.In s.heap) (I : InstAt s.heap x ox C od) (hm : mroIn K C (.type "list") = some false) (h : P .notImplemented s) : wpAny (model prog w) A (call (.builtin "list.__eq__") [.ref l, .ref x]) P E s := by
  have hi : Looks (model prog w) s.heap (isInstance (.ref x) (.type "list")) false := I.type.andThen (looks_mroIn X hm)
  refine wpAny_call_entry PySem.F.slot_list_eq hl PySem.F.entry_list_eq ?_ (PySem.F.args_list_eq_2 _ _)
  refine wpAny_bind (m := slotArgs "__eq__" 1 _) (wpAny_pure ?_)
  refine wpAny_bind (m := isInstance (.ref x) (.type "list")) (hi.here ?_)
  exact wpAny_pure ⟨_, rfl, h⟩
theorem dec_tuple {l : Addr} (hl : s.TypeIs (.ref l) "tuple") (X : K.In s.heap) (I : InstAt s.heap x ox C od) (hm : mroIn K C (.type "tuple") = some false) (h : P .notImplemented s) : wpAny (model prog w) A (call (.builtin "tuple.__eq__") [.ref l, .ref x]) P E s := by
  have hi : Looks (model prog w) s.heap (isInstance (.ref x) (.type "tuple")) false := I.type.andThen (looks_mroIn X hm)
  refine wpAny_call_entry PySem.F.slot_tuple_eq hl PySem.F.entry_tuple_eq ?_ (PySem.F.args_tuple_eq_2 _ _)
  refine wpAny_bind (m := slotArgs "__eq__" 1 _) (wpAny_pure ?_)
  refine wpAny_bind (m := isInstance (.ref x) (.type "tuple")) (hi.here ?_)
  exact wpAny_pure ⟨_, rfl, h⟩
theorem dec_dict {l : Addr} (hl : s.TypeIs (.ref l) "dict") (X : K.In s.heap) (I : InstAt s.heap x ox C od) (hm : mroIn K C (.type "dict") = some false) (h : P .notImplemented s) : wpAny (model prog w) A (call (.builtin "dict.__eq__") [.ref l, .ref x]) P E s := by
  have hi : Looks (model prog w) s.heap (isInstance (.ref x) (.type "dict")) false := I.type.andThen (looks_mroIn X hm)
  refine wpAny_call_entry PySem.F.slot_dict_eq hl PySem.F.entry_dict_eq ?_ (PySem.F.args_dict_eq_2 _ _)
  refine wpAny_bind (m := Builtin.Dict.dictSlotArgs "__eq__" _) (wpAny_pure ?_)
  refine wpAny_bind (m := isInstance (.ref x) (.type "dict")) (hi.here ?_)
  exact wpAny_bind (wpAny_rule (wpAny_pure ⟨_, rfl, h⟩))
end
/-! in, == and != of lists and tuples whose items' == may make objects -/
section
open GQ PySem.SeqAt MeetsSeq MeetsSeq2 MeetsSeq3 SeqRoads2
open AutoSeq1 (wpAny_loadPart')
variable {prog : Program} {w : World} {A : Around} {R : Result → Shared → Prop} {E : Value → Shared → Prop}
theorem take_false {bs : List Bool} {i : Nat} {h : i < bs.length} (hp : (bs.take i).any id = false) (hb : bs[i] = false) : (bs.take (i + 1)).any id = false := by
  rw [List.take_succ_eq_append_getElem h, List.any_append, hp, List.any_cons, hb]
  rfl
theorem take_true {bs : List Bool} {i : Nat} (h : i < bs.length) (hb : bs[i] = true) : bs.any id = true := List.any_eq_true.mpr ⟨bs[i], List.getElem_mem h, hb⟩
theorem take_trueA {bs : List Bool} {i : Nat} {h : i < bs.length} (hp : (bs.take i).all id = true) (hb : bs[i] = true) : (bs.take (i + 1)).all id = true := by
  rw [List.take_succ_eq_append_getElem h, List.all_append, hp, List.all_cons, hb]
  rfl
theorem take_falseA {bs : List Bool} {i : Nat} (h : i < bs.length) (hb : bs[i] = false) : bs.all id = false := by
  rw [List.all_eq_false]
  exact ⟨bs[i], List.getElem_mem h, by rw [hb]; exact fun z => nomatch z⟩
/-- at each turn the list is read anew: bs.length items, the i-th compared with x is bs's i-th -/
def InI (prog : Program) (w : World) (A : Around) (E : Value → Shared → Prop) (l : Addr) (x : Value) (bs : List Bool) (I : Nat → Shared → Prop) : Prop :=
  ∀ i s, I i s → ∃ (items : Array Value) (n : Nat), s.heap.get? l = some { cls := .type "list", data := .seq items n } ∧ items.size = bs.length ∧
    ∀ (h1 : i < items.size) (h2 : i < bs.length), wpAny (model prog w) A.in1 (eqBool items[i] x) (fun r s' => r = bs[i] ∧ I (i + 1) s') E s
theorem in_loopG (l : Addr) (x : Value) (bs : List Bool) (I : Nat → Shared → Prop) (hl : InI prog w A (fun e s' => R (.error e) s') l x bs I)
    (fin : ∀ i s, I i s → R (.ok (.ret (.bool (bs.any id)))) s) (k : Nat) :
    ∀ i : Nat, bs.length - i = k → i ≤ bs.length → (bs.take i).any id = false → ∀ s, I i s →
      wpAny (model prog w) A.in1 (Builtin.«list.__contains__.loop» ⟨[.ref l, x, rawInt i], []⟩) (FinOf prog w A R) (fun e s' => R (.error e) s') s := by
  induction k with
  | zero =>
    intro i hk hi hp s h
    obtain ⟨items, n, hl1, hs1, _⟩ := hl _ _ h
    have hi' : i = bs.length := by omega
    have hR := fin i s h
    rw [hi', List.take_length] at hp
    rw [hp] at hR
    obtain ⟨hp, g, d, tk, os⟩ := s
    wp_walk using wpAny_loadPart' hl1
    have hi1 : items[((i : Nat) : Int).toNat]? = none := by simp; omega
    rw [hi1]
    wp_walk
    exact hR
  | succ k ih =>
    intro i hk hi hp s h
    obtain ⟨items, n, hl1, hs1, turn⟩ := hl _ _ h
    have hlt : i < items.size := by omega
    have hlt2 : i < bs.length := by omega
    have ht := turn hlt hlt2
    obtain ⟨hp', g, d, tk, os⟩ := s
    wp_walk using wpAny_loadPart' hl1
    have hi1 : items[((i : Nat) : Int).toNat]? = some items[i] := by simp [hlt]
    have hc : ((i : Int) + 1) = ((i + 1 : Nat) : Int) := by omega
    rw [hi1]
    refine wpAny_bind (wpAny_mono ht (fun r s2 h2 => ?_) fun _ _ x => x)
    obtain ⟨hr, h2⟩ := h2
    subst hr
    cases hb : bs[i] with
    | true =>
      have hR := fin _ _ h2
      rw [take_true hlt2 hb] at hR
      obtain ⟨hp2, g2, d2, tk2, os2⟩ := s2
      wp_walk
      exact hR
    | false =>
      have hrec := ih (i + 1) (by omega) (by omega) (take_false (h := hlt2) hp hb) s2 h2
      obtain ⟨hp2, g2, d2, tk2, os2⟩ := s2
      wp_walk
      rw [hc]
      exact ⟨plainId_quiet plain_contains_loop _, codeAny_builtin entry_contains_loop (by
        rw [Around.under_plainId plain_contains_loop _]
        exact hrec)⟩
theorem in_listG {l : Addr} {x : Value} {bs : List Bool} {I : Nat → Shared → Prop} {Q : Value → Shared → Prop} {s : Shared} (hl : InI prog w A E l x bs I) (fin : ∀ i s, I i s → Q (.bool (bs.any id)) s) (h : I 0 s) :
    wpAny (model prog w) A (compareOp .In x (.ref l)) Q E s := by
  obtain ⟨items, n, hl1, hs1, _⟩ := hl _ _ h
  have hT : s.TypeIs (.ref l) "list" := ⟨_, hl1, rfl⟩
  show wpAny _ A (do return .bool (← contains (.ref l) x)) Q E s
  refine wpAny_bind (wpAny_contains_slot hT F.slot_list_contains (call_here F.slot_list_contains hT F.entry_list_contains (F.args_list_contains_2 _ _) ?_))
  have hrec := in_loopG (A := A) (R := wants (fun v s' => wpAny (model prog w) A (truthy v) (fun b s'' => wpAny (model prog w) A (pure (Value.bool b)) Q E s'') E s') E) l x bs I hl (fun i s' q => wpAny_truthy_bool (wpAny_pure (fin i s' q))) _ 0 rfl (Nat.zero_le _) rfl s h
  obtain ⟨hp, g, d, tk, os⟩ := s
  wp_walk using wpAny_loadPart' hl1
  exact ⟨plainId_quiet plain_contains_loop _, codeAny_builtin entry_contains_loop (by
    rw [Around.under_plainId plain_contains_loop _]
    exact hrec)⟩
theorem in_tupG {l : Addr} {x : Value} {items : Array Value} {bs : List Bool} {I : Nat → Shared → Prop} {Q : Value → Shared → Prop} {s : Shared} (hl : s.heap.IsTuple l items) (hsz : items.size = bs.length)
    (turn : ∀ i (h1 : i < items.size) (h2 : i < bs.length) s, I i s → wpAny (model prog w) A.in1 (eqBool items[i] x) (fun r s' => r = bs[i] ∧ I (i + 1) s') E s)
    (fin : ∀ i s, I i s → Q (.bool (bs.any id)) s) (h : I 0 s) : wpAny (model prog w) A (compareOp .In x (.ref l)) Q E s := by
  obtain ⟨⟨cls, dd, data, sl⟩, ho, hc, n, hd⟩ := id hl
  simp only at hc hd
  subst hc hd
  have hT : s.TypeIs (.ref l) "tuple" := ⟨_, ho, rfl⟩
  show wpAny _ A (do return .bool (← contains (.ref l) x)) Q E s
  refine wpAny_bind (wpAny_contains_slot hT F.slot_tuple_contains (call_here F.slot_tuple_contains hT F.entry_tuple_contains (F.args_tuple_contains_2 _ _) ?_))
  have h0 := h
  have fin' : ∀ i s', I i s' → wpAny (model prog w) A (truthy (Value.bool (bs.any id))) (fun b s'' => wpAny (model prog w) A (pure (Value.bool b)) Q E s'') E s' := fun i s' q => wpAny_truthy_bool (wpAny_pure (fin i s' q))
  obtain ⟨hp, g, d, tk, os⟩ := s
  wp_walk using wpAny_loadPart' ho, wpAny_forIn_array _ (fun rest b s' => b.1 = none ∧ ∃ i, rest = items.toList.drop i ∧ i ≤ items.size ∧ (bs.take i).any id = false ∧ I i s') _
  case turn =>
    rintro y rest b s' ⟨hb', i, hz, hi, hp', hI⟩
    have hlt : i < items.toList.length := by
      rcases Nat.lt_or_ge i items.toList.length with h' | h'
      · exact h'
      · rw [List.drop_of_length_le h'] at hz; cases hz
    have h1 : i < items.size := by simpa using hlt
    have h2 : i < bs.length := hsz ▸ h1
    rw [List.drop_eq_getElem_cons hlt] at hz
    injection hz with hyx hrest
    have hy : y = items[i] := by simpa using hyx
    subst hy
    refine wpAny_bind (wpAny_mono (turn i h1 h2 s' hI) (fun r s2 q2 => ?_) fun _ _ x => x)
    obtain ⟨hr, q2⟩ := q2
    subst hr
    cases hb : bs[i] with
    | true =>
      have hR := fin' _ _ q2
      rw [take_true h2 hb] at hR
      wp_walk
      exact hR
    | false =>
      wp_walk
      exact ⟨rfl, i + 1, hrest, h1, take_false (h := h2) hp' hb, q2⟩
  case fin =>
    rintro ⟨b1, b2⟩ s' ⟨hb', i, hz, hi, hp', hI⟩
    simp only at hb'
    subst hb'
    have hge : items.size ≤ i := by
      rcases Nat.lt_or_ge i items.toList.length with h' | h'
      · rw [List.drop_eq_getElem_cons h'] at hz; cases hz
      · simpa using h'
    have hi' : i = bs.length := by omega
    have hR := fin' _ _ hI
    rw [hi', List.take_length] at hp'
    rw [hp'] at hR
    wp_walk
    exact hR
  case h =>
    exact ⟨rfl, 0, rfl, Nat.zero_le _, rfl, h0⟩
/-- two tuples, item by item: != -/
theorem tuple_neB (l b : Addr) (items items2 : Array Value) (n n2 : Nat) (dd dd2 : Option Addr) (sl sl2 : Array (Option Value)) (bs : List Bool) (hs1 : items.size = bs.length) (hs2 : items2.size = bs.length) (I : Nat → Shared → Prop)
    (turn : ∀ i (h1 : i < items.size) (h2 : i < items2.size) (h3 : i < bs.length) s, I i s → wpAny (model prog w) A.in1 (eqBool items[i] items2[i]) (fun r s' => r = bs[i] ∧ I (i + 1) s') (fun e s' => R (.error e) s') s)
    (fin : ∀ i s, I i s → R (.ok (.ret (.bool (!bs.all id)))) s) {s : Shared} (hl1 : s.heap.get? l = some { cls := .type "tuple", dict := dd, data := .seq items n, slots := sl }) (hb1 : s.heap.get? b = some { cls := .type "tuple", dict := dd2, data := .seq items2 n2, slots := sl2 }) (h : I 0 s) :
    wpAny (model prog w) A.in1 (Builtin.«tuple.__ne__» ⟨[.ref l, .ref b], []⟩) (FinOf prog w A R) (fun e s' => R (.error e) s') s := by
  have f2 := AutoSeq1.sub_tuple_tuple
  have hsz : items.size = items2.size := by omega
  have hZ : (items.toList.zip items2.toList).length = items.size := by simp [hsz]
  have h0 := h
  obtain ⟨hp, g, d, tk, os⟩ := s
  wp_walk using wpAny_loadPart' hl1, wpAny_loadPart' hb1, wpAny_forIn_list _ (fun rest b s' => b.1 = none ∧ ∃ i, rest = (items.toList.zip items2.toList).drop i ∧ i ≤ items.size ∧ (bs.take i).all id = true ∧ I i s') _
  case turn =>
    rintro ⟨y, x⟩ rest b s' ⟨hb', i, hz, hi, hp', hI⟩
    have hlt : i < (items.toList.zip items2.toList).length := by
      rcases Nat.lt_or_ge i (items.toList.zip items2.toList).length with h' | h'
      · exact h'
      · rw [List.drop_of_length_le h'] at hz; cases hz
    have h1 : i < items.size := hZ ▸ hlt
    have h2 : i < items2.size := hsz ▸ h1
    have h3 : i < bs.length := hs1 ▸ h1
    rw [List.drop_eq_getElem_cons hlt] at hz
    injection hz with hyx hrest
    have hy : y = items[i] := by have := congrArg Prod.fst hyx; simpa using this
    have hx : x = items2[i] := by have := congrArg Prod.snd hyx; simpa using this
    subst hy hx
    refine wpAny_bind (wpAny_mono (turn i h1 h2 h3 s' hI) (fun r s2 q2 => ?_) fun _ _ x => x)
    obtain ⟨hr, q2⟩ := q2
    subst hr
    cases hb : bs[i] with
    | false =>
      have hR := fin _ _ q2
      rw [take_falseA h3 hb] at hR
      wp_walk
      exact hR
    | true =>
      wp_walk
      exact ⟨rfl, i + 1, hrest, h1, take_trueA (h := h3) hp' hb, q2⟩
  case fin =>
    rintro ⟨b1, b2⟩ s' ⟨hb', i, hz, hi, hp', hI⟩
    simp only at hb'
    subst hb'
    have hge : items.size ≤ i := by
      rcases Nat.lt_or_ge i (items.toList.zip items2.toList).length with h' | h'
      · rw [List.drop_eq_getElem_cons h'] at hz; cases hz
      · exact hZ ▸ h'
    have hi' : i = bs.length := by omega
    have hR := fin _ _ hI
    rw [hi', List.take_length] at hp'
    rw [hp'] at hR
    wp_walk
    simpa [Builtin.Tuple.tupleCompareSizes, hsz] using hR
  case h =>
    exact ⟨rfl, 0, rfl, Nat.zero_le _, rfl, h0⟩
/-- two lists, item by item: == -/
def EqI (prog : Program) (w : World) (A : Around) (E : Value → Shared → Prop) (l b : Addr) (bs : List Bool) (I : Nat → Shared → Prop) : Prop :=
  ∀ i s, I i s → ∃ (items items2 : Array Value) (n n2 : Nat), s.heap.get? l = some { cls := .type "list", data := .seq items n } ∧ s.heap.get? b = some { cls := .type "list", data := .seq items2 n2 } ∧ items.size = bs.length ∧ items2.size = bs.length ∧
    ∀ (h1 : i < items.size) (h2 : i < items2.size) (h3 : i < bs.length), wpAny (model prog w) A.in1 (eqBool items[i] items2[i]) (fun r s' => r = bs[i] ∧ I (i + 1) s') E s
theorem eq_loopB (l b : Addr) (bs : List Bool) (I : Nat → Shared → Prop) (hl : EqI prog w A (fun e s' => R (.error e) s') l b bs I)
    (fin : ∀ i s, I i s → R (.ok (.ret (.bool (bs.all id)))) s) (k : Nat) :
    ∀ i : Nat, bs.length - i = k → i ≤ bs.length → (bs.take i).all id = true → ∀ s, I i s →
      wpAny (model prog w) A.in1 (Builtin.«list.__eq__.loop» ⟨[.ref l, .ref b, rawInt i, rawInt 2], []⟩) (FinOf prog w A R) (fun e s' => R (.error e) s') s := by
  induction k with
  | zero =>
    intro i hk hi hp s h
    obtain ⟨items, items2, n, n2, hl1, hb1, hs1, hs2, _⟩ := hl _ _ h
    have hi' : i = bs.length := by omega
    have hR := fin i s h
    rw [hi', List.take_length] at hp
    rw [hp] at hR
    obtain ⟨hp, g, d, tk, os⟩ := s
    wp_walk using wpAny_loadPart' hl1, wpAny_loadPart' hb1
    have hi1 : items[((i : Nat) : Int).toNat]? = none := by simp; omega
    have hi2 : items2[((i : Nat) : Int).toNat]? = none := by simp; omega
    rw [hi1, hi2]
    wp_walk using wpAny_loadPart' hl1, wpAny_loadPart' hb1
    show R (.ok (.ret (.bool (items.size == items2.size)))) _
    rw [hs1, hs2]
    simpa using hR
  | succ k ih =>
    intro i hk hi hp s h
    obtain ⟨items, items2, n, n2, hl1, hb1, hs1, hs2, turn⟩ := hl _ _ h
    have hlt : i < items.size := by omega
    have hlt2 : i < items2.size := by omega
    have hlt3 : i < bs.length := by omega
    have ht := turn hlt hlt2 hlt3
    obtain ⟨hp', g, d, tk, os⟩ := s
    wp_walk using wpAny_loadPart' hl1, wpAny_loadPart' hb1
    have hi1 : items[((i : Nat) : Int).toNat]? = some items[i] := by simp [hlt]
    have hi2 : items2[((i : Nat) : Int).toNat]? = some items2[i] := by simp [hlt2]
    have hc : ((i : Int) + 1) = ((i + 1 : Nat) : Int) := by omega
    rw [hi1, hi2]
    refine wpAny_bind (wpAny_mono ht (fun r s2 h2 => ?_) fun _ _ x => x)
    obtain ⟨hr, h2⟩ := h2
    subst hr
    cases hb : bs[i] with
    | true =>
      have hrec := ih (i + 1) (by omega) (by omega) (take_trueA (h := hlt3) hp hb) s2 h2
      obtain ⟨hp2, g2, d2, tk2, os2⟩ := s2
      wp_walk
      rw [hc]
      exact ⟨plainId_quiet plain_eq_loop _, codeAny_builtin entry_eq_loop (by
        rw [Around.under_plainId plain_eq_loop _]
        exact hrec)⟩
    | false =>
      have hR := fin _ _ h2
      rw [take_falseA hlt3 hb] at hR
      obtain ⟨xs, xs2, m, m2, hl2, hb2, hz1, hz2, _⟩ := hl _ _ h2
      obtain ⟨hp2, g2, d2, tk2, os2⟩ := s2
      have q1 : xs[((i : Nat) : Int).toNat]? = some xs[i] := by simp [show i < xs.size by omega]
      have q2 : xs2[((i : Nat) : Int).toNat]? = some xs2[i] := by simp [show i < xs2.size by omega]
      wp_walk using wpAny_loadPart' hl2, wpAny_loadPart' hb2
      rw [q1, q2]
      wp_walk
      exact hR
theorem list_eqB (l b : Addr) (bs : List Bool) (I : Nat → Shared → Prop) (hl : EqI prog w A (fun e s' => R (.error e) s') l b bs I)
    (fin : ∀ i s, I i s → R (.ok (.ret (.bool (bs.all id)))) s) {s : Shared} (h : I 0 s) :
    wpAny (model prog w) A.in1 (Builtin.«list.__eq__» ⟨[.ref l, .ref b], []⟩) (FinOf prog w A R) (fun e s' => R (.error e) s') s := by
  obtain ⟨items, items2, n, n2, hl1, hb1, hs1, hs2, _⟩ := hl _ _ h
  have hrec := eq_loopB (A := A) (R := R) l b bs I hl fin _ 0 rfl (Nat.zero_le _) rfl s h
  obtain ⟨hp, g, d, tk, os⟩ := s
  have f3 := AutoSeq1.sub_list_list
  have hne : ¬ (items.size != items2.size) = true := by simp [hs1, hs2]
  wp_walk using wpAny_loadPart' hl1, wpAny_loadPart' hb1
  exact ⟨plainId_quiet plain_eq_loop _, codeAny_builtin entry_eq_loop (by
    rw [Around.under_plainId plain_eq_loop _]
    exact hrec)⟩
end
end OwQ
/-! Own values over the layer: str, repr, f'{x}', len, ==, !=, in. -/
namespace L2
open PySem PySem.Spec PyProof.Rows _root_.Evl
def kindsT : List String := ["int", "bool", "str", "NoneType", "tuple", "list", "dict"]
def kindB (K : PySem.W.Frag) (C : Addr) (T : String) : Bool := PySem.W.notFirst K C (.type T) && (decide (PySem.W.subIn K (.ref C) (.type T) = some false) && (decide (PySem.W.mroIn K C (.type T) = some false) && decide (PySem.W.kitOne K (.type T) (.ref C) = some false)))
/-- what own values ask of the class at C -/
structure OwnC (K : PySem.W.Frag) (C : Addr) : Prop where
  is : IsC K C
  ne : PySem.W.findIn K (.ref C) "__ne__" = some (some (.builtin "object.__ne__"))
  fm : PySem.W.findIn K (.ref C) "__format__" = some (some (.builtin "object.__format__"))
  kd : ∀ T ∈ kindsT, kindB K C T = true
  nf : PySem.W.notFirst K C (.ref C) = true
def ownB (K : PySem.W.Frag) (x : Str) : Bool :=
  tyB K x && (He.eqO (PySem.W.findIn K (.ref (He.ga K x)) "__ne__") (some (some (.builtin "object.__ne__"))) && (He.eqO (PySem.W.findIn K (.ref (He.ga K x)) "__format__") (some (some (.builtin "object.__format__"))) && (kindsT.all (kindB K (He.ga K x)) && PySem.W.notFirst K (He.ga K x) (.ref (He.ga K x)))))
theorem ownB_ok {K : PySem.W.Frag} {x : Str} (h : ownB K x = true) : OwnC K (He.ga K x) := by
  obtain ⟨h1, h⟩ := He.ba h
  obtain ⟨h2, h⟩ := He.ba h
  obtain ⟨h3, h⟩ := He.ba h
  obtain ⟨h4, h5⟩ := He.ba h
  exact ⟨tyB_ok h1, He.eqO_ok h2, He.eqO_ok h3, List.all_eq_true.mp h4, h5⟩
theorem OwnC.first {K : PySem.W.Frag} {C : Addr} (c : OwnC K C) {T : String} (h : T ∈ kindsT) : PySem.W.notFirst K C (.type T) = true := (He.ba (c.kd T h)).1
theorem OwnC.sub {K : PySem.W.Frag} {C : Addr} (c : OwnC K C) {T : String} (h : T ∈ kindsT) : PySem.W.subIn K (.ref C) (.type T) = some false := of_decide_eq_true (He.ba (He.ba (c.kd T h)).2).1
theorem OwnC.mro {K : PySem.W.Frag} {C : Addr} (c : OwnC K C) {T : String} (h : T ∈ kindsT) : PySem.W.mroIn K C (.type T) = some false := of_decide_eq_true (He.ba (He.ba (He.ba (c.kd T h)).2).2).1
theorem OwnC.kit {K : PySem.W.Frag} {C : Addr} (c : OwnC K C) {T : String} (h : T ∈ kindsT) : PySem.W.kitOne K (.type T) (.ref C) = some false := of_decide_eq_true (He.ba (He.ba (He.ba (c.kd T h)).2).2).2
theorem FnOk.raw0 {P : Program} {w : World} {K : PySem.W.Frag} {mg : Str → Option Value} {base : Heap} {CX : CXT} {k : Nat} {f : Addr} {fd : FuncData} {ps : List Str} {sp : Sp} (F : FnOk P w K mg base CX k f fd ps sp) (hb : Binds K fd ps []) : FnR P w K mg base CX k f sp :=
  (FnOk.raw F hb .nil).imp fun vs H Q E h => by
    rw [List.append_nil]
    exact h
section
variable {X : Cx} {n : Nat} {C g : Addr} {sp : Sp}
/-- a text is told of an instance of the class at C -/
def rStrO (C : Addr) (sp : Sp) : List V → Hp → VK → Prop := fun xs H Q => ∃ a dx fs, xs = [V.ref a] ∧ H a = some (.ins C dx fs) ∧ sp [.ref a] H (fun v H' => ∃ z, v = .str z ∧ Q (.str z) H') E0
def rLenO (C : Addr) (sp : Sp) : List V → Hp → VK → Prop := fun xs H Q => ∃ a dx fs, xs = [V.ref a] ∧ H a = some (.ins C dx fs) ∧ sp [.ref a] H (fun v H' => ∃ i : Int, v = .int i ∧ 0 ≤ i ∧ i < 2 ^ 63 ∧ Q (.int i) H') E0
theorem pass00 : Passes CX0 X E0 := pass0
theorem call_strO (m : Meth X.K C "__str__" g) (F : FnR X.prog X.w X.K X.mg X.base CX0 n g sp) (hr : Room (n + 2) X.A) : CallR X (.type "str") (rStrO C sp) := by
  intro pins s σ H xs us Q I r h
  obtain ⟨a, dx, fs, rfl, ha, q⟩ := h
  obtain ⟨u, rfl, ru⟩ := r.one
  cases (show u = Value.ref a from ru)
  obtain ⟨mA, J, _⟩ := ins_get I.hok ha
  obtain ⟨od, J, _⟩ := J.look
  have hr2 : Room n X.A.in1.in1 := (show Room (n + 1) X.A.in1 from Room.in1 hr).in1
  refine PySem.W.kso_call hr2.units0 I.kIn J m.at_ m.fn (wpAny_mono (wpAny_call (SlX.run_at (us := [.ref a]) (ws := [.ref a]) F hr2 I.env0.in1.in1 pass0 I (.cons rfl .nil) q)) (fun w s' z => ?_) fun _ _ x => x)
  obtain ⟨z', H', I', rz, i, ei, qz⟩ := z
  subst ei
  obtain ⟨t, e⟩ := (show ∃ t, w = Value.str i t from rz)
  cases e
  exact ⟨.str i, H', I', ⟨t, rfl⟩, qz⟩
theorem call_reprO (m : Meth X.K C "__repr__" g) (F : FnR X.prog X.w X.K X.mg X.base CX0 n g sp) (hr : Room (n + 1) X.A) : CallR X (.builtin "repr") (rStrO C sp) := by
  intro pins s σ H xs us Q I r h
  obtain ⟨a, dx, fs, rfl, ha, q⟩ := h
  obtain ⟨u, rfl, ru⟩ := r.one
  cases (show u = Value.ref a from ru)
  obtain ⟨mA, J, _⟩ := ins_get I.hok ha
  obtain ⟨od, J, _⟩ := J.look
  obtain ⟨mm, hF⟩ := I.fr
  have hr2 : Room n X.A.in1 := Room.in1 hr
  refine PySem.W.repr_K hr2.units0 hF I.ok.mod.kin J m.at_ m.fn (wpAny_mono (wpAny_call (SlX.run_at (us := [.ref a]) (ws := [.ref a]) F hr2 I.env0.in1 pass0 I (.cons rfl .nil) q)) (fun w s' z => ?_) fun _ _ x => x)
  obtain ⟨z', H', I', rz, i, ei, qz⟩ := z
  subst ei
  obtain ⟨t, e⟩ := (show ∃ t, w = Value.str i t from rz)
  cases e
  exact ⟨.str i, H', I', ⟨t, rfl⟩, qz⟩
theorem call_lenO (m : Meth X.K C "__len__" g) (F : FnR X.prog X.w X.K X.mg X.base CX0 n g sp) (hr : Room (n + 1) X.A) : CallR X (.builtin "len") (rLenO C sp) := by
  intro pins s σ H xs us Q I r h
  obtain ⟨a, dx, fs, rfl, ha, q⟩ := h
  obtain ⟨u, rfl, ru⟩ := r.one
  cases (show u = Value.ref a from ru)
  obtain ⟨mA, J, _⟩ := ins_get I.hok ha
  obtain ⟨od, J, _⟩ := J.look
  obtain ⟨mm, hF⟩ := I.fr
  have hr2 : Room n X.A.in1 := Room.in1 hr
  refine PySem.W.len_K hF I.ok.mod.kin J m.at_ m.fn (wpAny_mono (wpAny_call (SlX.run_at (us := [.ref a]) (ws := [.ref a]) F hr2 I.env0.in1 pass0 I (.cons rfl .nil) q)) (fun w s' z => ?_) fun _ _ x => x)
  obtain ⟨z', H', I', rz, i, ei, i0, i1, qz⟩ := z
  subst ei
  obtain ⟨t, e⟩ := (show ∃ t, w = Value.int i t from rz)
  cases e
  exact ⟨⟨i0, i1⟩, .int i, H', I'.tok _, ⟨_, rfl⟩, qz⟩
/-- {x}, x an instance -/
def tFmtO (C : Addr) (sp : Sp) (te : TE) : TE := fun σ H Q => te σ H fun x H1 => rStrO C sp [x] H1 Q
theorem pe_fmtO {e : Expr} {te : TE} {pos : Pos} (c : OwnC X.K C) (m : Meth X.K C "__str__" g) (F : FnR X.prog X.w X.K X.mg X.base CX0 n g sp) (hr : Room (n + 1) X.A) (he : PE X e te) : PE X (.FormattedValue e (-1) none pos) (tFmtO C sp te) := by
  refine ⟨fun pins s σ H Q I h => ?_⟩
  refine wpAny_FormattedValue_plain (thn (he.run pins s σ H _ I h) fun v s1 hv => ?_)
  obtain ⟨x, H1, I1, r1, a, dx, fs, ex, ha, q⟩ := hv
  cases ex
  cases (show v = Value.ref a from r1)
  obtain ⟨mA, J, _⟩ := ins_get I1.hok ha
  obtain ⟨od, J, _⟩ := J.look
  have hr2 : Room n X.A.in1 := Room.in1 hr
  have I2 := I1.tok (s1.toks + 1)
  refine PySem.W.kfo_fieldS hr2.units0 I1.kIn J c.fm c.is.hm m.at_ m.fn (wpAny_mono (wpAny_call (SlX.run_at (us := [.ref a]) (ws := [.ref a]) F hr2 I2.env0.in1 pass0 I2 (.cons rfl .nil) q)) (fun w s' z => ?_) fun _ _ x => x)
  obtain ⟨z', H', I', rz, i, ei, qz⟩ := z
  subst ei
  obtain ⟨t, e⟩ := (show ∃ t, w = Value.str i t from rz)
  cases e
  exact ⟨.str i, H', I', ⟨t, rfl⟩, qz⟩
end
end L2
/-! == and != by an own __eq__, with either answer, against things of the built-in kinds too. -/
namespace L2
open PySem PySem.Spec PyProof.Rows _root_.Evl
abbrev EqR := V → V → Hp → Bool → Prop
/-- a thing of a built-in kind -/
inductive Kd (H : Hp) : V → String → Prop where
  | non : Kd H .non "NoneType"
  | bl (b : Bool) : Kd H (.bl b) "bool"
  | int (i : Int) : Kd H (.int i) "int"
  | str (z : Str) : Kd H (.str z) "str"
  | lst {a : Addr} {xs : List V} (h : H a = some (.lst xs)) : Kd H (.ref a) "list"
  | tup {a : Addr} {xs : List V} (h : H a = some (.tup xs)) : Kd H (.ref a) "tuple"
  | dK {a : Addr} {kvs : List (Key × V)} (h : H a = some (.dK kvs)) : Kd H (.ref a) "dict"
theorem Kd.tyx {K : PySem.W.Frag} {H : Hp} {x : V} {T : String} (h : Kd H x T) : TyX K H x (.type T) := by
  cases h with
  | non => exact .base .non
  | bl b => exact .base (.bl b)
  | int i => exact .base (.int i)
  | str z => exact .base (.str z)
  | lst h => exact .base (.lst h)
  | tup h => exact .base (.tup h)
  | dK h => exact .base (.dK h)
theorem Kd.mem {H : Hp} {x : V} {T : String} (h : Kd H x T) : T ∈ kindsT := by
  cases h <;> simp [kindsT]
theorem Kd.ex {H H' : Hp} {x : V} {T : String} (h : Kd H x T) (e : Ex H H') : Kd H' x T := by
  cases h with
  | non => exact .non
  | bl b => exact .bl b
  | int i => exact .int i
  | str z => exact .str z
  | lst h => exact .lst (e _ _ h)
  | tup h => exact .tup (e _ _ h)
  | dK h => exact .dK (e _ _ h)
def RcE (X : Cx) (n : Nat) (op : CmpOp) (D : EqR) : Prop :=
  ∀ (A : Around) (pins : List (Addr × Obj)) (s : Shared) (σ : St) (H : Hp) (x y : V) (u v : Value) (b : Bool), Sub X n A → Inv X pins σ H s → RelV x u → RelV y v → D x y H b →
    wpAny (model X.prog X.w) A (richCompare op u v) (fun r s' => r = .bool b ∧ ∃ H', Inv X pins σ H' s' ∧ Ex H H') X.xe s
def EqE (X : Cx) (n : Nat) (D : EqR) : Prop :=
  ∀ (A : Around) (pins : List (Addr × Obj)) (s : Shared) (σ : St) (H : Hp) (x y : V) (u v : Value) (b : Bool), Sub X n A → Inv X pins σ H s → RelV x u → RelV y v → D x y H b →
    wpAny (model X.prog X.w) A (eqBool u v) (fun r s' => r = b ∧ ∃ H', Inv X pins σ H' s' ∧ Ex H H') X.xe s
def MonE (D : EqR) : Prop := ∀ x y H H' b, Ex H H' → D x y H b → D x y H' b
/-- what the own == promises: R tells its answer -/
def spEqE (R : Addr → V → Hp → Bool → Prop) : Sp := fun vs H Q _ => ∃ a y b, vs = [.ref a, y] ∧ R a y H b ∧ ∀ H', Ex H H' → Q (.bl b) H'
/-- x an instance, y whatever isn't asked first -/
def DOwn (K : PySem.W.Frag) (C : Addr) (R : Addr → V → Hp → Bool → Prop) : EqR := fun x y H b => ∃ a dx fs t, x = .ref a ∧ H a = some (.ins C dx fs) ∧ (∀ H1, Ex H H1 → TyX K H1 y t) ∧ PySem.W.notFirst K C t = true ∧ R a y H b
/-- x of a built-in kind, y an instance -/
def DOff (C : Addr) (R : Addr → V → Hp → Bool → Prop) : EqR := fun x y H b => ∃ a dx fs T, y = .ref a ∧ H a = some (.ins C dx fs) ∧ Kd H x T ∧ R a x H b
section
variable {X : Cx} {n m : Nat} {C g : Addr} {R : Addr → V → Hp → Bool → Prop} {D D' : EqR} {op : CmpOp}
theorem RcE.or (h : RcE X n op D) (h' : RcE X n op D') : RcE X n op (fun x y H b => D x y H b ∨ D' x y H b) := fun A pins s σ H x y u v b sb I rx ry d => d.elim (h A pins s σ H x y u v b sb I rx ry) (h' A pins s σ H x y u v b sb I rx ry)
theorem EqE.or (h : EqE X n D) (h' : EqE X n D') : EqE X n (fun x y H b => D x y H b ∨ D' x y H b) := fun A pins s σ H x y u v b sb I rx ry d => d.elim (h A pins s σ H x y u v b sb I rx ry) (h' A pins s σ H x y u v b sb I rx ry)
theorem RcE.mono (h : RcE X n op D) (hn : n ≤ m) : RcE X m op D := fun A pins s σ H x y u v b sb => h A pins s σ H x y u v b (sb.mono hn)
theorem EqE.mono (h : EqE X n D) (hn : n ≤ m) : EqE X m D := fun A pins s σ H x y u v b sb => h A pins s σ H x y u v b (sb.mono hn)
/-- the own == runs somewhere below the running body -/
theorem own_runs {A : Around} {pins : List (Addr × Obj)} {s : Shared} {σ : St} {H : Hp} {a : Addr} {y : V} {v : Value} {b : Bool} (F : FnR X.prog X.w X.K X.mg X.base CX0 n g (spEqE R)) (sb : Sub X n A) (I : Inv X pins σ H s) (ry : RelV y v) (hr : R a y H b) :
    wpAny (model X.prog X.w) A (call (.ref g) [.ref a, v]) (fun r s' => r = .bool b ∧ ∃ H', Inv X pins σ H' s' ∧ Ex H H') X.xe s := by
  have e0 : Env0 X.prog X.w X.K X.mg X.base A X.stack s H := by
    have e := I.env0
    exact ⟨by rw [sb.fr]; exact e.frames, e.mod, e.bs, e.bsz, e.funs, e.frf, e.hok, e.bare⟩
  refine wpAny_mono (wpAny_call (SlX.run_at (us := [.ref a, v]) (ws := [.ref a, y]) (Q := fun z H' => z = .bl b ∧ Ex H H') F sb.room e0 pass0 I (.cons rfl (.cons ry .nil)) ⟨a, y, b, rfl, hr, fun H' e => ⟨rfl, e⟩⟩)) (fun r s' z => ?_) fun _ _ x => x
  obtain ⟨z', H', I', rz, ez, ex⟩ := z
  subst ez
  cases (show r = Value.bool b from rz)
  exact ⟨rfl, H', I', ex⟩
theorem tyLooks {pins : List (Addr × Obj)} {s : Shared} {σ : St} {H : Hp} {y : V} {v t : Value} (I : Inv X pins σ H s) (ry : RelV y v) (ty : TyX X.K H y t) : PySem.W.Looks (model X.prog X.w) s.heap (typeOf v) t := by
  obtain ⟨P, Z, p, hx⟩ := kit_of I ry ty
  exact Z.ty _ _ I.kIn p
theorem rcE_own (m : Meth X.K C "__eq__" g) (F : FnR X.prog X.w X.K X.mg X.base CX0 n g (spEqE R)) : RcE X n .Eq (DOwn X.K C R) := by
  intro A pins s σ H x y u v b sb I rx ry d
  obtain ⟨a, dx, fs, t, rfl, ha, ty, hn, hr⟩ := d
  cases (show u = Value.ref a from rx)
  obtain ⟨mA, J, _⟩ := ins_get I.hok ha
  obtain ⟨od, J, _⟩ := J.look
  obtain ⟨mm, hF⟩ := I.fr
  refine PySem.W.cmp_K (op := .Eq) (tb := t) sb.room.units0 hF I.ok.mod.kin J (tyLooks I ry (ty H (Ex.refl _))) hn m.at_ m.fn ?_
  refine wpAny_mono (own_runs F sb I ry hr) (fun r s' z => ?_) fun _ _ x => x
  obtain ⟨rfl, z⟩ := z
  exact ⟨rfl, z⟩
theorem neE_own (c : OwnC X.K C) (m : Meth X.K C "__eq__" g) (F : FnR X.prog X.w X.K X.mg X.base CX0 n g (spEqE R)) : RcE X (n + 1) .NotEq (fun x y H b => DOwn X.K C R x y H (!b)) := by
  intro A pins s σ H x y u v b sb I rx ry d
  obtain ⟨a, dx, fs, t, rfl, ha, ty, hn, hr⟩ := d
  cases (show u = Value.ref a from rx)
  obtain ⟨mA, J, _⟩ := ins_get I.hok ha
  obtain ⟨od, J, _⟩ := J.look
  obtain ⟨mm, hF⟩ := I.fr
  refine OwQ.ne_K (tb := t) sb.in1.room.units0 hF I.ok.mod.kin J (tyLooks I ry (ty H (Ex.refl _))) hn c.ne c.is.hm m.at_ m.fn ?_
  refine wpAny_mono (own_runs F sb.in1 I ry hr) (fun r s' z => ?_) fun _ _ x => x
  obtain ⟨rfl, z⟩ := z
  exact ⟨!b, rfl, by rw [Bool.not_not], z⟩
theorem rcE_off (c : OwnC X.K C) (m : Meth X.K C "__eq__" g) (F : FnR X.prog X.w X.K X.mg X.base CX0 n g (spEqE R)) : RcE X n .Eq (DOff C R) := by
  intro A pins s σ H x y u v b sb I rx ry d
  obtain ⟨a, dx, fs, T, rfl, ha, kd, hr⟩ := d
  cases (show v = Value.ref a from ry)
  obtain ⟨mA, J0, _⟩ := ins_get I.hok ha
  have hx := J0.obj
  obtain ⟨od, J, _⟩ := J0.look
  obtain ⟨mm, hF⟩ := I.fr
  have back : wpAny (model X.prog X.w) A (tryCompare (.ref a) (cmpInfo .Eq).2.2 u) (fun r s' => ∃ v, r = some v ∧ v = .bool b ∧ ∃ H', Inv X pins σ H' s' ∧ Ex H H') X.xe s := by
    refine OwQ.try_eq (Q := fun v s' => v = .bool b ∧ ∃ H', Inv X pins σ H' s' ∧ Ex H H') I.kIn J m.at_ m.fn (wpAny_mono (own_runs F sb I rx hr) (fun r s' z => ?_) fun _ _ x => x)
    obtain ⟨rfl, z⟩ := z
    exact ⟨b, rfl, rfl, z⟩
  have hm := kd.mem
  cases kd with
  | non =>
    cases (show u = Value.none from rx)
    exact OwQ.right_K (op := .Eq) sb.room.units0 hF I.ok.mod.kin J rfl (c.sub hm) PySem.F.slot_NoneType_eq (fun P h => OwQ.dec_none h) back
  | bl y =>
    cases (show u = Value.bool y from rx)
    exact OwQ.right_K (op := .Eq) sb.room.units0 hF I.ok.mod.kin J rfl (c.sub hm) PySem.F.slot_bool_eq (fun P h => OwQ.dec_bool hx h) back
  | int i =>
    obtain ⟨t, e⟩ := (show ∃ t, u = Value.int i t from rx)
    cases e
    exact OwQ.right_K (op := .Eq) sb.room.units0 hF I.ok.mod.kin J (typeIs_int _ _ _) (c.sub hm) PySem.F.slot_int_eq (fun P h => OwQ.dec_int hx h) back
  | str z =>
    obtain ⟨t, e⟩ := (show ∃ t, u = Value.str z t from rx)
    cases e
    exact OwQ.right_K (op := .Eq) sb.room.units0 hF I.ok.mod.kin J (typeIs_str _ _ _) (c.sub hm) PySem.F.slot_str_eq (fun P h => OwQ.dec_str hx h) back
  | @lst l xs ea =>
    cases (show u = Value.ref l from rx)
    obtain ⟨_, _, k, _, h1⟩ := (show ObjOk X.prog X.w H s.heap l (.lst xs) from I.hok l _ ea)
    have hT : s.TypeIs (.ref l) "list" := ⟨_, h1, rfl⟩
    exact OwQ.right_K (op := .Eq) sb.room.units0 hF I.ok.mod.kin J hT (c.sub hm) PySem.F.slot_list_eq (fun P h => OwQ.dec_list hT I.kIn J (c.mro hm) h) back
  | @tup l xs ea =>
    cases (show u = Value.ref l from rx)
    obtain ⟨_, _, _, o, h1, h2, _⟩ := (show ObjOk X.prog X.w H s.heap l (.tup xs) from I.hok l _ ea)
    have hT : s.TypeIs (.ref l) "tuple" := ⟨_, h1, h2⟩
    exact OwQ.right_K (op := .Eq) sb.room.units0 hF I.ok.mod.kin J hT (c.sub hm) PySem.F.slot_tuple_eq (fun P h => OwQ.dec_tuple hT I.kIn J (c.mro hm) h) back
  | @dK l kvs ea =>
    cases (show u = Value.ref l from rx)
    obtain ⟨_, _, vs, _, o, es, ep, h1, h2, _⟩ := (show ObjOk X.prog X.w H s.heap l (.dK kvs) from I.hok l _ ea)
    have hT : s.TypeIs (.ref l) "dict" := ⟨_, h1, h2.1⟩
    exact OwQ.right_K (op := .Eq) sb.room.units0 hF I.ok.mod.kin J hT (c.sub hm) PySem.F.slot_dict_eq (fun P h => OwQ.dec_dict hT I.kIn J (c.mro hm) h) back
end
end L2
/-! == inside lists and tuples. -/
namespace L2
open PySem PySem.Spec PyProof.Rows _root_.Evl
section
variable {X : Cx} {n : Nat} {C g : Addr} {R : Addr → V → Hp → Bool → Prop} {D D' : EqR}
theorem eqB_of {A : Around} {s : Shared} {E : Value → Shared → Prop} {u v : Value} {Q : Bool → Shared → Prop} (hne : u ≠ v) (hf : ∀ x t, u ≠ .float x t) (h : wpAny (model X.prog X.w) A (richCompare .Eq u v) (fun r s' => ∃ b, r = .bool b ∧ Q b s') E s) : wpAny (model X.prog X.w) A (eqBool u v) Q E s := by
  unfold eqBool
  refine wpAny_holding ?_
  refine wpAny_ite_split (fun hab => absurd (eq_of_beq hab) hne) (fun _ => ?_)
  have fin : wpAny (model X.prog X.w) A (richCompare .Eq u v >>= truthOfDropped) Q E s := by
    refine wpAny_bind (wpAny_mono h (fun r s' hv => ?_) fun _ _ x => x)
    obtain ⟨b, rfl, q⟩ := hv
    exact wpAny_truthy_bool q
  cases u with
  | float x t => exact absurd rfl (hf x t)
  | _ => first | exact fin | simpa using fin
theorem Kd.rel {H : Hp} {x : V} {T : String} {u : Value} (h : Kd H x T) (r : RelV x u) : (∀ y t, u ≠ .float y t) := by
  intro y t e
  subst e
  cases h with
  | non => cases (show Value.float y t = Value.none from r)
  | bl b => cases (show Value.float y t = Value.bool b from r)
  | int i => obtain ⟨k, e⟩ := (show ∃ k, Value.float y t = Value.int i k from r); cases e
  | str z => obtain ⟨k, e⟩ := (show ∃ k, Value.float y t = Value.str z k from r); cases e
  | @lst a xs h => cases (show Value.float y t = Value.ref a from r)
  | @tup a xs h => cases (show Value.float y t = Value.ref a from r)
  | @dK a xs h => cases (show Value.float y t = Value.ref a from r)
theorem Kd.ne_ins {H : Hp} {x : V} {T : String} {u : Value} {a dx : Addr} {fs : List (Str × V)} (h : Kd H x T) (r : RelV x u) (ha : H a = some (.ins C dx fs)) : u ≠ .ref a := by
  intro e
  subst e
  cases h with
  | non => cases (show Value.ref a = Value.none from r)
  | bl b => cases (show Value.ref a = Value.bool b from r)
  | int i => obtain ⟨k, e⟩ := (show ∃ k, Value.ref a = Value.int i k from r); cases e
  | str z => obtain ⟨k, e⟩ := (show ∃ k, Value.ref a = Value.str z k from r); cases e
  | @lst l xs h =>
    cases (show Value.ref a = Value.ref l from r)
    rw [ha] at h
    cases h
  | @tup l xs h =>
    cases (show Value.ref a = Value.ref l from r)
    rw [ha] at h
    cases h
  | @dK l xs h =>
    cases (show Value.ref a = Value.ref l from r)
    rw [ha] at h
    cases h
theorem eqE_own (m : Meth X.K C "__eq__" g) (F : FnR X.prog X.w X.K X.mg X.base CX0 n g (spEqE R)) (hself : ∀ a H b, R a (.ref a) H b → b = true) : EqE X n (DOwn X.K C R) := by
  intro A pins s σ H x y u v b sb I rx ry d
  have d0 := d
  obtain ⟨a, dx, fs, t, rfl, ha, ty, hn, hr⟩ := d
  cases (show u = Value.ref a from rx)
  by_cases hv : v = .ref a
  · subst hv
    have hy : y = .ref a := by
      cases y with
      | ref z => cases (show Value.ref a = Value.ref z from ry); rfl
      | non => cases (show Value.ref a = Value.none from ry)
      | bl b => cases (show Value.ref a = Value.bool b from ry)
      | int i => obtain ⟨k, e⟩ := (show ∃ k, Value.ref a = Value.int i k from ry); cases e
      | str z => obtain ⟨k, e⟩ := (show ∃ k, Value.ref a = Value.str z k from ry); cases e
      | byt z => obtain ⟨k, e⟩ := (show ∃ k, Value.ref a = Value.bytes z k from ry); cases e
      | flt z => obtain ⟨k, e⟩ := (show ∃ k, Value.ref a = Value.float z k from ry); cases e
      | ty z => cases (show Value.ref a = Value.type z from ry)
    subst hy
    cases hself _ _ _ hr
    exact SeqAt.EqAt.same (A := A) (s := s) (.ref a) X.prog X.w X.xe _ ⟨rfl, H, I, Ex.refl _⟩
  · refine eqB_of (fun z => hv z.symm) (fun _ _ z => nomatch z) (wpAny_mono (rcE_own m F A pins s σ H _ _ _ _ _ sb I rx ry d0) (fun r s' q => ?_) fun _ _ x => x)
    exact ⟨b, q.1, rfl, q.2⟩
theorem eqE_off (c : OwnC X.K C) (m : Meth X.K C "__eq__" g) (F : FnR X.prog X.w X.K X.mg X.base CX0 n g (spEqE R)) : EqE X n (DOff C R) := by
  intro A pins s σ H x y u v b sb I rx ry d
  have d0 := d
  obtain ⟨a, dx, fs, T, rfl, ha, kd, hr⟩ := d
  cases (show v = Value.ref a from ry)
  refine eqB_of (kd.ne_ins rx ha) (kd.rel rx) (wpAny_mono (rcE_off c m F A pins s σ H _ _ _ _ _ sb I rx ry d0) (fun r s' q => ?_) fun _ _ x => x)
  exact ⟨b, q.1, rfl, q.2⟩
/-- flat values -/
def DFl : EqR := fun x y _ b => flatV x = true ∧ flatV y = true ∧ eqV x y = b
theorem eqE_flat : EqE X n DFl := by
  intro A pins s σ H x y u v b sb I rx ry d
  obtain ⟨fx, fy, e⟩ := d
  have q := eqAt_V (A := A) (s := s) rx ry fx fy
  rw [e] at q
  exact q X.prog X.w X.xe _ ⟨rfl, H, I, Ex.refl _⟩
/-- item by item, with answers -/
structure PrE (D : EqR) (xs ys : List V) (H : Hp) (bs : List Bool) : Prop where
  lx : xs.length = bs.length
  ly : ys.length = bs.length
  at_ : ∀ (i : Nat) x y b, xs[i]? = some x → ys[i]? = some y → bs[i]? = some b → D x y H b
theorem PrE.nil {H : Hp} : PrE D [] [] H [] := ⟨rfl, rfl, fun i x y b h => by simp at h⟩
theorem PrE.cons {x y : V} {xs ys : List V} {H : Hp} {b : Bool} {bs : List Bool} (h : D x y H b) (p : PrE D xs ys H bs) : PrE D (x :: xs) (y :: ys) H (b :: bs) := by
  refine ⟨by rw [List.length_cons, List.length_cons, p.lx], by rw [List.length_cons, List.length_cons, p.ly], fun i u v c h1 h2 h3 => ?_⟩
  cases i with
  | zero =>
    simp at h1 h2 h3
    subst h1; subst h2; subst h3
    exact h
  | succ i =>
    simp at h1 h2 h3
    exact p.at_ i u v c h1 h2 h3
def LpI (X : Cx) (pins : List (Addr × Obj)) (σ : St) (H : Hp) (s' : Shared) : Prop := ∃ H', Inv X pins σ H' s' ∧ Ex H H'
theorem turnE (hD : MonE D) (h : EqE X n D) {A : Around} (sb : Sub X (n + 1) A) {pins : List (Addr × Obj)} {σ : St} {H : Hp} {xs ys : List V} {its its2 : List Value} {bs : List Bool} (p : PrE D xs ys H bs) (r : Vals xs its) (r2 : Vals ys its2)
    (i : Nat) (h1 : i < its.toArray.size) (h2 : i < its2.toArray.size) (h3 : i < bs.length) (s' : Shared) (l : LpI X pins σ H s') :
    wpAny (model X.prog X.w) A.in1 (eqBool its.toArray[i] its2.toArray[i]) (fun r s2 => r = bs[i] ∧ LpI X pins σ H s2) X.xe s' := by
  obtain ⟨H1, I1, e1⟩ := l
  have g1 : its[i]? = some its.toArray[i] := by
    have h1' : i < its.length := by simpa using h1
    rw [List.getElem?_eq_getElem h1'] <;> simp
  have g2 : its2[i]? = some its2.toArray[i] := by
    have h2' : i < its2.length := by simpa using h2
    rw [List.getElem?_eq_getElem h2'] <;> simp
  have k1 : i < xs.length := by rw [r.length]; simpa using h1
  have k2 : i < ys.length := by rw [r2.length]; simpa using h2
  obtain ⟨u, hu, ru⟩ := r.get (List.getElem?_eq_getElem k1)
  obtain ⟨v, hv, rv⟩ := r2.get (List.getElem?_eq_getElem k2)
  rw [g1] at hu
  rw [g2] at hv
  rw [Option.some.inj hu, Option.some.inj hv]
  refine wpAny_mono (h A.in1 pins s' σ H1 _ _ u v bs[i] sb.in1 I1 ru rv (hD _ _ _ _ _ e1 (p.at_ i _ _ _ (List.getElem?_eq_getElem k1) (List.getElem?_eq_getElem k2) (List.getElem?_eq_getElem h3)))) (fun r s2 q => ?_) fun _ _ x => x
  obtain ⟨hr, H2, I2, e2⟩ := q
  exact ⟨hr, H2, I2, e1.trans e2⟩
/-- x in [..], the items' == telling -/
def rInE (D : EqR) : R2 := fun x y H Q => ∃ p xs bs, y = .ref p ∧ H p = some (.lst xs) ∧ PrE D xs (List.replicate bs.length x) H bs ∧ ∀ H', Ex H H' → Q (.bl (bs.any id)) H'
def rInTE (K : PySem.W.Frag) (D : EqR) : R2 := fun x y H Q => ∃ p xs bs, y = .ref p ∧ SqT K H p xs ∧ PrE D xs (List.replicate bs.length x) H bs ∧ ∀ H', Ex H H' → Q (.bl (bs.any id)) H'
theorem reps {x : V} {u : Value} (r : RelV x u) : ∀ k : Nat, Vals (List.replicate k x) (List.replicate k u)
  | 0 => .nil
  | k + 1 => .cons r (reps r k)
theorem op_inE (hD : MonE D) (h : EqE X n D) (hr : Room (n + 1) X.A) : OpR X (compareOp .In) (rInE D) := by
  intro pins s σ H x y v u Q I rx ry hq
  obtain ⟨p, xs, bs, rfl, hp, pe, q⟩ := hq
  cases (show u = Value.ref p from ry)
  refine OwQ.in_listG (bs := bs) (I := fun _ s' => LpI X pins σ H s') (fun i s' l => ?_) (fun i s' l => ?_) ⟨H, I, Ex.refl _⟩
  · obtain ⟨H1, I1, e1⟩ := id l
    obtain ⟨z, its, k, r, e⟩ := (show ObjOk X.prog X.w H1 s'.heap p (.lst xs) from I1.hok p _ (e1 _ _ hp))
    have hz : its.length = bs.length := by rw [← r.length]; exact pe.lx
    refine ⟨its.toArray, k, e, by rw [List.size_toArray]; exact hz, fun h1 h2 => ?_⟩
    have t := turnE (A := X.A) hD h ⟨hr, rfl⟩ pe r (reps rx bs.length) i h1 (by simpa using h2) h2 s' l
    simpa using t
  · obtain ⟨H1, I1, e1⟩ := l
    exact ⟨.bl _, H1, I1, rfl, q H1 e1⟩
theorem op_inTE (hD : MonE D) (h : EqE X n D) (hr : Room (n + 1) X.A) : OpR X (compareOp .In) (rInTE X.K D) := by
  intro pins s σ H x y v u Q I rx ry hq
  obtain ⟨p, xs, bs, rfl, hp, pe, q⟩ := hq
  cases (show u = Value.ref p from ry)
  obtain ⟨its, r, e, z⟩ := I.tuple hp
  have hz : its.length = bs.length := by rw [← r.length]; exact pe.lx
  refine OwQ.in_tupG (bs := bs) (I := fun _ s' => LpI X pins σ H s') e (by rw [List.size_toArray]; exact hz) (fun i h1 h2 s' l => ?_) (fun i s' l => ?_) ⟨H, I, Ex.refl _⟩
  · have t := turnE (A := X.A) hD h ⟨hr, rfl⟩ pe r (reps rx bs.length) i h1 (by simpa using h2) h2 s' l
    simpa using t
  · obtain ⟨H1, I1, e1⟩ := l
    exact ⟨.bl _, H1, I1, rfl, q H1 e1⟩
/-- x == y, x != y as expressions -/
def rCmpE (D : EqR) : R2 := fun x y H Q => ∃ b, D x y H b ∧ ∀ H', Ex H H' → Q (.bl b) H'
theorem op_rcE {op : CmpOp} (hop : ∀ a b, compareOp op a b = richCompare op a b) (h : RcE X n op D) (hr : Room n X.A) : OpR X (compareOp op) (rCmpE D) := by
  intro pins s σ H x y v u Q I rx ry hq
  obtain ⟨b, d, q⟩ := hq
  rw [hop]
  refine wpAny_mono (h X.A pins s σ H x y v u b ⟨hr, rfl⟩ I rx ry d) (fun r s' z => ?_) fun _ _ x => x
  obtain ⟨hr', H', I', e⟩ := z
  subst hr'
  exact ⟨.bl b, H', I', rfl, q H' e⟩
theorem op_eqE (h : RcE X n .Eq D) (hr : Room n X.A) : OpR X (compareOp .Eq) (rCmpE D) := op_rcE (fun _ _ => rfl) h hr
theorem op_neE (h : RcE X n .NotEq D) (hr : Room n X.A) : OpR X (compareOp .NotEq) (rCmpE D) := op_rcE (fun _ _ => rfl) h hr
def DLs (D : EqR) : EqR := fun x y H b => ∃ p q xs ys bs, x = .ref p ∧ y = .ref q ∧ H p = some (.lst xs) ∧ H q = some (.lst ys) ∧ PrE D xs ys H bs ∧ b = bs.all id
def DTp (K : PySem.W.Frag) (D : EqR) : EqR := fun x y H b => ∃ p q xs ys bs, x = .ref p ∧ y = .ref q ∧ SqT K H p xs ∧ SqT K H q ys ∧ PrE D xs ys H bs ∧ b = !bs.all id
theorem rcE_list (hD : MonE D) (h : EqE X n D) : RcE X (n + 1) .Eq (DLs D) := by
  intro A pins s σ H x y u v b sb I rx ry d
  obtain ⟨p, q, xs, ys, bs, rfl, rfl, hp, hq, pe, rfl⟩ := d
  cases (show u = Value.ref p from rx)
  cases (show v = Value.ref q from ry)
  have hl : OwQ.EqI X.prog X.w A X.xe p q bs (fun _ s' => LpI X pins σ H s') := fun i s' l => by
    obtain ⟨H1, I1, e1⟩ := id l
    obtain ⟨z, its, k, r, e⟩ := (show ObjOk X.prog X.w H1 s'.heap p (.lst xs) from I1.hok p _ (e1 _ _ hp))
    obtain ⟨z2, its2, k2, r2, e2⟩ := (show ObjOk X.prog X.w H1 s'.heap q (.lst ys) from I1.hok q _ (e1 _ _ hq))
    refine ⟨its.toArray, its2.toArray, k, k2, e, e2, by rw [List.size_toArray, ← r.length]; exact pe.lx, by rw [List.size_toArray, ← r2.length]; exact pe.ly, fun h1 h2 h3 => turnE hD h sb pe r r2 i h1 h2 h3 s' l⟩
  obtain ⟨z, its, k, r, e⟩ := (show ObjOk X.prog X.w H s.heap p (.lst xs) from I.hok p _ hp)
  obtain ⟨z2, its2, k2, r2, e2⟩ := (show ObjOk X.prog X.w H s.heap q (.lst ys) from I.hok q _ hq)
  have hT : s.TypeIs (.ref p) "list" := ⟨_, e, rfl⟩
  have hT2 : s.TypeIs (.ref q) "list" := ⟨_, e2, rfl⟩
  refine wpAny_richCompare_same_room (op := .Eq) hT hT2 PySem.F.slot_list_eq (GQ.call_here PySem.F.slot_list_eq hT PySem.F.entry_list_eq (PySem.F.args_list_eq_2 _ _) ?_) sb.room.units0
  exact OwQ.list_eqB (R := wants (fun v s' => v ≠ .notImplemented ∧ (v = .bool (bs.all id) ∧ ∃ H', Inv X pins σ H' s' ∧ Ex H H')) X.xe) p q bs _ hl (fun i s' l => ⟨(fun x => nomatch x), rfl, l⟩) ⟨H, I, Ex.refl _⟩
theorem neE_tup (hD : MonE D) (h : EqE X n D) : RcE X (n + 1) .NotEq (DTp X.K D) := by
  intro A pins s σ H x y u v b sb I rx ry d
  obtain ⟨p, q, xs, ys, bs, rfl, rfl, hp, hq, pe, rfl⟩ := d
  cases (show u = Value.ref p from rx)
  cases (show v = Value.ref q from ry)
  obtain ⟨its, r, e, z⟩ := I.tuple hp
  obtain ⟨its2, r2, e2, z2⟩ := I.tuple hq
  obtain ⟨⟨cls, dd, data, sl⟩, ho, hc, k, hd⟩ := id e
  obtain ⟨⟨cls2, dd2, data2, sl2⟩, ho2, hc2, k2, hd2⟩ := id e2
  simp only at hc hd hc2 hd2
  subst hc hd hc2 hd2
  have hT : s.TypeIs (.ref p) "tuple" := ⟨_, ho, rfl⟩
  have hT2 : s.TypeIs (.ref q) "tuple" := ⟨_, ho2, rfl⟩
  refine wpAny_richCompare_same_room (op := .NotEq) hT hT2 PySem.F.slot_tuple_ne (GQ.call_here PySem.F.slot_tuple_ne hT PySem.F.entry_tuple_ne (PySem.F.args_tuple_ne_2 _ _) ?_) sb.room.units0
  exact OwQ.tuple_neB (R := wants (fun v s' => v ≠ .notImplemented ∧ (v = .bool (!bs.all id) ∧ ∃ H', Inv X pins σ H' s' ∧ Ex H H')) X.xe) p q _ _ k k2 dd dd2 sl sl2 bs (by rw [List.size_toArray, ← r.length]; exact pe.lx) (by rw [List.size_toArray, ← r2.length]; exact pe.ly) (fun _ s' => LpI X pins σ H s') (fun i h1 h2 h3 s' l => turnE hD h sb pe r r2 i h1 h2 h3 s' l) (fun i s' l => ⟨(fun x => nomatch x), rfl, l⟩) ho ho2 ⟨H, I, Ex.refl _⟩
end
end L2
/-! What these come to. -/
namespace L2
open PySem PySem.Spec PyProof.Rows _root_.Evl
section
variable {σ : L2.St} {H H' : Hp} {ta tb te : TE} {x y z v : V} {D : EqR} {b : Bool} {C : Addr} {sp : Sp} {K : PySem.W.Frag}
theorem rv_cmpE (h : ∀ H1, Ex H H1 → D x y H1 b) : RV (rCmpE D) x y H (.bl b) := fun H1 e Q q => ⟨b, h H1 e, q⟩
theorem rv_inE {p : Addr} {xs : List V} {bs : List Bool} (hp : H p = some (.lst xs)) (h : ∀ H1, Ex H H1 → PrE D xs (List.replicate bs.length x) H1 bs) : RV (rInE D) x (.ref p) H (.bl (bs.any id)) := fun H1 e Q q => ⟨p, xs, bs, rfl, e _ _ hp, h H1 e, q⟩
theorem rv_inTE {p : Addr} {xs : List V} {bs : List Bool} (hp : H p = some (.tup xs)) (h : ∀ H1, Ex H H1 → PrE D xs (List.replicate bs.length x) H1 bs) : RV (rInTE K D) x (.ref p) H (.bl (bs.any id)) := fun H1 e Q q => ⟨p, xs, bs, rfl, st_of (e _ _ hp), h H1 e, q⟩
/-- a call of one thing that tells a text -/
theorem ev_strO {a dx : Addr} {fs : List (Str × V)} {s : Str} (h : Ev te σ H (.ref a)) (ha : H a = some (.ins C dx fs)) (hs : SpV sp [.ref a] H (.str s)) : Ev (tCB (rStrO C sp) (tCons te tNil)) σ H (.str s) := fun H1 e Q q =>
  h H1 e _ fun H2 e2 => ⟨a, dx, fs, rfl, (e.trans e2) _ _ ha, hs H2 (e.trans e2) _ (fun H3 e3 => ⟨s, rfl, q H3 (e2.trans e3)⟩) _⟩
theorem ev_lenO {a dx : Addr} {fs : List (Str × V)} {i : Int} (h : Ev te σ H (.ref a)) (ha : H a = some (.ins C dx fs)) (hs : SpV sp [.ref a] H (.int i)) (i0 : 0 ≤ i) (i1 : i < 2 ^ 63) : Ev (tCB (rLenO C sp) (tCons te tNil)) σ H (.int i) := fun H1 e Q q =>
  h H1 e _ fun H2 e2 => ⟨a, dx, fs, rfl, (e.trans e2) _ _ ha, hs H2 (e.trans e2) _ (fun H3 e3 => ⟨i, rfl, i0, i1, q H3 (e2.trans e3)⟩) _⟩
theorem ev_fmtO {a dx : Addr} {fs : List (Str × V)} {s : Str} (h : Ev te σ H (.ref a)) (ha : H a = some (.ins C dx fs)) (hs : SpV sp [.ref a] H (.str s)) : Ev (tFmtO C sp te) σ H (.str s) := fun H1 e Q q =>
  h H1 e _ fun H2 e2 => ⟨a, dx, fs, rfl, (e.trans e2) _ _ ha, hs H2 (e.trans e2) _ (fun H3 e3 => ⟨s, rfl, q H3 (e2.trans e3)⟩) _⟩
theorem ev_fmtS {s : Str} (h : Ev te σ H (.str s)) (hl : s.length ≤ 100000) : Ev (tFmt te) σ H (.str s) := fun H1 e Q q => h H1 e _ fun H2 e2 => .inl ⟨s, rfl, sz_of hl, q H2 e2⟩
theorem ev_fmtI {i : Int} (h : Ev te σ H (.int i)) (hl : i.natAbs.log2 < 1920) : Ev (tFmt te) σ H (.str (Str.ofString (toString i))) := fun H1 e Q q => h H1 e _ fun H2 e2 => .inr ⟨i, rfl, hl, q H2 e2⟩
/-- texts one behind the other -/
def catS : Str → List Str → Str
  | acc, [] => acc
  | acc, y :: ys => catS (acc ++ y) ys
theorem len_app (x y : Str) : (x ++ y).length = x.length + y.length := by
  show (x.cps ++ y.cps).size = _
  exact Array.size_append
theorem catS_len : ∀ (ys : List Str) (acc : Str), acc.length ≤ (catS acc ys).length
  | [], acc => Nat.le_refl _
  | y :: ys, acc => Nat.le_trans (by rw [len_app]; omega) (catS_len ys (acc ++ y))
inductive EvJ (σ : L2.St) (H : Hp) : List TE → List Str → Prop where
  | nil : EvJ σ H [] []
  | cons {t : TE} {ts : List TE} {y : Str} {ys : List Str} (h : Ev t σ H (.str y)) (r : EvJ σ H ts ys) : EvJ σ H (t :: ts) (y :: ys)
theorem EvJ.go {ts : List TE} {ys : List Str} (h : EvJ σ H ts ys) : ∀ (acc : Str) (H1 : Hp), Ex H H1 → ∀ Q : Str → Hp → Prop, (catS acc ys).length ≤ 100000 → (∀ H2, Ex H1 H2 → Q (catS acc ys) H2) → tJs ts acc σ H1 Q := by
  induction h with
  | nil => exact fun acc H1 e Q _ q => q H1 (Ex.refl _)
  | @cons t ts y ys h r ih =>
    intro acc H1 e Q hl q
    exact h H1 e _ fun H2 e2 => ⟨y, rfl, sz_of (Nat.le_trans (catS_len ys (acc ++ y)) hl), ih (acc ++ y) H2 (e.trans e2) Q hl fun H3 e3 => q H3 (e2.trans e3)⟩
theorem ev_joined {ts : List TE} {ys : List Str} (h : EvJ σ H ts ys) (hl : (catS Str.empty ys).length ≤ 100000) : Ev (fun σ H Q => tJs ts Str.empty σ H fun out H1 => Q (.str out) H1) σ H (.str (catS Str.empty ys)) := fun H1 e Q q => h.go Str.empty H1 e _ hl q
theorem ev_addStr {x y : Str} (ha : Ev ta σ H (.str x)) (hb : Ev tb σ H (.str y)) (h : x.length + y.length ≤ 100000) : Ev (tOp (fun x y H Q => ∃ i j, x = .str i ∧ y = .str j ∧ i.length + j.length ≤ sizeLine ∧ Q (.str (i ++ j)) H) ta tb) σ H (.str (x ++ y)) :=
  ev_op ha hb (rv_val fun H1 _ Q q => ⟨x, y, rfl, rfl, sz_of h, q⟩)
theorem ev_eqS2 {x y : Str} (ha : Ev ta σ H (.str x)) (hb : Ev tb σ H (.str y)) : Ev (tOp rEq ta tb) σ H (.bl (decide (x = y))) := by
  have h := ev_op ha hb (rv_eq (x := .str x) (y := .str y) rfl)
  have e : decide (V.str x = V.str y) = decide (x = y) := by
    rw [Bool.eq_iff_iff]
    simp
  rw [e] at h
  exact h
theorem ev_neS2 {x y : Str} (ha : Ev ta σ H (.str x)) (hb : Ev tb σ H (.str y)) : Ev (tOp rNe ta tb) σ H (.bl (!decide (x = y))) := by
  have h := ev_op ha hb (rv_ne (x := .str x) (y := .str y) rfl)
  have e : decide (V.str x = V.str y) = decide (x = y) := by
    rw [Bool.eq_iff_iff]
    simp
  rw [e] at h
  exact h
theorem rc_strI {i : Int} (h : i.natAbs.log2 < 1920) : RC (fun xs H Q => ∃ i : Int, xs = [V.int i] ∧ i.natAbs.log2 < 1920 ∧ Q (.str (Str.ofString (toString i))) H) [.int i] H (.str (Str.ofString (toString i))) := fun H1 _ Q q => ⟨i, rfl, h, q H1 (Ex.refl _)⟩
theorem log_lt {i : Int} {n : Nat} (h : i.natAbs < 2 ^ n) (hn : n ≤ 1920) (h0 : 0 < n) : i.natAbs.log2 < 1920 := by
  rcases Nat.eq_zero_or_pos i.natAbs with e | e
  · rw [e]
    decide
  · exact Nat.lt_of_lt_of_le ((Nat.log2_lt (by omega)).mpr h) hn
/-- things of built-in kinds -/
def EvK (te : TE) (σ : L2.St) (H : Hp) : Prop := ∀ H1, Ex H H1 → ∀ Q : VK, (∀ v H2, Ex H1 H2 → (∃ T, Kd H2 v T) → Q v H2) → te σ H1 Q
def EvKA (ta : TA) (σ : L2.St) (H : Hp) (n : Nat) : Prop := ∀ H1, Ex H H1 → ∀ Q : List V → Hp → Prop, (∀ vs H2, Ex H1 H2 → vs.length = n → (∀ v ∈ vs, ∃ T, Kd H2 v T) → Q vs H2) → ta σ H1 Q
theorem ek_v {T : String} (h : Ev te σ H v) (k : ∀ H1, Ex H H1 → Kd H1 v T) : EvK te σ H := fun H1 e Q q => h H1 e _ fun H2 e2 => q v H2 e2 ⟨T, k H2 (e.trans e2)⟩
theorem ek_c {T : String} (k : ∀ H1, Kd H1 v T) : EvK (tC v) σ H := ek_v ev_c fun H1 _ => k H1
theorem ek_L {xs : List V} (h : EvL te σ H xs) : EvK te σ H := fun H1 e Q q => h H1 e _ fun p H2 _ e2 hp => q _ H2 e2 ⟨_, .lst hp⟩
theorem ek_U {xs : List V} (h : EvU te σ H xs) : EvK te σ H := fun H1 e Q q => h H1 e _ fun p H2 _ e2 hp => q _ H2 e2 ⟨_, .tup hp⟩
theorem ek_dict : EvK tDNewK σ H := fun H1 e Q q p hp => q _ _ (Ex.new hp) ⟨_, .dK upd_same⟩
theorem ek_nil : EvKA tNil σ H 0 := fun H1 e Q q => q [] H1 (Ex.refl _) rfl fun v h => nomatch h
theorem ek_cons {tr : TA} {n : Nat} (h : EvK te σ H) (hr : EvKA tr σ H n) : EvKA (tCons te tr) σ H (n + 1) := fun H1 e Q q => h H1 e _ fun v H2 e2 ⟨T, hT⟩ => hr H2 (e.trans e2) _ fun vs H3 e3 hl hk => q (v :: vs) H3 (e2.trans e3) (by rw [List.length_cons, hl]) fun u hu => by
  rcases List.mem_cons.mp hu with rfl | hu
  · exact ⟨T, hT.ex e3⟩
  · exact hk u hu
theorem EvKA.go {ta : TA} {n : Nat} {Q : List V → Hp → Prop} (h : EvKA ta σ H n) (k : ∀ vs H2, Ex H H2 → vs.length = n → (∀ v ∈ vs, ∃ T, Kd H2 v T) → Q vs H2) : ta σ H Q := h H (Ex.refl _) _ k
/-- pairs of ints compared -/
theorem eqv_pair (a b : Int × Int) : PyData.eqv (.tuple [.int a.1, .int a.2]) (.tuple [.int b.1, .int b.2]) = decide (a = b) := by
  obtain ⟨a1, a2⟩ := a
  obtain ⟨b1, b2⟩ := b
  show (a1 == b1 && (a2 == b2 && true)) = decide ((a1, a2) = (b1, b2))
  rw [Bool.eq_iff_iff]
  simp
theorem dp_pair {p : Addr} {a : Int × Int} (h : H p = some (.tup [.int a.1, .int a.2])) : Dp K H (.ref p) (.tuple [.int a.1, .int a.2]) := .tup (st_of h) (.cons (.int _) (.cons (.int _) .nil))
theorem rv_eqP {p q : Addr} {a b : Int × Int} (hp : H p = some (.tup [.int a.1, .int a.2])) (hq : H q = some (.tup [.int b.1, .int b.2])) : RV (rEqD K) (.ref p) (.ref q) H (.bl (decide (a = b))) := fun H1 e Q k =>
  ⟨_, _, dp_pair (e _ _ hp), dp_pair (e _ _ hq), rfl, rfl, by
    rw [eqv_pair]
    exact k H1 (Ex.refl _)⟩
theorem rv_neP {p q : Addr} {a b : Int × Int} (hp : H p = some (.tup [.int a.1, .int a.2])) (hq : H q = some (.tup [.int b.1, .int b.2])) : RV (rNeD K) (.ref p) (.ref q) H (.bl (!decide (a = b))) := fun H1 e Q k =>
  ⟨_, _, dp_pair (e _ _ hp), dp_pair (e _ _ hq), rfl, rfl, by
    rw [eqv_pair]
    exact k H1 (Ex.refl _)⟩
/-- a loop over a list that an expression tells: the expression first -/
theorem q_forO {g : TG} {tu tz : TS} {E : Ends} (h : te σ H fun x H1 => ∃ a, x = .ref a ∧ (∃ xs, SqL K H1 a xs) ∧ tFor (fun _ H' R => R (Itl K a) H') g tu { E with nx := tz E } σ H1) : tSeq (tFor (iList K te) g tu) tz E σ H := h
theorem rc_intB {b : Bool} : RC (fun xs H Q => (∃ i, xs = [V.int i] ∧ Q (.int i) H) ∨ ∃ k, xs = [V.bl k] ∧ Q (.int (if k then 1 else 0)) H) [.bl b] H (.int (if b then 1 else 0)) := fun H1 _ Q q => .inr ⟨b, rfl, q H1 (Ex.refl _)⟩
theorem rc_isiK {x : V} {T : String} (c : OwnC K C) (h : ∀ H1, Ex H H1 → Kd H1 x T) : RC (rIsi K) [x, .ref C] H (.bl false) := rc_isi (.own C) (fun H1 e => (h H1 e).tyx) (c.kit (h H (Ex.refl _)).mem)
end
end L2
/-! f'{n:018d}': figures with noughts ahead. -/
namespace L2
open PySem PySem.Spec PyProof.Rows _root_.Evl
def digB (K : PySem.W.Frag) : Bool := decide (PySem.W.nsIn K cStatics "sys.int_max_str_digits" = some none)
section
variable {X : Cx}
theorem noDigits_of {pins : List (Addr × Obj)} {s : Shared} {σ : St} {H : Hp} (I : Inv X pins σ H s) (h : digB X.K = true) : s.heap.NoDigits := by
  have h := of_decide_eq_true h
  obtain ⟨mc, ns, _⟩ := I.nolimit
  refine ⟨mc, ns, ?_⟩
  obtain ⟨o, es, ep, ho, hd, hk, hf⟩ := ns
  unfold PySem.W.nsIn at h
  cases e : X.K.lookup cStatics with
  | none =>
    rw [e] at h
    cases h
  | some o' =>
    rw [e] at h
    have q := I.kIn _ _ e
    rw [ho] at q
    cases q
    obtain ⟨c1, d1, dt, sl⟩ := o
    simp only at hd
    subst hd
    dsimp only at h
    rw [← hf]
    unfold nsFind findBy
    rw [← Array.find?_toList]
    split at h
    · cases h
    · rename_i q
      rw [q]
      rfl
/-- figures, noughts ahead to w of them -/
def zpad (w : Nat) (a : Int) : Str := ⟨(List.replicate (w - (Nat.toDigits 10 a.natAbs).length) 48).toArray⟩ ++ Str.ofString (toString a)
def tFmtZ (w : Nat) (te : TE) : TE := fun σ H Q => te σ H fun x H1 => ∃ i : Int, x = .int i ∧ 0 ≤ i ∧ i.natAbs < 10 ^ 4300 ∧ Q (.str (zpad w i)) H1
theorem pe_fmt18 {e : Expr} {te : TE} {pos p1 p2 : Pos} {k : Nat} (hd : digB X.K = true) (he : PE X e te) : PE X (.FormattedValue e (-1) (some (.JoinedStr [.Constant (.str "018d") k p1] p2)) pos) (tFmtZ 18 te) := by
  refine ⟨fun pins s σ H Q I h => ?_⟩
  refine wpAny_FormattedValue_spec (thn (he.run pins s σ H _ I h) fun v s1 hv => ?_)
  obtain ⟨x, H1, I1, r1, i, rfl, i0, i1, q⟩ := hv
  obtain ⟨t, rfl⟩ := r1
  refine thn ((pe_joined1 pe_str).run pins s1 σ H1 (fun z H2 => z = .str "018d" ∧ H2 = H1) I1 ⟨rfl, rfl⟩) fun r s2 hr => ?_
  obtain ⟨z, H2, I2, rz, rfl, rfl⟩ := hr
  obtain ⟨t2, rfl⟩ := rz
  refine ⟨"018d", t2, rfl, formatField_int_specOf (noDigits_of I2 hd) i1 (by decide +kernel) fun W hW F => ?_⟩
  have e : intSpecTextOf "018d" i = zpad 18 i := by
    have h := F.zeroG (by decide +kernel) i0
    have hW : W = 18 := hW.trans (by decide +kernel)
    rw [hW] at h
    exact h
  rw [e]
  exact ⟨.str (zpad 18 i), H2, I2.tok _, ⟨_, rfl⟩, q⟩
end
end L2
namespace L2
open PySem PySem.Spec PyProof.Rows _root_.Evl
theorem ev_fmtZ {σ : L2.St} {H : Hp} {te : TE} {i : Int} {w : Nat} (h : Ev te σ H (.int i)) (h0 : 0 ≤ i) (h1 : i.natAbs < 10 ^ 4300) : Ev (tFmtZ w te) σ H (.str (zpad w i)) := fun H1 e Q q => h H1 e _ fun H2 e2 => ⟨i, rfl, h0, h1, q H2 e2⟩
theorem bits_le {i : Int} {n : Nat} (h : i.natAbs < 2 ^ n) : Builtin.Int.intBits i ≤ n := PyProof.Rows.intBits_le h
end L2
/-! Texts as rows of signs. -/
namespace L2
open PySem PySem.Spec PyProof.Rows _root_.Evl
def cs (z : Str) : List Nat := z.cps.toList
theorem cs_len (z : Str) : z.length = (cs z).length := by simp [cs, Str.length]
def isL (c : Nat) : Bool := decide (c ∈ cs "abcdefghijklmnopqrstuvwxyz")
def isM (c : Nat) : Bool := decide (c ∈ cs "><")
theorem isM_law (c : Nat) : decide (c ∈ cs "<>") = isM c := by
  have e1 : cs "<>" = [60, 62] := by decide +kernel
  have e2 : cs "><" = [62, 60] := by decide +kernel
  unfold isM
  rw [e1, e2]
  simp [or_comm]
theorem isM_no (c : Nat) (h : isM c = true) : isL c = false := by
  have e2 : cs "><" = [62, 60] := by decide +kernel
  have h1 := of_decide_eq_true h
  rw [e2] at h1
  simp only [List.mem_cons, List.mem_nil_iff, or_false] at h1
  rcases h1 with rfl | rfl <;> decide +kernel
def takeS (z : Str) (n : Nat) : Str := ⟨((cs z).take n).toArray⟩
def dropS (z : Str) (n : Nat) : Str := ⟨((cs z).drop n).toArray⟩
theorem cut_take (z : Str) (n : Nat) : cutS z none (some (n : Int)) = takeS z n := by
  unfold cutS takeS
  rw [HT.sIx_none, HT.sIx_nat, List.drop_zero, Nat.sub_zero]
  congr 2
  show List.take (min n z.length) z.cps.toList = _
  rw [cs_len]
  by_cases h : n ≤ (cs z).length
  · rw [Nat.min_eq_left h]
    rfl
  · rw [Nat.min_eq_right (by omega)]
    show List.take (cs z).length (cs z) = _
    rw [List.take_of_length_le (Nat.le_refl _), List.take_of_length_le (by omega)]
theorem cut_drop (z : Str) (n : Nat) : cutS z (some (n : Int)) none = dropS z n := by
  unfold cutS dropS
  rw [HT.sIx_none, HT.sIx_nat]
  congr 1
  rw [cs_len]
  have e : z.cps.toList = cs z := rfl
  rw [e]
  by_cases h : n ≤ (cs z).length
  · rw [Nat.min_eq_left h, List.take_of_length_le (by rw [List.length_drop]; omega)]
  · rw [Nat.min_eq_right (by omega), List.drop_of_length_le (Nat.le_refl _), List.drop_of_length_le (by omega)]
    simp
section
variable {σ : L2.St} {H : Hp} {ta tb : TE} {x y : V}
theorem rc_lenS {z : Str} (hz : z.length ≤ 1000) : RC (fun xs H Q => ∃ z : Str, xs = [.str z] ∧ z.length ≤ sizeLine ∧ Q (.int z.length) H) [.str z] H (.int ((cs z).length : Int)) := fun H1 _ Q q =>
  ⟨z, rfl, sz_of (by omega), by rw [cs_len]; exact q H1 (Ex.refl _)⟩
theorem rv_inS {c : Nat} {z : Str} : RV (fun x y H Q => ∃ (c : Nat) (z : Str), x = .str ⟨#[c]⟩ ∧ y = .str z ∧ Q (.bl (decide (c ∈ z.cps.toList))) H) (.str ⟨#[c]⟩) (.str z) H (.bl (decide (c ∈ cs z))) := fun H1 _ Q q => ⟨c, z, rfl, rfl, q H1 (Ex.refl _)⟩
theorem ev_ixS {z : Str} {i c : Nat} (ha : Ev ta σ H (.str z)) (hb : Ev tb σ H (.int (i : Int))) (hz : z.length ≤ 1000) (hc : (cs z)[i]? = some c) : Ev (tOp rIxS ta tb) σ H (.str ⟨#[c]⟩) := ev_op ha hb (rv_ixS (by omega) (atI_nat hc))
theorem ev_take {z : Str} {n : Nat} (ha : Ev ta σ H (.str z)) (hb : Ev tb σ H (.int (n : Int))) (hz : z.length ≤ 1000) : Ev (tSl rSlS ta tNoPart (tPart tb)) σ H (.str (takeS z n)) := fun H1 e Q q =>
  ha H1 e _ fun H2 e2 => hb H2 (e.trans e2) _ fun H3 e3 => ⟨_, rfl, z, rfl, sz_of (by omega), by rw [cut_take]; exact q H3 (e2.trans e3)⟩
theorem ev_drop {z : Str} {n : Nat} (ha : Ev ta σ H (.str z)) (hb : Ev tb σ H (.int (n : Int))) (hz : z.length ≤ 1000) : Ev (tSl rSlS ta (tPart tb) tNoPart) σ H (.str (dropS z n)) := fun H1 e Q q =>
  ha H1 e _ fun H2 e2 => hb H2 (e.trans e2) _ fun H3 e3 => ⟨_, rfl, z, rfl, sz_of (by omega), by rw [cut_drop]; exact q H3 (e2.trans e3)⟩
end
def Word (z : Str) : Prop := 1 ≤ (cs z).length ∧ (cs z).length ≤ 6 ∧ ∀ c ∈ cs z, isL c = true
def wordB (z : Str) : Bool := decide (1 ≤ (cs z).length) && (decide ((cs z).length ≤ 6) && (cs z).all isL)
theorem wordB_ok {z : Str} (h : wordB z = true) : Word z := by
  unfold wordB at h
  rw [Bool.and_eq_true, Bool.and_eq_true, decide_eq_true_eq, decide_eq_true_eq, List.all_eq_true] at h
  exact ⟨h.1, h.2.1, h.2.2⟩
theorem lc_rng {σ : L2.St} {H : Hp} {te te0 : TE} {Q : VK} {g : TG} {t : TT} {vs : List Nat} (h : te0 σ H fun v H1 => tLc (iRng1 (fun _ H R => R [v] H)) g t te vs σ H1 Q) : tLc (iRng1 (tCons te0 tNil)) g t te vs σ H Q := h
def ofL (l : List Nat) : Str := ⟨l.toArray⟩
theorem cs_ofL (l : List Nat) : cs (ofL l) = l := rfl
theorem ofL_cs (z : Str) : ofL (cs z) = z := by
  cases z
  rfl
theorem ofL_len (l : List Nat) : (ofL l).length = l.length := by
  rw [cs_len, cs_ofL]
theorem ofL_inj {l m : List Nat} (h : ofL l = ofL m) : l = m := congrArg cs h
theorem ofL_app (l m : List Nat) : ofL l ++ ofL m = ofL (l ++ m) := TL.ext_tl (TL.tl_append _ _)
theorem take_ofL (l : List Nat) (n : Nat) : takeS (ofL l) n = ofL (l.take n) := rfl
theorem drop_ofL (l : List Nat) (n : Nat) : dropS (ofL l) n = ofL (l.drop n) := rfl
theorem cs_app (x y : Str) : cs (x ++ y) = cs x ++ cs y := TL.tl_append x y
theorem cs_take (z : Str) (n : Nat) : cs (takeS z n) = (cs z).take n := rfl
theorem cs_drop (z : Str) (n : Nat) : cs (dropS z n) = (cs z).drop n := rfl
theorem ev_cat {σ : L2.St} {H : Hp} {ta tb : TE} {x y : Str} (ha : Ev ta σ H (.str x)) (hb : Ev tb σ H (.str y)) (hx : x.length ≤ 10000) (hy : y.length ≤ 10000) : Ev (tOp (fun x y H Q => ∃ i j : Str, x = .str i ∧ y = .str j ∧ i.length + j.length ≤ sizeLine ∧ Q (.str (i ++ j)) H) ta tb) σ H (.str (x ++ y)) :=
  ev_op ha hb fun H4 _ Q' q' => ⟨_, _, rfl, rfl, sz_of (by omega), q' H4 (Ex.refl _)⟩
def ownS : List Str := ["rose", "none", "home", "away", "ok", "same", "on", "back", "own", "across", "corner", "wind"]
theorem own_word : ∀ z ∈ ownS, Word z := by
  have h : ownS.all wordB = true := by decide +kernel
  exact fun z hz => wordB_ok (List.all_eq_true.mp h z hz)
theorem own_len : ownS.length = 12 := rfl
def LT : Str := "abcdefghijklmnopqrstuvwxyz"
theorem LT_len : (cs LT).length = 26 := by decide +kernel
theorem at_some {α : Type} {L : List α} {j : Int} (h0 : 0 ≤ j) (h1 : j < L.length) : ∃ v ∈ L, atI L j = some v := by
  obtain ⟨n, rfl⟩ := Int.eq_ofNat_of_zero_le h0
  have hn : n < L.length := by omega
  exact ⟨L[n], List.getElem_mem hn, atI_nat (by rw [List.getElem?_eq_getElem hn])⟩
def go (j : Int) : Str := (atI ownS j).getD ""
theorem go_at {j : Int} (h0 : 0 ≤ j) (h1 : j < 12) : atI (ownS.map V.str) j = some (.str (go j)) ∧ Word (go j) := by
  obtain ⟨n, rfl⟩ := Int.eq_ofNat_of_zero_le h0
  have hn : n < ownS.length := by
    rw [own_len]
    omega
  have e : atI ownS (n : Int) = some ownS[n] := atI_nat (List.getElem?_eq_getElem hn)
  unfold go
  rw [e]
  exact ⟨atI_nat (by rw [List.getElem?_map, List.getElem?_eq_getElem hn]; rfl), own_word _ (List.getElem_mem hn)⟩
def gl (j : Int) : Nat := (atI (cs LT) j).getD 0
theorem gl_at {j : Int} (h0 : 0 ≤ j) (h1 : j < 26) : atI (cs LT) j = some (gl j) ∧ isL (gl j) = true := by
  obtain ⟨v, hv, e⟩ := at_some (L := cs LT) h0 (by rw [LT_len]; exact h1)
  unfold gl
  rw [e]
  exact ⟨rfl, decide_eq_true hv⟩
theorem given_all {n : Nat} {g : Nat → Str} : given n (fun _ => true) (fun i => V.str (g i)) = ((List.range n).map g).map V.str := by
  unfold given
  rw [List.filter_eq_self.mpr (fun _ _ => rfl), List.map_map]
  rfl
end L2
/-! set(t) of a tuple of unlike texts, and its len; len(range(n)). -/
namespace OwS
open PySem PySem.Spec PyProof.Rows
section
variable {P : Program} {w : World} {A : Around} {E : Value → Shared → Prop} {s : Shared}
/-- the texts go in one by one, each a new one -/
theorem go_in {I : Addr} {fp wr : List Addr} {G : Array GenState → Array GenState → Prop} {Pv : Nat → Value → Prop} {St : Nat → Shared → Prop} {R : Result → Shared → Prop} (xs : List Str) (nd : xs.Nodup) (few : xs.length + 1 < scanBound)
    (W : WalksS P w A.in1 I fp wr G xs.length Pv St) (S : Addr) (out : S ∉ fp) (is : ∀ i v, Pv i v → ∃ x t, xs[i]? = some x ∧ v = .str x t) :
    ∀ (left i : Nat) (s : Shared), xs.length - i = left → i ≤ xs.length → St i s → s.heap.SetOf (strKind P w) S (fun y => decide (y ∈ xs.take i)) i →
      (∀ s', Moved (S :: wr) G s s' → s'.heap.SetOf (strKind P w) S (fun y => decide (y ∈ xs)) xs.length → R (.ok (.ret .none)) s') →
      codeAny (model P w) A (.builtin "set.update.loop" ⟨[.ref S, .ref I], []⟩) R s := by
  have nw : S ∉ wr := fun h => out (W.sub _ h)
  have up : ∀ b ∈ wr, b ∈ S :: wr := fun b hb => List.mem_cons_of_mem _ hb
  have moved : ∀ {h h' : Heap} {f : Str → Bool} {n : Nat}, h.SetOf (strKind P w) S f n → (∀ o, h.get? S = some o → h'.get? S = some o) → h'.SetOf (strKind P w) S f n := fun hS hk => by
    obtain ⟨o, es, ep, t, ho, rest⟩ := hS
    exact ⟨o, es, ep, t, hk o ho, rest⟩
  intro left
  induction left with
  | zero =>
    intro i s hl hi st hS k
    obtain rfl : i = xs.length := by omega
    rw [List.take_length] at hS
    refine codeAny_builtin F.entry_set_update_loop ?_
    rw [Around.under_plainId F.plain_set_update_loop _]
    exact wpAny_bind (W.done s _ _ st fun s' m => wpAny_pure (k s' (m.mono up) (moved hS fun o e => m.heap S o nw e)))
  | succ left ih =>
    intro i s hl hi st hS k
    have lt : i < xs.length := by omega
    refine codeAny_builtin F.entry_set_update_loop ?_
    rw [Around.under_plainId F.plain_set_update_loop _]
    refine wpAny_bind (W.item i s _ _ lt st fun v s' pv st' m => ?_)
    obtain ⟨x, t, hx, rfl⟩ := is i v pv
    have hS1 := moved (h' := s'.heap) hS fun o e => m.heap S o nw e
    show wpAny _ A.in1 (holding [Value.str x t] (setAdd S (.str x t)) >>= _) _ _ s'
    refine wpAny_bind (wpAny_holding ?_)
    unfold setAdd
    refine wpAny_holding (wpAny_bind ((strKind P w).pyHash (k := x) (strKind_is _ _ _ _) ?_))
    refine wpAny_setAddHashed_of (knd := strKind P w) (s := { s' with toks := s'.toks + 1 }) (strKind_is _ _ _ _) rfl hS1 (by omega) fun h' sb hS2 => ?_
    have new : x ∉ xs.take i := fun hm => by
      obtain ⟨j, hj⟩ := List.mem_iff_getElem?.mp hm
      rw [List.getElem?_take] at hj
      by_cases ji : j < i
      · rw [if_pos ji] at hj
        have e1 := (List.getElem?_eq_some_iff.mp hj)
        have e2 := (List.getElem?_eq_some_iff.mp hx)
        exact absurd (e1.2.trans e2.2.symm) (List.pairwise_iff_getElem.mp nd j i e1.1 e2.1 ji)
      · rw [if_neg ji] at hj
        cases hj
    have hS3 : h'.SetOf (strKind P w) S (fun y => decide (y ∈ xs.take (i + 1))) (i + 1) := by
      refine SetOf_congr hS2 (fun y => ?_) ?_
      · rw [List.take_add_one, hx]
        show (decide (y ∈ xs.take i) || decide (y = x)) = decide (y ∈ xs.take i ++ [x])
        rw [Bool.eq_iff_iff]
        simp [List.mem_append]
      · show (if decide (x ∈ xs.take i) = true then i else i + 1) = i + 1
        rw [if_neg (by simpa using new)]
    refine wpAny_pure ⟨plainId_quiet F.plain_set_update_loop _, ih (i + 1) _ (by omega) lt (W.frame _ s' _ _ st' (Nat.le_succ _) fun b hb o e => ?_) hS3 fun s2 m2 hS4 => ?_⟩
    · rw [sb.2 b (fun h => out (h ▸ hb))]
      exact e
    · refine k s2 (Moved.trans W.gtrans ((m.mono up).then_heap (Nat.le_succ _) fun b o hb e => ?_) m2) hS4
      rw [sb.2 b (fun h => hb (h ▸ List.mem_cons_self))]
      exact e
/-- set(t) -/
theorem set_tuple {l : Addr} {items : Array Value} {xs : List Str} {Q : Value → Shared → Prop} (hh : A.handled = none) (hl : s.heap.IsTuple l items) (hi : StrsAre items.toList xs) (nd : xs.Nodup) (few : xs.length + 1 < scanBound)
    (k : ∀ (h' : Heap) (tk : Nat), h'.SetOf (strKind P w) s.heap.objs.size (fun y => decide (y ∈ xs)) xs.length → (∀ b o, s.heap.get? b = some o → h'.get? b = some o) → Q (.ref s.heap.objs.size) { s with heap := h', toks := tk }) :
    wpAny (model P w) A (call (.type "set") [.ref l]) Q E s := by
  have hsz : items.size = xs.length := by
    have q := StrsAre.len_eq hi
    rw [Array.length_toList] at q
    exact q
  obtain ⟨c, tl, hmro⟩ := F.called_set.mro
  have hmade := F.called_set.made
  have hsub := F.called_set.sub
  have h1 := F.called_set.notType
  have h2 := F.called_set.canCreate
  have hct := F.typeCall_set_1 (.ref l)
  have hli := F.called_set.init.lookup
  refine wpAny_call (codeAny_of_tree ?_)
  show wpAny _ _ (callAny (.type "set") _) _ _ _
  refine wpAny_pure ⟨Code.quiet_builtin _ (by decide +kernel), codeAny_builtin F.entry_type_call ?_⟩
  rw [Around.under_plain (weight_type_call_type "set" [.ref l] []) rfl]
  repeat (any_goals (first | assumption | wp_step))
  let o0 : Bool → Obj := fun led => { cls := .type "set", dict := none, data := .set #[] 0 (.fresh 0 0 led) }
  refine codeAny_mono (code_set_new_1 (.ref l) (E := E) (Q₁ := fun obj s₁ => ∃ led : Bool, obj = .ref s.heap.objs.size ∧ s₁ = { s with heap := s.heap.push (o0 led) }) fun led => ⟨led, rfl, rfl⟩) fun r s₁ hr => ?_
  match r, hr with
  | .error e, hr => exact hr
  | .ok (.ret obj), hr =>
    obtain ⟨led, rfl, rfl⟩ := hr
    have hS : (s.heap.push (o0 led)).get? s.heap.objs.size = some (o0 led) := Heap.get?_push_size _ rfl
    have hT : Shared.TypeIs { s with heap := s.heap.push (o0 led) } (.ref s.heap.objs.size) "set" := ⟨_, hS, rfl⟩
    have hbi := F.called_set.init.bind (.ref s.heap.objs.size)
    repeat (any_goals (first | assumption | wp_step))
    refine codeAny_mono (codeAny_call_builtin (R := wants (fun r s₂ => r = .none ∧ ∃ h' tk, s₂ = { s with heap := h', toks := tk } ∧ h'.SetOf (strKind P w) s.heap.objs.size (fun y => decide (y ∈ xs)) xs.length ∧ ∀ b o, s.heap.get? b = some o → h'.get? b = some o) E) F.called_set.init.plain F.entry_set_init (check_set_init_1 hT ?_)) fun r₂ s₂ hr₂ => ?_
    · obtain ⟨⟨ocls, odict, odata, oslots⟩, hol, hcl, nl, hdl⟩ := hl
      simp only at hcl hdl
      subst hcl hdl
      have hol' := Heap.get?_push_of_some (o0 led) hol
      have hsls := F.sub_tuple_set
      have hslf := F.sub_tuple_frozenset
      have hne : (Value.type "tuple" == Value.type "dict") = false := by decide
      have hl1 : (s.heap.push (o0 led)).IsTuple l items := ⟨_, hol', rfl, nl, rfl⟩
      have hlS : l < s.heap.objs.size := Heap.lt_size hol
      unfold Builtin.«set.__init__» noKeywords Builtin.Frozenset.updateFrom
      generalize hPI : pyIter = PI
      wp_walk
      subst hPI
      refine wpAny_pyIter_tuple hl1 (wpAny_bind (wpAny_runValue ?_))
      have hh3 : A.in1.in1.in1.handled = none := by simp [hh]
      have ne : l ≠ (s.heap.push (o0 led)).objs.size := by
        rw [Heap.size_push]
        exact Nat.ne_of_lt (Nat.lt_succ_of_lt hlS)
      have W := (Walks.tuple (prog := P) (w := w) hh3 (s.heap.push (o0 led)).objs.size l ne items).toS
      rw [hsz] at W
      refine go_in xs nd few W s.heap.objs.size (by rw [Heap.size_push]; simp only [List.mem_cons, List.not_mem_nil, or_false, not_or]; exact ⟨Nat.ne_of_lt (Nat.lt_succ_self _), Nat.ne_of_gt hlS⟩) (fun i v hv => ?_) xs.length 0 _ rfl (Nat.zero_le _) ⟨⟨_, Heap.get?_push_size _ rfl, rfl, rfl⟩, hl1.push _⟩ ?_ ?_
      · have hv' : items.toList[i]? = some v := by
          rw [Array.getElem?_toList]
          exact hv
        have lt : i < xs.length := by
          rw [← hsz]
          exact (Array.getElem?_eq_some_iff.mp hv).1
        obtain ⟨t, e⟩ := SS.strs_at hi i v hv'
        refine ⟨xs[i], t, List.getElem?_eq_getElem lt, ?_⟩
        rw [e, List.getD_eq_getElem?_getD, List.getElem?_eq_getElem lt]
        rfl
      · have hget := Heap.get?_push_of_some ({ cls := .type "tuple_iterator", data := .fields #[.ref l, .int 0 0] } : Obj) hS
        exact SetOf_congr ((setObjOf_fresh (knd := strKind P w) led).setOf hget (by unfold scanBound; omega)) (fun y => by simp) rfl
      · intro s' m hS'
        obtain ⟨h', g', d', tk', os'⟩ := s'
        have eg : g' = s.gens := m.gens
        have ed : d' = s.drawn := m.drawn
        have eo : os' = s.os := m.os
        subst eg ed eo
        refine wpAny_pure (wpAny_pure ⟨rfl, h', tk', rfl, hS', fun b o e => ?_⟩)
        have hb := Heap.lt_size e
        refine m.heap b o ?_ (Heap.get?_push_of_some _ (Heap.get?_push_of_some _ e))
        rw [Heap.size_push]
        simp only [List.mem_cons, List.not_mem_nil, or_false, not_or]
        exact ⟨Nat.ne_of_lt hb, Nat.ne_of_lt (Nat.lt_succ_of_lt hb)⟩
    · match r₂, hr₂ with
      | .error e, hr₂ => exact hr₂
      | .ok (.ret r), hr₂ =>
        obtain ⟨rfl, h', tk, rfl, hS', hk'⟩ := hr₂
        repeat (any_goals (first | assumption | wp_step))
        exact k _ _ hS' hk'
end
end OwS
namespace L2
open PySem PySem.Spec PyProof.Rows _root_.Evl
section
variable {X : Cx} {σ : L2.St} {H : Hp} {K : PySem.W.Frag} {te : TE}
/-- len(set(t)), t a tuple of unlike texts -/
def tLenT (K : PySem.W.Frag) (ta : TE) : TE := fun σ H Q => ta σ H fun x H1 => ∃ (l : Addr) (xs : List Str), x = .ref l ∧ SqT K H1 l (xs.map V.str) ∧ xs.Nodup ∧ xs.length ≤ 1000 ∧ Q (.int xs.length) H1
theorem pe_lenT {a : Expr} {ta : TE} {p p2 q pos : Pos} (hc : X.calm = true) (hg : Gl X "len") (hm : X.mg "len" = none) (hg2 : Gl X "set") (hm2 : X.mg "set" = none) (ha : PE X a ta)
    (na : starEach [a] X.env = (false, eval a X.env) :: starEach [] X.env := by rfl) : PE X (.Call (.Name "len" p) [.Call (.Name "set" p2) [a] [] q] [] pos) (tLenT X.K ta) := by
  refine ⟨fun pins s σ H Q I h => ?_⟩
  refine Call_ (ld_blt I hg hm boot_len (callWith_builtin1 (args_cons ?_ rfl) rfl rfl))
  refine Call_ (ld_blt I hg2 hm2 boot_set (callWith_type1 (args_cons (thn (ha.run pins s σ H _ I h) fun v s1 ⟨x, H1, I1, r1, l, xs, ex, hq, nd, few, q1⟩ => args_nil ?_) na) na rfl))
  subst ex
  cases r1
  obtain ⟨its, r, pl, hz⟩ := I1.tuple hq
  refine OwS.set_tuple (I1.ok.hd hc) pl (by simpa using strsAre_of r) nd (by unfold scanBound; omega) fun h' tk hS hk => args_nil ?_
  have I2 : Inv X pins σ H1 { s1 with heap := h', toks := tk } := I1.kept fun b o e => hk b o e
  obtain ⟨o, es, ep, t, ho, hex, hd, _, _, _, hf, hn⟩ := hS
  refine call_len_set ho hex hd hf (by rw [hn]; omega) ⟨.int xs.length, H1, I2.tok _, ⟨_, by rw [hn]⟩, q1⟩
theorem ev_lenT {l : Addr} {xs : List Str} (h : Ev te σ H (.ref l)) (hq : H l = some (.tup (xs.map V.str))) (nd : xs.Nodup) (few : xs.length ≤ 1000) : Ev (tLenT K te) σ H (.int xs.length) := fun H1 e Q q => h H1 e _ fun H2 e2 => ⟨l, xs, rfl, st_of ((e.trans e2) _ _ hq), nd, few, q H2 e2⟩
/-- [e for j in t], t a tuple -/
theorem el_lcTu {a : Addr} {xs : List V} {tl : TE} {j : Nat} {vs : List Nat} {t : TT} (f : Nat → Bool) (v : Nat → V) (h : Ev tl σ H (.ref a)) (hx : SqT K H a xs) (hz : xs.length ≤ 40000) (hw : ∀ x, wipe ((wipe σ vs).set j (some x)) vs = wipe σ vs)
    (ht : ∀ (i : Nat) (x : V) H1, Ex H H1 → xs[i]? = some x → EvT t ((wipe σ vs).set j (some x)) H1 (f i)) (he : ∀ (i : Nat) (x : V) H1, Ex H H1 → xs[i]? = some x → f i = true → Ev te ((wipe σ vs).set j (some x)) H1 (v i)) :
    EvL (tLc (iTup K tl) (gName j) t te vs) σ H (given xs.length f v) := fun H0 e Q q => h H0 e _ fun H1 e1 => ⟨a, rfl, ⟨xs, ex_t (e.trans e1) hx⟩, fun Dl hD =>
  lc_tup (xs := xs) (Cw H1 f v Dl) ⟨hD, Ex.new hD, upd_same⟩ (fun i H' _ p => ex_t ((e.trans e1).trans p.2.1) hx) (fun i x H' hi p => ⟨hw x, cw_turn p (by have := (List.getElem?_eq_some_iff.mp hi).1; omega) (ht i x H1 (e.trans e1) hi) (fun hf => he i x H1 (e.trans e1) hi hf)⟩)
    (fun H' p => q Dl H' (fresh_back e1 p.1) (e1.trans p.2.1) p.2.2)⟩
theorem rv_notN {x : V} : RV (fun x y H Q => y = .non ∧ Q (.bl (!decide (x = .non))) H) x .non H (.bl (!decide (x = .non))) := fun H1 _ Q q => ⟨rfl, q H1 (Ex.refl _)⟩
theorem rc_len {p : Addr} {ys : List V} (h : SqL K H p ys ∨ SqT K H p ys) : RC (fun xs H Q => ∃ p ys, xs = [V.ref p] ∧ (SqL K H p ys ∨ SqT K H p ys) ∧ Q (.int (ys.length : Nat)) H) [.ref p] H (.int (ys.length : Nat)) := fun H1 e Q q => ⟨p, ys, rfl, h.imp (ex_l e) (ex_t e), q H1 (Ex.refl _)⟩
/-- range(n) as a value, its len -/
theorem cr_range1 : CallR X (.type "range") (fun vs H Q => ∃ j, vs = [V.int j] ∧ ∀ p, H p = none → Q (.ref p) (upd H p (.rng 0 j))) := by
  intro pins s σ H vs us Q I r h
  obtain ⟨j, rfl, q⟩ := h
  obtain ⟨u, rfl, t, rfl⟩ := vals1 r
  refine call_range_1 ⟨.ref s.heap.objs.size, upd H s.heap.objs.size (.rng 0 j), I.laid (t' := s.toks + 2) (fun b o e => Heap.get?_push_of_some _ e) (Nat.le_refl _) ?_, rfl, q _ (I.hok.fresh (Nat.le_refl _))⟩
  exact ⟨_, _, _, Heap.get?_push_size _ rfl⟩
theorem rng_len (r : Addr) (a b : Int) (t u v : Tok) (hb : Builtin.Range.rangeSize a b 1 < 2 ^ 63) :
    Meets (Builtin.«range.__len__» ⟨[.ref r], []⟩) (fun _ R s => s.heap.get? r = some { cls := .type "range", dict := none, data := .fields #[.int a t, .int b u, .int 1 v], slots := #[] } ∧ R (.ok (.ret (.int (Builtin.Range.rangeSize a b 1) s.toks))) { s with toks := s.toks + 1 }) :=
  .of_wp fun prog w A R s h => by
    obtain ⟨hp, g, d, tk, os⟩ := s
    obtain ⟨hl, h⟩ := h
    wp_walk using AutoSeq1.wpAny_loadPart' hl
    refine wpAny_ite_split (fun z => absurd z (by omega)) fun _ => ?_
    wp_walk
    exact ⟨_, rfl, h⟩
def rLenR : List V → Hp → VK → Prop := fun vs H Q => ∃ (a : Addr) (n : Nat), vs = [V.ref a] ∧ H a = some (.rng 0 (n : Int)) ∧ n < 2 ^ 62 ∧ Q (.int (n : Int)) H
theorem call_lenR : CallR X (.builtin "len") rLenR := by
  intro pins s σ H vs us Q I r h
  obtain ⟨a, n, rfl, ha, hn, q⟩ := h
  obtain ⟨u, rfl, ru⟩ := r.one
  cases (show u = Value.ref a from ru)
  obtain ⟨t, u, v, ho⟩ := (show ObjOk X.prog X.w H s.heap a (.rng 0 (n : Int)) from I.hok a _ ha)
  have hT : s.TypeIs (.ref a) "range" := ⟨_, ho, rfl⟩
  have e : Builtin.Range.rangeSize 0 (n : Int) 1 = (n : Int) := by
    unfold Builtin.Range.rangeSize
    rw [if_pos (by decide)]
    split <;> omega
  refine Calls.call_function_entry PySem.kind_len PySem.plain_len PySem.entry_len (PySem.args_len1 _) ?_
  unfold Builtin.«len»
  refine wpAny_bind (m := oneArg "len" _) (wpAny_pure ?_)
  refine wpAny_bind (m := callSpecial? (.ref a) (Str.ofString "__len__")) (wpAny_callSpecial?_slot (name := Str.ofString "__len__") hT PySem.F.slot_range_len (call_meets PySem.F.slot_range_len hT PySem.F.entry_range_len (PySem.F.args_range_len_1 _) (rng_len a 0 n t u v (by rw [e]; omega)) ⟨ho, ?_⟩))
  rw [e]
  refine wpAny_bind (wpAny_holding (wpAny_pure ?_))
  refine wpAny_bind (wpAny_letGo ?_)
  refine wpAny_ite_split (fun z => absurd z (by omega)) fun _ => ?_
  refine wpAny_ite_split (fun z => absurd z (by omega)) fun _ => ?_
  exact wpAny_bind (wpAny_mkInt (wpAny_pure ⟨_, rfl, .int (n : Int), H, (I.tok _).tok _, ⟨_, rfl⟩, q⟩))
theorem ev_lenRng {n : Nat} (h : Ev te σ H (.int (n : Int))) (hn : n < 2 ^ 62) : Ev (tCB rLenR (tCons (tCB (fun vs H Q => ∃ j, vs = [V.int j] ∧ ∀ p, H p = none → Q (.ref p) (upd H p (.rng 0 j))) (tCons te tNil)) tNil)) σ H (.int (n : Int)) := fun H1 e Q q =>
  h H1 e _ fun H2 e2 => ⟨_, rfl, fun p hp => ⟨p, n, rfl, upd_same, hn, q _ (e2.trans (Ex.new hp))⟩⟩
end
end L2
/-! tuples that are known to the object: made by tuple(list), searched by index. -/
namespace L2
open PySem PySem.Spec PyProof.Rows _root_.Evl
section
variable {X : Cx} {σ : L2.St} {H H' : Hp} {K : PySem.W.Frag}
/-- a tuple known to its object, which has no dict -/
def FzT (H : Hp) (p : Addr) (xs : List V) : Prop := ∃ o : Obj, H p = some (.frz o (.tup xs)) ∧ o.cls = .type "tuple" ∧ o.dict = none
theorem FzT.sq {p : Addr} {xs : List V} (h : FzT H p xs) : SqT K H p xs := let ⟨o, e, _⟩ := h; .inl (.inr ⟨o, e⟩)
theorem FzT.ex {p : Addr} {xs : List V} (h : FzT H p xs) (e : Ex H H') : FzT H' p xs := let ⟨o, q, r⟩ := h; ⟨o, e _ _ q, r⟩
theorem FzT.ty {p : Addr} {xs : List V} (h : FzT H p xs) : TyX K H (.ref p) (.type "tuple") := let ⟨_, e, _⟩ := h; .fTuple e
theorem FzT.un {p : Addr} {xs ys : List V} (h : FzT H p xs) (h' : FzT H p ys) : xs = ys := by
  obtain ⟨o, e, _⟩ := h
  obtain ⟨o', e', _⟩ := h'
  rw [e] at e'
  cases e'
  rfl
/-- tuple(l), l a list: the new one is known -/
def rTupF (K : PySem.W.Frag) : List V → Hp → VK → Prop := fun xs H Q => ∃ p ys, xs = [.ref p] ∧ SqL K H p ys ∧ ∀ l H2, H l = none → Ex H H2 → FzT H2 l ys → Q (.ref l) H2
theorem call_tupF : CallR X (.type "tuple") (rTupF X.K) := by
  intro pins s σ H xs us Q I r h
  obtain ⟨p, ys, rfl, hq, q⟩ := h
  obtain ⟨u, rfl, rx⟩ := vals1 r
  cases rx
  obtain ⟨its, r', pl, hz⟩ := I.list hq
  have hlen := r'.length
  refine call_tuple_list pl.isList (fun h' kp => ?_) (by simp only [List.size_toArray] <;> omega)
  have I1 : Inv X pins σ H { s with heap := h' } := I.kept (t' := s.toks) kp
  have hn := I1.hok.fresh (Nat.le_refl h'.objs.size)
  have I2 : Inv X pins σ (upd H h'.objs.size (.frz { cls := .type "tuple", data := .seq its.toArray } (.tup ys))) { s with heap := h'.push { cls := .type "tuple", data := .seq its.toArray } } :=
    I1.laid (t' := s.toks) (fun b o e => Heap.get?_push_of_some _ e) (Nat.le_refl _)
      (show ObjOk X.prog X.w _ _ _ (.frz _ (.tup ys)) from ⟨Heap.get?_push_size _ rfl, hz, its, r', IsTup.new _ _⟩)
  exact ⟨.ref h'.objs.size, _, I2, rfl, q _ _ hn (Ex.new hn) ⟨_, upd_same, rfl, rfl⟩⟩
theorem none_back {l : Addr} (e : Ex H H') (h : H' l = none) : H l = none := by
  cases q : H l with
  | none => rfl
  | some o => rw [e _ _ q] at h; cases h
theorem ev_tupF {p : Addr} {ys : List V} {te : TE} {Q : VK} (h : Ev te σ H (.ref p)) (hq : H p = some (.lst ys)) (k : ∀ l H2, H l = none → Ex H H2 → FzT H2 l ys → Q (.ref l) H2) : tCB (rTupF K) (tCons te tNil) σ H Q :=
  h H (Ex.refl _) _ fun H1 e1 => ⟨p, ys, rfl, Or.inl (Or.inl (e1 _ _ hq)), fun l H2 hl e2 h2 => k l H2 (none_back e1 hl) (e1.trans e2) h2⟩
/-- t.index(x), t a known tuple of texts -/
def tTI (to : TE) (t : TA) : TE := fun σ H Q => to σ H fun x H1 => ∃ p, ∃ ys : List Str, x = .ref p ∧ FzT H1 p (ys.map V.str) ∧
  t σ H1 fun xs H2 => ∃ z j, xs = [.str z] ∧ FzT H2 p (ys.map V.str) ∧ ys[j]? = some z ∧ (∀ m, m < j → ys[m]? ≠ some z) ∧ Q (.int (j : Nat)) H2
theorem pe_tupI {o e : Expr} {to : TE} {t : TA} {apos cpos : Pos} (ho : PE X o to) (ha : PA X [e] t)
    (hbase : attributeBase o "index" X.env (eval o X.env) = eval o X.env := by rfl)
    (hfew : ((backTo cpos (starEach [e] X.env)).all (fun x => !x.1) && (backToKw cpos (keywordEach [] X.env)).all (fun x => x.1.isSome)
      && decide ([e].length + ([] : List Keyword).length + (if ([] : List Keyword).isEmpty then 0 else 1) < 30)) = true := by rfl)
    (hline : (apos.endLine == cpos.line) = true := by rfl) (hs : starEach [e] X.env = (false, eval e X.env) :: starEach [] X.env := by rfl) :
    PE X (.Call (.Attribute o "index" apos) [e] [] cpos) (tTI to t) := by
  refine ⟨fun pins s σ H Q I h => ?_⟩
  refine wpAny_Call_method_late hbase hfew hline rfl (thn (ho.run pins s σ H _ I h) fun v s1 ⟨x, H1, I1, r1, p, ys, ex, fz, q1⟩ => ?_)
  subst ex
  cases r1
  have hA := ha.run cpos pins s1 σ H1 _ I1 q1
  obtain ⟨ob, e1, hc, hd⟩ := fz
  have g := (I1.hok p _ e1).1
  refine ⟨"tuple", "tuple.index", PySem.F.plainAttrs_tuple, PySem.F.slot_tuple_index, PySem.F.type_tuple_index, ⟨ob, g, hc⟩, fun a ea => ?_, ?_⟩
  · cases ea
    exact ⟨ob, g, hd⟩
  rw [hs] at hA ⊢
  refine Calls.callWith_builtin (by show (false || (backTo cpos (starEach [] X.env)).any (·.1)) = false; rfl) (Calls.evalArgs_plain ?_)
  exact thn hA fun us s2 ⟨vs, H2, I2, r2, z, j, ez, fz2, hj, hno, q2⟩ => mt_tup_index pins s2 σ H2 (.ref p) vs (.ref p) us Q I2 rfl r2 ⟨p, ys, z, j, rfl, ez, fz2.sq, hj, hno, q2⟩
theorem ev_tupI {to te : TE} {p : Addr} {ys : List Str} {z : Str} {j : Nat} (ho : Ev to σ H (.ref p)) (hz : Ev te σ H (.str z)) (hp : FzT H p (ys.map V.str)) (hj : ys[j]? = some z) (hno : ∀ m, m < j → ys[m]? ≠ some z) :
    Ev (tTI to (tCons te tNil)) σ H (.int (j : Int)) := fun H1 e Q q => ho H1 e _ fun H2 e2 => ⟨p, ys, rfl, hp.ex (e.trans e2), hz H2 (e.trans e2) _ fun H3 e3 => ⟨z, j, rfl, hp.ex ((e.trans e2).trans e3), hj, hno, q H3 (e2.trans e3)⟩⟩
theorem ev_lenF {l : Addr} {xs : List Str} {te : TE} (h : Ev te σ H (.ref l)) (hq : FzT H l (xs.map V.str)) (nd : xs.Nodup) (few : xs.length ≤ 1000) : Ev (tLenT K te) σ H (.int xs.length) := fun H1 e Q q => h H1 e _ fun H2 e2 => ⟨l, xs, rfl, (hq.ex (e.trans e2)).sq, nd, few, q H2 e2⟩
end
end L2
namespace Tn
def low (t u : Int) : Int × Int := (t / (Int.gcd t u : Int), u / (Int.gcd t u : Int))
def part (t u : Int) : Int × Int := low (t % u) u
def sgn (t u : Int) : Int × Int := if u < 0 then part (-t) (-u) else part t u
def on (a b : Int × Int) : Int × Int := part (a.1 * b.2 + b.1 * a.2) (a.2 * b.2)
def off (a b : Int × Int) : Int × Int := part (a.1 * b.2 - b.1 * a.2) (a.2 * b.2)
structure Can (a : Int × Int) : Prop where
  pos : 0 < a.2
  nn : 0 ≤ a.1
  lt : a.1 < a.2
  cop : Int.gcd a.1 a.2 = 1
theorem gcd_pos {t u : Int} (hu : 0 < u) : (0 : Int) < (Int.gcd t u : Int) := by
  have : 0 < Int.gcd t u := Int.gcd_pos_of_ne_zero_right _ (by omega)
  omega
theorem low_fst {t u : Int} : (low t u).1 * (Int.gcd t u : Int) = t := Int.ediv_mul_cancel (Int.gcd_dvd_left ..)
theorem low_snd {t u : Int} : (low t u).2 * (Int.gcd t u : Int) = u := Int.ediv_mul_cancel (Int.gcd_dvd_right ..)
theorem low_can {t u : Int} (h0 : 0 ≤ t) (h1 : t < u) : Can (low t u) := by
  have hu : 0 < u := by omega
  have g := gcd_pos (t := t) hu
  have e1 := low_fst (t := t) (u := u)
  have e2 := low_snd (t := t) (u := u)
  refine ⟨?_, ?_, ?_, ?_⟩
  · exact Int.ediv_pos_of_pos_of_dvd hu (by omega) (Int.gcd_dvd_right ..)
  · exact Int.ediv_nonneg h0 (by omega)
  · refine Int.lt_of_mul_lt_mul_right (a := (Int.gcd t u : Int)) ?_ (by omega)
    rw [e1, e2]
    exact h1
  · show Int.gcd (t / (Int.gcd t u : Int)) (u / (Int.gcd t u : Int)) = 1
    exact Int.gcd_ediv_gcd_ediv_gcd_of_ne_zero_right (by omega)
theorem part_can {t u : Int} (hu : 0 < u) : Can (part t u) := low_can (Int.emod_nonneg _ (by omega)) (Int.emod_lt_of_pos _ hu)
theorem low_le {t u : Int} (hu : 0 < u) : (low t u).2 ≤ u := Int.ediv_le_self _ (by omega)
theorem part_le {t u : Int} (hu : 0 < u) : (part t u).2 ≤ u := low_le hu
theorem part_rel {t u : Int} (hu : 0 < u) : ∃ k, t * (part t u).2 - (part t u).1 * u = k * (u * (part t u).2) := by
  have e1 : (part t u).1 * (Int.gcd (t % u) u : Int) = t % u := low_fst
  have e2 : (part t u).2 * (Int.gcd (t % u) u : Int) = u := low_snd
  have e3 := Int.emod_add_mul_ediv t u
  refine ⟨t / u, ?_⟩
  generalize part t u = p at *
  obtain ⟨x, y⟩ := p
  dsimp only at *
  generalize (Int.gcd (t % u) u : Int) = g at *
  generalize t % u = r at *
  generalize t / u = q at *
  subst e1
  grind
theorem can_uniq {a b : Int × Int} (ha : Can a) (hb : Can b) {k : Int} (h : a.1 * b.2 - b.1 * a.2 = k * (a.2 * b.2)) : a = b := by
  obtain ⟨x, y⟩ := a
  obtain ⟨z, w⟩ := b
  have a1 : 0 < y := ha.pos
  have a2 : 0 ≤ x := ha.nn
  have a3 : x < y := ha.lt
  have b1 : 0 < w := hb.pos
  have b2 : 0 ≤ z := hb.nn
  have b3 : z < w := hb.lt
  have ca : Int.gcd x y = 1 := ha.cop
  have cb : Int.gcd z w = 1 := hb.cop
  have h : x * w - z * y = k * (y * w) := h
  have p1 : 0 ≤ x * w := Int.mul_nonneg a2 (by omega)
  have p2 : 0 ≤ z * y := Int.mul_nonneg b2 (by omega)
  have p3 : x * w < y * w := Int.mul_lt_mul_of_pos_right a3 b1
  have p4 : z * y < w * y := Int.mul_lt_mul_of_pos_right b3 a1
  have p5 : 0 < y * w := Int.mul_pos a1 b1
  rw [Int.mul_comm w y] at p4
  have k0 : k = 0 := by
    generalize y * w = m at *
    by_cases q : 1 ≤ k
    · have : m ≤ k * m := by
        have := Int.mul_le_mul_of_nonneg_right q (show 0 ≤ m by omega)
        omega
      omega
    · by_cases q2 : k ≤ -1
      · have : k * m ≤ -m := by
          have := Int.mul_le_mul_of_nonneg_right q2 (show 0 ≤ m by omega)
          omega
        omega
      · omega
  subst k0
  have e : x * w = z * y := by omega
  have d1 : y ∣ w := by
    have q : y ∣ x * w := ⟨z, by grind⟩
    have q2 := Int.dvd_gcd_mul_iff_dvd_mul.mpr q
    rw [Int.gcd_comm, ca] at q2
    simpa using q2
  have d2 : w ∣ y := by
    have q : w ∣ z * y := ⟨x, by grind⟩
    have q2 := Int.dvd_gcd_mul_iff_dvd_mul.mpr q
    rw [Int.gcd_comm, cb] at q2
    simpa using q2
  have e2 : y = w := Int.le_antisymm (Int.le_of_dvd b1 d1) (Int.le_of_dvd a1 d2)
  subst e2
  have : x = z := Int.eq_of_mul_eq_mul_right (by omega) e
  rw [this]
theorem part_eq {t u : Int} {b : Int × Int} (hu : 0 < u) (hb : Can b) {k : Int} (h : t * b.2 - b.1 * u = k * (u * b.2)) : part t u = b := by
  obtain ⟨j, e⟩ := part_rel (t := t) hu
  refine can_uniq (k := k - j) (part_can hu) hb ?_
  generalize part t u = p at *
  refine Int.eq_of_mul_eq_mul_left (a := u) (by omega) ?_
  grind
theorem part_self {a : Int × Int} (ha : Can a) : part a.1 a.2 = a := part_eq (k := 0) ha.pos ha (by grind)
theorem can01 : Can (0, 1) := ⟨by decide, by decide, by decide, by decide⟩
theorem on_can {a b : Int × Int} (ha : Can a) (hb : Can b) : Can (on a b) := part_can (Int.mul_pos ha.pos hb.pos)
theorem off_can {a b : Int × Int} (ha : Can a) (hb : Can b) : Can (off a b) := part_can (Int.mul_pos ha.pos hb.pos)
theorem sgn_can {t u : Int} (hu : u ≠ 0) : Can (sgn t u) := by
  unfold sgn
  by_cases h : u < 0
  · rw [if_pos h]
    exact part_can (by omega)
  · rw [if_neg h]
    exact part_can (by omega)
theorem sgn_pos {t u : Int} (hu : 0 < u) : sgn t u = part t u := if_neg (by omega)
theorem sgn_le {t u : Int} (hu : u ≠ 0) : (sgn t u).2 ≤ (u.natAbs : Int) := by
  unfold sgn
  by_cases h : u < 0
  · rw [if_pos h]
    have := part_le (t := -t) (u := -u) (by omega)
    omega
  · rw [if_neg h]
    have := part_le (t := t) (u := u) (by omega)
    omega
/-- added and taken off again -/
theorem on_off {a b : Int × Int} (ha : Can a) (hb : Can b) : off (on a b) b = a := by
  obtain ⟨j, e⟩ := part_rel (t := a.1 * b.2 + b.1 * a.2) (u := a.2 * b.2) (Int.mul_pos ha.pos hb.pos)
  have c := on_can ha hb
  have e : (a.1 * b.2 + b.1 * a.2) * (on a b).2 - (on a b).1 * (a.2 * b.2) = j * (a.2 * b.2 * (on a b).2) := e
  generalize on a b = p at *
  refine part_eq (k := -j) (Int.mul_pos c.pos hb.pos) ha ?_
  have := ha.pos
  have := hb.pos
  refine Int.eq_of_mul_eq_mul_left (a := b.2) (by omega) ?_
  grind
theorem on_comm {a b : Int × Int} : on a b = on b a := by
  unfold on
  rw [Int.add_comm, Int.mul_comm a.2 b.2]
theorem on_off' {a b : Int × Int} (ha : Can a) (hb : Can b) : off (on a b) a = b := by
  rw [on_comm]
  exact on_off hb ha
theorem off_self {a : Int × Int} (ha : Can a) : off a a = (0, 1) := part_eq (k := 0) (Int.mul_pos ha.pos ha.pos) can01 (by grind)
def half : Int × Int := (1, 2)
theorem half_can : Can half := ⟨by decide, by decide, by decide, by decide⟩
theorem on_half2 {a : Int × Int} (ha : Can a) : on (on a half) half = a := by
  obtain ⟨j, e⟩ := part_rel (t := a.1 * 2 + 1 * a.2) (u := a.2 * 2) (by have := ha.pos; omega)
  have c := on_can ha half_can
  have e : (a.1 * 2 + 1 * a.2) * (on a half).2 - (on a half).1 * (a.2 * 2) = j * (a.2 * 2 * (on a half).2) := e
  generalize on a half = p at *
  have h1 := ha.pos
  have h2 := c.pos
  refine part_eq (t := p.1 * 2 + 1 * p.2) (u := p.2 * 2) (k := 1 - j) (by omega) ha ?_
  grind
theorem part_whole (t : Int) : part t 1 = (0, 1) := part_eq (k := t) (by decide) can01 (by grind)
theorem sgn_whole (t : Int) : sgn t 1 = (0, 1) := by
  rw [sgn_pos (by decide)]
  exact part_whole t
theorem part_zero {u : Int} (hu : 0 < u) : part 0 u = (0, 1) := part_eq (k := 0) hu can01 (by grind)
theorem gcd_step (x y : Int) (hx : 0 ≤ x) (hy : 0 < y) : Int.gcd y (x % y) = Int.gcd x y := by
  have h : Int.gcd (x % y) y = Int.gcd x y := by
    unfold Int.gcd
    obtain ⟨a, rfl⟩ := Int.eq_ofNat_of_zero_le hx
    obtain ⟨b, rfl⟩ := Int.eq_ofNat_of_zero_le (Int.le_of_lt hy)
    show Nat.gcd (((a : Int) % (b : Int)).natAbs) b = Nat.gcd a b
    have : ((a : Int) % (b : Int)).natAbs = a % b := by omega
    rw [this, Nat.gcd_comm a b, Nat.gcd_rec b a]
  rw [Int.gcd_comm, h]
/-- how far apart, the shorter way -/
def apart (a b : Int × Int) : Int × Int := if (off a b).2 < 2 * (off a b).1 then off b a else off a b
/-- taken off the other way about -/
theorem off_back {a b : Int × Int} (ha : Can a) (hb : Can b) : off b a = if (off a b).1 = 0 then (0, 1) else ((off a b).2 - (off a b).1, (off a b).2) := by
  obtain ⟨j, e⟩ := part_rel (t := a.1 * b.2 - b.1 * a.2) (u := a.2 * b.2) (Int.mul_pos ha.pos hb.pos)
  have c := off_can ha hb
  have e : (a.1 * b.2 - b.1 * a.2) * (off a b).2 - (off a b).1 * (a.2 * b.2) = j * (a.2 * b.2 * (off a b).2) := e
  have up : 0 < b.2 * a.2 := Int.mul_pos hb.pos ha.pos
  generalize off a b = w at *
  obtain ⟨w1, w2⟩ := w
  have c1 : 0 < w2 := c.pos
  have c2 : 0 ≤ w1 := c.nn
  have c3 : w1 < w2 := c.lt
  have c4 : Int.gcd w1 w2 = 1 := c.cop
  dsimp only at e ⊢
  by_cases h : w1 = 0
  · subst h
    rw [if_pos rfl]
    have h2 : w2 = 1 := by
      rw [Int.gcd_zero_left] at c4
      omega
    subst h2
    refine part_eq (k := -j) up can01 ?_
    dsimp only
    grind
  · rw [if_neg h]
    refine part_eq (k := -j - 1) up ⟨c1, by show 0 ≤ w2 - w1; omega, by show w2 - w1 < w2; omega, ?_⟩ ?_
    · show Int.gcd (w2 - w1) w2 = 1
      rw [← c4, Int.gcd_comm, Int.gcd_comm w1 w2, ← Int.gcd_neg (a := w2) (b := w1), ← Int.gcd_add_self_right (m := w2) (n := -w1)]
      congr 1
      omega
    · dsimp only
      grind
theorem apart_law {a b : Int × Int} (ha : Can a) (hb : Can b) : (if (off b a).1 * (off a b).2 < (off a b).1 * (off b a).2 then off b a else off a b) = apart a b := by
  have c := off_can ha hb
  have e := off_back ha hb
  unfold apart
  by_cases h : (off a b).1 = 0
  · rw [if_pos h] at e
    have c1 := c.pos
    rw [e, h, if_neg (by show ¬ (0 * (off a b).2 < 0 * 1); rw [Int.zero_mul, Int.zero_mul]; omega), if_neg (by omega)]
  · rw [if_neg h] at e
    have c1 := c.pos
    have q : ((off b a).1 * (off a b).2 < (off a b).1 * (off b a).2) ↔ (off a b).2 < 2 * (off a b).1 := by
      rw [e]
      show (((off a b).2 - (off a b).1) * (off a b).2 < (off a b).1 * (off a b).2) ↔ _
      constructor
      · intro h
        have := Int.lt_of_mul_lt_mul_right h (by omega)
        omega
      · intro h
        exact Int.mul_lt_mul_of_pos_right (by omega) c1
    by_cases h2 : (off a b).2 < 2 * (off a b).1
    · rw [if_pos h2, if_pos (q.mpr h2)]
    · rw [if_neg h2, if_neg (fun z => h2 (q.mp z))]
end Tn
/-! Figures: a number's low figures apart. -/
namespace Dg
open PySem L2 TL
def lo : Nat → Nat → List Nat
  | 0, _ => []
  | w + 1, m => lo w (m / 10) ++ [48 + m % 10]
theorem split_lo : ∀ (w n : Nat), 10 ^ w ≤ n → numL n = numL (n / 10 ^ w) ++ lo w n
  | 0, n, _ => by
    show numL n = numL (n / 1) ++ []
    rw [Nat.div_one, List.append_nil]
  | w + 1, n, h => by
    have hp : 0 < 10 ^ w := Nat.pow_pos (by decide)
    have h : 10 ^ w * 10 ≤ n := by
      rw [← Nat.pow_succ]
      exact h
    have h10 : 10 ≤ n := by omega
    have h2 : 10 ^ w ≤ n / 10 := (Nat.le_div_iff_mul_le (by decide)).mpr h
    rw [numL_step h10, split_lo w (n / 10) h2, Nat.div_div_eq_div_mul, List.append_assoc, Nat.pow_succ, Nat.mul_comm 10]
    rfl
theorem lo_mod : ∀ (w n : Nat), lo w n = lo w (n % 10 ^ w)
  | 0, _ => rfl
  | w + 1, n => by
    show lo w (n / 10) ++ [48 + n % 10] = lo w (n % 10 ^ (w + 1) / 10) ++ [48 + n % 10 ^ (w + 1) % 10]
    have e1 : n % 10 ^ (w + 1) / 10 = n / 10 % 10 ^ w := by
      rw [Nat.pow_succ, Nat.mul_comm, Nat.mod_mul_right_div_self]
    have e2 : n % 10 ^ (w + 1) % 10 = n % 10 := by
      rw [Nat.pow_succ, Nat.mul_comm, Nat.mod_mul_right_mod]
    rw [e1, e2, lo_mod w (n / 10)]
theorem lo_zero : ∀ w : Nat, lo w 0 = List.replicate w 48
  | 0 => rfl
  | w + 1 => by
    show lo w 0 ++ [48] = _
    rw [lo_zero w, ← List.replicate_succ']
theorem lo_pad : ∀ (w m : Nat), m < 10 ^ (w + 1) → lo (w + 1) m = List.replicate (w + 1 - (numL m).length) 48 ++ numL m
  | 0, m, h => by
    have h : m < 10 := h
    show [] ++ [48 + m % 10] = _
    rw [numL_lt h, Nat.mod_eq_of_lt h]
    rfl
  | w + 1, m, h => by
    show lo (w + 1) (m / 10) ++ [48 + m % 10] = _
    by_cases hm : m < 10
    · have e : m / 10 = 0 := by omega
      rw [e, lo_zero, numL_lt hm, Nat.mod_eq_of_lt hm]
      rfl
    · have h2 : m / 10 < 10 ^ (w + 1) := by
        rw [Nat.div_lt_iff_lt_mul (by decide), ← Nat.pow_succ]
        exact h
      rw [lo_pad w (m / 10) h2, numL_step (by omega : 10 ≤ m), List.length_append, List.append_assoc]
      have e : w + 1 + 1 - ((numL (m / 10)).length + 1) = w + 1 - (numL (m / 10)).length := by omega
      show _ = List.replicate (w + 1 + 1 - ((numL (m / 10)).length + 1)) 48 ++ _
      rw [e]
/-- the text of a number from 0 on -/
def num (n : Nat) : Str := Str.ofString (toString ((n : Nat) : Int))
theorem tl_zpad (w n : Nat) : tl (zpad w (n : Int)) = List.replicate (w - (numL n).length) 48 ++ numL n := by
  unfold zpad
  rw [tl_append, tl_mk, tl_num, Int.natAbs_natCast]
  unfold numL
  rw [List.length_map]
theorem num_split {n : Nat} (h : 10 ^ 18 ≤ n) : num n = num (n / 10 ^ 18) ++ zpad 18 ((n % 10 ^ 18 : Nat) : Int) := by
  refine ext_tl ?_
  unfold num
  rw [tl_append, tl_num, tl_num, tl_zpad, split_lo 18 n h, lo_mod, lo_pad 17 _ (Nat.mod_lt _ (by decide))]
theorem zpad_len {n : Nat} (h : n < 10 ^ 18) : (zpad 18 (n : Int)).length = 18 := by
  show (tl (zpad 18 (n : Int))).length = 18
  have q := numL_len (k := 18) (by decide) h
  rw [tl_zpad, List.length_append, List.length_replicate]
  omega
theorem joinL_nil : ∀ L : List (List Nat), joinL [] L = L.flatten
  | [] => rfl
  | [p] => by
    show p = p ++ []
    rw [List.append_nil]
  | p :: q :: r => by
    show p ++ ([] ++ joinL [] (q :: r)) = p ++ (q :: r).flatten
    rw [List.nil_append, joinL_nil (q :: r)]
theorem tl_join0 (ys : List Str) : tl (Txt.join "" ys) = (ys.map tl).flatten := by
  rw [join_eq, tl_join]
  exact joinL_nil _
/-- the pieces, the lowest first, behind what is left -/
def Behind (n l : Nat) (ps : List Str) : Prop := tl (num n) = tl (num l) ++ (ps.reverse.map tl).flatten
theorem behind0 {n : Nat} : Behind n n [] := by
  unfold Behind
  rw [List.reverse_nil, List.map_nil, List.flatten_nil, List.append_nil]
theorem behind1 {n l : Nat} {ps : List Str} (h : Behind n l ps) (hl : 10 ^ 18 ≤ l) : Behind n (l / 10 ^ 18) (ps ++ [zpad 18 ((l % 10 ^ 18 : Nat) : Int)]) := by
  unfold Behind at *
  rw [h, num_split hl, tl_append, List.reverse_append, List.reverse_singleton, List.singleton_append, List.map_cons, List.flatten_cons, List.append_assoc]
theorem behind_end {n l : Nat} {ps : List Str} (h : Behind n l ps) : Txt.join "" (ps ++ [num l]).reverse = num n := by
  refine ext_tl ?_
  rw [tl_join0, List.reverse_append, List.reverse_singleton, List.singleton_append, List.map_cons, List.flatten_cons]
  exact h.symm
theorem sum18 : ∀ ps : List Str, (∀ p ∈ ps, p.length = 18) → (ps.map (·.length)).sum = 18 * ps.length
  | [], _ => rfl
  | p :: r, h => by
    rw [List.map_cons, List.sum_cons, h p (List.mem_cons_self ..), sum18 r fun q hq => h q (List.mem_cons_of_mem _ hq), List.length_cons]
    omega
theorem num_len {n k : Nat} (hk : 0 < k) (h : n < 10 ^ k) : (num n).length ≤ k := by
  show (tl (num n)).length ≤ k
  unfold num
  rw [tl_num]
  exact numL_len hk h
theorem big_le : 2 ^ 4000 ≤ 10 ^ (18 * 70) := by
  have h : (2 ^ 100) ^ 40 ≤ (10 ^ 31) ^ 40 := Nat.pow_le_pow_left (by decide) 40
  rw [← Nat.pow_mul, ← Nat.pow_mul] at h
  exact Nat.le_trans h (Nat.pow_le_pow_right (by decide) (by decide))
end Dg
namespace Nm
/-- how many signs of the kind stand at the front, at most so many -/
def run (p : Nat → Bool) : Nat → List Nat → Nat
  | 0, _ => 0
  | _ + 1, [] => 0
  | m + 1, c :: r => if p c then run p m r + 1 else 0
theorem run_nil (p : Nat → Bool) (m : Nat) : run p m [] = 0 := by cases m <;> rfl
theorem run_stop {p : Nat → Bool} {m : Nat} {L : List Nat} {c : Nat} (h : L.head? = some c) (hp : p c = false) : run p m L = 0 := by
  cases m with
  | zero => rfl
  | succ m =>
    cases L with
    | nil => cases h
    | cons d r =>
      cases h
      show (if p c then _ else 0) = 0
      rw [hp]
      rfl
theorem run_go {p : Nat → Bool} {m : Nat} {L : List Nat} {c : Nat} (h : L.head? = some c) (hp : p c = true) (hm : 0 < m) : run p m L = run p (m - 1) (L.drop 1) + 1 := by
  cases m with
  | zero => cases hm
  | succ m =>
    cases L with
    | nil => cases h
    | cons d r =>
      cases h
      show (if p c then _ else 0) = _
      rw [hp]
      rfl
theorem head_drop {L : List Nat} {i c : Nat} (h : L[i]? = some c) : (L.drop i).head? = some c := by
  rw [List.head?_drop, h]
theorem run_le (p : Nat → Bool) : ∀ (m : Nat) (L : List Nat), run p m L ≤ L.length
  | 0, _ => Nat.zero_le _
  | _ + 1, [] => Nat.zero_le _
  | m + 1, c :: r => by
    show (if p c then run p m r + 1 else 0) ≤ _
    have := run_le p m r
    split
    · rw [List.length_cons]
      omega
    · exact Nat.zero_le _
theorem run_most (p : Nat → Bool) : ∀ (m : Nat) (L : List Nat), run p m L ≤ m
  | 0, _ => Nat.le_refl _
  | _ + 1, [] => Nat.zero_le _
  | m + 1, c :: r => by
    show (if p c then run p m r + 1 else 0) ≤ _
    have := run_most p m r
    split
    · omega
    · exact Nat.zero_le _
/-- what a text is told as: no name, at a sign; or a name, so many letters -/
def res (isL isM : Nat → Bool) (cs : List Nat) : Nat ⊕ Nat :=
  if run isL 6 cs = 0 then .inl 0 else if run isL 6 cs + run isM 5 (cs.drop (run isL 6 cs)) < cs.length then .inl (run isL 6 cs + run isM 5 (cs.drop (run isL 6 cs))) else .inr (run isL 6 cs)
structure J (isL isM : Nat → Bool) (cs : List Nat) (i l m : Nat) : Prop where
  at_ : i = l + m
  l6 : l ≤ 6
  m5 : m ≤ 5
  one : m = 0 → run isL 6 cs = l + run isL (6 - l) (cs.drop l)
  two : 0 < m → 0 < l ∧ run isL 6 cs = l ∧ run isM 5 (cs.drop l) = m + run isM (5 - m) (cs.drop i)
section
variable {isL isM : Nat → Bool} {cs : List Nat} {i l m c : Nat}
theorem j_start : J isL isM cs 0 0 0 := ⟨rfl, by decide, by decide, fun _ => (Nat.zero_add _).symm, fun h => absurd h (by decide)⟩
theorem j_letter (h : J isL isM cs i l m) (hc : cs[i]? = some c) (hL : isL c = true) (hm : m = 0) (hl : l < 6) : J isL isM cs (i + 1) (l + 1) m := by
  have e := h.at_
  subst hm
  have il : i = l := by omega
  subst il
  refine ⟨by omega, by omega, by decide, fun _ => ?_, fun q => absurd q (by decide)⟩
  have h1 := h.one rfl
  rw [run_go (head_drop hc) hL (by omega), List.drop_drop] at h1
  have e6 : 6 - (i + 1) = 6 - i - 1 := by omega
  rw [h1, e6]
  omega
theorem j_mark (h : J isL isM cs i l m) (hc : cs[i]? = some c) (hM : isM c = true) (hno : isM c = true → isL c = false) (hl : 0 < l) (hm : m < 5) : J isL isM cs (i + 1) l (m + 1) := by
  have e := h.at_
  refine ⟨by omega, h.l6, by omega, fun q => absurd q (by omega), fun _ => ⟨hl, ?_, ?_⟩⟩
  · by_cases m0 : m = 0
    · have h1 := h.one m0
      have il : i = l := by omega
      rw [← il, run_stop (head_drop hc) (hno hM)] at h1
      omega
    · exact (h.two (by omega)).2.1
  · by_cases m0 : m = 0
    · subst m0
      have il : i = l := by omega
      subst il
      rw [run_go (head_drop hc) hM (by decide), List.drop_drop]
      show run isM 4 (cs.drop (i + 1)) + 1 = 0 + 1 + run isM 4 (cs.drop (i + 1))
      omega
    · have h2 := (h.two (by omega)).2.2
      rw [run_go (head_drop hc) hM (by omega), List.drop_drop] at h2
      have e5 : 5 - (m + 1) = 5 - m - 1 := by omega
      rw [h2, e5]
      omega
theorem j_no (h : J isL isM cs i l m) (hc : cs[i]? = some c) (hA : ¬ (isL c = true ∧ m = 0 ∧ l < 6)) (hB : ¬ (isM c = true ∧ 0 < l ∧ m < 5)) : res isL isM cs = .inl i := by
  have e := h.at_
  have hlt : i < cs.length := (List.getElem?_eq_some_iff.mp hc).1
  by_cases m0 : m = 0
  · have il : i = l := by omega
    have h1 := h.one m0
    have z : run isL (6 - l) (cs.drop l) = 0 := by
      by_cases l6 : l < 6
      · cases q : isL c with
        | true => exact absurd ⟨q, m0, l6⟩ hA
        | false =>
          rw [← il]
          exact run_stop (head_drop hc) q
      · have : 6 - l = 0 := by omega
        rw [this]
        rfl
    rw [z] at h1
    unfold res
    by_cases l0 : l = 0
    · rw [if_pos (by omega)]
      have : i = 0 := by omega
      rw [this]
    · have zm : run isM 5 (cs.drop l) = 0 := by
        cases q : isM c with
        | true => exact absurd ⟨q, by omega, by omega⟩ hB
        | false =>
          rw [← il]
          exact run_stop (head_drop hc) q
      have rl : run isL 6 cs = l := by omega
      rw [if_neg (by omega), rl, zm, if_pos (by omega), Nat.add_zero, ← il]
  · obtain ⟨l0, rl, rm⟩ := h.two (by omega)
    have z : run isM (5 - m) (cs.drop i) = 0 := by
      by_cases m5 : m < 5
      · cases q : isM c with
        | true => exact absurd ⟨q, l0, m5⟩ hB
        | false => exact run_stop (head_drop hc) q
      · have : 5 - m = 0 := by omega
        rw [this]
        rfl
    rw [z] at rm
    unfold res
    rw [if_neg (by omega), rl, rm, if_pos (by omega)]
    congr 1
    omega
theorem j_end (h : J isL isM cs i l m) (hi : i = cs.length) : res isL isM cs = if l = 0 then .inl 0 else .inr l := by
  have e := h.at_
  have dn : cs.drop i = [] := by rw [hi, List.drop_length]
  by_cases m0 : m = 0
  · have il : i = l := by omega
    have h1 := h.one m0
    rw [← il, dn, run_nil] at h1
    unfold res
    by_cases l0 : l = 0
    · rw [if_pos (by omega), if_pos l0]
    · have rl : run isL 6 cs = l := by omega
      rw [if_neg (by omega), rl, ← il, dn, run_nil, if_neg (by omega), if_neg (by omega)]
  · obtain ⟨l0, rl, rm⟩ := h.two (by omega)
    rw [dn, run_nil] at rm
    unfold res
    rw [if_neg (by omega), rl, rm, if_neg (by omega), if_neg (by omega)]
end
end Nm
namespace Mk
/-- the marks of a top and a number of marks, the first mark first -/
def mk : Nat → Int → List Nat
  | 0, _ => []
  | j + 1, l => if 0 < l then 62 :: mk j (l - 2 ^ j) else 60 :: mk j (l + 2 ^ j)
def good (t m : Int) : Bool := if m < 0 || 5 < m then false else if m = 0 then decide (t = 0) else decide (t % 2 = 1) && decide (t.natAbs < 2 ^ m.toNat)
/-- the rows of just so many marks, of at most so many -/
abbrev Row := List Nat × Int × Int
def longer (L : List Row) : List Row := L.flatMap fun r => [(r.1 ++ [60], 2 * r.2.1 - 1, 2 * r.2.2), (r.1 ++ [62], 2 * r.2.1 + 1, 2 * r.2.2)]
def level : Nat → List Row
  | 0 => [([], 0, 1)]
  | n + 1 => longer (level n)
def upto : Nat → List Row
  | 0 => level 0
  | n + 1 => upto n ++ level (n + 1)
def step (l : List Nat) : Int × Int := l.foldl (fun p c => (2 * p.1 + (if c = 62 then 1 else -1), 2 * p.2)) (0, 1)
/-- in lowest terms already -/
def lowOk (r : Row) : Bool := decide (Int.gcd r.2.1 r.2.2 = 1) && (decide (step r.1 = (r.2.1, r.2.2)) && (decide (0 < r.2.2) && (decide (r.2.2 ≤ 32) && (good r.2.1 r.1.length && (decide (mk r.1.length r.2.1 = r.1) && (decide (r.1.length ≤ 5) && r.1.all fun c => c == 60 || c == 62))))))
theorem rows_ok : (upto 5).all lowOk = true := by decide +kernel
theorem rows_len : (upto 5).length = 63 := by decide +kernel
/-- of a good top and number just one row -/
theorem one_of : ∀ m ∈ List.range 6, ∀ i ∈ List.range 63, good ((i : Int) - 31) (m : Int) = true → ((upto 5).filter fun r => decide (r.2.1 = (i : Int) - 31) && decide (r.1.length = m)).map (·.1) = [mk m ((i : Int) - 31)] := by decide +kernel
theorem good_bound {t m : Int} (h : good t m = true) : 0 ≤ m ∧ m ≤ 5 ∧ -31 ≤ t ∧ t ≤ 31 := by
  unfold good at h
  split at h
  · cases h
  · rename_i h1
    simp only [Bool.or_eq_true, decide_eq_true_eq, not_or, Int.not_lt] at h1
    have hm : m = 0 ∨ m = 1 ∨ m = 2 ∨ m = 3 ∨ m = 4 ∨ m = 5 := by omega
    split at h
    · have := of_decide_eq_true h
      omega
    · rw [Bool.and_eq_true, decide_eq_true_eq, decide_eq_true_eq] at h
      have h2 := h.2
      have : (2 : Nat) ^ m.toNat ≤ 32 := by
        rcases hm with rfl | rfl | rfl | rfl | rfl | rfl <;> decide
      omega
theorem due_one {t m : Int} (h : good t m = true) : ((upto 5).filter fun r => decide (r.2.1 = t) && decide ((r.1.length : Int) = m)).map (·.1) = [mk m.toNat t] := by
  obtain ⟨h1, h2, h3, h4⟩ := good_bound h
  have key := one_of m.toNat (List.mem_range.mpr (by omega)) (t + 31).toNat (List.mem_range.mpr (by omega))
  have e1 : (((t + 31).toNat : Nat) : Int) - 31 = t := by omega
  have e2 : ((m.toNat : Nat) : Int) = m := by omega
  rw [e1, e2] at key
  have key := key h
  rw [← key]
  congr 1
  refine List.filter_congr fun r _ => ?_
  congr 1
  rw [Bool.eq_iff_iff, decide_eq_true_eq, decide_eq_true_eq]
  omega
end Mk
/-! Roses: places, names and turns. -/
namespace Rs
open L2
structure Rose where
  ws : List (List Nat)
  h : Nat
  b : Int × Int
def WordL (w : List Nat) : Prop := 1 ≤ w.length ∧ w.length ≤ 6 ∧ ∀ c ∈ w, isL c = true
def MarksL (m : List Nat) : Prop := ∀ c ∈ m, c = 60 ∨ c = 62
def gap (R : Rose) : Nat := 2 ^ R.h
def size (R : Rose) : Nat := R.ws.length * 2 ^ R.h
structure Ok (R : Rose) : Prop where
  n3 : 3 ≤ R.ws.length
  n8 : R.ws.length ≤ 8
  h5 : R.h ≤ 5
  nd : R.ws.Nodup
  wd : ∀ w ∈ R.ws, WordL w
  can : Tn.Can R.b
  sm : R.b.2.natAbs < 2 ^ 100
theorem Ok.h6 {R : Rose} (k : Ok R) : R.h = 0 ∨ R.h = 1 ∨ R.h = 2 ∨ R.h = 3 ∨ R.h = 4 ∨ R.h = 5 := by
  have := k.h5
  omega
theorem Ok.gap_le {R : Rose} (k : Ok R) : 1 ≤ gap R ∧ gap R ≤ 32 := by
  unfold gap
  rcases k.h6 with e | e | e | e | e | e <;> rw [e] <;> decide
theorem size_eq (R : Rose) : size R = R.ws.length * gap R := rfl
theorem Ok.size_le {R : Rose} (k : Ok R) : 3 ≤ size R ∧ size R ≤ 256 := by
  rw [size_eq]
  have h1 := k.gap_le
  have h2 := k.n3
  have h3 := k.n8
  constructor
  · exact Nat.le_trans h2 (Nat.le_mul_of_pos_right _ (by omega))
  · exact Nat.le_trans (Nat.mul_le_mul h3 h1.2) (by decide)
/-- an odd part of a gap, and by how many halvings -/
def lowF : Nat → Nat → Nat × Nat
  | o, 0 => (o, 0)
  | o, h + 1 => if o % 2 = 0 then lowF (o / 2) h else (o, h + 1)
theorem low_all : ∀ h ∈ List.range 6, ∀ o ∈ List.range 32, 0 < o → o < 2 ^ h → (lowF o h).1 % 2 = 1 ∧ 1 ≤ (lowF o h).2 ∧ (lowF o h).2 ≤ h ∧ (lowF o h).1 < 2 ^ (lowF o h).2 ∧ (lowF o h).1 * 2 ^ (h - (lowF o h).2) = o := by decide +kernel
theorem low_ok {o h : Nat} (hh : h ≤ 5) (h0 : 0 < o) (h1 : o < 2 ^ h) : (lowF o h).1 % 2 = 1 ∧ 1 ≤ (lowF o h).2 ∧ (lowF o h).2 ≤ h ∧ (lowF o h).1 < 2 ^ (lowF o h).2 ∧ (lowF o h).1 * 2 ^ (h - (lowF o h).2) = o :=
  low_all h (List.mem_range.mpr (by omega)) o (List.mem_range.mpr (Nat.lt_of_lt_of_le h1 (Nat.pow_le_pow_right (by decide) hh))) h0 h1
theorem mk_all : ∀ m ∈ List.range 6, ∀ i ∈ List.range 63, Mk.good ((i : Int) - 31) (m : Int) = true → Mk.step (Mk.mk m ((i : Int) - 31)) = ((i : Int) - 31, 2 ^ m) ∧ (Mk.mk m ((i : Int) - 31)).length = m ∧ (Mk.mk m ((i : Int) - 31)).all (fun c => c == 60 || c == 62) = true := by decide +kernel
theorem mk_ok {m : Nat} {t : Int} (h : Mk.good t (m : Int) = true) : Mk.step (Mk.mk m t) = (t, 2 ^ m) ∧ (Mk.mk m t).length = m ∧ MarksL (Mk.mk m t) := by
  obtain ⟨_, h2, h3, h4⟩ := Mk.good_bound h
  have key := mk_all m (List.mem_range.mpr (by omega)) (t + 31).toNat (List.mem_range.mpr (by omega))
  have e1 : (((t + 31).toNat : Nat) : Int) - 31 = t := by omega
  rw [e1] at key
  obtain ⟨k1, k2, k3⟩ := key h
  refine ⟨k1, k2, fun c hc => ?_⟩
  have := List.all_eq_true.mp k3 c hc
  simpa using this
theorem good_odd {m t : Nat} (h1 : 1 ≤ m) (h5 : m ≤ 5) (ho : t % 2 = 1) (hl : t < 2 ^ m) : Mk.good (t : Int) (m : Int) = true ∧ Mk.good ((t : Int) - 2 ^ m) (m : Int) = true := by
  have hm : m = 1 ∨ m = 2 ∨ m = 3 ∨ m = 4 ∨ m = 5 := by omega
  have key : ∀ m ∈ ([1, 2, 3, 4, 5] : List Nat), ∀ t ∈ List.range 32, t % 2 = 1 → t < 2 ^ m → Mk.good (t : Int) (m : Int) = true ∧ Mk.good ((t : Int) - 2 ^ m) (m : Int) = true := by decide +kernel
  refine key m (by simp; omega) t (List.mem_range.mpr ?_) ho hl
  have : 2 ^ m ≤ 2 ^ 5 := Nat.pow_le_pow_right (by decide) h5
  omega
/-- a corner and its marks -/
abbrev One := Nat × List Nat
def onOf (R : Rose) (p : Nat) : One := (p / gap R, Mk.mk (lowF (p % gap R) R.h).2 ((lowF (p % gap R) R.h).1 : Int))
def backOf (R : Rose) (p : Nat) : One := ((p / gap R + 1) % R.ws.length, Mk.mk (lowF (p % gap R) R.h).2 (((lowF (p % gap R) R.h).1 : Int) - 2 ^ (lowF (p % gap R) R.h).2))
def ones (R : Rose) (p : Nat) : List One := if p % gap R = 0 then [(p / gap R, [])] else if gap R < 2 * (p % gap R) then [backOf R p, onOf R p] else [onOf R p, backOf R p]
def word (R : Rose) (c : Nat) : List Nat := R.ws[c]?.getD []
def nameOf (R : Rose) (x : One) : List Nat := word R x.1 ++ x.2
def names (R : Rose) (p : Nat) : List (List Nat) := (ones R p).map (nameOf R)
def turn (R : Rose) (p : Nat) : Int × Int := Tn.on R.b (Tn.part (p : Int) (size R : Int))
/-- what a name of a corner and marks tells -/
def placeT (R : Rose) (x : One) : Int := ((x.1 : Int) * (gap R : Int) + (Mk.step x.2).1 * ((gap R : Int) / (Mk.step x.2).2)) % (size R : Int)
/-- a good name: a corner that is there, at most so many marks -/
structure Good (R : Rose) (x : One) : Prop where
  c : x.1 < R.ws.length
  ms : MarksL x.2
  len : x.2.length ≤ R.h
  dv : 0 < (Mk.step x.2).2 ∧ (Mk.step x.2).2 ≤ 32
theorem place_lt {R : Rose} (k : Ok R) {p : Nat} (hp : p < size R) : p / gap R < R.ws.length := by
  have := k.gap_le
  rw [Nat.div_lt_iff_lt_mul (by omega)]
  exact hp
theorem step_nil : Mk.step [] = (0, 1) := rfl
theorem ones_ok {R : Rose} (k : Ok R) {p : Nat} (hp : p < size R) {x : One} (hx : x ∈ ones R p) : Good R x ∧ placeT R x = (p : Int) ∧ x.2.length = (if p % gap R = 0 then 0 else (lowF (p % gap R) R.h).2) := by
  have hc := place_lt k hp
  have hg := k.gap_le
  have hn := k.n3
  have hs := size_eq R
  have dm := Nat.div_add_mod p (gap R)
  unfold ones at hx
  by_cases h0 : p % gap R = 0
  · rw [if_pos h0] at hx
    rw [List.mem_singleton.mp hx, if_pos h0]
    refine ⟨⟨hc, (fun c h => nomatch h), Nat.zero_le _, by rw [step_nil]; decide⟩, ?_, rfl⟩
    unfold placeT
    rw [step_nil]
    show (((p / gap R : Nat) : Int) * (gap R : Int) + 0 * _) % _ = _
    have e0 : p / gap R * gap R = p := by
      rw [Nat.mul_comm]
      omega
    rw [Int.zero_mul, Int.add_zero, ← Int.natCast_mul, e0, ← Int.natCast_emod, Nat.mod_eq_of_lt hp]
  · rw [if_neg h0] at hx
    rw [if_neg h0]
    have h0' : 0 < p % gap R := Nat.pos_of_ne_zero h0
    have hl : p % gap R < gap R := Nat.mod_lt _ (by omega)
    obtain ⟨l1, l2, l3, l4, l5⟩ := low_ok k.h5 h0' hl
    obtain ⟨g1, g2⟩ := good_odd l2 (Nat.le_trans l3 k.h5) l1 l4
    have m1 := mk_ok g1
    have m2 := mk_ok g2
    generalize hm : (lowF (p % gap R) R.h).2 = m at *
    generalize ht : (lowF (p % gap R) R.h).1 = t at *
    have hgm : (gap R : Int) / ((2 : Int) ^ m) = ((2 ^ (R.h - m) : Nat) : Int) := by
      have e : gap R = 2 ^ (R.h - m) * 2 ^ m := by
        unfold gap
        rw [← Nat.pow_add]
        congr 1
        omega
      rw [e]
      have e2 : ((2 : Int) ^ m) = ((2 ^ m : Nat) : Int) := (Int.natCast_pow 2 m).symm
      rw [e2, Int.natCast_mul, Int.mul_ediv_cancel _ (by have := Nat.pow_pos (n := m) (show 0 < 2 by decide); omega)]
    have hgp : 2 ^ m * 2 ^ (R.h - m) = gap R := by
      unfold gap
      rw [← Nat.pow_add]
      congr 1
      omega
    have p32 : (0 : Int) < 2 ^ m ∧ ((2 : Int) ^ m) ≤ 32 := by
      have e2 : ((2 : Int) ^ m) = ((2 ^ m : Nat) : Int) := (Int.natCast_pow 2 m).symm
      have h1 : 0 < 2 ^ m := Nat.pow_pos (by decide)
      have h2 : 2 ^ m ≤ 2 ^ 5 := Nat.pow_le_pow_right (by decide) (by have := k.h5; omega)
      rw [e2]
      omega
    have gOn : Good R (onOf R p) ∧ placeT R (onOf R p) = (p : Int) ∧ (onOf R p).2.length = m := by
      have e : onOf R p = (p / gap R, Mk.mk m (t : Int)) := by
        unfold onOf
        rw [hm, ht]
      rw [e]
      refine ⟨⟨hc, m1.2.2, by rw [m1.2.1]; exact l3, by rw [m1.1]; exact p32⟩, ?_, m1.2.1⟩
      unfold placeT
      rw [m1.1]
      show (((p / gap R : Nat) : Int) * (gap R : Int) + (t : Int) * ((gap R : Int) / 2 ^ m)) % _ = _
      rw [hgm, ← Int.natCast_mul, ← Int.natCast_mul, ← Int.natCast_add, l5, Nat.mul_comm, dm, ← Int.natCast_emod, Nat.mod_eq_of_lt hp]
    have gBack : Good R (backOf R p) ∧ placeT R (backOf R p) = (p : Int) ∧ (backOf R p).2.length = m := by
      have e : backOf R p = ((p / gap R + 1) % R.ws.length, Mk.mk m ((t : Int) - 2 ^ m)) := by
        unfold backOf
        rw [hm, ht]
      rw [e]
      refine ⟨⟨Nat.mod_lt _ (by omega), m2.2.2, by rw [m2.2.1]; exact l3, by rw [m2.1]; exact p32⟩, ?_, m2.2.1⟩
      unfold placeT
      rw [m2.1]
      show ((((p / gap R + 1) % R.ws.length : Nat) : Int) * (gap R : Int) + ((t : Int) - 2 ^ m) * ((gap R : Int) / 2 ^ m)) % _ = _
      have e3 : ((t : Int) - 2 ^ m) * ((gap R : Int) / 2 ^ m) = ((p % gap R : Nat) : Int) - (gap R : Int) := by
        rw [hgm, Int.sub_mul, ← Int.natCast_mul, l5]
        have e2 : ((2 : Int) ^ m) = ((2 ^ m : Nat) : Int) := (Int.natCast_pow 2 m).symm
        rw [e2, ← Int.natCast_mul, hgp]
      rw [e3]
      by_cases hw : p / gap R + 1 < R.ws.length
      · rw [Nat.mod_eq_of_lt hw]
        have e4 : ((p / gap R + 1 : Nat) : Int) * (gap R : Int) + (((p % gap R : Nat) : Int) - (gap R : Int)) = (p : Int) := by
          have e5 : ((p / gap R + 1 : Nat) : Int) * (gap R : Int) = ((gap R * (p / gap R) : Nat) : Int) + (gap R : Int) := by
            rw [← Int.natCast_mul, Nat.add_mul, Nat.one_mul, Nat.mul_comm (p / gap R), Int.natCast_add]
          rw [e5]
          omega
        rw [e4, ← Int.natCast_emod, Nat.mod_eq_of_lt hp]
      · have hw : p / gap R + 1 = R.ws.length := by omega
        rw [hw, Nat.mod_self]
        have e4 : ((0 : Nat) : Int) * (gap R : Int) + (((p % gap R : Nat) : Int) - (gap R : Int)) = (p : Int) + (-1) * (size R : Int) := by
          have e5 : size R = gap R * (p / gap R) + gap R := by
            rw [hs, ← hw, Nat.add_mul, Nat.one_mul, Nat.mul_comm]
          rw [e5]
          omega
        rw [e4, Int.add_mul_emod_self_right, ← Int.natCast_emod, Nat.mod_eq_of_lt hp]
    by_cases hh : gap R < 2 * (p % gap R)
    · rw [if_pos hh] at hx
      simp only [List.mem_cons, List.mem_nil_iff, or_false] at hx
      rcases hx with rfl | rfl
      · exact gBack
      · exact gOn
    · rw [if_neg hh] at hx
      simp only [List.mem_cons, List.mem_nil_iff, or_false] at hx
      rcases hx with rfl | rfl
      · exact gOn
      · exact gBack
/-- the part of a place -/
theorem part_place {p s : Nat} (h : p < s) : (Tn.part (p : Int) (s : Int)).1 * (s : Int) = (p : Int) * (Tn.part (p : Int) (s : Int)).2 := by
  have e1 : (Tn.part (p : Int) (s : Int)).1 * (Int.gcd ((p : Int) % (s : Int)) (s : Int) : Int) = (p : Int) % (s : Int) := Tn.low_fst
  have e2 : (Tn.part (p : Int) (s : Int)).2 * (Int.gcd ((p : Int) % (s : Int)) (s : Int) : Int) = (s : Int) := Tn.low_snd
  have e3 : (p : Int) % (s : Int) = (p : Int) := by
    rw [← Int.natCast_emod, Nat.mod_eq_of_lt h]
  rw [e3] at e1 e2
  generalize (Int.gcd (p : Int) (s : Int) : Int) = g at *
  generalize Tn.part (p : Int) (s : Int) = q at *
  obtain ⟨x, y⟩ := q
  dsimp only at *
  rw [← e2]
  rw [← e1]
  grind
/-- the law's own row of marks, by the bits of a number -/
def lmk : Nat → Int → List Nat
  | 0, _ => []
  | i + 1, n => (if (n / 2 ^ i) % 2 = 1 then 62 else 60) :: lmk i n
theorem lmk_all : ∀ m ∈ List.range 6, ∀ i ∈ List.range 63, Mk.good ((i : Int) - 31) (m : Int) = true → lmk m (((i : Int) - 31 + 2 ^ m - 1) / 2) = Mk.mk m ((i : Int) - 31) := by decide +kernel
theorem lmk_ok {m : Nat} {t : Int} (h : Mk.good t (m : Int) = true) : lmk m ((t + 2 ^ m - 1) / 2) = Mk.mk m t := by
  obtain ⟨_, h2, h3, h4⟩ := Mk.good_bound h
  have key := lmk_all m (List.mem_range.mpr (by omega)) (t + 31).toNat (List.mem_range.mpr (by omega))
  have e1 : (((t + 31).toNat : Nat) : Int) - 31 = t := by omega
  rw [e1] at key
  exact key h
/-- words and marks, gone through -/
theorem run_all {p : Nat → Bool} : ∀ (w r : List Nat) (m : Nat), (∀ c ∈ w, p c = true) → w.length ≤ m → Nm.run p m (w ++ r) = w.length + Nm.run p (m - w.length) r
  | [], r, m, _, _ => by simp
  | c :: w, r, m, hw, hl => by
    cases m with
    | zero => simp at hl
    | succ m =>
      show (if p c then Nm.run p m (w ++ r) + 1 else 0) = _
      rw [if_pos (hw c (List.mem_cons_self ..)), run_all w r m (fun d hd => hw d (List.mem_cons_of_mem _ hd)) (by simpa using hl), List.length_cons]
      have : m + 1 - (w.length + 1) = m - w.length := by omega
      rw [this]
      omega
theorem isM_mark {c : Nat} (h : c = 60 ∨ c = 62) : isM c = true := by
  rcases h with rfl | rfl <;> decide +kernel
theorem isL_mark {c : Nat} (h : c = 60 ∨ c = 62) : isL c = false := by
  rcases h with rfl | rfl <;> decide +kernel
theorem run_word {w m : List Nat} (hw : WordL w) (hm : MarksL m) : Nm.run isL 6 (w ++ m) = w.length := by
  rw [run_all w m 6 hw.2.2 hw.2.1]
  cases m with
  | nil =>
    rw [Nm.run_nil]
    rfl
  | cons c r =>
    rw [Nm.run_stop (c := c) rfl (isL_mark (hm c (List.mem_cons_self ..)))]
    rfl
theorem run_marks {w m : List Nat} {n : Nat} (hm : MarksL m) (hl : m.length ≤ n) : Nm.run isM n ((w ++ m).drop w.length) = m.length := by
  rw [List.drop_left]
  have h := run_all m [] n (fun c hc => isM_mark (hm c hc)) hl
  rw [List.append_nil, Nm.run_nil] at h
  exact h
theorem word_at {R : Rose} {c : Nat} (h : c < R.ws.length) : R.ws[c]? = some (word R c) ∧ word R c ∈ R.ws := by
  have e : R.ws[c]? = some R.ws[c] := List.getElem?_eq_getElem h
  have e2 : word R c = R.ws[c] := by
    unfold word
    rw [e]
    rfl
  rw [e2]
  exact ⟨e, List.getElem_mem h⟩
theorem ones_len (R : Rose) (p : Nat) : 1 ≤ (ones R p).length ∧ (ones R p).length ≤ 2 := by
  unfold ones
  split
  · exact ⟨Nat.le_refl 1, show 1 ≤ 2 by decide⟩
  · split <;> exact ⟨show 1 ≤ 2 by decide, Nat.le_refl 2⟩
end Rs
namespace K09
open PySem PySem.Spec PyProof.Rows L2
def topS (i : Nat) : Stmt := PySem.Challenge.pw_rosenames_k09_names_of_winds.main.body.getD i (.Pass ⟨0, 0, 0, 0⟩)
abbrev s_is_whole : Stmt := topS 12
theorem sc_is_whole : FnScope ["thing"] ["thing"] (defScope s_is_whole) := ⟨rfl, rfl, rfl, by decide +kernel, rfl, by decide +kernel, by decide +kernel⟩
abbrev s_common : Stmt := topS 13
theorem sc_common : FnScope ["one", "other"] ["one", "other"] (defScope s_common) := ⟨rfl, rfl, rfl, by decide +kernel, rfl, by decide +kernel, by decide +kernel⟩
abbrev s_is_word : Stmt := topS 21
theorem sc_is_word : FnScope ["thing"] ["thing"] (defScope s_is_word) := ⟨rfl, rfl, rfl, by decide +kernel, rfl, by decide +kernel, by decide +kernel⟩
abbrev s_parted : Stmt := topS 22
theorem sc_parted : FnScope ["text"] ["text"] (defScope s_parted) := ⟨rfl, rfl, rfl, by decide +kernel, rfl, by decide +kernel, by decide +kernel⟩
abbrev s_parted_within : Stmt := topS 23
theorem sc_parted_within : FnScope ["text", "most", "behind_word", "behind_marks"] ["text", "most"] (defScope s_parted_within) := ⟨rfl, rfl, rfl, by decide +kernel, rfl, by decide +kernel, by decide +kernel⟩
abbrev s_end_of_run : Stmt := topS 24
theorem sc_end_of_run : FnScope ["text", "begin", "signs", "most", "end"] ["text", "begin", "signs", "most"] (defScope s_end_of_run) := ⟨rfl, rfl, rfl, by decide +kernel, rfl, by decide +kernel, by decide +kernel⟩
abbrev s_step_of : Stmt := topS 25
theorem sc_step_of : FnScope ["marks", "top", "bottom", "mark"] ["marks"] (defScope s_step_of) := ⟨rfl, rfl, rfl, by decide +kernel, rfl, by decide +kernel, by decide +kernel⟩
abbrev s_marks_by : Stmt := topS 26
theorem sc_marks_by : FnScope ["top", "many", "marks", "left", "part"] ["top", "many"] (defScope s_marks_by) := ⟨rfl, rfl, rfl, by decide +kernel, rfl, by decide +kernel, by decide +kernel⟩
abbrev s_makes_marks : Stmt := topS 27
theorem sc_makes_marks : FnScope ["top", "many"] ["top", "many"] (defScope s_makes_marks) := ⟨rfl, rfl, rfl, by decide +kernel, rfl, by decide +kernel, by decide +kernel⟩
abbrev s_must_be_turn : Stmt := topS 30
theorem sc_must_be_turn : FnScope ["thing"] ["thing"] (defScope s_must_be_turn) := ⟨rfl, rfl, rfl, by decide +kernel, rfl, by decide +kernel, by decide +kernel⟩
abbrev s_Turn_init : Stmt := inClass (topS 29) 0
theorem sc_Turn_init : FnScope ["self", "top", "bottom", "signed", "size", "part", "shared"] ["self", "top", "bottom"] (defScope s_Turn_init) := ⟨rfl, rfl, rfl, by decide +kernel, rfl, by decide +kernel, by decide +kernel⟩
abbrev s_Turn_plus : Stmt := inClass (topS 29) 4
theorem sc_Turn_plus : FnScope ["self", "other"] ["self", "other"] (defScope s_Turn_plus) := ⟨rfl, rfl, rfl, by decide +kernel, rfl, by decide +kernel, by decide +kernel⟩
abbrev s_Turn_minus : Stmt := inClass (topS 29) 5
theorem sc_Turn_minus : FnScope ["self", "other"] ["self", "other"] (defScope s_Turn_minus) := ⟨rfl, rfl, rfl, by decide +kernel, rfl, by decide +kernel, by decide +kernel⟩
abbrev s_place_told : Stmt := topS 32
theorem sc_place_told : FnScope ["rose", "name", "word", "marks", "top", "bottom", "gap", "place"] ["rose", "name"] (defScope s_place_told) := ⟨rfl, rfl, rfl, by decide +kernel, rfl, by decide +kernel, by decide +kernel⟩
abbrev s_turn_at : Stmt := topS 33
theorem sc_turn_at : FnScope ["rose", "place"] ["rose", "place"] (defScope s_turn_at) := ⟨rfl, rfl, rfl, by decide +kernel, rfl, by decide +kernel, by decide +kernel⟩
abbrev s_place_at : Stmt := topS 34
theorem sc_place_at : FnScope ["rose", "turn", "on", "place", "over"] ["rose", "turn"] (defScope s_place_at) := ⟨rfl, rfl, rfl, by decide +kernel, rfl, by decide +kernel, by decide +kernel⟩
abbrev s_names_at : Stmt := topS 35
theorem sc_names_at : FnScope ["rose", "place", "gap", "corner", "over", "top", "many", "next_corner", "going_on", "going_back"] ["rose", "place"] (defScope s_names_at) := ⟨rfl, rfl, rfl, by decide +kernel, rfl, by decide +kernel, by decide +kernel⟩
abbrev s_lowest : Stmt := topS 36
theorem sc_lowest : FnScope ["top", "many"] ["top", "many"] (defScope s_lowest) := ⟨rfl, rfl, rfl, by decide +kernel, rfl, by decide +kernel, by decide +kernel⟩
abbrev s_own_name : Stmt := topS 37
theorem sc_own_name : FnScope ["rose", "place"] ["rose", "place"] (defScope s_own_name) := ⟨rfl, rfl, rfl, by decide +kernel, rfl, by decide +kernel, by decide +kernel⟩
abbrev s_Rose_init : Stmt := inClass (topS 43) 0
theorem sc_Rose_init : FnScope ["self", "words", "halvings", "begin"] ["self", "words", "halvings", "begin"] (defScope s_Rose_init) := ⟨rfl, rfl, rfl, by decide +kernel, rfl, by decide +kernel, by decide +kernel⟩
abbrev s_Rose___len__ : Stmt := inClass (topS 43) 2
theorem sc_Rose___len__ : FnScope ["self"] ["self"] (defScope s_Rose___len__) := ⟨rfl, rfl, rfl, by decide +kernel, rfl, by decide +kernel, by decide +kernel⟩
abbrev s_Rose_told : Stmt := inClass (topS 43) 5
theorem sc_Rose_told : FnScope ["self", "name"] ["self", "name"] (defScope s_Rose_told) := ⟨rfl, rfl, rfl, by decide +kernel, rfl, by decide +kernel, by decide +kernel⟩
abbrev s_are_corners : Stmt := topS 44
theorem sc_are_corners : FnScope ["thing", "word"] ["thing"] (defScope s_are_corners) := ⟨rfl, rfl, rfl, by decide +kernel, rfl, by decide +kernel, by decide +kernel⟩
abbrev s_Wind_init : Stmt := inClass (topS 46) 0
theorem sc_Wind_init : FnScope ["self", "rose", "turn"] ["self", "rose", "turn"] (defScope s_Wind_init) := ⟨rfl, rfl, rfl, by decide +kernel, rfl, by decide +kernel, by decide +kernel⟩
abbrev s_Wind___len__ : Stmt := inClass (topS 46) 2
theorem sc_Wind___len__ : FnScope ["self"] ["self"] (defScope s_Wind___len__) := ⟨rfl, rfl, rfl, by decide +kernel, rfl, by decide +kernel, by decide +kernel⟩
abbrev s_Wind___str__ : Stmt := inClass (topS 46) 3
theorem sc_Wind___str__ : FnScope ["self"] ["self"] (defScope s_Wind___str__) := ⟨rfl, rfl, rfl, by decide +kernel, rfl, by decide +kernel, by decide +kernel⟩
abbrev s_Wind_place : Stmt := inClass (topS 46) 5
theorem sc_Wind_place : FnScope ["self"] ["self"] (defScope s_Wind_place) := ⟨rfl, rfl, rfl, by decide +kernel, rfl, by decide +kernel, by decide +kernel⟩
abbrev s_Wind_names : Stmt := inClass (topS 46) 6
theorem sc_Wind_names : FnScope ["self"] ["self"] (defScope s_Wind_names) := ⟨rfl, rfl, rfl, by decide +kernel, rfl, by decide +kernel, by decide +kernel⟩
abbrev s_wind_at : Stmt := topS 47
theorem sc_wind_at : FnScope ["rose", "place"] ["rose", "place"] (defScope s_wind_at) := ⟨rfl, rfl, rfl, by decide +kernel, rfl, by decide +kernel, by decide +kernel⟩
abbrev s_wind_of : Stmt := topS 48
theorem sc_wind_of : FnScope ["rose", "name"] ["rose", "name"] (defScope s_wind_of) := ⟨rfl, rfl, rfl, by decide +kernel, rfl, by decide +kernel, by decide +kernel⟩
abbrev s_l_cell : Stmt := topS 50
theorem sc_l_cell : FnScope ["_law_script", "_law_k", "_law_state", "_law_cell_here"] ["_law_script", "_law_k"] (defScope s_l_cell) := ⟨rfl, rfl, rfl, by decide +kernel, rfl, by decide +kernel, by decide +kernel⟩
abbrev s_l_pool : Stmt := topS 51
theorem sc_l_pool : FnScope ["_law_cell_here", "_law_digits"] ["_law_cell_here"] (defScope s_l_pool) := ⟨rfl, rfl, rfl, by decide +kernel, rfl, by decide +kernel, by decide +kernel⟩
abbrev s_l_take : Stmt := topS 52
theorem sc_l_take : FnScope ["_law_pool_here", "_law_many", "_law_state", "_law_digit"] ["_law_pool_here", "_law_many"] (defScope s_l_take) := ⟨rfl, rfl, rfl, by decide +kernel, rfl, by decide +kernel, by decide +kernel⟩
abbrev s_l_low : Stmt := topS 53
theorem sc_l_low : FnScope ["_law_top", "_law_bottom", "_law_a", "_law_b"] ["_law_top", "_law_bottom"] (defScope s_l_low) := ⟨rfl, rfl, rfl, by decide +kernel, rfl, by decide +kernel, by decide +kernel⟩
abbrev s_l_part : Stmt := topS 54
theorem sc_l_part : FnScope ["_law_top", "_law_bottom"] ["_law_top", "_law_bottom"] (defScope s_l_part) := ⟨rfl, rfl, rfl, by decide +kernel, rfl, by decide +kernel, by decide +kernel⟩
abbrev s_l_on : Stmt := topS 55
theorem sc_l_on : FnScope ["_law_one", "_law_other"] ["_law_one", "_law_other"] (defScope s_l_on) := ⟨rfl, rfl, rfl, by decide +kernel, rfl, by decide +kernel, by decide +kernel⟩
abbrev s_l_words : Stmt := topS 56
theorem sc_l_words : FnScope ["_law_pool_here", "_law_many", "_law_own", "_law_way", "_law_at", "_law_step", "_law_k", "_law_letters", "_law_stem", "_law_put", "_law_first", "_law_found"] ["_law_pool_here", "_law_many"] (defScope s_l_words) := ⟨rfl, rfl, rfl, by decide +kernel, rfl, by decide +kernel, by decide +kernel⟩
abbrev s_l_power : Stmt := topS 57
theorem sc_l_power : FnScope ["_law_many", "_law_found", "_law_turn"] ["_law_many"] (defScope s_l_power) := ⟨rfl, rfl, rfl, by decide +kernel, rfl, by decide +kernel, by decide +kernel⟩
abbrev s_l_begin : Stmt := topS 58
theorem sc_l_begin : FnScope ["_law_pool_here", "_law_way", "_law_top", "_law_bottom"] ["_law_pool_here"] (defScope s_l_begin) := ⟨rfl, rfl, rfl, by decide +kernel, rfl, by decide +kernel, by decide +kernel⟩
abbrev s_l_rose : Stmt := topS 59
theorem sc_l_rose : FnScope ["_law_pool_here", "_law_most", "_law_words_here", "_law_halvings"] ["_law_pool_here", "_law_most"] (defScope s_l_rose) := ⟨rfl, rfl, rfl, by decide +kernel, rfl, by decide +kernel, by decide +kernel⟩
abbrev s_l_size_of : Stmt := topS 60
theorem sc_l_size_of : FnScope ["_law_rose_here"] ["_law_rose_here"] (defScope s_l_size_of) := ⟨rfl, rfl, rfl, by decide +kernel, rfl, by decide +kernel, by decide +kernel⟩
abbrev s_l_turn_of : Stmt := topS 61
theorem sc_l_turn_of : FnScope ["_law_rose_here", "_law_place"] ["_law_rose_here", "_law_place"] (defScope s_l_turn_of) := ⟨rfl, rfl, rfl, by decide +kernel, rfl, by decide +kernel, by decide +kernel⟩
abbrev s_l_marks : Stmt := topS 62
theorem sc_l_marks : FnScope ["_law_top", "_law_many", "_law_number", "_law_found", "_law_turn"] ["_law_top", "_law_many"] (defScope s_l_marks) := ⟨rfl, rfl, rfl, by decide +kernel, rfl, by decide +kernel, by decide +kernel⟩
abbrev s_l_names_of : Stmt := topS 63
theorem sc_l_names_of : FnScope ["_law_rose_here", "_law_place", "_law_words_here", "_law_many", "_law_size", "_law_corner", "_law_top", "_law_back", "_law_on_here"] ["_law_rose_here", "_law_place"] (defScope s_l_names_of) := ⟨rfl, rfl, rfl, by decide +kernel, rfl, by decide +kernel, by decide +kernel⟩
abbrev s_l_house : Stmt := topS 64
theorem sc_l_house : FnScope ["_law_rose_here"] ["_law_rose_here"] (defScope s_l_house) := ⟨rfl, rfl, rfl, by decide +kernel, rfl, by decide +kernel, by decide +kernel⟩
abbrev s_l_whole : Stmt := topS 65
theorem sc_l_whole : FnScope ["_law_thing"] ["_law_thing"] (defScope s_l_whole) := ⟨rfl, rfl, rfl, by decide +kernel, rfl, by decide +kernel, by decide +kernel⟩
abbrev s_l_is_turn : Stmt := topS 66
theorem sc_l_is_turn : FnScope ["_law_thing", "_law_due"] ["_law_thing", "_law_due"] (defScope s_l_is_turn) := ⟨rfl, rfl, rfl, by decide +kernel, rfl, by decide +kernel, by decide +kernel⟩
abbrev s_l_right : Stmt := topS 67
theorem sc_l_right : FnScope ["_law_rose_here", "_law_house_here", "_law_place", "_law_due", "_law_turn", "_law_breeze", "_law_name"] ["_law_rose_here", "_law_house_here", "_law_place"] (defScope s_l_right) := ⟨rfl, rfl, rfl, by decide +kernel, rfl, by decide +kernel, by decide +kernel⟩
abbrev s_law : Stmt := topS 68
theorem sc_law : FnScope ["_law_script", "_law_k", "_law_pool_here", "_law_great", "_law_rose_here", "_law_house_here", "_law_place"] ["_law_script"] (defScope s_law) := ⟨rfl, rfl, rfl, by decide +kernel, rfl, by decide +kernel, by decide +kernel⟩
def d_is_whole : He.DefD := ⟨("is_whole", none), "is_whole", "is_whole", defArgs s_is_whole, defBody s_is_whole, defScope s_is_whole, [], []⟩
def d_common : He.DefD := ⟨("common", none), "common", "common", defArgs s_common, defBody s_common, defScope s_common, [], []⟩
def d_is_word : He.DefD := ⟨("is_word", none), "is_word", "is_word", defArgs s_is_word, defBody s_is_word, defScope s_is_word, [], []⟩
def d_parted : He.DefD := ⟨("parted", none), "parted", "parted", defArgs s_parted, defBody s_parted, defScope s_parted, [], []⟩
def d_parted_within : He.DefD := ⟨("parted_within", none), "parted_within", "parted_within", defArgs s_parted_within, defBody s_parted_within, defScope s_parted_within, [], []⟩
def d_end_of_run : He.DefD := ⟨("end_of_run", none), "end_of_run", "end_of_run", defArgs s_end_of_run, defBody s_end_of_run, defScope s_end_of_run, [], []⟩
def d_step_of : He.DefD := ⟨("step_of", none), "step_of", "step_of", defArgs s_step_of, defBody s_step_of, defScope s_step_of, [], []⟩
def d_marks_by : He.DefD := ⟨("marks_by", none), "marks_by", "marks_by", defArgs s_marks_by, defBody s_marks_by, defScope s_marks_by, [], []⟩
def d_makes_marks : He.DefD := ⟨("makes_marks", none), "makes_marks", "makes_marks", defArgs s_makes_marks, defBody s_makes_marks, defScope s_makes_marks, [], []⟩
def d_must_be_turn : He.DefD := ⟨("must_be_turn", none), "must_be_turn", "must_be_turn", defArgs s_must_be_turn, defBody s_must_be_turn, defScope s_must_be_turn, [], []⟩
def d_Turn_init : He.DefD := ⟨("Turn", some "__init__"), "__init__", "Turn.__init__", defArgs s_Turn_init, defBody s_Turn_init, defScope s_Turn_init, [.int 1], []⟩
def d_Turn_plus : He.DefD := ⟨("Turn", some "plus"), "plus", "Turn.plus", defArgs s_Turn_plus, defBody s_Turn_plus, defScope s_Turn_plus, [], []⟩
def d_Turn_minus : He.DefD := ⟨("Turn", some "minus"), "minus", "Turn.minus", defArgs s_Turn_minus, defBody s_Turn_minus, defScope s_Turn_minus, [], []⟩
def d_place_told : He.DefD := ⟨("place_told", none), "place_told", "place_told", defArgs s_place_told, defBody s_place_told, defScope s_place_told, [], []⟩
def d_turn_at : He.DefD := ⟨("turn_at", none), "turn_at", "turn_at", defArgs s_turn_at, defBody s_turn_at, defScope s_turn_at, [], []⟩
def d_place_at : He.DefD := ⟨("place_at", none), "place_at", "place_at", defArgs s_place_at, defBody s_place_at, defScope s_place_at, [], []⟩
def d_names_at : He.DefD := ⟨("names_at", none), "names_at", "names_at", defArgs s_names_at, defBody s_names_at, defScope s_names_at, [], []⟩
def d_lowest : He.DefD := ⟨("lowest", none), "lowest", "lowest", defArgs s_lowest, defBody s_lowest, defScope s_lowest, [], []⟩
def d_own_name : He.DefD := ⟨("own_name", none), "own_name", "own_name", defArgs s_own_name, defBody s_own_name, defScope s_own_name, [], []⟩
def d_Rose_init : He.DefD := ⟨("Rose", some "__init__"), "__init__", "Rose.__init__", defArgs s_Rose_init, defBody s_Rose_init, defScope s_Rose_init, [.int 2, .non], []⟩
def d_Rose___len__ : He.DefD := ⟨("Rose", some "__len__"), "__len__", "Rose.__len__", defArgs s_Rose___len__, defBody s_Rose___len__, defScope s_Rose___len__, [], []⟩
def d_Rose_told : He.DefD := ⟨("Rose", some "told"), "told", "Rose.told", defArgs s_Rose_told, defBody s_Rose_told, defScope s_Rose_told, [], []⟩
def d_are_corners : He.DefD := ⟨("are_corners", none), "are_corners", "are_corners", defArgs s_are_corners, defBody s_are_corners, defScope s_are_corners, [], []⟩
def d_Wind_init : He.DefD := ⟨("Wind", some "__init__"), "__init__", "Wind.__init__", defArgs s_Wind_init, defBody s_Wind_init, defScope s_Wind_init, [], []⟩
def d_Wind___len__ : He.DefD := ⟨("Wind", some "__len__"), "__len__", "Wind.__len__", defArgs s_Wind___len__, defBody s_Wind___len__, defScope s_Wind___len__, [], []⟩
def d_Wind___str__ : He.DefD := ⟨("Wind", some "__str__"), "__str__", "Wind.__str__", defArgs s_Wind___str__, defBody s_Wind___str__, defScope s_Wind___str__, [], []⟩
def d_Wind_place : He.DefD := ⟨("Wind", some "place"), "place", "Wind.place", defArgs s_Wind_place, defBody s_Wind_place, defScope s_Wind_place, [], []⟩
def d_Wind_names : He.DefD := ⟨("Wind", some "names"), "names", "Wind.names", defArgs s_Wind_names, defBody s_Wind_names, defScope s_Wind_names, [], []⟩
def d_wind_at : He.DefD := ⟨("wind_at", none), "wind_at", "wind_at", defArgs s_wind_at, defBody s_wind_at, defScope s_wind_at, [], []⟩
def d_wind_of : He.DefD := ⟨("wind_of", none), "wind_of", "wind_of", defArgs s_wind_of, defBody s_wind_of, defScope s_wind_of, [], []⟩
def d_l_cell : He.DefD := ⟨("_law_cell", none), "_law_cell", "_law_cell", defArgs s_l_cell, defBody s_l_cell, defScope s_l_cell, [], []⟩
def d_l_pool : He.DefD := ⟨("_law_pool", none), "_law_pool", "_law_pool", defArgs s_l_pool, defBody s_l_pool, defScope s_l_pool, [], []⟩
def d_l_take : He.DefD := ⟨("_law_take", none), "_law_take", "_law_take", defArgs s_l_take, defBody s_l_take, defScope s_l_take, [], []⟩
def d_l_low : He.DefD := ⟨("_law_low", none), "_law_low", "_law_low", defArgs s_l_low, defBody s_l_low, defScope s_l_low, [], []⟩
def d_l_part : He.DefD := ⟨("_law_part", none), "_law_part", "_law_part", defArgs s_l_part, defBody s_l_part, defScope s_l_part, [], []⟩
def d_l_on : He.DefD := ⟨("_law_on", none), "_law_on", "_law_on", defArgs s_l_on, defBody s_l_on, defScope s_l_on, [], []⟩
def d_l_words : He.DefD := ⟨("_law_words", none), "_law_words", "_law_words", defArgs s_l_words, defBody s_l_words, defScope s_l_words, [], []⟩
def d_l_power : He.DefD := ⟨("_law_power", none), "_law_power", "_law_power", defArgs s_l_power, defBody s_l_power, defScope s_l_power, [], []⟩
def d_l_begin : He.DefD := ⟨("_law_begin", none), "_law_begin", "_law_begin", defArgs s_l_begin, defBody s_l_begin, defScope s_l_begin, [], []⟩
def d_l_rose : He.DefD := ⟨("_law_rose", none), "_law_rose", "_law_rose", defArgs s_l_rose, defBody s_l_rose, defScope s_l_rose, [], []⟩
def d_l_size_of : He.DefD := ⟨("_law_size_of", none), "_law_size_of", "_law_size_of", defArgs s_l_size_of, defBody s_l_size_of, defScope s_l_size_of, [], []⟩
def d_l_turn_of : He.DefD := ⟨("_law_turn_of", none), "_law_turn_of", "_law_turn_of", defArgs s_l_turn_of, defBody s_l_turn_of, defScope s_l_turn_of, [], []⟩
def d_l_marks : He.DefD := ⟨("_law_marks", none), "_law_marks", "_law_marks", defArgs s_l_marks, defBody s_l_marks, defScope s_l_marks, [], []⟩
def d_l_names_of : He.DefD := ⟨("_law_names_of", none), "_law_names_of", "_law_names_of", defArgs s_l_names_of, defBody s_l_names_of, defScope s_l_names_of, [], []⟩
def d_l_house : He.DefD := ⟨("_law_house", none), "_law_house", "_law_house", defArgs s_l_house, defBody s_l_house, defScope s_l_house, [], []⟩
def d_l_whole : He.DefD := ⟨("_law_whole", none), "_law_whole", "_law_whole", defArgs s_l_whole, defBody s_l_whole, defScope s_l_whole, [], []⟩
def d_l_is_turn : He.DefD := ⟨("_law_is_turn", none), "_law_is_turn", "_law_is_turn", defArgs s_l_is_turn, defBody s_l_is_turn, defScope s_l_is_turn, [], []⟩
def d_l_right : He.DefD := ⟨("_law_right", none), "_law_right", "_law_right", defArgs s_l_right, defBody s_l_right, defScope s_l_right, [], []⟩
def d_law : He.DefD := ⟨("law", none), "law", "law", defArgs s_law, defBody s_law, defScope s_law, [], []⟩
def fn : List He.DefD := [d_is_whole, d_common, d_is_word, d_parted, d_parted_within, d_end_of_run, d_step_of, d_marks_by, d_makes_marks, d_must_be_turn, d_Turn_init, d_Turn_plus, d_Turn_minus, d_place_told, d_turn_at, d_place_at, d_names_at, d_lowest, d_own_name, d_Rose_init, d_Rose___len__, d_Rose_told, d_are_corners, d_Wind_init, d_Wind___len__, d_Wind___str__, d_Wind_place, d_Wind_names, d_wind_at, d_wind_of, d_l_cell, d_l_pool, d_l_take, d_l_low, d_l_part, d_l_on, d_l_words, d_l_power, d_l_begin, d_l_rose, d_l_size_of, d_l_turn_of, d_l_marks, d_l_names_of, d_l_house, d_l_whole, d_l_is_turn, d_l_right, d_law]
def fa0 : List He.Fa := [.glo "is_whole", .glo "common", .glo "is_word", .glo "parted", .glo "parted_within", .glo "end_of_run", .glo "step_of", .glo "marks_by", .glo "makes_marks", .glo "must_be_turn", .glo "place_told", .glo "turn_at", .glo "place_at", .glo "names_at", .glo "lowest", .glo "own_name", .glo "are_corners", .glo "wind_at", .glo "wind_of", .glo "_law_cell", .glo "_law_pool", .glo "_law_take", .glo "_law_low", .glo "_law_part", .glo "_law_on", .glo "_law_words", .glo "_law_power", .glo "_law_begin", .glo "_law_rose", .glo "_law_size_of"]
def fa1 : List He.Fa := [.glo "_law_turn_of", .glo "_law_marks", .glo "_law_names_of", .glo "_law_house", .glo "_law_whole", .glo "_law_is_turn", .glo "_law_right", .glo "law", .free "isinstance", .free "int", .free "bool", .free "abs", .free "len", .free "divmod", .free "range", .free "max", .free "min", .free "str", .free "tuple", .free "all", .free "set", .glo "Turn", .cls "Turn", .mkr "Turn", .noat "Turn" "top", .noat "Turn" "bottom", .meth "Turn" "plus", .meth "Turn" "minus", .glo "Rose", .cls "Rose"]
def fa2 : List He.Fa := [.mkr "Rose", .noat "Rose" "words", .noat "Rose" "halvings", .noat "Rose" "begin", .meth "Rose" "__len__", .meth "Rose" "told", .glo "Wind", .cls "Wind", .mkr "Wind", .noat "Wind" "rose", .noat "Wind" "turn", .meth "Wind" "__len__", .meth "Wind" "__str__", .meth "Wind" "place", .meth "Wind" "names", .str "LETTERS" "abcdefghijklmnopqrstuvwxyz", .int "MOST_LETTERS" 6, .str "ON" ">", .str "BACK" "<", .int "MOST_MARKS" 5, .int "LEAST_CORNERS" 3, .int "MOST_CORNERS" 8, .int "MOST_HALVINGS" 5]
def fa : List He.Fa := fa0 ++ fa1 ++ fa2
def ex (K : PySem.W.Frag) : Bool := ownB K "Turn" && (ownB K "Rose" && (ownB K "Wind"))
def ns0 : List PySem.Str := ["_wall", "RoseError", "NoTurn", "NoName", "NoStep", "NoRose", "NoWind", "LostError", "NoWord", "PIECE", "is_whole", "common", "figures_of", "LETTERS", "MOST_LETTERS", "ON", "BACK", "MOST_MARKS", "is_word", "parted", "parted_within", "end_of_run", "step_of", "marks_by", "makes_marks", "Turn", "must_be_turn", "place_told", "turn_at", "place_at"]
def ns1 : List PySem.Str := ["names_at", "lowest", "own_name", "LEAST_CORNERS", "MOST_CORNERS", "MOST_HALVINGS", "FIRST_WORD", "Rose", "are_corners", "Wind", "wind_at", "wind_of", "_law_cell", "_law_pool", "_law_take", "_law_low", "_law_part", "_law_on", "_law_words", "_law_power", "_law_begin", "_law_rose", "_law_size_of", "_law_turn_of", "_law_marks", "_law_names_of", "_law_house", "_law_whole", "_law_is_turn", "_law_right"]
def names : List PySem.Str := ns0 ++ ns1
abbrev R : PySem.W.OpenRow := PySem.W.OpenLaw.row PySem.Challenge.rw_rosenames_k09_names_of_winds
def hk : PySem.W.Hook := hookM 5 fa fn ex
def ob (s : PySem.W.SharedT) : He.AlD × Bool := (He.obsD fa fn (He.frG (HandSHeadRun.getT s) (asN (HandSHeadRun.getT s) 5)), ex (He.frG (HandSHeadRun.getT s) (asN (HandSHeadRun.getT s) 5)))
theorem ob_eq (s : PySem.W.SharedT) : ob s = hk.obs s.abs := by
  have e : HandSHeadRun.getT s = s.abs.heap.get? := funext fun a => HandSHeadRun.getT_eq s a
  unfold ob
  rw [e]
  rfl
theorem run (w : World) : HandSHeadRun.RunEq R (PySem.W.view R.prog [68]) hk ob 6000 names w := by
  intro os
  kernel_rfl
end K09
namespace K09
open PySem PySem.Spec PyProof.Rows L2 Evl
structure Txt (K : PySem.W.Frag) (mg : Str → Option Value) : Prop where
  g_Turn : mg "Turn" = some (.ref (He.ga K "Turn"))
  cl_Turn : Cls K (He.ga K "Turn")
  mk_Turn : Mk K (He.ga K "Turn") (He.ma K (He.ga K "Turn") "__init__")
  no_Turn_top : NoAttr K (He.ga K "Turn") "top"
  no_Turn_bottom : NoAttr K (He.ga K "Turn") "bottom"
  m_Turn_plus : Meth K (He.ga K "Turn") "plus" (He.ma K (He.ga K "Turn") "plus")
  m_Turn_minus : Meth K (He.ga K "Turn") "minus" (He.ma K (He.ga K "Turn") "minus")
  g_Rose : mg "Rose" = some (.ref (He.ga K "Rose"))
  cl_Rose : Cls K (He.ga K "Rose")
  mk_Rose : Mk K (He.ga K "Rose") (He.ma K (He.ga K "Rose") "__init__")
  no_Rose_words : NoAttr K (He.ga K "Rose") "words"
  no_Rose_halvings : NoAttr K (He.ga K "Rose") "halvings"
  no_Rose_begin : NoAttr K (He.ga K "Rose") "begin"
  m_Rose___len__ : Meth K (He.ga K "Rose") "__len__" (He.ma K (He.ga K "Rose") "__len__")
  m_Rose_told : Meth K (He.ga K "Rose") "told" (He.ma K (He.ga K "Rose") "told")
  g_Wind : mg "Wind" = some (.ref (He.ga K "Wind"))
  cl_Wind : Cls K (He.ga K "Wind")
  mk_Wind : Mk K (He.ga K "Wind") (He.ma K (He.ga K "Wind") "__init__")
  no_Wind_rose : NoAttr K (He.ga K "Wind") "rose"
  no_Wind_turn : NoAttr K (He.ga K "Wind") "turn"
  m_Wind___len__ : Meth K (He.ga K "Wind") "__len__" (He.ma K (He.ga K "Wind") "__len__")
  m_Wind___str__ : Meth K (He.ga K "Wind") "__str__" (He.ma K (He.ga K "Wind") "__str__")
  m_Wind_place : Meth K (He.ga K "Wind") "place" (He.ma K (He.ga K "Wind") "place")
  m_Wind_names : Meth K (He.ga K "Wind") "names" (He.ma K (He.ga K "Wind") "names")
  b_isinstance : mg "isinstance" = none
  b_int : mg "int" = none
  b_bool : mg "bool" = none
  b_abs : mg "abs" = none
  b_len : mg "len" = none
  b_divmod : mg "divmod" = none
  b_range : mg "range" = none
  b_max : mg "max" = none
  b_min : mg "min" = none
  b_str : mg "str" = none
  b_tuple : mg "tuple" = none
  b_all : mg "all" = none
  b_set : mg "set" = none
  g_LETTERS : ∃ t, mg "LETTERS" = some (.str "abcdefghijklmnopqrstuvwxyz" t)
  g_MOST_LETTERS : ∃ t, mg "MOST_LETTERS" = some (.int 6 t)
  g_ON : ∃ t, mg "ON" = some (.str ">" t)
  g_BACK : ∃ t, mg "BACK" = some (.str "<" t)
  g_MOST_MARKS : ∃ t, mg "MOST_MARKS" = some (.int 5 t)
  g_LEAST_CORNERS : ∃ t, mg "LEAST_CORNERS" = some (.int 3 t)
  g_MOST_CORNERS : ∃ t, mg "MOST_CORNERS" = some (.int 8 t)
  g_MOST_HALVINGS : ∃ t, mg "MOST_HALVINGS" = some (.int 5 t)
  own_Turn : OwnC K (He.ga K "Turn")
  own_Rose : OwnC K (He.ga K "Rose")
  own_Wind : OwnC K (He.ga K "Wind")
abbrev FnP (K : PySem.W.Frag) (x : Str) (st : Stmt) (f : Addr) (fd : FuncData) : Prop := FunD K x x (defArgs st) (defBody st) (defScope st) [] [] f fd
abbrev FnM (K : PySem.W.Frag) (x qual : Str) (st : Stmt) (f : Addr) (fd : FuncData) : Prop := FunD K x qual (defArgs st) (defBody st) (defScope st) [] [] f fd
end K09
namespace K09
open PySem PySem.Spec PyProof.Rows L2 Evl
/-! ### a turn in the heap -/
def tf (a : Int × Int) : List (Str × V) := [("top", .int a.1), ("bottom", .int a.2)]
theorem nTB : ¬ (("top" : Str) = "bottom") := by decide +kernel
theorem nBT : ¬ (("bottom" : Str) = "top") := by decide +kernel
theorem tf_put (x y : Int) : putF "bottom" (.int y) (putF "top" (.int x) []) = tf (x, y) := by
  show (if ("top" : Str) = "bottom" then _ else (("top" : Str), V.int x) :: putF "bottom" (V.int y) []) = _
  rw [if_neg nTB]
  rfl
theorem tf_top (a : Int × Int) : (tf a).lookup ("top" : Str) = some (.int a.1) := by
  simp [tf, List.lookup]
theorem tf_bottom (a : Int × Int) : (tf a).lookup ("bottom" : Str) = some (.int a.2) := by
  have h : (("bottom" : Str) == "top") = false := beq_eq_false_iff_ne.mpr nBT
  simp [tf, List.lookup, h]
theorem tf_no (a : Int × Int) {m : Str} (h1 : ¬ m = "top") (h2 : ¬ m = "bottom") : (tf a).lookup m = none := by
  have e1 : (m == ("top" : Str)) = false := beq_eq_false_iff_ne.mpr h1
  have e2 : (m == ("bottom" : Str)) = false := beq_eq_false_iff_ne.mpr h2
  simp [tf, List.lookup, e1, e2]
/-- at p a turn of these values -/
def TurnAt (C : Addr) (H : Hp) (p : Addr) (a : Int × Int) : Prop := ∃ dx, H p = some (.ins C dx (tf a))
theorem TurnAt.ex {C : Addr} {H H' : Hp} {p : Addr} {a : Int × Int} (h : TurnAt C H p a) (e : Ex H H') : TurnAt C H' p a := by
  obtain ⟨dx, h⟩ := h
  exact ⟨dx, e _ _ h⟩
/-- a pair as a tuple -/
def tv (a : Int × Int) : List V := [.int a.1, .int a.2]
/-! ### the promises of the program -/
def sp_is_whole : Sp := fun vs H Q _ => ∃ i : Int, vs = [.int i] ∧ ∀ H2, Ex H H2 → Q (.bl true) H2
def sp_common : Sp := fun vs H Q _ => ∃ a b : Int, vs = [.int a, .int b] ∧ 0 ≤ a ∧ 0 ≤ b ∧ ∀ H2, Ex H H2 → Q (.int (Int.gcd a b : Int)) H2
def sp_must (C : Addr) : Sp := fun vs H Q _ => ∃ (x dx : Addr) (fs : List (Str × V)), vs = [.ref x] ∧ H x = some (.ins C dx fs) ∧ ∀ H2, Ex H H2 → Q .non H2
def sp_init (C : Addr) : Sp := fun vs H Q _ => ∃ (x dx : Addr) (t u : Int), vs = [.ref x, .int t, .int u] ∧ u ≠ 0 ∧ u.natAbs < 2 ^ 4000 ∧ H x = some (.ins C dx []) ∧
  ∀ H2, But x H H2 → H2 x = some (.ins C dx (tf (Tn.sgn t u))) → Q .non H2
/-- a new turn is told -/
def NewT (C : Addr) (H : Hp) (Q : VK) (a : Int × Int) : Prop := ∀ p H2, H p = none → Ex H H2 → TurnAt C H2 p a → Q (.ref p) H2
def Sm (a : Int × Int) : Prop := Tn.Can a ∧ a.2 < 2 ^ 400
def sp_two (C : Addr) (g : Int × Int → Int × Int → Int × Int) : Sp := fun vs H Q _ => ∃ (x y : Addr) (a b : Int × Int), vs = [.ref x, .ref y] ∧ TurnAt C H x a ∧ TurnAt C H y b ∧ Sm a ∧ Sm b ∧ NewT C H Q (g a b)
def sp_times (C : Addr) : Sp := fun vs H Q _ => ∃ (x : Addr) (a : Int × Int) (m : Int), vs = [.ref x, .int m] ∧ TurnAt C H x a ∧ Sm a ∧ m.natAbs < 2 ^ 400 ∧ NewT C H Q (Tn.part (a.1 * m) a.2)
def sp_opposite (C : Addr) : Sp := fun vs H Q _ => ∃ (x : Addr) (a : Int × Int), vs = [.ref x] ∧ TurnAt C H x a ∧ Sm a ∧ NewT C H Q (Tn.on a Tn.half)
theorem Sm.b2 {a : Int × Int} (h : Sm a) : a.2.natAbs < 2 ^ 400 := by
  have := h.1.pos
  have := h.2
  omega
theorem Sm.b1 {a : Int × Int} (h : Sm a) : a.1.natAbs < 2 ^ 400 := by
  have := h.1.nn
  have := h.1.lt
  have := h.2
  omega
section
variable {P : Program} {w : World} {K : PySem.W.Frag} {mg : Str → Option Value} {base : Heap} {f : Addr} {fd : FuncData}
theorem ok_is_whole (F : FnP K "is_whole" s_is_whole f fd) (T : Txt K mg) : FnOk P w K mg base CX0 1 f fd ["thing"] sp_is_whole := by
  refine F.ok sc_is_whole (fun vs H Q E h => ?_) (fun cdv A outer s H vs Q E hr h => ?_)
  · obtain ⟨i, rfl, _⟩ := h
    rfl
  · obtain ⟨i, rfl, k⟩ := h
    refine ⟨_, PSs.nox (pss_one (ps_ret (pe_and (pe_callB call_isi (by rfl) T.b_isinstance (by decide +kernel) (pa_cons (pv 0) (pa_cons (pe_bltn (v := .ty "int") (by rfl) T.b_int (by decide +kernel) rfl) pa_nil))) (pe_one (pe_not (pe_callB call_isi (by rfl) T.b_isinstance (by decide +kernel) (pa_cons (pv 0) (pa_cons (pe_bltn (v := .ty "bool") (by rfl) T.b_bool (by decide +kernel) rfl) pa_nil)))))))), ?_⟩
    exact s_ret (v := .bl true) (ev_andV (ev_cb (ea_cons (ev_var rfl) (ea_cons ev_c ea_nil)) rc_isiI) fun _ => ev_notV (ev_cb (ea_cons (ev_var rfl) (ea_cons ev_c ea_nil)) rc_isiB)) k
theorem ok_common (F : FnP K "common" s_common f fd) (T : Txt K mg) : FnOk P w K mg base CX0 1 f fd ["one", "other"] sp_common := by
  refine F.ok sc_common (fun vs H Q E h => ?_) (fun cdv A outer s H vs Q E hr h => ?_)
  · obtain ⟨a, b, rfl, _⟩ := h
    rfl
  · obtain ⟨a, b, rfl, ha, hb, k⟩ := h
    refine ⟨_, PSs.nox (pss_cons (ps_while PassesOwn.never (pt_cmpR op_ne (pv 1) pe_int (nomark _)) (pss_one (ps_par (i := 0) (j := 1) (by rfl) sc_common.nd rfl rfl (by decide) rfl rfl (pa_cons (pv 1) (pa_cons (pe_op op_mod (pv 0) (pv 1)) pa_nil)) (by rfl))))
      (pss_one (ps_ret (pv 0)))), ?_⟩
    refine q_while (fun m σ' H' => Ex H H' ∧ ∃ x y : Int, σ' = [some (.int x), some (.int y)] ∧ 0 ≤ x ∧ 0 ≤ y ∧ Int.gcd x y = Int.gcd a b ∧ m = y.toNat) b.toNat ⟨Ex.refl _, a, b, rfl, ha, hb, rfl, rfl⟩ ?_
    rintro m σ' H' ⟨e, x, y, rfl, hx, hy, hg, rfl⟩
    refine ⟨_, et_test (ev_neI (ev_var rfl) ev_c), fun hb2 H1 e1 => ?_, fun hb2 H1 e1 => ?_⟩
    · have hy0 : y ≠ 0 := by simpa using hb2
      have hyp : 0 < y := by omega
      refine ⟨fun σ2 H2 => Ex H H2 ∧ σ2 = [some (.int y), some (.int (x % y))], fun σ2 H2 ⟨e2, h2⟩ => ?_, ?_⟩
      · have l1 := Int.emod_lt_of_pos x hyp
        have l2 := Int.emod_nonneg x hy0
        refine ⟨(x % y).toNat, by omega, e2, y, x % y, h2, by omega, l2, ?_, rfl⟩
        rw [← hg]
        exact Tn.gcd_step x y hx hyp
      · exact (ea_cons (ev_var rfl) (ea_cons (ev_mod (ev_var rfl) (ev_var rfl) hyp) ea_nil)) H1 (Ex.refl _) _ fun H2 e2 => ⟨_, _, rfl, (e.trans e1).trans e2, rfl⟩
    · have hy0 : y = 0 := by simpa using hb2
      subst hy0
      refine s_ret (ev_var rfl) fun H2 e2 => ?_
      have hz : (Int.gcd a b : Int) = x := by
        rw [← hg, Int.gcd_zero_right]
        omega
      have := k H2 ((e.trans e1).trans e2)
      rw [hz] at this
      exact this
theorem ok_must (F : FnP K "must_be_turn" s_must_be_turn f fd) (T : Txt K mg) : FnOk P w K mg base CX0 1 f fd ["thing"] (sp_must (He.ga K "Turn")) := by
  refine F.ok sc_must_be_turn (fun vs H Q E h => ?_) (fun cdv A outer s H vs Q E hr h => ?_)
  · obtain ⟨x, dx, fs, rfl, _⟩ := h
    rfl
  · obtain ⟨x, dx, fs, rfl, hx, k⟩ := h
    refine ⟨_, PSs.nox (pss_one (ps_if (pt_not (pt_val (pe_callB call_isi (by rfl) T.b_isinstance (by decide +kernel) (pa_cons (pv 0) (pa_cons (pe_glob (v := .ref (He.ga K "Turn")) (by rfl) T.g_Turn rfl) pa_nil))))) (pss_one ps_never) pss_nil)), ?_⟩
    refine s_when (et_not (et_B (ev_cb (ea_cons (ev_var rfl) (ea_cons ev_c ea_nil)) (rc_isiC hx T.cl_Turn T.own_Turn.is)))) (fun hb => nomatch hb) fun _ H1 e1 => k H1 e1
abbrev Cn (P : Program) (w : World) (K : PySem.W.Frag) (mg : Str → Option Value) (base : Heap) : Prop := Dn P w K mg base 1 "is_whole" ["thing"] sp_is_whole
abbrev Cc (P : Program) (w : World) (K : PySem.W.Frag) (mg : Str → Option Value) (base : Heap) : Prop := Dn P w K mg base 1 "common" ["one", "other"] sp_common
theorem ok_init {dvs : List V} {kws : List (Str × V)} (F : FunD K "__init__" "Turn.__init__" (defArgs s_Turn_init) (defBody s_Turn_init) (defScope s_Turn_init) dvs kws f fd) (T : Txt K mg) (D_is_whole : Cn P w K mg base) (D_common : Cc P w K mg base) :
    FnOk P w K mg base CX0 2 f fd ["self", "top", "bottom"] (sp_init (He.ga K "Turn")) := by
  refine F.ok sc_Turn_init (fun vs H Q E h => ?_) (fun cdv A outer s H vs Q E hr h => ?_)
  · obtain ⟨x, dx, t, u, rfl, _⟩ := h
    rfl
  · obtain ⟨x, dx, t, u, rfl, hu, hz, hx, k⟩ := h
    refine ⟨_, PSs.nox (pss_cons (ps_if (pt_not (pt_val (pe_cd D_is_whole (hr.mono (by decide)) (by rfl) (pa_cons (pv 1) pa_nil)))) (pss_one ps_never) pss_nil)
      (pss_cons (ps_if (PW.pt (pw_or (pt_not (pt_val (pe_cd D_is_whole (hr.mono (by decide)) (by rfl) (pa_cons (pv 2) pa_nil)))) (pw_or1 (pt_cmpR op_eq (pv 2) pe_int (nomark _))))) (pss_one ps_never) pss_nil)
      (pss_cons (ps_set (i := 3) sc_Turn_init.nd rfl (Or.inl rfl) (pe_ifExp (pt_cmpR op_gt (pv 2) pe_int (nomark _)) (pv 1) (pe_un un_neg (pv 1))))
      (pss_cons (ps_set (i := 4) sc_Turn_init.nd rfl (Or.inl rfl) (pe_callB call_abs (by rfl) T.b_abs (by decide +kernel) (pa_cons (pv 2) pa_nil)))
      (pss_cons (ps_set (i := 5) sc_Turn_init.nd rfl (Or.inl rfl) (pe_op op_mod (pv 3) (pv 4)))
      (pss_cons (ps_set (i := 6) sc_Turn_init.nd rfl (Or.inl rfl) (pe_cd D_common (hr.mono (by decide)) (by rfl) (pa_cons (pv 5) (pa_cons (pv 4) pa_nil))))
      (pss_cons (ps_fld (pv 0) (pe_op op_fdivW (pv 5) (pv 6)) rfl)
      (pss_one (ps_fld (pv 0) (pe_op op_fdivW (pv 4) (pv 6)) rfl))))))))), ?_⟩
    have wh : ∀ {i : Int} {H0 : Hp}, SpV sp_is_whole [.int i] H0 (.bl true) := fun {i H0} H1 e Q' q E' => ⟨i, rfl, q⟩
    refine q_when (et_not (et_B (ev_call (ea_cons (ev_var rfl) ea_nil) wh))) (fun hb => nomatch hb) fun _ H1 e1 => ?_
    refine q_when (b := false) (et_is (et_or (et_not (et_B (ev_call (ea_cons (ev_var rfl) ea_nil) wh))) fun _ => et_test (ev_eqI (ev_var rfl) ev_c)) (by simpa using hu)) (fun hb => nomatch hb) fun _ H2 e2 => ?_
    -- signed, size, part, shared
    let sg : Int := if u < 0 then -t else t
    have hsg : sg = if u < 0 then -t else t := rfl
    clear_value sg
    have un : (u.natAbs : Int) ≠ 0 := by omega
    have up : (0 : Int) < (u.natAbs : Int) := by omega
    refine q_asg (v := .int sg) (ev_if (et_test (ev_gt (ev_var rfl) ev_c)) (fun hb => ?_) (fun hb => ?_)) fun H3 e3 => ?_
    · have : 0 < u := of_decide_eq_true hb
      rw [hsg, if_neg (by omega)]
      exact ev_var rfl
    · have : ¬ 0 < u := of_decide_eq_false hb
      rw [hsg, if_pos (by omega)]
      exact ev_neg (ev_var rfl)
    refine q_asg (ev_cb (ea_cons (ev_var rfl) ea_nil) rc_abs) fun H4 e4 => ?_
    refine q_asg (ev_mod (ev_var rfl) (ev_var rfl) up) fun H5 e5 => ?_
    have pn := Int.emod_nonneg sg un
    have cm : SpV sp_common [.int (sg % (u.natAbs : Int)), .int (u.natAbs : Int)] H5 (.int (Int.gcd (sg % (u.natAbs : Int)) (u.natAbs : Int) : Int)) := fun H1 e Q' q E' => ⟨_, _, rfl, pn, by omega, q⟩
    refine q_asg (ev_call (ea_cons (ev_var rfl) (ea_cons (ev_var rfl) ea_nil)) cm) fun H6 e6 => ?_
    have gp : (0 : Int) < (Int.gcd (sg % (u.natAbs : Int)) (u.natAbs : Int) : Int) := Tn.gcd_pos up
    have gl : (Int.gcd (sg % (u.natAbs : Int)) (u.natAbs : Int) : Int) ≤ (u.natAbs : Int) := Int.le_of_dvd up (Int.gcd_dvd_right ..)
    have gz : (Int.gcd (sg % (u.natAbs : Int)) (u.natAbs : Int) : Int).natAbs < 2 ^ 4000 := by omega
    have hx6 : H6 x = some (.ins (He.ga K "Turn") dx []) := (((((e1.trans e2).trans e3).trans e4).trans e5).trans e6) _ _ hx
    have e16 : Ex H H6 := ((((e1.trans e2).trans e3).trans e4).trans e5).trans e6
    refine (ev_fdivW (ev_var rfl) (ev_var rfl) gp gz) H6 (Ex.refl _) _ fun H7 e7 => ?_
    refine ⟨_, rfl, x, He.ga K "Turn", dx, [], rfl, e7 _ _ hx6, T.cl_Turn, T.no_Turn_top, (by show 0 < 1000; decide), ?_⟩
    refine (ev_fdivW (ev_var rfl) (ev_var rfl) gp gz) _ (Ex.refl _) _ fun H8 e8 => ?_
    refine ⟨_, rfl, x, He.ga K "Turn", dx, _, rfl, e8 _ _ upd_same, T.cl_Turn, T.no_Turn_bottom, (by show 1 < 1000; decide), ?_⟩
    have es : Tn.sgn t u = Tn.low (sg % (u.natAbs : Int)) (u.natAbs : Int) := by
      unfold Tn.sgn Tn.part
      by_cases h : u < 0
      · rw [if_pos h, hsg, if_pos h]
        have : -u = (u.natAbs : Int) := by omega
        rw [this]
      · rw [if_neg h, hsg, if_neg h]
        have : u = (u.natAbs : Int) := by omega
        rw [← this]
    refine k _ (((But.ex (e16.trans e7)).trans But.upd).trans ((But.ex e8).trans But.upd)) ?_
    rw [upd_same, tf_put, es]
    rfl
/-- Turn(t, u) -/
theorem make_turn {C : Addr} {H : Hp} {t u : Int} {Q : VK} (hu : u ≠ 0) (hz : u.natAbs < 2 ^ 4000) (k : NewT C H Q (Tn.sgn t u)) :
    ∀ x dx, H x = none → H dx = none → dx ≠ x → sp_init C [.ref x, .int t, .int u] (upd (upd H dx (.own x)) x (.ins C dx [])) (fun v H2 => v = .non ∧ Q (.ref x) H2) E0 := fun x dx hx hdx ne => by
  refine ⟨x, dx, t, u, rfl, hu, hz, upd_same, fun H2 b hb => ⟨rfl, k x H2 hx (fun a o h => ?_) ⟨dx, hb⟩⟩⟩
  have n1 : a ≠ x := ne_of_none h hx
  refine b a o n1 ?_
  rw [upd_ne n1, upd_ne (ne_of_none h hdx)]
  exact h
end
/-- Turn's maker, by place, by keyword, by its default -/
def Tc (P : Program) (w : World) (K : PySem.W.Frag) (mg : Str → Option Value) (base : Heap) : Prop := ∃ fd, FnOk P w K mg base CX0 2 (He.ma K (He.ga K "Turn") "__init__") fd ["self", "top", "bottom"] (sp_init (He.ga K "Turn")) ∧
  Binds K fd ["self", "top", "bottom"] [] ∧ (∃ ds, Vals [.int 1] ds ∧ Binds K fd ["self", "top", "bottom"] ds) ∧ ∃ its : List Value, KBn K fd ["self", "top", "bottom"] 2 ["bottom"] (fun us ws => us ++ ws) (fun vs zs => vs ++ zs)
abbrev Cm (P : Program) (w : World) (K : PySem.W.Frag) (mg : Str → Option Value) (base : Heap) : Prop := Dn P w K mg base 1 "must_be_turn" ["thing"] (sp_must (He.ga K "Turn"))
/-- a new turn comes of an expression -/
def EvTn (C : Addr) (te : TE) (σ : L2.St) (H : Hp) (a : Int × Int) : Prop := ∀ H1, Ex H H1 → ∀ Q : VK, NewT C H1 Q a → te σ H1 Q
section
variable {C : Addr} {σ : L2.St} {H : Hp} {ta : TA} {to te : TE} {t u : Int} {a b : Int × Int} {D : Ends} {vs dvs : List V}
theorem tn_make (h : EvA ta σ H vs) (hu : u ≠ 0) (hz : u.natAbs < 2 ^ 4000) (e : vs ++ dvs = [.int t, .int u] := by rfl) : EvTn C (tMake C (sp_init C) dvs E0 ta) σ H (Tn.sgn t u) := fun H1 e1 Q q =>
  h H1 e1 _ fun H2 e2 => by
    rw [e]
    exact make_turn hu hz fun p H3 hp e3 ht => q p H3 (fresh_back e2 hp) (e2.trans e3) ht
theorem s_retTn (h : EvTn C te σ H a) (k : NewT C H D.rt a) : tRet te D σ H := h H (Ex.refl _) _ k
theorem EvTn.is (h : EvTn C te σ H a) (e : a = b) : EvTn C te σ H b := e ▸ h
theorem NewT.ex {H1 : Hp} {Q : VK} (k : NewT C H Q a) (e : Ex H H1) : NewT C H1 Q a := fun p H2 hp e2 ht => k p H2 (fresh_back e hp) (e.trans e2) ht
end
theorem pow_mul {i j : Int} {n m : Nat} (hi : i.natAbs < 2 ^ n) (hj : j.natAbs < 2 ^ m) : (i * j).natAbs < 2 ^ (n + m) := wide_lt hi hj
theorem pow_up {i : Int} {n m : Nat} (hi : i.natAbs < 2 ^ n) (h : n ≤ m) : i.natAbs < 2 ^ m := pow_big hi h
end K09
namespace K09
open PySem PySem.Spec PyProof.Rows L2 Evl
section
variable {P : Program} {w : World} {K : PySem.W.Frag} {mg : Str → Option Value} {base : Heap} {f : Addr} {fd : FuncData}
theorem ok_plus (F : FnM K "plus" "Turn.plus" s_Turn_plus f fd) (T : Txt K mg) (D_must_be_turn : Cm P w K mg base) (TC : Tc P w K mg base) : FnOk P w K mg base CX0 4 f fd ["self", "other"] (sp_two (He.ga K "Turn") Tn.on) := by
  obtain ⟨fdI, G_Turn_init, b_Turn_init, _, _⟩ := TC
  refine F.ok sc_Turn_plus (fun vs H Q E h => ?_) (fun cdv A outer s H vs Q E hr h => ?_)
  · obtain ⟨x, y, a, b, rfl, _⟩ := h
    rfl
  · obtain ⟨x, y, a, b, rfl, ⟨dx, hx⟩, ⟨dy, hy⟩, ha, hb, k⟩ := h
    refine ⟨_, PSs.nox (pss_cons (ps_expr (pe_cd D_must_be_turn (hr.mono (by decide)) (by rfl) (pa_cons (pv 1) pa_nil)))
      (pss_one (ps_ret (pe_make T.mk_Turn G_Turn_init (hr.mono (by decide)) (by rfl) T.g_Turn b_Turn_init .nil pass0 (pa_cons (pe_op op_add (pe_op op_mulW (pe_fld (pv 0) rfl) (pe_fld (pv 1) rfl)) (pe_op op_mulW (pe_fld (pv 1) rfl) (pe_fld (pv 0) rfl))) (pa_cons (pe_op op_mulW (pe_fld (pv 0) rfl) (pe_fld (pv 1) rfl)) pa_nil)))))), ?_⟩
    have mu : SpV (sp_must (He.ga K "Turn")) [.ref y] H .non := fun H1 e Q' q E' => ⟨y, dy, _, rfl, e _ _ hy, q⟩
    refine q_drop (ev_call (ea_cons (ev_var rfl) ea_nil) mu) fun H1 e1 => ?_
    have hx1 := e1 _ _ hx
    have hy1 := e1 _ _ hy
    have s1 : Ev (tFld K (tVar 0) "top") _ H1 (.int a.1) := ev_fld (σ := [some (.ref x), some (.ref y)]) (ev_var rfl) hx1 T.cl_Turn T.no_Turn_top (tf_top a)
    have s2 : Ev (tFld K (tVar 0) "bottom") _ H1 (.int a.2) := ev_fld (σ := [some (.ref x), some (.ref y)]) (ev_var rfl) hx1 T.cl_Turn T.no_Turn_bottom (tf_bottom a)
    have o1 : Ev (tFld K (tVar 1) "top") _ H1 (.int b.1) := ev_fld (σ := [some (.ref x), some (.ref y)]) (ev_var rfl) hy1 T.cl_Turn T.no_Turn_top (tf_top b)
    have o2 : Ev (tFld K (tVar 1) "bottom") _ H1 (.int b.2) := ev_fld (σ := [some (.ref x), some (.ref y)]) (ev_var rfl) hy1 T.cl_Turn T.no_Turn_bottom (tf_bottom b)
    have up : 0 < a.2 * b.2 := Int.mul_pos ha.1.pos hb.1.pos
    exact s_retTn ((tn_make (ea_cons (ev_add (ev_mulW s1 o2 ha.b1 hb.b2) (ev_mulW o1 s2 hb.b1 ha.b2)) (ea_cons (ev_mulW s2 o2 ha.b2 hb.b2) ea_nil)) (by omega) (pow_up (pow_mul ha.b2 hb.b2) (by decide))).is (Tn.sgn_pos up)) (k.ex e1)
end
end K09
namespace K09
open PySem PySem.Spec PyProof.Rows L2 Evl
section
variable {P : Program} {w : World} {K : PySem.W.Frag} {mg : Str → Option Value} {base : Heap} {f : Addr} {fd : FuncData}
theorem ok_minus (F : FnM K "minus" "Turn.minus" s_Turn_minus f fd) (T : Txt K mg) (D_must_be_turn : Cm P w K mg base) (TC : Tc P w K mg base) : FnOk P w K mg base CX0 4 f fd ["self", "other"] (sp_two (He.ga K "Turn") Tn.off) := by
  obtain ⟨fdI, G_Turn_init, b_Turn_init, _, _⟩ := TC
  refine F.ok sc_Turn_minus (fun vs H Q E h => ?_) (fun cdv A outer s H vs Q E hr h => ?_)
  · obtain ⟨x, y, a, b, rfl, _⟩ := h
    rfl
  · obtain ⟨x, y, a, b, rfl, ⟨dx, hx⟩, ⟨dy, hy⟩, ha, hb, k⟩ := h
    refine ⟨_, PSs.nox (pss_cons (ps_expr (pe_cd D_must_be_turn (hr.mono (by decide)) (by rfl) (pa_cons (pv 1) pa_nil)))
      (pss_one (ps_ret (pe_make T.mk_Turn G_Turn_init (hr.mono (by decide)) (by rfl) T.g_Turn b_Turn_init .nil pass0 (pa_cons (pe_op op_sub (pe_op op_mulW (pe_fld (pv 0) rfl) (pe_fld (pv 1) rfl)) (pe_op op_mulW (pe_fld (pv 1) rfl) (pe_fld (pv 0) rfl))) (pa_cons (pe_op op_mulW (pe_fld (pv 0) rfl) (pe_fld (pv 1) rfl)) pa_nil)))))), ?_⟩
    have mu : SpV (sp_must (He.ga K "Turn")) [.ref y] H .non := fun H1 e Q' q E' => ⟨y, dy, _, rfl, e _ _ hy, q⟩
    refine q_drop (ev_call (ea_cons (ev_var rfl) ea_nil) mu) fun H1 e1 => ?_
    have hx1 := e1 _ _ hx
    have hy1 := e1 _ _ hy
    have s1 : Ev (tFld K (tVar 0) "top") _ H1 (.int a.1) := ev_fld (σ := [some (.ref x), some (.ref y)]) (ev_var rfl) hx1 T.cl_Turn T.no_Turn_top (tf_top a)
    have s2 : Ev (tFld K (tVar 0) "bottom") _ H1 (.int a.2) := ev_fld (σ := [some (.ref x), some (.ref y)]) (ev_var rfl) hx1 T.cl_Turn T.no_Turn_bottom (tf_bottom a)
    have o1 : Ev (tFld K (tVar 1) "top") _ H1 (.int b.1) := ev_fld (σ := [some (.ref x), some (.ref y)]) (ev_var rfl) hy1 T.cl_Turn T.no_Turn_top (tf_top b)
    have o2 : Ev (tFld K (tVar 1) "bottom") _ H1 (.int b.2) := ev_fld (σ := [some (.ref x), some (.ref y)]) (ev_var rfl) hy1 T.cl_Turn T.no_Turn_bottom (tf_bottom b)
    have up : 0 < a.2 * b.2 := Int.mul_pos ha.1.pos hb.1.pos
    exact s_retTn ((tn_make (ea_cons (ev_sub (ev_mulW s1 o2 ha.b1 hb.b2) (ev_mulW o1 s2 hb.b1 ha.b2)) (ea_cons (ev_mulW s2 o2 ha.b2 hb.b2) ea_nil)) (by omega) (pow_up (pow_mul ha.b2 hb.b2) (by decide))).is (Tn.sgn_pos up)) (k.ex e1)
end
end K09
namespace K09
open PySem PySem.Spec PyProof.Rows L2 Evl
/-- a new pair is told -/
def NewP (H : Hp) (Q : VK) (a : Int × Int) : Prop := ∀ p H2, H p = none → Ex H H2 → H2 p = some (.tup (tv a)) → Q (.ref p) H2
def sp_low : Sp := fun vs H Q _ => ∃ t u : Int, vs = [.int t, .int u] ∧ 0 ≤ t ∧ 0 < u ∧ u.natAbs < 2 ^ 4000 ∧ NewP H Q (Tn.low t u)
def sp_part : Sp := fun vs H Q _ => ∃ t u : Int, vs = [.int t, .int u] ∧ 0 < u ∧ u.natAbs < 2 ^ 4000 ∧ NewP H Q (Tn.part t u)
def sp_pair (g : Int × Int → Int × Int → Int × Int) : Sp := fun vs H Q _ => ∃ (p q : Addr) (a b : Int × Int), vs = [.ref p, .ref q] ∧ H p = some (.tup (tv a)) ∧ H q = some (.tup (tv b)) ∧ Sm a ∧ Sm b ∧ NewP H Q (g a b)
section
variable {P : Program} {w : World} {K : PySem.W.Frag} {mg : Str → Option Value} {base : Heap} {f : Addr} {fd : FuncData}
theorem ok_low (F : FnP K "_law_low" s_l_low f fd) (T : Txt K mg) : FnOk P w K mg base CX0 1 f fd ["_law_top", "_law_bottom"] sp_low := by
  refine F.ok sc_l_low (fun vs H Q E h => ?_) (fun cdv A outer s H vs Q E hr h => ?_)
  · obtain ⟨t, u, rfl, _⟩ := h
    rfl
  · obtain ⟨t, u, rfl, t0, u0, uz, k⟩ := h
    refine ⟨_, PSs.nox (pss_cons (ps_par (i := 2) (j := 3) (by rfl) sc_l_low.nd rfl rfl (by decide) rfl rfl (pa_cons (pe_callB call_abs (by rfl) T.b_abs (by decide +kernel) (pa_cons (pv 0) pa_nil)) (pa_cons (pv 1) pa_nil)) (by rfl))
      (pss_cons (ps_while PassesOwn.never (pt_cmpR op_gt (pv 3) pe_int (nomark _)) (pss_one (ps_par (i := 2) (j := 3) (by rfl) sc_l_low.nd rfl rfl (by decide) rfl rfl (pa_cons (pv 3) (pa_cons (pe_op op_mod (pv 2) (pv 3)) pa_nil)) (by rfl))))
      (pss_one (ps_ret (pe_tup (pa_cons (pe_op op_fdivW (pv 0) (pv 2)) (pa_cons (pe_op op_fdivW (pv 1) (pv 2)) pa_nil))))))), ?_⟩
    refine q_par (Evl.EvA.go (ea_cons (ev_cb (ea_cons (ev_var rfl) ea_nil) rc_abs) (ea_cons (ev_var rfl) ea_nil)) fun H1 e1 => ⟨_, _, rfl, ?_⟩)
    have ta : (t.natAbs : Int) = t := by omega
    rw [ta]
    refine q_while (fun m σ' H' => Ex H H' ∧ ∃ x y : Int, σ' = [some (.int t), some (.int u), some (.int x), some (.int y)] ∧ 0 ≤ x ∧ 0 ≤ y ∧ Int.gcd x y = Int.gcd t u ∧ m = y.toNat) u.toNat ⟨e1, t, u, rfl, t0, by omega, rfl, rfl⟩ ?_
    rintro m σ' H' ⟨e, x, y, rfl, hx, hy, hg, rfl⟩
    refine ⟨_, et_test (ev_gt (ev_var rfl) ev_c), fun hb2 H1 e1 => ?_, fun hb2 H1 e1 => ?_⟩
    · have hyp : 0 < y := of_decide_eq_true hb2
      refine ⟨fun σ2 H2 => Ex H H2 ∧ σ2 = [some (.int t), some (.int u), some (.int y), some (.int (x % y))], fun σ2 H2 ⟨e2, h2⟩ => ?_, ?_⟩
      · have l1 := Int.emod_lt_of_pos x hyp
        have l2 := Int.emod_nonneg x (show y ≠ 0 by omega)
        refine ⟨(x % y).toNat, by omega, e2, y, x % y, h2, by omega, l2, ?_, rfl⟩
        rw [← hg]
        exact Tn.gcd_step x y hx hyp
      · exact (ea_cons (ev_var rfl) (ea_cons (ev_mod (ev_var rfl) (ev_var rfl) hyp) ea_nil)) H1 (Ex.refl _) _ fun H2 e2 => ⟨_, _, rfl, (e.trans e1).trans e2, rfl⟩
    · have hy0 : y = 0 := by
        have : ¬ 0 < y := of_decide_eq_false hb2
        omega
      subst hy0
      have hz : x = (Int.gcd t u : Int) := by
        rw [← hg, Int.gcd_zero_right]
        omega
      have gp : (0 : Int) < (Int.gcd t u : Int) := Tn.gcd_pos u0
      have gl : (Int.gcd t u : Int) ≤ u := Int.le_of_dvd u0 (Int.gcd_dvd_right ..)
      subst hz
      have gz : (Int.gcd t u : Int).natAbs < 2 ^ 4000 := by omega
      exact s_retU (eu_tup (ea_cons (ev_fdivW (ev_var rfl) (ev_var rfl) gp gz) (ea_cons (ev_fdivW (ev_var rfl) (ev_var rfl) gp gz) ea_nil)) (by show 2 ≤ 100000; decide)) fun p H2 hp e2 h2 => k p H2 (fresh_back (e.trans e1) hp) ((e.trans e1).trans e2) h2
end
/-! a new pair comes of an expression -/
section
variable {C : Addr} {σ : L2.St} {H : Hp} {ta : TA} {to te : TE} {t u : Int} {a b : Int × Int} {D : Ends} {vs dvs : List V}
theorem NewP.ex {H1 : Hp} {Q : VK} (k : NewP H Q a) (e : Ex H H1) : NewP H1 Q a := fun p H2 hp e2 ht => k p H2 (fresh_back e hp) (e.trans e2) ht
theorem eu_call {sp : Sp} {xs : List V} {E : XK} (h : EvA ta σ H vs) (hs : ∀ H1, Ex H H1 → ∀ Q : VK, (∀ p H2, H1 p = none → Ex H1 H2 → H2 p = some (.tup xs) → Q (.ref p) H2) → sp (vs ++ dvs) H1 Q E) : EvU (tCall sp dvs E ta) σ H xs := fun H1 e Q q =>
  h H1 e _ fun H2 e2 => hs H2 (e.trans e2) Q fun p H3 hp e3 h3 => q p H3 (fresh_back e2 hp) (e2.trans e3) h3
end
section
variable {P : Program} {w : World} {K : PySem.W.Frag} {mg : Str → Option Value} {base : Heap} {f : Addr} {fd : FuncData}
abbrev L_low (P : Program) (w : World) (K : PySem.W.Frag) (mg : Str → Option Value) (base : Heap) : Prop := Dn P w K mg base 1 "_law_low" ["_law_top", "_law_bottom"] sp_low
abbrev L_part (P : Program) (w : World) (K : PySem.W.Frag) (mg : Str → Option Value) (base : Heap) : Prop := Dn P w K mg base 2 "_law_part" ["_law_top", "_law_bottom"] sp_part
theorem ok_part (F : FnP K "_law_part" s_l_part f fd) (T : Txt K mg) (D_l_low : L_low P w K mg base) : FnOk P w K mg base CX0 2 f fd ["_law_top", "_law_bottom"] sp_part := by
  refine F.ok sc_l_part (fun vs H Q E h => ?_) (fun cdv A outer s H vs Q E hr h => ?_)
  · obtain ⟨t, u, rfl, _⟩ := h
    rfl
  · obtain ⟨t, u, rfl, u0, uz, k⟩ := h
    refine ⟨_, PSs.nox (pss_one (ps_ret (pe_cd D_l_low (hr.mono (by decide)) (by rfl) (pa_cons (pe_op op_mod (pv 0) (pv 1)) (pa_cons (pv 1) pa_nil))))), ?_⟩
    exact s_retU (eu_call (ea_cons (ev_mod (ev_var rfl) (ev_var rfl) u0) (ea_cons (ev_var rfl) ea_nil)) fun H1 e1 Q' q => ⟨_, _, rfl, Int.emod_nonneg _ (by omega), u0, uz, q⟩) k
theorem part_call {H : Hp} {t u : Int} {E : XK} (u0 : 0 < u) (uz : u.natAbs < 2 ^ 4000) : ∀ H1, Ex H H1 → ∀ Q : VK, (∀ p H2, H1 p = none → Ex H1 H2 → H2 p = some (.tup (tv (Tn.part t u))) → Q (.ref p) H2) → sp_part ([.int t, .int u] ++ []) H1 Q E := fun H1 e1 Q' q => ⟨t, u, rfl, u0, uz, q⟩
end
end K09
namespace K09
open PySem PySem.Spec PyProof.Rows L2 Evl
/-! what comes of an expression: an object of which P holds, whatever is added to the heap -/
def EvR (te : TE) (σ : L2.St) (H : Hp) (P : Addr → Hp → Prop) : Prop := ∀ H1, Ex H H1 → ∀ Q : VK, (∀ p H2, Ex H1 H2 → P p H2 → Q (.ref p) H2) → te σ H1 Q
abbrev PT (C : Addr) (a : Int × Int) : Addr → Hp → Prop := fun p H => TurnAt C H p a
abbrev PP (a : Int × Int) : Addr → Hp → Prop := fun p H => H p = some (.tup (tv a))
section
variable {C : Addr} {K : PySem.W.Frag} {σ : L2.St} {H H' : Hp} {ta : TA} {to te ty tu : TE} {t u m : Int} {a b : Int × Int} {D : Ends} {vs dvs : List V} {p : Addr} {i : Nat} {P : Addr → Hp → Prop} {Q : VK}
theorem er_var (h : σ[i]? = some (some (.ref p))) (hp : ∀ H1, Ex H H1 → P p H1) : EvR (tVar i) σ H P := fun H1 e _ q => ⟨.ref p, h, q p H1 (Ex.refl _) (hp H1 e)⟩
theorem er_turn (h : σ[i]? = some (some (.ref p))) (hp : TurnAt C H p a) : EvR (tVar i) σ H (PT C a) := er_var h fun _ e => hp.ex e
theorem er_pair (h : σ[i]? = some (some (.ref p))) (hp : H p = some (.tup (tv a))) : EvR (tVar i) σ H (PP a) := er_var h fun _ e => e _ _ hp
theorem er_tn (h : EvTn C te σ H a) : EvR te σ H (PT C a) := fun H1 e Q q => h H1 e Q fun p H2 _ e2 ht => q p H2 e2 ht
theorem er_u (h : EvU te σ H (tv a)) : EvR te σ H (PP a) := fun H1 e Q q => h H1 e Q fun p H2 _ e2 ht => q p H2 e2 ht
theorem EvR.mono (e : Ex H H') (h : EvR te σ H P) : EvR te σ H' P := fun H1 e1 Q q => h H1 (e.trans e1) Q q
theorem EvR.is (h : EvR te σ H (PT C a)) (e : a = b) : EvR te σ H (PT C b) := e ▸ h
theorem EvR.go (h : EvR te σ H P) (k : ∀ p H1, Ex H H1 → P p H1 → Q (.ref p) H1) : te σ H Q := h H (Ex.refl _) _ k
/-- the same of a new object -/
def EvN (te : TE) (σ : L2.St) (H : Hp) (P : Addr → Hp → Prop) : Prop := ∀ H1, Ex H H1 → ∀ Q : VK, (∀ p H2, H1 p = none → Ex H1 H2 → P p H2 → Q (.ref p) H2) → te σ H1 Q
theorem EvN.r (h : EvN te σ H P) : EvR te σ H P := fun H1 e Q q => h H1 e Q fun p H2 _ e2 hp => q p H2 e2 hp
theorem er_new (h : EvN te σ H P) (k : ∀ p H1, H p = none → Ex H H1 → P p H1 → Q (.ref p) H1) : te σ H Q := h H (Ex.refl _) _ k
theorem er_m2n {mn : Str} {g : Int × Int → Int × Int → Int × Int} (h1 : EvR to σ H (PT C a)) (h2 : EvR ty σ H (PT C b)) (ha : Sm a) (hb : Sm b) (n1 : ¬ mn = "top" := by decide +kernel) (n2 : ¬ mn = "bottom" := by decide +kernel) :
    EvN (tMeth C mn (sp_two C g) [] E0 to (tCons ty tNil)) σ H (PT C (g a b)) := fun H1 e Q q =>
  h1 H1 e _ fun p H2 e2 hp => by
    obtain ⟨dx, hx⟩ := id hp
    exact ⟨p, dx, _, rfl, hx, tf_no a n1 n2, h2 H2 (e.trans e2) _ fun r H3 e3 hr => ⟨p, r, a, b, rfl, TurnAt.ex hp e3, hr, ha, hb, fun x H4 hx4 e4 ht => q x H4 (fresh_back (e2.trans e3) hx4) ((e2.trans e3).trans e4) ht⟩⟩
theorem er_m2 {mn : Str} {g : Int × Int → Int × Int → Int × Int} (h1 : EvR to σ H (PT C a)) (h2 : EvR ty σ H (PT C b)) (ha : Sm a) (hb : Sm b) (n1 : ¬ mn = "top" := by decide +kernel) (n2 : ¬ mn = "bottom" := by decide +kernel) :
    EvR (tMeth C mn (sp_two C g) [] E0 to (tCons ty tNil)) σ H (PT C (g a b)) := fun H1 e Q q =>
  h1 H1 e _ fun p H2 e2 hp => by
    obtain ⟨dx, hx⟩ := id hp
    exact ⟨p, dx, _, rfl, hx, tf_no a n1 n2, h2 H2 (e.trans e2) _ fun r H3 e3 hr => ⟨p, r, a, b, rfl, TurnAt.ex hp e3, hr, ha, hb, fun x H4 _ e4 ht => q x H4 ((e2.trans e3).trans e4) ht⟩⟩
theorem er_pairs {g : Int × Int → Int × Int → Int × Int} (h1 : EvR to σ H (PP a)) (h2 : EvR ty σ H (PP b)) (ha : Sm a) (hb : Sm b) : EvR (tCall (sp_pair g) [] E0 (tCons to (tCons ty tNil))) σ H (PP (g a b)) := fun H1 e Q q =>
  h1 H1 e _ fun p H2 e2 hp => h2 H2 (e.trans e2) _ fun r H3 e3 hr => ⟨p, r, a, b, rfl, e3 _ _ hp, hr, ha, hb, fun x H4 _ e4 ht => q x H4 ((e2.trans e3).trans e4) ht⟩
theorem er_part (h1 : Ev to σ H (.int t)) (h2 : Ev ty σ H (.int u)) (u0 : 0 < u) (uz : u.natAbs < 2 ^ 4000) : EvR (tCall sp_part [] E0 (tCons to (tCons ty tNil))) σ H (PP (Tn.part t u)) := fun H1 e Q q =>
  h1 H1 e _ fun H2 e2 => h2 H2 (e.trans e2) _ fun H3 e3 => ⟨t, u, rfl, u0, uz, fun x H4 _ e4 ht => q x H4 ((e2.trans e3).trans e4) ht⟩
theorem er_tup2 {x y : Int} : EvR (tTup (tCons (tC (.int x)) (tCons (tC (.int y)) tNil))) σ H (PP (x, y)) := er_u (eu_tup (ea_cons ev_c (ea_cons ev_c ea_nil)) (by show 2 ≤ 100000; decide))
end
/-- so small that two of them together are small -/
def Sn (n : Nat) (a : Int × Int) : Prop := Tn.Can a ∧ a.2.natAbs < 2 ^ n
theorem Sn.sm {n : Nat} {a : Int × Int} (h : Sn n a) (hn : n ≤ 400 := by decide) : Sm a := ⟨h.1, by
  have h1 := pow_big h.2 hn
  have h2 := h.1.pos
  have h3 : ((2 ^ 400 : Nat) : Int) = 2 ^ 400 := Int.natCast_pow 2 400
  rw [← h3]
  omega⟩
theorem sn_le {t u : Int} {n : Nat} (hu : 0 < u) (hz : u.natAbs < 2 ^ n) : Sn n (Tn.part t u) := ⟨Tn.part_can hu, by
  have h1 := Tn.part_le (t := t) hu
  have h2 := (Tn.part_can (t := t) hu).pos
  omega⟩
theorem sn_on {a b : Int × Int} {n m : Nat} (ha : Sn n a) (hb : Sn m b) : Sn (n + m) (Tn.on a b) := sn_le (Int.mul_pos ha.1.pos hb.1.pos) (pow_mul ha.2 hb.2)
theorem sn_half : Sn 2 Tn.half := ⟨Tn.half_can, by decide⟩
end K09
namespace K09
open PySem PySem.Spec PyProof.Rows L2 Evl
def sp_run : Sp := fun vs H Q _ => ∃ (z sg : Str) (b m : Nat), vs = [.str z, .int (b : Int), .str sg, .int (m : Int)] ∧ z.length ≤ 1000 ∧
  ∀ H2, Ex H H2 → Q (.int ((b + Nm.run (fun c => decide (c ∈ cs sg)) m ((cs z).drop b) : Nat) : Int)) H2
def sp_isword : Sp := fun vs H Q _ => ∃ wd : List Nat, vs = [.str (ofL wd)] ∧ Rs.WordL wd ∧ ∀ H2, Ex H H2 → Q (.bl true) H2
/-- a name is parted -/
def sp_pw : Sp := fun vs H Q _ => ∃ (wd ms : List Nat) (n : Nat), vs = [.str (ofL (wd ++ ms)), .int (n : Int)] ∧ Rs.WordL wd ∧ Rs.MarksL ms ∧ ms.length ≤ n ∧ n ≤ 5 ∧ ∀ p H2, H p = none → Ex H H2 → H2 p = some (.tup [.str (ofL wd), .str (ofL ms)]) → Q (.ref p) H2
def sp_parted : Sp := fun vs H Q _ => ∃ wd ms : List Nat, vs = [.str (ofL (wd ++ ms))] ∧ Rs.WordL wd ∧ Rs.MarksL ms ∧ ms.length ≤ 5 ∧ ∀ p H2, H p = none → Ex H H2 → H2 p = some (.tup [.str (ofL wd), .str (ofL ms)]) → Q (.ref p) H2
section
variable {P : Program} {w : World} {K : PySem.W.Frag} {mg : Str → Option Value} {base : Heap} {f : Addr} {fd : FuncData}
theorem ok_run (F : FnP K "end_of_run" s_end_of_run f fd) (T : Txt K mg) : FnOk P w K mg base CX0 1 f fd ["text", "begin", "signs", "most"] sp_run := by
  refine F.ok sc_end_of_run (fun vs H Q E h => ?_) (fun cdv A outer s H vs Q E hr h => ?_)
  · obtain ⟨z, sg, b, m, rfl, _⟩ := h
    rfl
  · obtain ⟨z, sg, b, m, rfl, hz, q⟩ := h
    refine ⟨_, PSs.nox (pss_cons (ps_set (i := 4) sc_end_of_run.nd rfl (Or.inl rfl) (pv 1))
      (pss_cons (ps_while PassesOwn.never (PW.pt (pw_and (pt_cmpR op_lt (pv 4) (pe_callB call_len_str (by rfl) T.b_len (by decide +kernel) (pa_cons (pv 0) pa_nil)) (nomark _)) (pw_and (pt_cmpR op_lt (pv 4) (pe_op op_add (pv 1) (pv 3)) (nomark _)) (pw_and1 (pt_cmpR op_in_sign (pe_ix ix_str (pv 0) (pv 4) (fun _ _ => rfl)) (pv 2) (by rfl)))))) (pss_one (ps_aug (i := 4) sc_end_of_run.nd rfl (Or.inl rfl) pe_int ip_add)))
      (pss_one (ps_ret (pv 4))))), ?_⟩
    refine q_asg (ev_var rfl) fun H1 e1 => ?_
    refine q_while (fun n σ' H' => Ex H H' ∧ ∃ k : Nat, σ' = [some (.str z), some (.int (b : Int)), some (.str sg), some (.int (m : Int)), some (.int ((b + k : Nat) : Int))] ∧ k ≤ m ∧ n = m - k ∧
      Nm.run (fun c => decide (c ∈ cs sg)) m ((cs z).drop b) = k + Nm.run (fun c => decide (c ∈ cs sg)) (m - k) ((cs z).drop (b + k))) m ⟨e1, 0, rfl, Nat.zero_le _, rfl, (Nat.zero_add _).symm⟩ ?_
    rintro n σ' H' ⟨e, k, rfl, km, rfl, hr0⟩
    have t1 : EvT _ _ H' (decide (((b + k : Nat) : Int) < ((cs z).length : Int))) := et_test (ev_lt (ev_var (i := 4) (σ := [some (.str z), some (.int (b : Int)), some (.str sg), some (.int (m : Int)), some (.int ((b + k : Nat) : Int))]) rfl) (ev_cb (ea_cons (ev_var (i := 0) rfl) ea_nil) (rc_lenS hz)))
    have t2 : EvT _ _ H' (decide (((b + k : Nat) : Int) < (b : Int) + (m : Int))) := et_test (ev_lt (ev_var (i := 4) (σ := [some (.str z), some (.int (b : Int)), some (.str sg), some (.int (m : Int)), some (.int ((b + k : Nat) : Int))]) rfl) (ev_add (ev_var (i := 1) rfl) (ev_var (i := 3) rfl)))
    have fin : Nm.run (fun c => decide (c ∈ cs sg)) (m - k) ((cs z).drop (b + k)) = 0 → ∀ H1, Ex H' H1 → tRet (tVar 4) { nx := fun _ H' => Q .non H', rt := Q } [some (.str z), some (.int (b : Int)), some (.str sg), some (.int (m : Int)), some (.int ((b + k : Nat) : Int))] H1 := fun h0 H1 e1 => by
      refine s_ret (ev_var rfl) fun H2 e2 => ?_
      have := q H2 ((e.trans e1).trans e2)
      rw [hr0, h0] at this
      exact this
    by_cases c1 : b + k < (cs z).length
    · by_cases c2 : k < m
      · obtain ⟨c, hc⟩ : ∃ c, (cs z)[b + k]? = some c := ⟨(cs z)[b + k], List.getElem?_eq_getElem c1⟩
        rw [decide_eq_true (show ((b + k : Nat) : Int) < ((cs z).length : Int) by omega)] at t1
        rw [decide_eq_true (show ((b + k : Nat) : Int) < (b : Int) + (m : Int) by omega)] at t2
        refine ⟨decide (c ∈ cs sg), et_and1 t1 (et_and1 t2 (et_test (ev_op (ev_ixS (ev_var rfl) (ev_var rfl) hz hc) (ev_var rfl) rv_inS))), fun hb H1 e1 => ?_, fun hb H1 e1 => ?_⟩
        · refine ⟨fun σ2 H2 => Ex H H2 ∧ σ2 = [some (.str z), some (.int (b : Int)), some (.str sg), some (.int (m : Int)), some (.int (((b + k : Nat) : Int) + 1))], fun σ2 H2 ⟨e2, h2⟩ => ?_, ?_⟩
          · refine ⟨m - (k + 1), by omega, e2, k + 1, ?_, by omega, rfl, ?_⟩
            · rw [h2]
              have : ((b + k : Nat) : Int) + 1 = ((b + (k + 1) : Nat) : Int) := by omega
              rw [this]
            · rw [Nm.run_go (Nm.head_drop hc) hb (by omega), List.drop_drop] at hr0
              rw [hr0, show m - (k + 1) = m - k - 1 by omega, show b + (k + 1) = b + k + 1 by omega]
              omega
          · exact s_aug rfl ev_c fun H2 e2 => ⟨(e.trans e1).trans e2, rfl⟩
        · exact fin (Nm.run_stop (Nm.head_drop hc) hb) H1 e1
      · rw [decide_eq_true (show ((b + k : Nat) : Int) < ((cs z).length : Int) by omega)] at t1
        rw [decide_eq_false (show ¬ ((b + k : Nat) : Int) < (b : Int) + (m : Int) by omega)] at t2
        refine ⟨false, et_and1 t1 (et_and0 t2), fun hb => Bool.noConfusion hb, fun _ => fin ?_⟩
        have : m - k = 0 := by omega
        rw [this]
        rfl
    · rw [decide_eq_false (show ¬ ((b + k : Nat) : Int) < ((cs z).length : Int) by omega)] at t1
      refine ⟨false, et_and0 t1, fun hb => Bool.noConfusion hb, fun _ => fin ?_⟩
      rw [List.drop_of_length_le (by omega), Nm.run_nil]
abbrev Ir (P : Program) (w : World) (K : PySem.W.Frag) (mg : Str → Option Value) (base : Heap) : Prop := Dn P w K mg base 1 "end_of_run" ["text", "begin", "signs", "most"] sp_run
theorem str_isi {z : Str} {H : Hp} : RC (rIsi K) [.str z, .ty "str"] H (.bl true) := rc_isi (.ty "str") (fun _ _ => .base (.str z)) (kit_ty (by decide +kernel))
theorem run0 {wd ms : List Nat} (hw : Rs.WordL wd) (hm : Rs.MarksL ms) (hl : (wd ++ ms).length ≤ 1000) {H : Hp} : SpV sp_run [.str (ofL (wd ++ ms)), .int 0, .str "abcdefghijklmnopqrstuvwxyz", .int 6] H (.int (wd.length : Int)) := fun H2 e2 Q' q' E' => ⟨ofL (wd ++ ms), _, 0, 6, rfl, by rw [ofL_len]; exact hl, fun H3 e3 => by
  rw [Nat.zero_add, List.drop_zero, cs_ofL]
  have e : Nm.run (fun c => decide (c ∈ cs (Str.ofString "abcdefghijklmnopqrstuvwxyz"))) 6 (wd ++ ms) = wd.length := Rs.run_word hw hm
  rw [e]
  exact q' H3 e3⟩
theorem ok_isword (F : FnP K "is_word" s_is_word f fd) (T : Txt K mg) (D_end_of_run : Ir P w K mg base) : FnOk P w K mg base CX0 2 f fd ["thing"] sp_isword := by
  refine F.ok sc_is_word (fun vs H Q E h => ?_) (fun cdv A outer s H vs Q E hr h => ?_)
  · obtain ⟨wd, rfl, _⟩ := h
    rfl
  · obtain ⟨wd, rfl, hw, k⟩ := h
    refine ⟨_, PSs.nox (pss_cons (ps_if (PW.pt (pw_or (pt_not (pt_val (pe_callB call_isi (by rfl) T.b_isinstance (by decide +kernel) (pa_cons (pv 0) (pa_cons (pe_bltn (v := .ty "str") (by rfl) T.b_str (by decide +kernel) rfl) pa_nil))))) (pw_or1 (pt_cmpR op_eq (pv 0) pe_str (nomark _))))) (pss_one (ps_ret pe_bl)) pss_nil)
      (pss_one (ps_ret (pe_cmpR op_eq (pe_cd D_end_of_run (hr.mono (by decide)) (by rfl) (pa_cons (pv 0) (pa_cons pe_int (pa_cons (pe_gs (by rfl) T.g_LETTERS) (pa_cons (pe_gi (by rfl) T.g_MOST_LETTERS) pa_nil))))) (pe_callB call_len_str (by rfl) T.b_len (by decide +kernel) (pa_cons (pv 0) pa_nil)) (nomark _))))), ?_⟩
    have ne : ¬ ofL wd = "" := fun e => by
      have h := congrArg (fun z : Str => (cs z).length) e
      have h : wd.length = 0 := h
      have := hw.1
      omega
    refine q_when (b := false) (et_or0 (et_not (et_B (ev_cb (ea_cons (ev_var rfl) (ea_cons ev_c ea_nil)) str_isi))) (et_is (et_test (ev_eqS2 (ev_var rfl) ev_c)) (decide_eq_false ne))) (fun hb => nomatch hb) fun _ H1 e1 => ?_
    have hl : (wd ++ []).length ≤ 1000 := by
      rw [List.append_nil]
      have := hw.2.1
      omega
    have r := run0 (H := H1) hw (ms := []) (fun c h => nomatch h) hl
    rw [List.append_nil] at r
    refine s_ret (ev_is (ev_eqI (ev_call (ea_cons (ev_var rfl) (ea_cons ev_c (ea_cons ev_c (ea_cons ev_c ea_nil)))) r) (ev_cb (ea_cons (ev_var rfl) ea_nil) (rc_lenS (by rw [ofL_len]; have := hw.2.1; omega)))) (by rw [cs_ofL, decide_eq_true rfl])) fun H2 e2 => k H2 (e1.trans e2)
abbrev Iw (P : Program) (w : World) (K : PySem.W.Frag) (mg : Str → Option Value) (base : Heap) : Prop := Dn P w K mg base 2 "is_word" ["thing"] sp_isword
theorem ok_pw (F : FnP K "parted_within" s_parted_within f fd) (T : Txt K mg) (D_end_of_run : Ir P w K mg base) : FnOk P w K mg base CX0 2 f fd ["text", "most"] sp_pw := by
  refine F.ok sc_parted_within (fun vs H Q E h => ?_) (fun cdv A outer s H vs Q E hr h => ?_)
  · obtain ⟨wd, ms, n, rfl, _⟩ := h
    rfl
  · obtain ⟨wd, ms, n, rfl, hw, hm, hl, hn, k⟩ := h
    refine ⟨_, PSs.nox (pss_cons (ps_if (pt_not (pt_val (pe_callB call_isi (by rfl) T.b_isinstance (by decide +kernel) (pa_cons (pv 0) (pa_cons (pe_bltn (v := .ty "str") (by rfl) T.b_str (by decide +kernel) rfl) pa_nil))))) (pss_one ps_never) pss_nil)
      (pss_cons (ps_set (i := 2) sc_parted_within.nd rfl (Or.inl rfl) (pe_cd D_end_of_run (hr.mono (by decide)) (by rfl) (pa_cons (pv 0) (pa_cons pe_int (pa_cons (pe_gs (by rfl) T.g_LETTERS) (pa_cons (pe_gi (by rfl) T.g_MOST_LETTERS) pa_nil))))))
      (pss_cons (ps_if (pt_cmpR op_eq (pv 2) pe_int (nomark _)) (pss_one ps_never) pss_nil)
      (pss_cons (ps_set (i := 3) sc_parted_within.nd rfl (Or.inl rfl) (pe_cd D_end_of_run (hr.mono (by decide)) (by rfl) (pa_cons (pv 0) (pa_cons (pv 2) (pa_cons (pe_op op_add_str (pe_gs (by rfl) T.g_ON) (pe_gs (by rfl) T.g_BACK)) (pa_cons (pv 1) pa_nil))))))
      (pss_cons (ps_if (pt_cmpR op_lt (pv 3) (pe_callB call_len_str (by rfl) T.b_len (by decide +kernel) (pa_cons (pv 0) pa_nil)) (nomark _)) (pss_one ps_never) pss_nil)
      (pss_one (ps_ret (pe_tup (pa_cons (pe_slice sl_str (pv 0) po_none (po_some (pv 2))) (pa_cons (pe_slice sl_str (pv 0) (po_some (pv 2)) po_none) pa_nil)))))))))), ?_⟩
    have w1 := hw.1
    have w6 := hw.2.1
    have hlen : (wd ++ ms).length = wd.length + ms.length := List.length_append
    have hz : (ofL (wd ++ ms)).length ≤ 1000 := by
      rw [ofL_len]
      omega
    refine q_when (b := false) (et_not (et_B (ev_cb (ea_cons (ev_var rfl) (ea_cons ev_c ea_nil)) str_isi))) (fun hb => nomatch hb) fun _ H1 e1 => ?_
    refine q_asg (ev_call (ea_cons (ev_var rfl) (ea_cons ev_c (ea_cons ev_c (ea_cons ev_c ea_nil)))) (run0 hw hm (by omega))) fun H2 e2 => ?_
    refine q_when (b := false) (et_is (et_test (ev_eqI (ev_var rfl) ev_c)) (decide_eq_false (by omega))) (fun hb => nomatch hb) fun _ H3 e3 => ?_
    have cat : ∀ {σ0 : L2.St}, Ev (tOp (fun x y H Q => ∃ i j : Str, x = .str i ∧ y = .str j ∧ i.length + j.length ≤ sizeLine ∧ Q (.str (i ++ j)) H) (tC (.str ">")) (tC (.str "<"))) σ0 H3 (.str "><") := fun {σ0} =>
      ev_op ev_c ev_c fun H4 _ Q' q' => ⟨_, _, rfl, rfl, by decide +kernel, by rw [show ((">" : Str) ++ ("<" : Str)) = ("><" : Str) by decide +kernel]; exact q' H4 (Ex.refl _)⟩
    have r2 : SpV sp_run [.str (ofL (wd ++ ms)), .int (wd.length : Int), .str "><", .int (n : Int)] H3 (.int (((wd ++ ms).length : Nat) : Int)) := fun H4 e4 Q' q' E' => ⟨ofL (wd ++ ms), _, _, n, rfl, hz, fun H5 e5 => by
      have e : Nm.run (fun c => decide (c ∈ cs (Str.ofString "><"))) n ((wd ++ ms).drop wd.length) = ms.length := Rs.run_marks hm hl
      rw [cs_ofL, e, ← hlen]
      exact q' H5 e5⟩
    refine q_asg (ev_call (ea_cons (ev_var rfl) (ea_cons (ev_var rfl) (ea_cons cat (ea_cons (ev_var rfl) ea_nil)))) r2) fun H4 e4 => ?_
    refine q_when (b := false) (et_is (et_test (ev_lt (ev_var rfl) (ev_cb (ea_cons (ev_var rfl) ea_nil) (rc_lenS hz)))) (decide_eq_false (by rw [cs_ofL]; omega))) (fun hb => nomatch hb) fun _ H5 e5 => ?_
    have e15 := (((e1.trans e2).trans e3).trans e4).trans e5
    refine s_retU (eu_tup (ea_cons (ev_take (ev_var rfl) (ev_var rfl) hz) (ea_cons (ev_drop (ev_var rfl) (ev_var rfl) hz) ea_nil)) (by show 2 ≤ 100000; decide)) fun p H6 hp e6 h6 => ?_
    rw [take_ofL, drop_ofL, List.take_left, List.drop_left] at h6
    exact k p H6 (fresh_back e15 hp) (e15.trans e6) h6
abbrev Ipw (P : Program) (w : World) (K : PySem.W.Frag) (mg : Str → Option Value) (base : Heap) : Prop := Dn P w K mg base 2 "parted_within" ["text", "most"] sp_pw
theorem ok_parted (F : FnP K "parted" s_parted f fd) (T : Txt K mg) (D_parted_within : Ipw P w K mg base) : FnOk P w K mg base CX0 3 f fd ["text"] sp_parted := by
  refine F.ok sc_parted (fun vs H Q E h => ?_) (fun cdv A outer s H vs Q E hr h => ?_)
  · obtain ⟨wd, ms, rfl, _⟩ := h
    rfl
  · obtain ⟨wd, ms, rfl, hw, hm, hl, k⟩ := h
    refine ⟨_, PSs.nox (pss_one (ps_ret (pe_cd D_parted_within (hr.mono (by decide)) (by rfl) (pa_cons (pv 0) (pa_cons (pe_gi (by rfl) T.g_MOST_MARKS) pa_nil))))), ?_⟩
    exact x_ret (x_call (x_cons (x_var rfl (x_cons (x_c (x_nil ⟨wd, ms, 5, rfl, hw, hm, hl, Nat.le_refl _, k⟩))))))
end
end K09
namespace K09
open PySem PySem.Spec PyProof.Rows L2 Evl
def sp_step : Sp := fun vs H Q _ => ∃ l : List Nat, vs = [.str (ofL l)] ∧ l.length ≤ 5 ∧ ∀ p H2, H p = none → Ex H H2 → H2 p = some (.tup [.int (Mk.step l).1, .int (Mk.step l).2]) → Q (.ref p) H2
def sp_makes0 : Sp := fun vs H Q _ => ∃ t m : Int, vs = [.int t, .int m] ∧ Mk.good t m = true ∧ ∀ H2, Ex H H2 → Q (.bl true) H2
def sp_marks0 : Sp := fun vs H Q _ => ∃ t m : Int, vs = [.int t, .int m] ∧ Mk.good t m = true ∧ ∀ H2, Ex H H2 → Q (.str (ofL (Mk.mk m.toNat t))) H2
section
variable {P : Program} {w : World} {K : PySem.W.Frag} {mg : Str → Option Value} {base : Heap} {f : Addr} {fd : FuncData}
theorem ev_eqC {σ : L2.St} {H : Hp} {ta tb : TE} {c d : Nat} (ha : Ev ta σ H (.str ⟨#[c]⟩)) (hb : Ev tb σ H (.str ⟨#[d]⟩)) : Ev (tOp rEq ta tb) σ H (.bl (decide (c = d))) := by
  have h := ev_op ha hb (rv_eq (x := .str ⟨#[c]⟩) (y := .str ⟨#[d]⟩) rfl)
  have e : decide ((V.str ⟨#[c]⟩) = V.str ⟨#[d]⟩) = decide (c = d) := by
    rw [Bool.eq_iff_iff]
    simp
  rw [e] at h
  exact h
theorem gt_sign : (Str.ofString ">") = ⟨#[62]⟩ := by decide +kernel
theorem lt_sign : (Str.ofString "<") = ⟨#[60]⟩ := by decide +kernel
theorem ok_step (F : FnP K "step_of" s_step_of f fd) (T : Txt K mg) : FnOk P w K mg base CX0 1 f fd ["marks"] sp_step := by
  refine F.ok sc_step_of (fun vs H Q E h => ?_) (fun cdv A outer s H vs Q E hr h => ?_)
  · obtain ⟨l, rfl, _⟩ := h
    rfl
  · obtain ⟨l, rfl, hl, k⟩ := h
    refine ⟨_, PSs.nox (pss_cons (ps_asg (pe_tup (pa_cons pe_int (pa_cons pe_int pa_nil))) (pg_tup rfl (pgs_cons (pg_name (i := 1) sc_step_of.nd rfl (Or.inl rfl)) (pgs_cons (pg_name (i := 2) sc_step_of.nd rfl (Or.inl rfl)) pgs_nil))))
      (pss_cons (ps_for PassesOwn.never rfl (pi_str (pv 0)) (pg_name (i := 3) sc_step_of.nd rfl (Or.inl rfl)) (pss_cons (ps_set (i := 1) sc_step_of.nd rfl (Or.inl rfl) (pe_op op_add (pe_op op_mul pe_int (pv 1)) (pe_ifExp (pt_cmpR op_eq (pv 3) (pe_gs (by rfl) T.g_ON) (nomark _)) pe_int (pe_un un_neg pe_int))))
        (pss_one (ps_set (i := 2) sc_step_of.nd rfl (Or.inl rfl) (pe_op op_mul pe_int (pv 2))))))
      (pss_one (ps_ret (pe_tup (pa_cons (pv 1) (pa_cons (pv 2) pa_nil))))))), ?_⟩
    refine q_two (ea_cons ev_c (ea_cons ev_c ea_nil)) fun H1 e1 => ?_
    refine q_forS (z := ofL l) (ev_var rfl) (fun i σ' H' => Ex H H' ∧ ∃ v3, σ' = [some (.str (ofL l)), some (.int (Mk.step (l.take i)).1), some (.int (Mk.step (l.take i)).2), v3]) (fun H2 e2 => ⟨e1.trans e2, none, rfl⟩) ?_ ?_
    · rintro i c σ' H' hc ⟨e, v3, rfl⟩
      have hc2 : l[i]? = some c := by
        rw [← hc]
        simp [ofL]
      have tk : l.take (i + 1) = l.take i ++ [c] := by
        rw [List.take_succ, hc2]
        rfl
      have st : Mk.step (l.take (i + 1)) = (2 * (Mk.step (l.take i)).1 + (if c = 62 then 1 else -1), 2 * (Mk.step (l.take i)).2) := by
        rw [tk]
        unfold Mk.step
        rw [List.foldl_append]
        rfl
      rw [st]
      have g : ∀ {σ0 : L2.St} {H0 : Hp}, Ev (tC (.str (Str.ofString ">"))) σ0 H0 (.str ⟨#[62]⟩) := by
        intro σ0 H0
        rw [gt_sign]
        exact ev_c
      refine q_asg (ev_add (ev_mul ev_c (ev_var rfl) (.inl ⟨by decide, by decide⟩)) (ev_if (v := .int (if c = 62 then 1 else -1)) (et_test (ev_eqC (ev_var rfl) g)) (fun hb => ?_) fun hb => ?_)) fun H2 e2 => ?_
      · rw [if_pos (of_decide_eq_true hb)]
        exact ev_c
      · rw [if_neg (of_decide_eq_false hb)]
        exact ev_neg ev_c
      · exact s_asg (ev_mul ev_c (ev_var rfl) (.inl ⟨by decide, by decide⟩)) fun H3 e3 => ⟨(e.trans e2).trans e3, _, rfl⟩
    · rintro σ' H' ⟨e, v3, rfl⟩
      have z : (ofL l).cps.size = l.length := by simp [ofL]
      rw [z, List.take_length]
      exact s_retU (eu_tup (ea_cons (ev_var rfl) (ea_cons (ev_var rfl) ea_nil)) (by show 2 ≤ 100000; decide)) fun p H3 hp e3 h3 => k p H3 (fresh_back e hp) (e.trans e3) h3
theorem ok_makes0 (F : FnP K "makes_marks" s_makes_marks f fd) (T : Txt K mg) (D_is_whole : Cn P w K mg base) : FnOk P w K mg base CX0 2 f fd ["top", "many"] sp_makes0 := by
  refine F.ok sc_makes_marks (fun vs H Q E h => ?_) (fun cdv A outer s H vs Q E hr h => ?_)
  · obtain ⟨t, m, rfl, _⟩ := h
    rfl
  · obtain ⟨t, m, rfl, gd, k⟩ := h
    refine ⟨_, PSs.nox (pss_cons (ps_if (PW.pt (pw_or (pt_not (pt_val (pe_cd D_is_whole (hr.mono (by decide)) (by rfl) (pa_cons (pv 0) pa_nil)))) (pw_or1 (pt_not (pt_val (pe_cd D_is_whole (hr.mono (by decide)) (by rfl) (pa_cons (pv 1) pa_nil))))))) (pss_one (ps_ret pe_bl)) pss_nil)
      (pss_cons (ps_if (PW.pt (pw_or (pt_cmpR op_lt (pv 1) pe_int (nomark _)) (pw_or1 (pt_cmpR op_gt (pv 1) (pe_gi (by rfl) T.g_MOST_MARKS) (nomark _))))) (pss_one (ps_ret pe_bl)) pss_nil)
      (pss_cons (ps_if (pt_cmpR op_eq (pv 1) pe_int (nomark _)) (pss_one (ps_ret (pe_cmpR op_eq (pv 0) pe_int (nomark _)))) pss_nil)
      (pss_one (ps_ret (pe_and (pe_cmpR op_eq (pe_op op_mod (pv 0) pe_int) pe_int (nomark _)) (pe_one (pe_cmpR op_lt (pe_callB call_abs (by rfl) T.b_abs (by decide +kernel) (pa_cons (pv 0) pa_nil)) (pe_op op_shl pe_int (pv 1)) (nomark _))))))))), ?_⟩
    have wh : ∀ {i : Int} {H0 : Hp}, SpV sp_is_whole [.int i] H0 (.bl true) := fun {i H0} H1 e Q' q E' => ⟨i, rfl, q⟩
    obtain ⟨m0, m5, _, _⟩ := Mk.good_bound gd
    refine q_when (b := false) (et_or0 (et_not (et_B (ev_call (ea_cons (ev_var rfl) ea_nil) wh))) (et_not (et_B (ev_call (ea_cons (ev_var rfl) ea_nil) wh)))) (fun hb => nomatch hb) fun _ H1 e1 => ?_
    refine q_when (b := false) (et_or0 (et_is (et_test (ev_lt (ev_var rfl) ev_c)) (decide_eq_false (by omega))) (et_is (et_test (ev_gt (ev_var rfl) ev_c)) (decide_eq_false (by omega)))) (fun hb => nomatch hb) fun _ H2 e2 => ?_
    have gd' := gd
    unfold Mk.good at gd'
    rw [if_neg (by simp; omega)] at gd'
    refine q_when (et_test (ev_eqI (ev_var rfl) ev_c)) (fun hb H3 e3 => ?_) fun hb H3 e3 => ?_
    · have m0 : m = 0 := of_decide_eq_true hb
      rw [if_pos m0] at gd'
      exact s_ret (ev_is (ev_eqI (ev_var rfl) ev_c) (by rw [gd'])) fun H4 e4 => k H4 (((e1.trans e2).trans e3).trans e4)
    · have m0' : ¬ m = 0 := of_decide_eq_false hb
      rw [if_neg m0', Bool.and_eq_true] at gd'
      refine s_ret (ev_is (ev_andV (ev_eqI (ev_mod (ev_var rfl) ev_c (by decide)) ev_c) fun _ => ev_lt (ev_cb (ea_cons (ev_var rfl) ea_nil) rc_abs) (ev_op ev_c (ev_var rfl) (rv_I (show CPow 1 m from ⟨by omega, by omega, by decide⟩)))) ?_) fun H4 e4 => k H4 (((e1.trans e2).trans e3).trans e4)
      have h2 := of_decide_eq_true gd'.2
      have e : (t.natAbs : Int) < 1 * 2 ^ m.toNat := by
        have h3 : ((2 ^ m.toNat : Nat) : Int) = 2 ^ m.toNat := Int.natCast_pow 2 m.toNat
        rw [Int.one_mul, ← h3]
        omega
      rw [gd'.1, decide_eq_true e]
      rfl
abbrev Cmk (P : Program) (w : World) (K : PySem.W.Frag) (mg : Str → Option Value) (base : Heap) : Prop := Dn P w K mg base 2 "makes_marks" ["top", "many"] sp_makes0
theorem ok_marks0 (F : FnP K "marks_by" s_marks_by f fd) (T : Txt K mg) (D_makes_marks : Cmk P w K mg base) : FnOk P w K mg base CX0 3 f fd ["top", "many"] sp_marks0 := by
  refine F.ok sc_marks_by (fun vs H Q E h => ?_) (fun cdv A outer s H vs Q E hr h => ?_)
  · obtain ⟨t, m, rfl, _⟩ := h
    rfl
  · obtain ⟨t, m, rfl, gd, hQ⟩ := h
    refine ⟨_, PSs.nox (pss_cons (ps_if (pt_not (pt_val (pe_cd D_makes_marks (hr.mono (by decide)) (by rfl) (pa_cons (pv 0) (pa_cons (pv 1) pa_nil))))) (pss_one ps_never) pss_nil)
      (pss_cons (ps_set (i := 2) sc_marks_by.nd rfl (Or.inl rfl) (pe_lst pa_nil))
      (pss_cons (ps_set (i := 3) sc_marks_by.nd rfl (Or.inl rfl) (pv 0))
      (pss_cons (ps_set (i := 4) sc_marks_by.nd rfl (Or.inl rfl) (pe_op op_shl pe_int (pv 1)))
      (pss_cons (ps_while PassesOwn.never (pt_cmpR op_gt (pv 4) pe_int (nomark _)) (pss_cons (ps_aug (i := 4) sc_marks_by.nd rfl (Or.inl rfl) pe_int iop_fdiv)
        (pss_one (ps_if (pt_cmpR op_gt (pv 3) pe_int (nomark _)) (pss_cons (ps_expr (pe_bm PySem.F.plainAttrs_list PySem.F.slot_list_append PySem.F.type_list_append mt_append (pv 2) (pa_cons (pe_gs (by rfl) T.g_ON) pa_nil)))
          (pss_one (ps_aug (i := 3) sc_marks_by.nd rfl (Or.inl rfl) (pv 4) ip_sub))) (pss_cons (ps_expr (pe_bm PySem.F.plainAttrs_list PySem.F.slot_list_append PySem.F.type_list_append mt_append (pv 2) (pa_cons (pe_gs (by rfl) T.g_BACK) pa_nil)))
          (pss_one (ps_aug (i := 3) sc_marks_by.nd rfl (Or.inl rfl) (pv 4) ip_add)))))))
      (pss_one (ps_ret (pe_join pe_str (pv 2))))))))), ?_⟩
    refine q_when (b := false) (et_not (a := true) (et_B (ev_call (z := .bl true) (ea_cons (ev_var rfl) (ea_cons (ev_var rfl) ea_nil)) fun H1 e Q' q E' => ⟨t, m, rfl, gd, q⟩))) (fun hb => nomatch hb) fun _ H1 e1 => ?_
    obtain ⟨m0, m5, _, _⟩ := Mk.good_bound gd
    obtain ⟨n, rfl⟩ := Int.eq_ofNat_of_zero_le m0
    have hQ1 := hQ
    rw [Int.toNat_natCast] at hQ1
    refine q_set (Evl.EvL.go (el_lst ea_nil (by show 0 ≤ 100000; decide)) fun ml H2 hml e2 h2 => ?_)
    refine q_asg (ev_var rfl) fun H3 e3 => ?_
    refine q_asg (ev_op ev_c (ev_var rfl) (rv_I (show CPow 1 (n : Int) from ⟨by omega, by omega, by decide⟩))) fun H4 e4 => ?_
    have nml : H ml = none := fresh_back e1 hml
    have e04 : Ex H H4 := ((e1.trans e2).trans e3).trans e4
    have h4 : H4 ml = some (.lst []) := (e3.trans e4) _ _ h2
    have pw : ∀ j : Nat, ((2 : Int) ^ j) = ((2 ^ j : Nat) : Int) := fun j => (Int.natCast_pow 2 j).symm
    have pp : ∀ j : Nat, 0 < 2 ^ j := fun j => Nat.pow_pos (by decide)
    refine q_while (fun j σ' H' => But ml H H' ∧ ∃ (l : Int) (ms : List Nat), σ' = [some (.int t), some (.int (n : Int)), some (.ref ml), some (.int l), some (.int (2 ^ j))] ∧ H' ml = some (.lst ((ms.map fun c => (⟨#[c]⟩ : Str)).map V.str)) ∧ Mk.mk n t = ms ++ Mk.mk j l ∧ ms.length + j ≤ 5) n ⟨But.ex e04, t, [], ?_, h4, rfl, by simp; omega⟩ ?_
    · rw [show (1 : Int) * 2 ^ ((n : Int)).toNat = 2 ^ n by rw [Int.toNat_natCast, Int.one_mul]]
      rfl
    · rintro j σ' H' ⟨bt, l, ms, rfl, hm, hmk, hlen⟩
      refine ⟨_, et_test (ev_gt (ev_var rfl) ev_c), fun hb H5 e5 => ?_, fun hb H5 e5 => ?_⟩
      · have h1 : (1 : Int) < 2 ^ j := of_decide_eq_true hb
        obtain ⟨i, rfl⟩ : ∃ i, j = i + 1 := by
          cases j with
          | zero => exact absurd h1 (by decide)
          | succ i => exact ⟨i, rfl⟩
        have hd : (2 : Int) ^ (i + 1) / 2 = 2 ^ i := by
          rw [Int.pow_succ]
          exact Int.mul_ediv_cancel _ (by decide)
        refine ⟨fun σ2 H2 => But ml H H2 ∧ ∃ (l : Int) (ms : List Nat), σ2 = [some (.int t), some (.int (n : Int)), some (.ref ml), some (.int l), some (.int (2 ^ i))] ∧ H2 ml = some (.lst ((ms.map fun c => (⟨#[c]⟩ : Str)).map V.str)) ∧ Mk.mk n t = ms ++ Mk.mk i l ∧ ms.length + i ≤ 5, fun σ2 H2 h => ⟨i, by omega, h⟩, ?_⟩
        refine q_augF rfl ev_c ⟨by decide, by decide⟩ fun H5' e5' => ?_
        rw [hd]
        have e5 := e5.trans e5'
        have hm5 := e5 _ _ hm
        have cat : ∀ c, ((ms.map fun c => (⟨#[c]⟩ : Str)).map V.str) ++ [V.str ⟨#[c]⟩] = (((ms ++ [c]).map fun c => (⟨#[c]⟩ : Str)).map V.str) := fun c => by
          rw [List.map_append, List.map_append]
          rfl
        have ln : ((ms.map fun c => (⟨#[c]⟩ : Str)).map V.str).length < 100000 := by
          rw [List.length_map, List.length_map]
          omega
        refine s_if (et_test (ev_gt (ev_var rfl) ev_c)) (fun hb H6 e6 => ?_) fun hb H6 e6 => ?_
        · have hl : 0 < l := of_decide_eq_true hb
          refine q_app (e6 _ _ hm5) (ev_var rfl) ev_c ln fun H7 e7 => ?_
          refine s_aug rfl (ev_var rfl) fun H8 e8 => ⟨(((bt.trans (But.ex ((e5.trans e6).trans e7))).trans But.upd).trans (But.ex e8)), l - 2 ^ i, ms ++ [62], rfl, ?_, ?_, by rw [List.length_append]; simp; omega⟩
          · rw [gt_sign, cat] at e8
            exact e8 _ _ upd_same
          · rw [hmk, List.append_assoc]
            congr 1
            show (if 0 < l then _ else _) = _
            rw [if_pos hl]
            rfl
        · have hl : ¬ 0 < l := of_decide_eq_false hb
          refine q_app (e6 _ _ hm5) (ev_var rfl) ev_c ln fun H7 e7 => ?_
          refine s_aug rfl (ev_var rfl) fun H8 e8 => ⟨(((bt.trans (But.ex ((e5.trans e6).trans e7))).trans But.upd).trans (But.ex e8)), l + 2 ^ i, ms ++ [60], rfl, ?_, ?_, by rw [List.length_append]; simp; omega⟩
          · rw [lt_sign, cat] at e8
            exact e8 _ _ upd_same
          · rw [hmk, List.append_assoc]
            congr 1
            show (if 0 < l then _ else _) = _
            rw [if_neg hl]
            rfl
      · have h1 : ¬ (1 : Int) < 2 ^ j := of_decide_eq_false hb
        have j0 : j = 0 := by
          cases j with
          | zero => rfl
          | succ i =>
            exfalso
            apply h1
            rw [pw, Nat.pow_succ]
            have := pp i
            omega
        subst j0
        have hmk' : Mk.mk n t = ms := by
          rw [hmk]
          exact List.append_nil _
        rw [hmk'] at hQ1
        refine x_ret (show tM1 _ _ _ _ _ _ from x_c ⟨⟨_, rfl⟩, x_var rfl ⟨_, ml, _, rfl, rfl, .inl (sq_of (e5 _ _ hm)), ?_, ?_⟩⟩)
        · rw [jn_sum]
          show ms.length + _ * 0 ≤ _
          omega
        · rw [jn_text]
          exact hQ1 H5 ((bt.trans (But.ex e5)).new nml)
end
end K09

namespace K09
open PySem PySem.Spec PyProof.Rows L2 Evl
/-! ### a rose in the heap -/
def txs (ws : List (List Nat)) : List Str := ws.map ofL
def rf (tw : Addr) (h : Nat) (tb : Addr) : List (Str × V) := [("words", .ref tw), ("halvings", .int (h : Int)), ("begin", .ref tb)]
theorem rf_put (tw : Addr) (h : Nat) (tb : Addr) : putF "begin" (.ref tb) (putF "halvings" (.int (h : Int)) (putF "words" (.ref tw) [])) = rf tw h tb := by
  have n1 : ¬ (("words" : Str) = "halvings") := by decide +kernel
  have n2 : ¬ (("words" : Str) = "begin") := by decide +kernel
  have n3 : ¬ (("halvings" : Str) = "begin") := by decide +kernel
  simp [putF, rf, n1, n2, n3]
theorem rf_words (tw : Addr) (h : Nat) (tb : Addr) : (rf tw h tb).lookup ("words" : Str) = some (.ref tw) := by
  simp [rf, List.lookup]
theorem rf_halvings (tw : Addr) (h : Nat) (tb : Addr) : (rf tw h tb).lookup ("halvings" : Str) = some (.int (h : Int)) := by
  have e1 : (("halvings" : Str) == "words") = false := by decide +kernel
  simp [rf, List.lookup, e1]
theorem rf_begin (tw : Addr) (h : Nat) (tb : Addr) : (rf tw h tb).lookup ("begin" : Str) = some (.ref tb) := by
  have e1 : (("begin" : Str) == "words") = false := by decide +kernel
  have e2 : (("begin" : Str) == "halvings") = false := by decide +kernel
  simp [rf, List.lookup, e1, e2]
theorem rf_no (tw : Addr) (h : Nat) (tb : Addr) {m : Str} (h1 : (m == ("words" : Str)) = false) (h2 : (m == ("halvings" : Str)) = false) (h3 : (m == ("begin" : Str)) = false) : (rf tw h tb).lookup m = none := by
  simp [rf, List.lookup, h1, h2, h3]
abbrev WordsAt (H : Hp) (tw : Addr) (ws : List (List Nat)) : Prop := FzT H tw ((txs ws).map V.str)
def RoseAt (K : PySem.W.Frag) (H : Hp) (x : Addr) (R : Rs.Rose) : Prop := ∃ dx tw tb, H x = some (.ins (He.ga K "Rose") dx (rf tw R.h tb)) ∧ WordsAt H tw R.ws ∧ TurnAt (He.ga K "Turn") H tb R.b
theorem RoseAt.ex {K : PySem.W.Frag} {H H' : Hp} {x : Addr} {R : Rs.Rose} (h : RoseAt K H x R) (e : Ex H H') : RoseAt K H' x R := by
  obtain ⟨dx, tw, tb, h1, h2, h3⟩ := h
  exact ⟨dx, tw, tb, e _ _ h1, FzT.ex h2 e, h3.ex e⟩
theorem sn_b {R : Rs.Rose} (k : Rs.Ok R) : Sn 100 R.b := ⟨k.can, k.sm⟩
theorem nd_txs {ws : List (List Nat)} (h : ws.Nodup) : (txs ws).Nodup := by
  unfold txs
  refine List.Pairwise.map ofL (fun a b hab e => hab (ofL_inj e)) h
/-! ### promises -/
def sp_corners : Sp := fun vs H Q _ => ∃ (tw : Addr) (ws : List (List Nat)), vs = [.ref tw] ∧ WordsAt H tw ws ∧ 3 ≤ ws.length ∧ ws.length ≤ 8 ∧ ws.Nodup ∧ (∀ w ∈ ws, Rs.WordL w) ∧ ∀ H2, Ex H H2 → Q (.bl true) H2
def sp_rinit (K : PySem.W.Frag) : Sp := fun vs H Q _ => ∃ (x dx tw tb : Addr) (R : Rs.Rose), vs = [.ref x, .ref tw, .int (R.h : Int), .ref tb] ∧ H x = some (.ins (He.ga K "Rose") dx []) ∧ WordsAt H tw R.ws ∧ TurnAt (He.ga K "Turn") H tb R.b ∧ Rs.Ok R ∧
  ∀ H2, But x H H2 → H2 x = some (.ins (He.ga K "Rose") dx (rf tw R.h tb)) → Q .non H2
def sp_rlen (K : PySem.W.Frag) : Sp := fun vs H Q _ => ∃ (x : Addr) (R : Rs.Rose), vs = [.ref x] ∧ RoseAt K H x R ∧ Rs.Ok R ∧ ∀ H2, Ex H H2 → Q (.int (Rs.size R : Int)) H2
def sp_ptold (K : PySem.W.Frag) : Sp := fun vs H Q _ => ∃ (x : Addr) (R : Rs.Rose) (o : Rs.One), vs = [.ref x, .str (ofL (Rs.nameOf R o))] ∧ RoseAt K H x R ∧ Rs.Ok R ∧ Rs.Good R o ∧ ∀ H2, Ex H H2 → Q (.int (Rs.placeT R o)) H2
def sp_tat (K : PySem.W.Frag) : Sp := fun vs H Q _ => ∃ (x : Addr) (R : Rs.Rose) (p : Int), vs = [.ref x, .int p] ∧ RoseAt K H x R ∧ Rs.Ok R ∧ NewT (He.ga K "Turn") H Q (Tn.on R.b (Tn.part p (Rs.size R : Int)))
def sp_pat (K : PySem.W.Frag) : Sp := fun vs H Q _ => ∃ (x t : Addr) (R : Rs.Rose) (p : Nat), vs = [.ref x, .ref t] ∧ RoseAt K H x R ∧ Rs.Ok R ∧ p < Rs.size R ∧ TurnAt (He.ga K "Turn") H t (Rs.turn R p) ∧ ∀ H2, Ex H H2 → Q (.int (p : Int)) H2
def sp_low2 : Sp := fun vs H Q _ => ∃ o h : Nat, vs = [.int (o : Int), .int (h : Int)] ∧ 0 < o ∧ o < 2 ^ h ∧ h ≤ 5 ∧ ∀ p H2, H p = none → Ex H H2 → H2 p = some (.tup [.int ((Rs.lowF o h).1 : Int), .int ((Rs.lowF o h).2 : Int)]) → Q (.ref p) H2
def NamesAt (H : Hp) (p : Addr) (ns : List (List Nat)) : Prop := H p = some (.tup ((txs ns).map V.str))
def sp_nat (K : PySem.W.Frag) : Sp := fun vs H Q _ => ∃ (x : Addr) (R : Rs.Rose) (p : Nat), vs = [.ref x, .int (p : Int)] ∧ RoseAt K H x R ∧ Rs.Ok R ∧ p < Rs.size R ∧ ∀ r H2, H r = none → Ex H H2 → NamesAt H2 r (Rs.names R p) → Q (.ref r) H2
def ownN (R : Rs.Rose) (p : Nat) : List Nat := ((Rs.names R p).head?).getD []
def sp_own (K : PySem.W.Frag) : Sp := fun vs H Q _ => ∃ (x : Addr) (R : Rs.Rose) (p : Nat), vs = [.ref x, .int (p : Int)] ∧ RoseAt K H x R ∧ Rs.Ok R ∧ p < Rs.size R ∧ ∀ H2, Ex H H2 → Q (.str (ofL (ownN R p))) H2
def sp_rtold (K : PySem.W.Frag) : Sp := fun vs H Q _ => ∃ (x : Addr) (R : Rs.Rose) (o : Rs.One), vs = [.ref x, .str (ofL (Rs.nameOf R o))] ∧ RoseAt K H x R ∧ Rs.Ok R ∧ Rs.Good R o ∧ NewT (He.ga K "Turn") H Q (Tn.on R.b (Tn.part (Rs.placeT R o) (Rs.size R : Int)))
section
variable {K : PySem.W.Frag} {mg : Str → Option Value} {σ : L2.St} {H : Hp} {x dx tw tb : Addr} {R : Rs.Rose} {te : TE}
theorem ev_words (T : Txt K mg) (h : Ev te σ H (.ref x)) (hx : H x = some (.ins (He.ga K "Rose") dx (rf tw R.h tb))) : Ev (tFld K te "words") σ H (.ref tw) := ev_fld h hx T.cl_Rose T.no_Rose_words (rf_words _ _ _)
theorem ev_halvings (T : Txt K mg) (h : Ev te σ H (.ref x)) (hx : H x = some (.ins (He.ga K "Rose") dx (rf tw R.h tb))) : Ev (tFld K te "halvings") σ H (.int (R.h : Int)) := ev_fld h hx T.cl_Rose T.no_Rose_halvings (rf_halvings _ _ _)
theorem ev_begin (T : Txt K mg) (h : Ev te σ H (.ref x)) (hx : H x = some (.ins (He.ga K "Rose") dx (rf tw R.h tb))) : Ev (tFld K te "begin") σ H (.ref tb) := ev_fld h hx T.cl_Rose T.no_Rose_begin (rf_begin _ _ _)
theorem ev_rlen (h : Ev te σ H (.ref x)) (hx : RoseAt K H x R) (k : Rs.Ok R) : Ev (tCB (rLenO (He.ga K "Rose") (sp_rlen K)) (tCons te tNil)) σ H (.int (Rs.size R : Int)) := by
  obtain ⟨dx, tw, tb, h1, _⟩ := id hx
  have s := k.size_le
  exact ev_lenO h h1 (fun H1 e Q' q' E' => ⟨x, R, rfl, hx.ex e, k, q'⟩) (by omega) (by omega)
theorem ev_shl1 (h : Ev te σ H (.int (R.h : Int))) (k : Rs.Ok R) : Ev (tOp (rI CPow fun i j => .int (i * 2 ^ j.toNat)) (tC (.int 1)) te) σ H (.int (Rs.gap R : Int)) := by
  have h5 := k.h5
  have q := ev_op (σ := σ) (H := H) (ta := tC (.int 1)) ev_c h (rv_I (g := fun i j => V.int (i * 2 ^ j.toNat)) (show CPow 1 (R.h : Int) from ⟨by omega, by omega, by decide⟩))
  have e : (1 : Int) * 2 ^ ((R.h : Int)).toNat = (Rs.gap R : Int) := by
    rw [Int.one_mul, Int.toNat_natCast]
    exact (Int.natCast_pow 2 R.h).symm
  rw [e] at q
  exact q
end
section
variable {P : Program} {w : World} {K : PySem.W.Frag} {mg : Str → Option Value} {base : Heap} {f : Addr} {fd : FuncData}
theorem ok_corners (F : FnP K "are_corners" s_are_corners f fd) (T : Txt K mg) (D_is_word : Iw P w K mg base) : FnOk P w K mg base CX0 3 f fd ["thing"] sp_corners := by
  refine F.ok sc_are_corners (fun vs H Q E h => ?_) (fun cdv A outer s H vs Q E hr h => ?_)
  · obtain ⟨tw, ws, rfl, _⟩ := h
    rfl
  · obtain ⟨tw, ws, rfl, hw, n3, n8, nd, wd, k⟩ := h
    refine ⟨_, PSs.nox (pss_cons (ps_if (PW.pt (pw_or (pt_not (pt_val (pe_callB call_isi (by rfl) T.b_isinstance (by decide +kernel) (pa_cons (pv 0) (pa_cons (pe_bltn (v := .ty "tuple") (by rfl) T.b_tuple (by decide +kernel) rfl) pa_nil))))) (pw_or (pt_cmpR op_lt (pe_callB call_len_seq (by rfl) T.b_len (by decide +kernel) (pa_cons (pv 0) pa_nil)) (pe_gi (by rfl) T.g_LEAST_CORNERS) (nomark _)) (pw_or1 (pt_cmpR op_gt (pe_callB call_len_seq (by rfl) T.b_len (by decide +kernel) (pa_cons (pv 0) pa_nil)) (pe_gi (by rfl) T.g_MOST_CORNERS) (nomark _)))))) (pss_one (ps_ret pe_bl)) pss_nil)
      (pss_cons (ps_if (pt_not (pt_val (pe_callB (cr_all rfl) (by rfl) T.b_all (by decide +kernel) (pa_cons (pe_lc (own := [("word", 1)]) (g := (gName 1)) (tt := tYes) rfl sc_are_corners.nd (pi_tup (pv 0)) (blkOk_by (own := [("word", 1)]) (N := ["thing", "word"]) (sc := defScope s_are_corners) (by decide +kernel)) (fun _ _ _ _ _ => (pg_name (i := 1) sc_are_corners.nd rfl (Or.inl rfl))) (fun _ _ _ _ _ => pts_nil) (fun _ _ _ _ _ => (pe_cd D_is_word (hr.mono (by decide)) (by rfl) (pa_cons (pv 1) pa_nil)))) pa_nil)))) (pss_one (ps_ret pe_bl)) pss_nil)
      (pss_one (ps_ret (pe_cmpR op_eq (pe_lenT rfl (by rfl) T.b_len (by rfl) T.b_set (pv 0)) (pe_callB call_len_seq (by rfl) T.b_len (by decide +kernel) (pa_cons (pv 0) pa_nil)) (nomark _)))))), ?_⟩
    have hl : ((txs ws).map V.str).length = ws.length := by
      rw [List.length_map]
      exact List.length_map _
    have ln : ∀ {σ0 : L2.St} {H0 : Hp}, σ0[0]? = some (some (.ref tw)) → Ex H H0 → Ev (tCB (fun xs H Q => ∃ p ys, xs = [V.ref p] ∧ (SqL K H p ys ∨ SqT K H p ys) ∧ Q (.int (ys.length : Nat)) H) (tCons (tVar 0) tNil)) σ0 H0 (.int (ws.length : Int)) := fun hσ e => by
      have q := ev_cb (ea_cons (ev_var hσ) ea_nil) (rc_len (K := K) (.inr (FzT.ex hw e).sq))
      rw [hl] at q
      exact q
    refine q_when (b := false) (et_or0 (et_not (et_B (ev_cb (ea_cons (ev_var rfl) (ea_cons ev_c ea_nil)) (rc_isi (b := true) (.ty "tuple") (fun H1 e => (FzT.ex hw e).ty) (kit_ty (by decide +kernel)))))) (et_or0 (et_is (et_test (ev_lt (ln rfl (Ex.refl _)) ev_c)) (decide_eq_false (by omega))) (et_is (et_test (ev_gt (ln rfl (Ex.refl _)) ev_c)) (decide_eq_false (by omega))))) (fun hb => nomatch hb) fun _ H1 e1 => ?_
    have al : Ev (tCB (rAll K) (tCons (tLc (iTup K (tVar 0)) (gName 1) tYes (tCall sp_isword [] E0 (tCons (tVar 1) tNil)) [1]) tNil)) [some (.ref tw), none] H1 (.bl true) := by
      refine ev_is (ev_all (bs := List.replicate ws.length true) (el_lcTu (K := K) (xs := (txs ws).map V.str) (fun _ => true) (fun _ => .bl true) (ev_var rfl) (FzT.ex hw e1).sq (by rw [hl]; omega) (fun _ => rfl) (fun i x H2 _ _ => et_yes) fun i x H2 e2 hi _ => ?_) ?_) ?_
      · have hi : ((txs ws).map V.str)[i]? = some x := hi
        rw [List.getElem?_map] at hi
        unfold txs at hi
        rw [List.getElem?_map] at hi
        cases q : ws[i]? with
        | none =>
          rw [q] at hi
          cases hi
        | some wd' =>
          rw [q] at hi
          cases hi
          exact ev_call (ea_cons (ev_var rfl) ea_nil) fun H3 e3 Q' q' E' => ⟨wd', rfl, wd _ (List.mem_of_getElem? q), q'⟩
      · unfold given
        rw [List.filter_eq_self.mpr (fun _ _ => rfl), hl]
        apply List.ext_getElem
        · simp
        · intro i h1 h2
          simp
      · rw [List.all_replicate]
        simp
    refine q_when (b := false) (et_not (et_B al)) (fun hb => nomatch hb) fun _ H2 e2 => ?_
    have hw2 := FzT.ex hw (e1.trans e2)
    have tl : (txs ws).length = ws.length := List.length_map _
    refine s_ret (ev_is (ev_eqI (ev_lenF (K := K) (xs := txs ws) (ev_var rfl) hw2 (nd_txs nd) (by rw [tl]; omega)) (ln rfl (e1.trans e2))) (by rw [tl, decide_eq_true rfl])) fun H3 e3 => k H3 ((e1.trans e2).trans e3)
abbrev Icor (P : Program) (w : World) (K : PySem.W.Frag) (mg : Str → Option Value) (base : Heap) : Prop := Dn P w K mg base 3 "are_corners" ["thing"] sp_corners
theorem ok_rinit {dvs : List V} {kws : List (Str × V)} (F : FunD K "__init__" "Rose.__init__" (defArgs s_Rose_init) (defBody s_Rose_init) (defScope s_Rose_init) dvs kws f fd) (T : Txt K mg) (D_is_whole : Cn P w K mg base) (D_are_corners : Icor P w K mg base) (TC : Tc P w K mg base) :
    FnOk P w K mg base CX0 4 f fd ["self", "words", "halvings", "begin"] (sp_rinit K) := by
  obtain ⟨fdI, G_Turn_init, b_Turn_init, ⟨ds1, v_Turn_init1, b_Turn_init1⟩, _⟩ := TC
  refine F.ok sc_Rose_init (fun vs H Q E h => ?_) (fun cdv A outer s H vs Q E hr h => ?_)
  · obtain ⟨x, dx, tw, tb, R, rfl, _⟩ := h
    rfl
  · obtain ⟨x, dx, tw, tb, R, rfl, hx, hw, ht, ok, k⟩ := h
    refine ⟨_, PSs.nox (pss_cons (ps_if (pt_not (pt_val (pe_cd D_are_corners (hr.mono (by decide)) (by rfl) (pa_cons (pv 1) pa_nil)))) (pss_one ps_never) pss_nil)
      (pss_cons (ps_if (PW.pt (pw_or (pt_not (pt_val (pe_cd D_is_whole (hr.mono (by decide)) (by rfl) (pa_cons (pv 2) pa_nil)))) (pw_or (pt_cmpR op_lt (pv 2) pe_int (nomark _)) (pw_or1 (pt_cmpR op_gt (pv 2) (pe_gi (by rfl) T.g_MOST_HALVINGS) (nomark _)))))) (pss_one ps_never) pss_nil)
      (pss_cons (ps_if (PW.pt (pw_and (pt_cmpR op_notN (pv 3) pe_non (nomark _)) (pw_and1 (pt_not (pt_val (pe_callB call_isi (by rfl) T.b_isinstance (by decide +kernel) (pa_cons (pv 3) (pa_cons (pe_glob (v := .ref (He.ga K "Turn")) (by rfl) T.g_Turn rfl) pa_nil)))))))) (pss_one ps_never) pss_nil)
      (pss_cons (ps_fld (pv 0) (pv 1) rfl)
      (pss_cons (ps_fld (pv 0) (pv 2) rfl)
      (pss_one (ps_fld (pv 0) (pe_ifExp (pt_cmpR op_isN (pv 3) pe_non (nomark _)) (pe_make T.mk_Turn G_Turn_init (hr.mono (by decide)) (by rfl) T.g_Turn b_Turn_init1 v_Turn_init1 pass0 (pa_cons pe_int pa_nil)) (pv 3)) rfl))))))), ?_⟩
    obtain ⟨db, hb1⟩ := id ht
    have h5 := ok.h5
    refine q_when (b := false) (et_not (a := true) (et_B (ev_call (z := .bl true) (ea_cons (ev_var rfl) ea_nil) fun H1 e Q' q E' => ⟨tw, R.ws, rfl, FzT.ex hw e, ok.n3, ok.n8, ok.nd, ok.wd, q⟩))) (fun hb => nomatch hb) fun _ H1 e1 => ?_
    have wh : ∀ {i : Int} {H0 : Hp}, SpV sp_is_whole [.int i] H0 (.bl true) := fun {i H0} H1 e Q' q E' => ⟨i, rfl, q⟩
    refine q_when (b := false) (et_or0 (et_not (et_B (ev_call (ea_cons (ev_var rfl) ea_nil) wh))) (et_or0 (et_is (et_test (ev_lt (ev_var rfl) ev_c)) (decide_eq_false (by omega))) (et_is (et_test (ev_gt (ev_var rfl) ev_c)) (decide_eq_false (by omega))))) (fun hb => nomatch hb) fun _ H2 e2 => ?_
    refine q_when (b := false) (et_and1 (et_test (ev_op (ev_var rfl) ev_c rv_notN)) (et_not (et_B (ev_cb (ea_cons (ev_var rfl) (ea_cons ev_c ea_nil)) (rc_isiC ((e1.trans e2) _ _ hb1) T.cl_Turn T.own_Turn.is))))) (fun hb => nomatch hb) fun _ H3 e3 => ?_
    have e03 := (e1.trans e2).trans e3
    refine ⟨_, rfl, _, rfl, x, He.ga K "Rose", dx, [], rfl, e03 _ _ hx, T.cl_Rose, T.no_Rose_words, (by show 0 < 1000; decide), ?_⟩
    refine ⟨_, rfl, _, rfl, x, He.ga K "Rose", dx, _, rfl, upd_same, T.cl_Rose, T.no_Rose_halvings, (by show 1 < 1000; decide), ?_⟩
    refine Evl.Ev.go (v := .ref tb) (ev_if (et_test (ev_op (ev_var (v := .ref tb) rfl) ev_c (rv_isN (x := .ref tb)))) (fun hb => absurd (of_decide_eq_true hb) fun z => nomatch z) fun _ => ev_var rfl) fun H6 e6 => ?_
    refine ⟨_, rfl, x, He.ga K "Rose", dx, _, rfl, e6 _ _ upd_same, T.cl_Rose, T.no_Rose_begin, (by show 2 < 1000; decide), ?_⟩
    refine k _ ?_ ?_
    · exact (((But.ex e03).trans But.upd).trans But.upd).trans ((But.ex e6).trans But.upd)
    · rw [upd_same, rf_put]
theorem ok_rlen (F : FnM K "__len__" "Rose.__len__" s_Rose___len__ f fd) (T : Txt K mg) : FnOk P w K mg base CX0 1 f fd ["self"] (sp_rlen K) := by
  refine F.ok sc_Rose___len__ (fun vs H Q E h => ?_) (fun cdv A outer s H vs Q E hr h => ?_)
  · obtain ⟨x, R, rfl, _⟩ := h
    rfl
  · obtain ⟨x, R, rfl, ⟨dx, tw, tb, hx, hw, ht⟩, ok, k⟩ := h
    refine ⟨_, PSs.nox (pss_one (ps_ret (pe_callB call_lenR (by rfl) T.b_len (by decide +kernel) (pa_cons (pe_callTy cr_range1 (by rfl) T.b_range (by decide +kernel) (pa_cons (pe_op op_shl (pe_callB call_len_seq (by rfl) T.b_len (by decide +kernel) (pa_cons (pe_fld (pv 0) rfl) pa_nil)) (pe_fld (pv 0) rfl)) pa_nil)) pa_nil)))), ?_⟩
    have h5 := ok.h5
    have n8 := ok.n8
    have sl := ok.size_le
    have hl : (((txs R.ws).map V.str).length : Int) = (R.ws.length : Int) := by
      rw [List.length_map]
      unfold txs
      rw [List.length_map]
    have ln : Ev (tCB (fun xs H Q => ∃ p ys, xs = [V.ref p] ∧ (SqL K H p ys ∨ SqT K H p ys) ∧ Q (.int (ys.length : Nat)) H) (tCons (tFld K (tVar 0) "words") tNil)) [some (.ref x)] H (.int (R.ws.length : Int)) := by
      have q := ev_cb (ea_cons (ev_words (σ := [some (V.ref x)]) T (ev_var (i := 0) rfl) hx) ea_nil) (rc_len (K := K) (.inr (FzT.sq hw)))
      rw [hl] at q
      exact q
    have sh : Ev (tOp (rI CPow fun i j => .int (i * 2 ^ j.toNat)) (tCB (fun xs H Q => ∃ p ys, xs = [V.ref p] ∧ (SqL K H p ys ∨ SqT K H p ys) ∧ Q (.int (ys.length : Nat)) H) (tCons (tFld K (tVar 0) "words") tNil)) (tFld K (tVar 0) "halvings")) [some (.ref x)] H (.int (Rs.size R : Int)) := by
      have q := ev_op ln (ev_halvings T (ev_var (i := 0) rfl) hx) (rv_I (g := fun i j => V.int (i * 2 ^ j.toNat)) (show CPow (R.ws.length : Int) (R.h : Int) from ⟨by omega, by omega, by omega⟩))
      have e : (R.ws.length : Int) * 2 ^ ((R.h : Int)).toNat = (Rs.size R : Int) := by
        have e2 : ((2 : Int) ^ R.h) = ((2 ^ R.h : Nat) : Int) := (Int.natCast_pow 2 R.h).symm
        rw [Int.toNat_natCast, e2, ← Int.natCast_mul]
        rfl
      rw [e] at q
      exact q
    exact s_ret (ev_lenRng sh (by omega)) k
abbrev Grl (P : Program) (w : World) (K : PySem.W.Frag) (mg : Str → Option Value) (base : Heap) : Prop := ∃ fd, FnOk P w K mg base CX0 1 (He.ma K (He.ga K "Rose") "__len__") fd ["self"] (sp_rlen K) ∧ Binds K fd ["self"] []
end
end K09

namespace K09
open PySem PySem.Spec PyProof.Rows L2 Evl
theorem at_txs {ws : List (List Nat)} {c : Nat} {w : List Nat} (h : ws[c]? = some w) : (txs ws)[c]? = some (ofL w) := by
  unfold txs
  rw [List.getElem?_map, h]
  rfl
theorem inV_txs {ws : List (List Nat)} {w : List Nat} (h : w ∈ ws) : inV (.str (ofL w)) ((txs ws).map V.str) = true := by
  unfold inV
  rw [List.any_eq_true]
  refine ⟨.str (ofL w), List.mem_map.mpr ⟨ofL w, List.mem_map.mpr ⟨w, h, rfl⟩, rfl⟩, ?_⟩
  show (ofL w == ofL w) = true
  exact beq_self_eq_true _
theorem flat_txs (ws : List (List Nat)) : ((txs ws).map V.str).all flatV = true := by
  rw [List.all_eq_true]
  intro x hx
  obtain ⟨z, _, rfl⟩ := List.mem_map.mp hx
  rfl
theorem first_txs {ws : List (List Nat)} {c : Nat} {w : List Nat} (nd : ws.Nodup) (h : ws[c]? = some w) : ∀ m, m < c → (txs ws)[m]? ≠ some (ofL w) := fun m hm e => by
  unfold txs at e
  rw [List.getElem?_map] at e
  obtain ⟨hc, ec⟩ := List.getElem?_eq_some_iff.mp h
  have hml : m < ws.length := by omega
  rw [List.getElem?_eq_getElem hml] at e
  have e2 : ofL ws[m] = ofL w := Option.some.inj e
  have e3 := ofL_inj e2
  rw [← ec] at e3
  exact List.pairwise_iff_getElem.mp nd m c hml hc hm e3
theorem name_word {R : Rs.Rose} (ok : Rs.Ok R) {o : Rs.One} (g : Rs.Good R o) : Rs.WordL (Rs.word R o.1) := ok.wd _ (Rs.word_at g.c).2
section
variable {P : Program} {w : World} {K : PySem.W.Frag} {mg : Str → Option Value} {base : Heap} {f : Addr} {fd : FuncData}
theorem ok_ptold {fdl : FuncData} (F : FnP K "place_told" s_place_told f fd) (T : Txt K mg) (D_parted_within : Ipw P w K mg base) (D_step_of : Dn P w K mg base 1 "step_of" ["marks"] sp_step)
    (G_Rose___len__ : FnOk P w K mg base CX0 1 (He.ma K (He.ga K "Rose") "__len__") fdl ["self"] (sp_rlen K)) (b_Rose___len__ : Binds K fdl ["self"] []) : FnOk P w K mg base CX0 4 f fd ["rose", "name"] (sp_ptold K) := by
  refine F.ok sc_place_told (fun vs H Q E h => ?_) (fun cdv A outer s H vs Q E hr h => ?_)
  · obtain ⟨x, R, o, rfl, _⟩ := h
    rfl
  · obtain ⟨x, R, o, rfl, hx, ok, g, k⟩ := h
    refine ⟨_, PSs.nox (pss_cons (ps_asg (pe_cd D_parted_within (hr.mono (by decide)) (by rfl) (pa_cons (pv 1) (pa_cons (pe_fld (pv 0) rfl) pa_nil))) (pg_tup rfl (pgs_cons (pg_name (i := 2) sc_place_told.nd rfl (Or.inl rfl)) (pgs_cons (pg_name (i := 3) sc_place_told.nd rfl (Or.inl rfl)) pgs_nil))))
      (pss_cons (ps_if (pt_cmpR op_notIn_seq (pv 2) (pe_fld (pv 0) rfl) (by rfl)) (pss_one ps_never) pss_nil)
      (pss_cons (ps_asg (pe_cd D_step_of (hr.mono (by decide)) (by rfl) (pa_cons (pv 3) pa_nil)) (pg_tup rfl (pgs_cons (pg_name (i := 4) sc_place_told.nd rfl (Or.inl rfl)) (pgs_cons (pg_name (i := 5) sc_place_told.nd rfl (Or.inl rfl)) pgs_nil))))
      (pss_cons (ps_set (i := 6) sc_place_told.nd rfl (Or.inl rfl) (pe_op op_shl pe_int (pe_fld (pv 0) rfl)))
      (pss_cons (ps_set (i := 7) sc_place_told.nd rfl (Or.inl rfl) (pe_op op_add (pe_op op_mulW (pe_tupI (pe_fld (pv 0) rfl) (pa_cons (pv 2) pa_nil)) (pv 6)) (pe_op op_mulW (pv 4) (pe_op op_fdivW (pv 6) (pv 5)))))
      (pss_one (ps_ret (pe_op op_mod (pv 7) (pe_callB (call_lenO T.m_Rose___len__ (FnOk.raw0 G_Rose___len__ b_Rose___len__) (hr.mono (by decide))) (by rfl) T.b_len (by decide +kernel) (pa_cons (pv 0) pa_nil)))))))))), ?_⟩
    obtain ⟨dx, tw, tb, hx1, hw, ht⟩ := id hx
    have wa := Rs.word_at g.c
    have h5 := ok.h5
    have sl := ok.size_le
    have gl := ok.gap_le
    -- word, marks
    refine q_asgX (x_call (x_cons (x_var rfl (x_cons (Evl.Ev.go (ev_halvings T (ev_var rfl) hx1) fun H1 e1 => x_nil ⟨Rs.word R o.1, o.2, R.h, rfl, name_word ok g, g.ms, g.len, h5, fun r H2 hr2 e2 h2 => ?_⟩)))))
    refine ⟨r, _, rfl, st_of h2, rfl, _, _, rfl, _, _, rfl, rfl, ?_⟩
    have e02 := e1.trans e2
    have hx2 := e02 _ _ hx1
    have hw2 : WordsAt H2 tw R.ws := FzT.ex hw e02
    refine q_when (b := false) (et_is (et_test (ev_op (ev_var rfl) (ev_words T (ev_var rfl) hx2) (rv_niT (K := K) (FzT.sq hw2) rfl (flat_txs _)))) (by rw [inV_txs wa.2]; rfl)) (fun hb => nomatch hb) fun _ H3 e3 => ?_
    -- top, bottom
    have ml : o.2.length ≤ 5 := Nat.le_trans g.len h5
    refine q_asgX (x_call (x_cons (x_var rfl (x_nil ⟨o.2, rfl, ml, fun r4 H4 hr4 e4 h4 => ?_⟩))))
    refine ⟨r4, _, rfl, st_of h4, rfl, _, _, rfl, _, _, rfl, rfl, ?_⟩
    have hx4 := (e3.trans e4) _ _ hx2
    have hw4 : WordsAt H4 tw R.ws := FzT.ex hw2 (e3.trans e4)
    refine q_asg (ev_shl1 (ev_halvings T (ev_var rfl) hx4) ok) fun H5 e5 => ?_
    have hx5 := e5 _ _ hx4
    have hw5 : WordsAt H5 tw R.ws := FzT.ex hw4 e5
    have e05 := ((e02.trans e3).trans e4).trans e5
    have n8 := ok.n8
    have hc := g.c
    obtain ⟨d0, d32⟩ := g.dv
    have tz : (Mk.step o.2).1.natAbs < 2 ^ 20 := by
      have key : ∀ l : List Nat, (Mk.step l).1.natAbs < 2 ^ l.length := fun l => by
        unfold Mk.step
        have gen : ∀ (l : List Nat) (p : Int × Int) (n : Nat), p.1.natAbs < 2 ^ n → (l.foldl (fun p c => (2 * p.1 + (if c = 62 then 1 else -1), 2 * p.2)) p).1.natAbs < 2 ^ (n + l.length) := by
          intro l
          induction l with
          | nil => exact fun p n h => h
          | cons c r ih =>
            intro p n h
            have := ih (2 * p.1 + (if c = 62 then 1 else -1), 2 * p.2) (n + 1) (by
              show (2 * p.1 + (if c = 62 then 1 else -1)).natAbs < 2 ^ (n + 1)
              rw [Nat.pow_succ]
              split <;> omega)
            rw [List.length_cons, show n + (r.length + 1) = n + 1 + r.length by omega]
            exact this
        have := gen l (0, 1) 0 (by decide)
        rw [Nat.zero_add] at this
        exact this
      exact Nat.lt_of_lt_of_le (key o.2) (Nat.pow_le_pow_right (by decide) (by omega))
    refine q_asg (ev_add (ev_mulW (n := 4) (m := 6) (ev_tupI (ys := txs R.ws) (z := ofL (Rs.word R o.1)) (j := o.1) (ev_words T (ev_var rfl) hx5) (ev_var rfl) hw5 (at_txs wa.1) (first_txs ok.nd wa.1)) (ev_var rfl) (by omega) (by omega)) (ev_mulW (n := 20) (m := 6) (ev_var rfl) (ev_fdivW (n := 6) (ev_var rfl) (ev_var rfl) d0 (by omega)) tz ?_)) fun H6 e6 => ?_
    · have q0 : 0 ≤ (Rs.gap R : Int) / (Mk.step o.2).2 := Int.ediv_nonneg (by omega) (by omega)
      have q1 : (Rs.gap R : Int) / (Mk.step o.2).2 ≤ (Rs.gap R : Int) := Int.ediv_le_self _ (by omega)
      omega
    exact s_ret (ev_mod (ev_var rfl) (ev_rlen (ev_var rfl) (hx.ex (e05.trans e6)) ok) (by omega)) fun H7 e7 => k H7 ((e05.trans e6).trans e7)
end
end K09

namespace K09
open PySem PySem.Spec PyProof.Rows L2 Evl
section
variable {K : PySem.W.Frag} {mg : Str → Option Value} {σ : L2.St} {H : Hp} {x : Addr} {R : Rs.Rose} {te : TE}
theorem er_begin (T : Txt K mg) (h : Ev te σ H (.ref x)) (hx : RoseAt K H x R) : EvR (tFld K te "begin") σ H (PT (He.ga K "Turn") R.b) := fun H1 e Q q => by
  obtain ⟨dx, tw, tb, h1, _, ht⟩ := hx
  exact ev_begin T h h1 H1 e _ fun H2 e2 => q tb H2 e2 (ht.ex (e.trans e2))
theorem sn_turn {p : Nat} (k : Rs.Ok R) : Sn 109 (Rs.turn R p) := by
  have s := k.size_le
  exact sn_on (sn_b k) (sn_le (n := 9) (by omega) (by omega))
end
abbrev Grln (P : Program) (w : World) (K : PySem.W.Frag) (mg : Str → Option Value) (base : Heap) (fd : FuncData) : Prop := FnOk P w K mg base CX0 1 (He.ma K (He.ga K "Rose") "__len__") fd ["self"] (sp_rlen K)
abbrev Gt2 (P : Program) (w : World) (K : PySem.W.Frag) (mg : Str → Option Value) (base : Heap) (m : Str) (g : Int × Int → Int × Int → Int × Int) (fd : FuncData) : Prop := FnOk P w K mg base CX0 4 (He.ma K (He.ga K "Turn") m) fd ["self", "other"] (sp_two (He.ga K "Turn") g)
section
variable {P : Program} {w : World} {K : PySem.W.Frag} {mg : Str → Option Value} {base : Heap} {f : Addr} {fd : FuncData}
theorem ok_tat {fdl fdp : FuncData} (F : FnP K "turn_at" s_turn_at f fd) (T : Txt K mg) (TC : Tc P w K mg base) (G_Turn_plus : Gt2 P w K mg base "plus" Tn.on fdp) (b_Turn_plus : Binds K fdp ["self", "other"] [])
    (G_Rose___len__ : Grln P w K mg base fdl) (b_Rose___len__ : Binds K fdl ["self"] []) : FnOk P w K mg base CX0 5 f fd ["rose", "place"] (sp_tat K) := by
  obtain ⟨fdI, G_Turn_init, b_Turn_init, _, _⟩ := TC
  refine F.ok sc_turn_at (fun vs H Q E h => ?_) (fun cdv A outer s H vs Q E hr h => ?_)
  · obtain ⟨x, R, p, rfl, _⟩ := h
    rfl
  · obtain ⟨x, R, p, rfl, hx, ok, k⟩ := h
    refine ⟨_, PSs.nox (pss_one (ps_ret (pe_meth (pe_fld (pv 0) rfl) T.cl_Turn T.m_Turn_plus G_Turn_plus (hr.mono (by decide)) b_Turn_plus .nil pass0 (pa_cons (pe_make T.mk_Turn G_Turn_init (hr.mono (by decide)) (by rfl) T.g_Turn b_Turn_init .nil pass0 (pa_cons (pv 1) (pa_cons (pe_callB (call_lenO T.m_Rose___len__ (FnOk.raw0 G_Rose___len__ b_Rose___len__) (hr.mono (by decide))) (by rfl) T.b_len (by decide +kernel) (pa_cons (pv 0) pa_nil)) pa_nil))) pa_nil)))), ?_⟩
    have sl := ok.size_le
    refine x_ret (er_new (er_m2n (g := Tn.on) (er_begin T (ev_var rfl) hx) (er_tn ((tn_make (ea_cons (ev_var rfl) (ea_cons (ev_rlen (ev_var rfl) hx ok) ea_nil)) ?_ ?_).is (Tn.sgn_pos ?_))) (sn_b ok).sm (sn_le (n := 9) ?_ ?_).sm) k)
    · omega
    · exact Nat.lt_of_lt_of_le (m := 2 ^ 9) (by omega) (Nat.pow_le_pow_right (by decide) (by decide))
    · omega
    · omega
    · omega
theorem ok_pat {fdl fdm : FuncData} (F : FnP K "place_at" s_place_at f fd) (T : Txt K mg) (G_Turn_minus : Gt2 P w K mg base "minus" Tn.off fdm) (b_Turn_minus : Binds K fdm ["self", "other"] [])
    (G_Rose___len__ : Grln P w K mg base fdl) (b_Rose___len__ : Binds K fdl ["self"] []) : FnOk P w K mg base CX0 5 f fd ["rose", "turn"] (sp_pat K) := by
  refine F.ok sc_place_at (fun vs H Q E h => ?_) (fun cdv A outer s H vs Q E hr h => ?_)
  · obtain ⟨x, t, R, p, rfl, _⟩ := h
    rfl
  · obtain ⟨x, t, R, p, rfl, hx, ok, hp, ht, k⟩ := h
    refine ⟨_, PSs.nox (pss_cons (ps_set (i := 2) sc_place_at.nd rfl (Or.inl rfl) (pe_meth (pv 1) T.cl_Turn T.m_Turn_minus G_Turn_minus (hr.mono (by decide)) b_Turn_minus .nil pass0 (pa_cons (pe_fld (pv 0) rfl) pa_nil)))
      (pss_cons (ps_asg (pe_callB call_divmodW (by rfl) T.b_divmod (by decide +kernel) (pa_cons (pe_op op_mulW (pe_fld (pv 2) rfl) (pe_callB (call_lenO T.m_Rose___len__ (FnOk.raw0 G_Rose___len__ b_Rose___len__) (hr.mono (by decide))) (by rfl) T.b_len (by decide +kernel) (pa_cons (pv 0) pa_nil))) (pa_cons (pe_fld (pv 2) rfl) pa_nil))) (pg_tup rfl (pgs_cons (pg_name (i := 3) sc_place_at.nd rfl (Or.inl rfl)) (pgs_cons (pg_name (i := 4) sc_place_at.nd rfl (Or.inl rfl)) pgs_nil))))
      (pss_one (ps_ret (pe_ifExp (pt_cmpR op_eq (pv 4) pe_int (nomark _)) (pv 3) pe_non))))), ?_⟩
    have sl := ok.size_le
    have cp : Tn.Can (Tn.part (p : Int) (Rs.size R : Int)) := Tn.part_can (by omega)
    have eo : Tn.off (Rs.turn R p) R.b = Tn.part (p : Int) (Rs.size R : Int) := Tn.on_off' ok.can cp
    refine q_set (er_new (er_m2n (g := Tn.off) (er_turn rfl ht) (er_begin T (ev_var rfl) hx) (sn_turn ok).sm (sn_b ok).sm) fun on H1 hon e1 h1 => ?_)
    rw [eo] at h1
    obtain ⟨dn, hn⟩ := h1
    have so : Sn 9 (Tn.part (p : Int) (Rs.size R : Int)) := sn_le (by omega) (by omega)
    have pp := Rs.part_place hp
    generalize Tn.part (p : Int) (Rs.size R : Int) = q at *
    have q2 := so.1.pos
    refine q_asgX (x_cb (Evl.EvA.go (ea_cons (ev_mulW (n := 9) (m := 9) (ev_fld (ev_var rfl) hn T.cl_Turn T.no_Turn_top (tf_top q)) (ev_rlen (ev_var rfl) (hx.ex e1) ok) ?_ (by omega)) (ea_cons (ev_fld (ev_var rfl) hn T.cl_Turn T.no_Turn_bottom (tf_bottom q)) ea_nil)) fun H2 e2 => ?_))
    · have := so.1.nn
      have := so.1.lt
      have := so.2
      omega
    have lz : (q.1 * (Rs.size R : Int)).natAbs < 2 ^ 4000 := by
      have a1 : q.1.natAbs < 2 ^ 9 := by
        have := so.1.nn
        have := so.1.lt
        have := so.2
        omega
      exact pow_up (pow_mul (n := 9) (m := 9) a1 (by omega)) (by decide)
    refine ⟨_, _, rfl, divp_ok q2 (Nat.le_trans (bits_le lz) (Nat.le_add_left _ _)), fun r hr2 => ?_⟩
    have d1 : q.1 * (Rs.size R : Int) / q.2 = (p : Int) := by
      rw [pp]
      exact Int.mul_ediv_cancel _ (by omega)
    have d2 : q.1 * (Rs.size R : Int) % q.2 = 0 := by
      rw [pp]
      exact Int.mul_emod_left _ _
    rw [d1, d2]
    refine ⟨r, _, rfl, st_of upd_same, rfl, _, _, rfl, _, _, rfl, rfl, ?_⟩
    exact s_ret (v := .int (p : Int)) (ev_if (et_is (et_test (ev_eqI (ev_var rfl) ev_c)) (b := true) (decide_eq_true rfl)) (fun _ => ev_var rfl) (fun hb => nomatch hb)) fun H3 e3 => k H3 (((e1.trans e2).trans (Ex.new hr2)).trans e3)
theorem ok_lowest (F : FnP K "lowest" s_lowest f fd) (T : Txt K mg) : FnOk P w K mg base CX0 1 f fd ["top", "many"] sp_low2 := by
  refine F.ok sc_lowest (fun vs H Q E h => ?_) (fun cdv A outer s H vs Q E hr h => ?_)
  · obtain ⟨o, h, rfl, _⟩ := h
    rfl
  · obtain ⟨o, h, rfl, o0, ol, h5, k⟩ := h
    refine ⟨_, PSs.nox (pss_cons (ps_while PassesOwn.never (pt_cmpR op_eq (pe_op op_mod (pv 0) pe_int) pe_int (nomark _)) (pss_cons (ps_aug (i := 0) sc_lowest.nd rfl (Or.inl rfl) pe_int iop_fdiv)
        (pss_one (ps_aug (i := 1) sc_lowest.nd rfl (Or.inl rfl) pe_int ip_sub))))
      (pss_one (ps_ret (pe_tup (pa_cons (pv 0) (pa_cons (pv 1) pa_nil)))))), ?_⟩
    refine q_while (fun m σ' H' => Ex H H' ∧ ∃ a b : Nat, σ' = [some (.int (a : Int)), some (.int (b : Int))] ∧ 0 < a ∧ a < 2 ^ b ∧ b ≤ 5 ∧ Rs.lowF a b = Rs.lowF o h ∧ m = a) o ⟨Ex.refl _, o, h, rfl, o0, ol, h5, rfl, rfl⟩ ?_
    rintro m σ' H' ⟨e, a, b, rfl, a0, al, b5, hl, rfl⟩
    obtain ⟨c, rfl⟩ : ∃ c, b = c + 1 := by
      cases b with
      | zero => exact absurd al (by simp; omega)
      | succ c => exact ⟨c, rfl⟩
    have em : ((m : Int) % 2 = 0) = (m % 2 = 0) := by
      apply propext
      omega
    refine ⟨_, et_test (ev_eqI (ev_mod (ev_var rfl) ev_c (by decide)) ev_c), fun hb H1 e1 => ?_, fun hb H1 e1 => ?_⟩
    · have m2 : (m : Int) % 2 = 0 := of_decide_eq_true hb
      have m2 : m % 2 = 0 := by omega
      refine ⟨fun σ2 H2 => Ex H H2 ∧ σ2 = [some (.int ((m : Int) / 2)), some (.int (((c + 1 : Nat) : Int) - 1))], fun σ2 H2 ⟨e2, h2⟩ => ?_, ?_⟩
      · refine ⟨m / 2, by omega, e2, m / 2, c, ?_, by omega, ?_, by omega, ?_, rfl⟩
        · rw [h2]
          have z1 : (m : Int) / 2 = ((m / 2 : Nat) : Int) := by omega
          have z2 : (((c + 1 : Nat) : Int) - 1) = (c : Int) := by omega
          rw [z1, z2]
        · rw [Nat.pow_succ] at al
          omega
        · rw [← hl]
          show _ = (if m % 2 = 0 then Rs.lowF (m / 2) c else (m, c + 1))
          rw [if_pos m2]
      · exact q_augF rfl ev_c ⟨by decide, by decide⟩ fun H2 e2 => s_aug rfl ev_c fun H3 e3 => ⟨((e.trans e1).trans e2).trans e3, rfl⟩
    · have m2 : ¬ (m : Int) % 2 = 0 := of_decide_eq_false hb
      have m2 : ¬ m % 2 = 0 := by omega
      refine s_retU (eu_tup (ea_cons (ev_var rfl) (ea_cons (ev_var rfl) ea_nil)) (by show 2 ≤ 100000; decide)) fun p H2 hp e2 h2 => k p H2 (fresh_back (e.trans e1) hp) ((e.trans e1).trans e2) ?_
      rw [← hl]
      show _ = some (HO.tup [V.int ((if m % 2 = 0 then Rs.lowF (m / 2) c else (m, c + 1)).1 : Int), V.int ((if m % 2 = 0 then Rs.lowF (m / 2) c else (m, c + 1)).2 : Int)])
      rw [if_neg m2]
      exact h2
end
end K09

namespace K09
open PySem PySem.Spec PyProof.Rows L2 Evl
section
variable {K : PySem.W.Frag} {mg : Str → Option Value} {σ : L2.St} {H : Hp} {x : Addr} {R : Rs.Rose} {te ti : TE}
theorem ev_word {c : Nat} (T : Txt K mg) (h : Ev te σ H (.ref x)) (hi : Ev ti σ H (.int (c : Int))) (hx : RoseAt K H x R) (hc : c < R.ws.length) : Ev (tOp (rIxT K) (tFld K te "words") ti) σ H (.str (ofL (Rs.word R c))) := by
  obtain ⟨dx, tw, tb, h1, hw, _⟩ := hx
  refine ev_op (ev_words T h h1) hi (rv_ixT (FzT.sq hw) (atI_nat ?_))
  rw [List.getElem?_map, at_txs (Rs.word_at hc).1]
  rfl
theorem ev_nwords (T : Txt K mg) (h : Ev te σ H (.ref x)) (hx : RoseAt K H x R) : Ev (tCB (fun xs H Q => ∃ p ys, xs = [V.ref p] ∧ (SqL K H p ys ∨ SqT K H p ys) ∧ Q (.int (ys.length : Nat)) H) (tCons (tFld K te "words") tNil)) σ H (.int (R.ws.length : Int)) := by
  obtain ⟨dx, tw, tb, h1, hw, _⟩ := hx
  have q := ev_cb (ea_cons (ev_words T h h1) ea_nil) (rc_len (K := K) (.inr (FzT.sq hw)))
  rw [List.length_map] at q
  unfold txs at q
  rw [List.length_map] at q
  exact q
theorem ev_shlN {n : Nat} (h : Ev te σ H (.int (n : Int))) (h5 : n ≤ 5) : Ev (tOp (rI CPow fun i j => .int (i * 2 ^ j.toNat)) (tC (.int 1)) te) σ H (.int (2 ^ n : Int)) := by
  have q := ev_op (σ := σ) (H := H) (ta := tC (.int 1)) ev_c h (rv_I (g := fun i j => V.int (i * 2 ^ j.toNat)) (show CPow 1 (n : Int) from ⟨by omega, by omega, by decide⟩))
  have e : (1 : Int) * 2 ^ ((n : Int)).toNat = (2 ^ n : Int) := by
    rw [Int.one_mul, Int.toNat_natCast]
  rw [e] at q
  exact q
end
section
variable {P : Program} {w : World} {K : PySem.W.Frag} {mg : Str → Option Value} {base : Heap} {f : Addr} {fd : FuncData}
theorem ok_nat (F : FnP K "names_at" s_names_at f fd) (T : Txt K mg) (D_lowest : Dn P w K mg base 1 "lowest" ["top", "many"] sp_low2) (D_marks_by : Dn P w K mg base 3 "marks_by" ["top", "many"] sp_marks0) : FnOk P w K mg base CX0 4 f fd ["rose", "place"] (sp_nat K) := by
  refine F.ok sc_names_at (fun vs H Q E h => ?_) (fun cdv A outer s H vs Q E hr h => ?_)
  · obtain ⟨x, R, p, rfl, _⟩ := h
    rfl
  · obtain ⟨x, R, p, rfl, hx, ok, hp, k⟩ := h
    refine ⟨_, PSs.nox (pss_cons (ps_set (i := 2) sc_names_at.nd rfl (Or.inl rfl) (pe_op op_shl pe_int (pe_fld (pv 0) rfl)))
      (pss_cons (ps_asg (pe_callB call_divmod (by rfl) T.b_divmod (by decide +kernel) (pa_cons (pv 1) (pa_cons (pv 2) pa_nil))) (pg_tup rfl (pgs_cons (pg_name (i := 3) sc_names_at.nd rfl (Or.inl rfl)) (pgs_cons (pg_name (i := 4) sc_names_at.nd rfl (Or.inl rfl)) pgs_nil))))
      (pss_cons (ps_if (pt_cmpR op_eq (pv 4) pe_int (nomark _)) (pss_one (ps_ret (pe_tup (pa_cons (pe_ix ix_tup (pe_fld (pv 0) rfl) (pv 3) (fun _ _ => rfl)) pa_nil)))) pss_nil)
      (pss_cons (ps_asg (pe_cd D_lowest (hr.mono (by decide)) (by rfl) (pa_cons (pv 4) (pa_cons (pe_fld (pv 0) rfl) pa_nil))) (pg_tup rfl (pgs_cons (pg_name (i := 5) sc_names_at.nd rfl (Or.inl rfl)) (pgs_cons (pg_name (i := 6) sc_names_at.nd rfl (Or.inl rfl)) pgs_nil))))
      (pss_cons (ps_set (i := 7) sc_names_at.nd rfl (Or.inl rfl) (pe_op op_mod (pe_op op_add (pv 3) pe_int) (pe_callB call_len_seq (by rfl) T.b_len (by decide +kernel) (pa_cons (pe_fld (pv 0) rfl) pa_nil))))
      (pss_cons (ps_set (i := 8) sc_names_at.nd rfl (Or.inl rfl) (pe_op op_add_str (pe_ix ix_tup (pe_fld (pv 0) rfl) (pv 3) (fun _ _ => rfl)) (pe_cd D_marks_by (hr.mono (by decide)) (by rfl) (pa_cons (pv 5) (pa_cons (pv 6) pa_nil)))))
      (pss_cons (ps_set (i := 9) sc_names_at.nd rfl (Or.inl rfl) (pe_op op_add_str (pe_ix ix_tup (pe_fld (pv 0) rfl) (pv 7) (fun _ _ => rfl)) (pe_cd D_marks_by (hr.mono (by decide)) (by rfl) (pa_cons (pe_op op_sub (pv 5) (pe_op op_shl pe_int (pv 6))) (pa_cons (pv 6) pa_nil)))))
      (pss_cons (ps_if (pt_cmpR op_gt (pe_op op_mulW pe_int (pv 4)) (pv 2) (nomark _)) (pss_one (ps_ret (pe_tup (pa_cons (pv 9) (pa_cons (pv 8) pa_nil))))) pss_nil)
      (pss_one (ps_ret (pe_tup (pa_cons (pv 8) (pa_cons (pv 9) pa_nil))))))))))))), ?_⟩
    have sl := ok.size_le
    have gl := ok.gap_le
    have h5 := ok.h5
    have n3 := ok.n3
    have pl := Rs.place_lt ok hp
    obtain ⟨dx, tw, tb, hx0, _⟩ := id hx
    refine q_asg (ev_shl1 (ev_halvings T (ev_var rfl) hx0) ok) fun H1 e1 => ?_
    refine q_asgX (x_cb (Evl.EvA.go (ea_cons (ev_var rfl) (ea_cons (ev_var rfl) ea_nil)) fun H2 e2 => ?_))
    refine ⟨_, _, rfl, ⟨by omega, by omega⟩, fun r hr2 => ?_⟩
    have d1 : (p : Int) / (Rs.gap R : Int) = ((p / Rs.gap R : Nat) : Int) := (Int.natCast_ediv _ _).symm
    have d2 : (p : Int) % (Rs.gap R : Int) = ((p % Rs.gap R : Nat) : Int) := (Int.natCast_emod _ _).symm
    rw [d1, d2]
    refine ⟨r, _, rfl, st_of upd_same, rfl, _, _, rfl, _, _, rfl, rfl, ?_⟩
    have e3 := (e1.trans e2).trans (Ex.new (o := .tup [.int ((p / Rs.gap R : Nat) : Int), .int ((p % Rs.gap R : Nat) : Int)]) hr2)
    generalize upd H2 r (.tup [.int ((p / Rs.gap R : Nat) : Int), .int ((p % Rs.gap R : Nat) : Int)]) = H3 at *
    have ml : p % Rs.gap R < Rs.gap R := Nat.mod_lt _ (by omega)
    refine q_when (et_test (ev_eqI (ev_var rfl) ev_c)) (fun hb H4 e4 => ?_) fun hb H4 e4 => ?_
    · have m0 : ((p % Rs.gap R : Nat) : Int) = 0 := of_decide_eq_true hb
      have m0 : p % Rs.gap R = 0 := by omega
      refine s_retU (eu_tup (ea_cons (ev_word T (ev_var rfl) (ev_var rfl) (hx.ex (e3.trans e4)) pl) ea_nil) (by show 1 ≤ 100000; decide)) fun q H5 hq e5 h5 => k q H5 (fresh_back (e3.trans e4) hq) ((e3.trans e4).trans e5) ?_
      show H5 q = _
      unfold Rs.names Rs.ones
      rw [h5, if_pos m0]
      show _ = some (HO.tup [V.str (ofL (Rs.word R (p / Rs.gap R) ++ []))])
      rw [List.append_nil]
    · have m0 : ¬ ((p % Rs.gap R : Nat) : Int) = 0 := of_decide_eq_false hb
      have m0 : 0 < p % Rs.gap R := by omega
      obtain ⟨lo, l1, lh, ll, _⟩ := Rs.low_ok h5 m0 ml
      obtain ⟨g1, g2⟩ := Rs.good_odd l1 (Nat.le_trans lh h5) lo ll
      have en : Rs.names R p = if Rs.gap R < 2 * (p % Rs.gap R) then [Rs.nameOf R (Rs.backOf R p), Rs.nameOf R (Rs.onOf R p)] else [Rs.nameOf R (Rs.onOf R p), Rs.nameOf R (Rs.backOf R p)] := by
        unfold Rs.names Rs.ones
        rw [if_neg (by omega)]
        split <;> rfl
      have eon : Rs.nameOf R (Rs.onOf R p) = Rs.word R (p / Rs.gap R) ++ Mk.mk (Rs.lowF (p % Rs.gap R) R.h).2 ((Rs.lowF (p % Rs.gap R) R.h).1 : Int) := rfl
      have eba : Rs.nameOf R (Rs.backOf R p) = Rs.word R ((p / Rs.gap R + 1) % R.ws.length) ++ Mk.mk (Rs.lowF (p % Rs.gap R) R.h).2 (((Rs.lowF (p % Rs.gap R) R.h).1 : Int) - 2 ^ (Rs.lowF (p % Rs.gap R) R.h).2) := rfl
      refine q_asgX (x_call (x_cons (x_var rfl (x_cons (Evl.Ev.go (ev_halvings T (ev_var rfl) ((e3.trans e4) _ _ hx0)) fun H5 e5 => x_nil ⟨p % Rs.gap R, R.h, rfl, m0, ml, h5, fun r6 H6 hr6 e6 h6 => ?_⟩)))))
      refine ⟨r6, _, rfl, st_of h6, rfl, _, _, rfl, _, _, rfl, rfl, ?_⟩
      have e06 := ((e3.trans e4).trans e5).trans e6
      have m5 : (Rs.lowF (p % Rs.gap R) R.h).2 ≤ 5 := Nat.le_trans lh h5
      generalize (Rs.lowF (p % Rs.gap R) R.h).1 = t at *
      generalize (Rs.lowF (p % Rs.gap R) R.h).2 = m at *
      have mkl : ∀ {u : Int}, Mk.good u (m : Int) = true → (Mk.mk m u).length = m := fun h => (Rs.mk_ok h).2.1
      have nl : (p / Rs.gap R + 1) % R.ws.length < R.ws.length := Nat.mod_lt _ (by omega)
      refine q_asg (v := .int (((p / Rs.gap R + 1) % R.ws.length : Nat) : Int)) (ev_is (ev_mod (ev_add (ev_var rfl) ev_c) (ev_nwords T (ev_var rfl) (hx.ex e06)) (by omega)) ?_) fun H7 e7 => ?_
      · rw [Int.natCast_emod, Int.natCast_add]
        rfl
      have e07 := e06.trans e7
      have mby : ∀ {u : Int} {H0 : Hp}, Mk.good u (m : Int) = true → SpV sp_marks0 [.int u, .int (m : Int)] H0 (.str (ofL (Mk.mk m u))) := fun {u H0} hg H1 e Q' q E' => ⟨u, (m : Int), rfl, hg, q⟩
      have wl : ∀ {c : Nat}, c < R.ws.length → (Rs.word R c).length ≤ 6 := fun hc => (ok.wd _ (Rs.word_at hc).2).2.1
      refine q_asg (v := .str (ofL (Rs.nameOf R (Rs.onOf R p)))) (ev_is (ev_addStr (ev_word T (ev_var rfl) (ev_var rfl) (hx.ex e07) pl) (ev_call (ea_cons (ev_var rfl) (ea_cons (ev_var rfl) ea_nil)) (mby g1)) ?_) ?_) fun H8 e8 => ?_
      · have := wl pl
        rw [ofL_len, ofL_len, mkl g1]
        omega
      · rw [ofL_app, eon]
      refine q_asg (v := .str (ofL (Rs.nameOf R (Rs.backOf R p)))) (ev_is (ev_addStr (ev_word T (ev_var rfl) (ev_var rfl) (hx.ex (e07.trans e8)) nl) (ev_call (ea_cons (ev_sub (ev_var rfl) (ev_shlN (ev_var rfl) m5)) (ea_cons (ev_var rfl) ea_nil)) (mby g2)) ?_) ?_) fun H9 e9 => ?_
      · have := wl nl
        rw [ofL_len, ofL_len, mkl g2]
        omega
      · rw [ofL_app, eba]
      have e09 := (e07.trans e8).trans e9
      refine q_when (et_test (ev_gt (ev_mulW (n := 2) (m := 6) ev_c (ev_var rfl) (by decide) (by omega)) (ev_var rfl))) (fun hb H10 e10 => ?_) fun hb H10 e10 => ?_
      · have c : (Rs.gap R : Int) < 2 * ((p % Rs.gap R : Nat) : Int) := of_decide_eq_true hb
        refine s_retU (eu_tup (ea_cons (ev_var rfl) (ea_cons (ev_var rfl) ea_nil)) (by show 2 ≤ 100000; decide)) fun q H11 hq e11 h11 => k q H11 (fresh_back (e09.trans e10) hq) ((e09.trans e10).trans e11) ?_
        show H11 q = _
        rw [h11, en, if_pos (by omega)]
        rfl
      · have c : ¬ (Rs.gap R : Int) < 2 * ((p % Rs.gap R : Nat) : Int) := of_decide_eq_false hb
        refine s_retU (eu_tup (ea_cons (ev_var rfl) (ea_cons (ev_var rfl) ea_nil)) (by show 2 ≤ 100000; decide)) fun q H11 hq e11 h11 => k q H11 (fresh_back (e09.trans e10) hq) ((e09.trans e10).trans e11) ?_
        show H11 q = _
        rw [h11, en, if_neg (by omega)]
        rfl
theorem own_at (R : Rs.Rose) (p : Nat) : (txs (Rs.names R p))[0]? = some (ofL (ownN R p)) := by
  unfold ownN txs
  rw [List.getElem?_map]
  have h : (Rs.names R p).length ≠ 0 := by
    unfold Rs.names
    rw [List.length_map]
    have := Rs.ones_len R p
    omega
  cases e : Rs.names R p with
  | nil => rw [e] at h; exact absurd rfl h
  | cons a l => rfl
theorem ok_own (F : FnP K "own_name" s_own_name f fd) (T : Txt K mg) (D_names_at : Dn P w K mg base 4 "names_at" ["rose", "place"] (sp_nat K)) : FnOk P w K mg base CX0 5 f fd ["rose", "place"] (sp_own K) := by
  refine F.ok sc_own_name (fun vs H Q E h => ?_) (fun cdv A outer s H vs Q E hr h => ?_)
  · obtain ⟨x, R, p, rfl, _⟩ := h
    rfl
  · obtain ⟨x, R, p, rfl, hx, ok, hp, k⟩ := h
    refine ⟨_, PSs.nox (pss_one (ps_ret (pe_ix ix_tup (pe_cd D_names_at (hr.mono (by decide)) (by rfl) (pa_cons (pv 0) (pa_cons (pv 1) pa_nil))) pe_int (fun _ _ => rfl)))), ?_⟩
    refine x_ret (x_op (x_call (x_cons (x_var rfl (x_cons (x_var rfl (x_nil ⟨x, R, p, rfl, hx, ok, hp, fun r H1 hr1 e1 h1 => ?_⟩)))))))
    refine ev_c H1 (Ex.refl _) _ fun H2 e2 => rv_ixT (K := K) (st_of (e2 _ _ h1)) (atI_nat (j := 0) ?_) H2 (Ex.refl _) _ fun H3 e3 => k H3 ((e1.trans e2).trans e3)
    rw [List.getElem?_map, own_at]
    rfl
theorem ok_rtold (F : FnM K "told" "Rose.told" s_Rose_told f fd) (T : Txt K mg) (D_turn_at : Dn P w K mg base 5 "turn_at" ["rose", "place"] (sp_tat K)) (D_place_told : Dn P w K mg base 4 "place_told" ["rose", "name"] (sp_ptold K)) : FnOk P w K mg base CX0 6 f fd ["self", "name"] (sp_rtold K) := by
  refine F.ok sc_Rose_told (fun vs H Q E h => ?_) (fun cdv A outer s H vs Q E hr h => ?_)
  · obtain ⟨x, R, o, rfl, _⟩ := h
    rfl
  · obtain ⟨x, R, o, rfl, hx, ok, g, k⟩ := h
    refine ⟨_, PSs.nox (pss_one (ps_ret (pe_cd D_turn_at (hr.mono (by decide)) (by rfl) (pa_cons (pv 0) (pa_cons (pe_cd D_place_told (hr.mono (by decide)) (by rfl) (pa_cons (pv 0) (pa_cons (pv 1) pa_nil))) pa_nil))))), ?_⟩
    exact x_ret (x_call (Evl.EvA.go (ea_cons (ev_var rfl) (ea_cons (ev_call (z := .int (Rs.placeT R o)) (ea_cons (ev_var rfl) (ea_cons (ev_var rfl) ea_nil)) fun H1 e Q' q E' => ⟨x, R, o, rfl, hx.ex e, ok, g, q⟩) ea_nil)) fun H1 e1 => ⟨x, R, _, rfl, hx.ex e1, ok, k.ex e1⟩))
end
end K09

namespace K09
open PySem PySem.Spec PyProof.Rows L2 Evl
/-! ### winds in the heap -/
def wf (x t : Addr) : List (Str × V) := [("rose", .ref x), ("turn", .ref t)]
theorem wf_put (x t : Addr) : putF "turn" (.ref t) (putF "rose" (.ref x) []) = wf x t := by
  have n1 : ¬ (("rose" : Str) = "turn") := by decide +kernel
  simp [putF, wf, n1]
theorem wf_rose (x t : Addr) : (wf x t).lookup ("rose" : Str) = some (.ref x) := by
  simp [wf, List.lookup]
theorem wf_turn (x t : Addr) : (wf x t).lookup ("turn" : Str) = some (.ref t) := by
  have e1 : (("turn" : Str) == "rose") = false := by decide +kernel
  simp [wf, List.lookup, e1]
theorem wf_no (x t : Addr) {m : Str} (h1 : (m == ("rose" : Str)) = false) (h2 : (m == ("turn" : Str)) = false) : (wf x t).lookup m = none := by
  simp [wf, List.lookup, h1, h2]
def WindAt (K : PySem.W.Frag) (H : Hp) (v x : Addr) (R : Rs.Rose) (p : Nat) : Prop := ∃ dv t, H v = some (.ins (He.ga K "Wind") dv (wf x t)) ∧ RoseAt K H x R ∧ TurnAt (He.ga K "Turn") H t (Rs.turn R p)
theorem WindAt.ex {K : PySem.W.Frag} {H H' : Hp} {v x : Addr} {R : Rs.Rose} {p : Nat} (h : WindAt K H v x R p) (e : Ex H H') : WindAt K H' v x R p := by
  obtain ⟨dv, t, h1, h2, h3⟩ := h
  exact ⟨dv, t, e _ _ h1, h2.ex e, h3.ex e⟩
/-- a rose and a place of it -/
structure Pl (R : Rs.Rose) (p : Nat) : Prop where
  ok : Rs.Ok R
  lt : p < Rs.size R
/-- a place by any number -/
def pm (R : Rs.Rose) (i : Int) : Nat := (i % (Rs.size R : Int)).toNat
theorem pm_lt {R : Rs.Rose} (k : Rs.Ok R) (i : Int) : pm R i < Rs.size R := by
  have s := k.size_le
  have h1 := Int.emod_lt_of_pos i (show (0 : Int) < (Rs.size R : Int) by omega)
  have h2 := Int.emod_nonneg i (show (Rs.size R : Int) ≠ 0 by omega)
  unfold pm
  omega
theorem pm_turn {R : Rs.Rose} (k : Rs.Ok R) (i : Int) : Tn.on R.b (Tn.part i (Rs.size R : Int)) = Rs.turn R (pm R i) := by
  have s := k.size_le
  have h2 := Int.emod_nonneg i (show (Rs.size R : Int) ≠ 0 by omega)
  have e : ((pm R i : Nat) : Int) = i % (Rs.size R : Int) := by
    unfold pm
    omega
  unfold Rs.turn
  rw [e]
  unfold Tn.part
  rw [Int.emod_emod_of_dvd _ (Int.dvd_refl _)]
theorem pm_nat {R : Rs.Rose} {p : Nat} (h : p < Rs.size R) : pm R (p : Int) = p := by
  unfold pm
  rw [← Int.natCast_emod, Nat.mod_eq_of_lt h]
  rfl
/-! ### promises -/
def NewW (K : PySem.W.Frag) (H : Hp) (Q : VK) (x : Addr) (R : Rs.Rose) (p : Nat) : Prop := ∀ v H2, H v = none → Ex H H2 → WindAt K H2 v x R p → Q (.ref v) H2
def sp_winit (K : PySem.W.Frag) : Sp := fun vs H Q _ => ∃ (v dv x t : Addr) (R : Rs.Rose) (p : Nat), vs = [.ref v, .ref x, .ref t] ∧ H v = some (.ins (He.ga K "Wind") dv []) ∧ RoseAt K H x R ∧ TurnAt (He.ga K "Turn") H t (Rs.turn R p) ∧ Pl R p ∧
  ∀ H2, But v H H2 → H2 v = some (.ins (He.ga K "Wind") dv (wf x t)) → Q .non H2
def sp_wplace (K : PySem.W.Frag) : Sp := fun vs H Q _ => ∃ (v x : Addr) (R : Rs.Rose) (p : Nat), vs = [.ref v] ∧ WindAt K H v x R p ∧ Pl R p ∧ ∀ H2, Ex H H2 → Q (.int (p : Int)) H2
def sp_wnames (K : PySem.W.Frag) : Sp := fun vs H Q _ => ∃ (v x : Addr) (R : Rs.Rose) (p : Nat), vs = [.ref v] ∧ WindAt K H v x R p ∧ Pl R p ∧ ∀ r H2, H r = none → Ex H H2 → NamesAt H2 r (Rs.names R p) → Q (.ref r) H2
def sp_wstr (K : PySem.W.Frag) : Sp := fun vs H Q _ => ∃ (v x : Addr) (R : Rs.Rose) (p : Nat), vs = [.ref v] ∧ WindAt K H v x R p ∧ Pl R p ∧ ∀ H2, Ex H H2 → Q (.str (ofL (ownN R p))) H2
/-- how many marks the own name has -/
def wlen (R : Rs.Rose) (p : Nat) : Nat := if p % Rs.gap R = 0 then 0 else (Rs.lowF (p % Rs.gap R) R.h).2
def sp_wlen (K : PySem.W.Frag) : Sp := fun vs H Q _ => ∃ (v x : Addr) (R : Rs.Rose) (p : Nat), vs = [.ref v] ∧ WindAt K H v x R p ∧ Pl R p ∧ ∀ H2, Ex H H2 → Q (.int (wlen R p : Int)) H2
def sp_wat (K : PySem.W.Frag) : Sp := fun vs H Q _ => ∃ (x : Addr) (R : Rs.Rose) (i : Int), vs = [.ref x, .int i] ∧ RoseAt K H x R ∧ Rs.Ok R ∧ NewW K H Q x R (pm R i)
def sp_wof (K : PySem.W.Frag) : Sp := fun vs H Q _ => ∃ (x : Addr) (R : Rs.Rose) (o : Rs.One), vs = [.ref x, .str (ofL (Rs.nameOf R o))] ∧ RoseAt K H x R ∧ Rs.Ok R ∧ Rs.Good R o ∧ NewW K H Q x R (pm R (Rs.placeT R o))
theorem NewW.ex {K : PySem.W.Frag} {H H1 : Hp} {Q : VK} {x : Addr} {R : Rs.Rose} {p : Nat} (k : NewW K H Q x R p) (e : Ex H H1) : NewW K H1 Q x R p := fun v H2 hv e2 h2 => k v H2 (fresh_back e hv) (e.trans e2) h2
/-- the own name is of a corner and marks -/
theorem own_one {R : Rs.Rose} {p : Nat} (h : Pl R p) : ∃ o, Rs.Good R o ∧ ownN R p = Rs.nameOf R o ∧ o.2.length = wlen R p ∧ Rs.placeT R o = (p : Int) := by
  have l := Rs.ones_len R p
  cases e : Rs.ones R p with
  | nil => rw [e] at l; exact absurd l.1 (by decide)
  | cons o r =>
    have m : o ∈ Rs.ones R p := by
      rw [e]
      exact List.mem_cons_self
    obtain ⟨g, pt, ln⟩ := Rs.ones_ok h.ok h.lt m
    refine ⟨o, g, ?_, ln, pt⟩
    unfold ownN Rs.names
    rw [e]
    rfl
section
variable {K : PySem.W.Frag} {mg : Str → Option Value} {σ : L2.St} {H : Hp} {v x : Addr} {R : Rs.Rose} {p : Nat} {te : TE}
theorem ev_wplace (h : Ev te σ H (.ref v)) (hv : WindAt K H v x R p) (k : Pl R p) : Ev (tMeth (He.ga K "Wind") "place" (sp_wplace K) [] E0 te tNil) σ H (.int (p : Int)) := fun H1 e Q q =>
  h H1 e _ fun H2 e2 => by
    obtain ⟨dv, t, h1, _⟩ := id hv
    exact ⟨v, dv, _, rfl, (e.trans e2) _ _ h1, wf_no x t (by decide +kernel) (by decide +kernel), ⟨v, x, R, p, rfl, hv.ex (e.trans e2), k, fun H3 e3 => q H3 (e2.trans e3)⟩⟩
theorem er_wnames (h : Ev te σ H (.ref v)) (hv : WindAt K H v x R p) (k : Pl R p) : EvN (tMeth (He.ga K "Wind") "names" (sp_wnames K) [] E0 te tNil) σ H (fun r H2 => NamesAt H2 r (Rs.names R p)) := fun H1 e Q q =>
  h H1 e _ fun H2 e2 => by
    obtain ⟨dv, t, h1, _⟩ := id hv
    exact ⟨v, dv, _, rfl, (e.trans e2) _ _ h1, wf_no x t (by decide +kernel) (by decide +kernel), ⟨v, x, R, p, rfl, hv.ex (e.trans e2), k, fun r H3 hr e3 h3 => q r H3 (fresh_back e2 hr) (e2.trans e3) h3⟩⟩
theorem ev_wstr (h : Ev te σ H (.ref v)) (hv : WindAt K H v x R p) (k : Pl R p) : Ev (tCB (rStrO (He.ga K "Wind") (sp_wstr K)) (tCons te tNil)) σ H (.str (ofL (ownN R p))) := by
  obtain ⟨dv, t, h1, _⟩ := id hv
  exact ev_strO h h1 fun H1 e Q' q' E' => ⟨v, x, R, p, rfl, hv.ex e, k, q'⟩
theorem ev_wlen (h : Ev te σ H (.ref v)) (hv : WindAt K H v x R p) (k : Pl R p) : Ev (tCB (rLenO (He.ga K "Wind") (sp_wlen K)) (tCons te tNil)) σ H (.int (wlen R p : Int)) := by
  obtain ⟨dv, t, h1, _⟩ := id hv
  obtain ⟨o, g, _, ln, _⟩ := own_one k
  have l1 := g.len
  have l2 := k.ok.h5
  exact ev_lenO h h1 (fun H1 e Q' q' E' => ⟨v, x, R, p, rfl, hv.ex e, k, q'⟩) (by omega) (by omega)
theorem ev_wrose (T : Txt K mg) (h : Ev te σ H (.ref v)) (hv : WindAt K H v x R p) : Ev (tFld K te "rose") σ H (.ref x) := by
  obtain ⟨dv, t, h1, _⟩ := hv
  exact ev_fld h h1 T.cl_Wind T.no_Wind_rose (wf_rose _ _)
theorem er_wturn (T : Txt K mg) (h : Ev te σ H (.ref v)) (hv : WindAt K H v x R p) : EvR (tFld K te "turn") σ H (PT (He.ga K "Turn") (Rs.turn R p)) := fun H1 e Q q => by
  obtain ⟨dv, t, h1, _, ht⟩ := hv
  exact ev_fld h h1 T.cl_Wind T.no_Wind_turn (wf_turn _ _) H1 e _ fun H2 e2 => q t H2 e2 (ht.ex (e.trans e2))
theorem x_makeW {C : Addr} {sp : Sp} {dvs : List V} {E : XK} {t : TA} {Q : VK} (h : t σ H fun vs H1 => ∀ x dx, H1 x = none → H1 dx = none → dx ≠ x → sp (.ref x :: (vs ++ dvs)) (upd (upd H1 dx (.own x)) x (.ins C dx [])) (fun v H2 => v = .non ∧ Q (.ref x) H2) E) : tMake C sp dvs E t σ H Q := h
theorem make_wind {t : Addr} {Q : VK} (hx : RoseAt K H x R) (ht : TurnAt (He.ga K "Turn") H t (Rs.turn R p)) (k : Pl R p) (q : NewW K H Q x R p) :
    ∀ v dv, H v = none → H dv = none → dv ≠ v → sp_winit K [.ref v, .ref x, .ref t] (upd (upd H dv (.own v)) v (.ins (He.ga K "Wind") dv [])) (fun u H2 => u = .non ∧ Q (.ref v) H2) E0 := fun v dv hv hdv ne => by
  have e1 : Ex H (upd (upd H dv (.own v)) v (.ins (He.ga K "Wind") dv [])) := (Ex.new hdv).mut hv
  refine ⟨v, dv, x, t, R, p, rfl, upd_same, hx.ex e1, ht.ex e1, k, fun H2 b hb => ⟨rfl, ?_⟩⟩
  have e2 : Ex H H2 := fun a o h => by
    have n1 : a ≠ v := ne_of_none h hv
    refine b a o n1 ?_
    rw [upd_ne n1, upd_ne (ne_of_none h hdv)]
    exact h
  exact q v H2 hv e2 ⟨dv, t, hb, hx.ex e2, ht.ex e2⟩
end
section
variable {P : Program} {w : World} {K : PySem.W.Frag} {mg : Str → Option Value} {base : Heap} {f : Addr} {fd : FuncData}
theorem ok_winit {dvs : List V} {kws : List (Str × V)} (F : FunD K "__init__" "Wind.__init__" (defArgs s_Wind_init) (defBody s_Wind_init) (defScope s_Wind_init) dvs kws f fd) (T : Txt K mg) (D_place_at : Dn P w K mg base 5 "place_at" ["rose", "turn"] (sp_pat K)) :
    FnOk P w K mg base CX0 6 f fd ["self", "rose", "turn"] (sp_winit K) := by
  refine F.ok sc_Wind_init (fun vs H Q E h => ?_) (fun cdv A outer s H vs Q E hr h => ?_)
  · obtain ⟨v, dv, x, t, R, p, rfl, _⟩ := h
    rfl
  · obtain ⟨v, dv, x, t, R, p, rfl, hv, hx, ht, pl, k⟩ := h
    refine ⟨_, PSs.nox (pss_cons (ps_if (pt_not (pt_val (pe_callB call_isi (by rfl) T.b_isinstance (by decide +kernel) (pa_cons (pv 1) (pa_cons (pe_glob (v := .ref (He.ga K "Rose")) (by rfl) T.g_Rose rfl) pa_nil))))) (pss_one ps_never) pss_nil)
      (pss_cons (ps_if (PW.pt (pw_or (pt_not (pt_val (pe_callB call_isi (by rfl) T.b_isinstance (by decide +kernel) (pa_cons (pv 2) (pa_cons (pe_glob (v := .ref (He.ga K "Turn")) (by rfl) T.g_Turn rfl) pa_nil))))) (pw_or1 (pt_cmpR op_isN (pe_cd D_place_at (hr.mono (by decide)) (by rfl) (pa_cons (pv 1) (pa_cons (pv 2) pa_nil))) pe_non (nomark _))))) (pss_one ps_never) pss_nil)
      (pss_cons (ps_fld (pv 0) (pv 1) rfl)
      (pss_one (ps_fld (pv 0) (pv 2) rfl))))), ?_⟩
    obtain ⟨dx, tw, tb, hx1, _⟩ := id hx
    obtain ⟨dt, ht1⟩ := id ht
    refine q_when (b := false) (et_not (et_B (ev_cb (ea_cons (ev_var rfl) (ea_cons ev_c ea_nil)) (rc_isiC hx1 T.cl_Rose T.own_Rose.is)))) (fun hb => nomatch hb) fun _ H1 e1 => ?_
    refine q_when (b := false) (et_or0 (et_not (et_B (ev_cb (ea_cons (ev_var rfl) (ea_cons ev_c ea_nil)) (rc_isiC (e1 _ _ ht1) T.cl_Turn T.own_Turn.is)))) (et_test (ev_op (ev_call (z := .int (p : Int)) (ea_cons (ev_var rfl) (ea_cons (ev_var rfl) ea_nil)) fun H2 e Q' q E' => ⟨x, t, R, p, rfl, hx.ex (e1.trans e), pl.ok, pl.lt, ht.ex (e1.trans e), q⟩) ev_c (rv_isN (x := .int (p : Int)))))) (fun hb => nomatch hb) fun _ H3 e3 => ?_
    refine ⟨_, rfl, _, rfl, v, He.ga K "Wind", dv, [], rfl, (e1.trans e3) _ _ hv, T.cl_Wind, T.no_Wind_rose, (by show 0 < 1000; decide), ?_⟩
    refine ⟨_, rfl, _, rfl, v, He.ga K "Wind", dv, _, rfl, upd_same, T.cl_Wind, T.no_Wind_turn, (by show 1 < 1000; decide), ?_⟩
    refine k _ (((But.ex (e1.trans e3)).trans But.upd).trans But.upd) ?_
    rw [upd_same, wf_put]
theorem ok_wplace (F : FnM K "place" "Wind.place" s_Wind_place f fd) (T : Txt K mg) (D_place_at : Dn P w K mg base 5 "place_at" ["rose", "turn"] (sp_pat K)) : FnOk P w K mg base CX0 6 f fd ["self"] (sp_wplace K) := by
  refine F.ok sc_Wind_place (fun vs H Q E h => ?_) (fun cdv A outer s H vs Q E hr h => ?_)
  · obtain ⟨v, x, R, p, rfl, _⟩ := h
    rfl
  · obtain ⟨v, x, R, p, rfl, hv, pl, k⟩ := h
    refine ⟨_, PSs.nox (pss_one (ps_ret (pe_cd D_place_at (hr.mono (by decide)) (by rfl) (pa_cons (pe_fld (pv 0) rfl) (pa_cons (pe_fld (pv 0) rfl) pa_nil))))), ?_⟩
    refine x_ret (x_call (x_cons (Evl.Ev.go (ev_wrose T (ev_var rfl) hv) fun H1 e1 => x_cons (EvR.go (er_wturn T (ev_var rfl) (hv.ex e1)) fun t H2 e2 ht => x_nil ?_))))
    obtain ⟨_, _, _, hx, _⟩ := hv.ex (e1.trans e2)
    exact ⟨x, t, R, p, rfl, hx, pl.ok, pl.lt, ht, fun H3 e3 => k H3 ((e1.trans e2).trans e3)⟩
abbrev Gwp (P : Program) (w : World) (K : PySem.W.Frag) (mg : Str → Option Value) (base : Heap) (fd : FuncData) : Prop := FnOk P w K mg base CX0 6 (He.ma K (He.ga K "Wind") "place") fd ["self"] (sp_wplace K)
theorem ok_wnames {fdp : FuncData} (F : FnM K "names" "Wind.names" s_Wind_names f fd) (T : Txt K mg) (D_names_at : Dn P w K mg base 4 "names_at" ["rose", "place"] (sp_nat K)) (G_Wind_place : Gwp P w K mg base fdp) (b_Wind_place : Binds K fdp ["self"] []) : FnOk P w K mg base CX0 7 f fd ["self"] (sp_wnames K) := by
  refine F.ok sc_Wind_names (fun vs H Q E h => ?_) (fun cdv A outer s H vs Q E hr h => ?_)
  · obtain ⟨v, x, R, p, rfl, _⟩ := h
    rfl
  · obtain ⟨v, x, R, p, rfl, hv, pl, k⟩ := h
    refine ⟨_, PSs.nox (pss_one (ps_ret (pe_cd D_names_at (hr.mono (by decide)) (by rfl) (pa_cons (pe_fld (pv 0) rfl) (pa_cons (pe_meth0 (pv 0) T.cl_Wind T.m_Wind_place G_Wind_place (hr.mono (by decide)) b_Wind_place .nil pass0) pa_nil))))), ?_⟩
    refine x_ret (x_call (Evl.EvA.go (ea_cons (ev_wrose T (ev_var rfl) hv) (ea_cons (ev_wplace (ev_var rfl) hv pl) ea_nil)) fun H1 e1 => ?_))
    obtain ⟨_, _, _, hx, _⟩ := hv.ex e1
    exact ⟨x, R, p, rfl, hx, pl.ok, pl.lt, fun r H2 hr e2 h2 => k r H2 (fresh_back e1 hr) (e1.trans e2) h2⟩
theorem ok_wstr {fdp : FuncData} (F : FnM K "__str__" "Wind.__str__" s_Wind___str__ f fd) (T : Txt K mg) (D_own_name : Dn P w K mg base 5 "own_name" ["rose", "place"] (sp_own K)) (G_Wind_place : Gwp P w K mg base fdp) (b_Wind_place : Binds K fdp ["self"] []) : FnOk P w K mg base CX0 7 f fd ["self"] (sp_wstr K) := by
  refine F.ok sc_Wind___str__ (fun vs H Q E h => ?_) (fun cdv A outer s H vs Q E hr h => ?_)
  · obtain ⟨v, x, R, p, rfl, _⟩ := h
    rfl
  · obtain ⟨v, x, R, p, rfl, hv, pl, k⟩ := h
    refine ⟨_, PSs.nox (pss_one (ps_ret (pe_callTy SkE.call_str_str (by rfl) T.b_str (by decide +kernel) (pa_cons (pe_cd D_own_name (hr.mono (by decide)) (by rfl) (pa_cons (pe_fld (pv 0) rfl) (pa_cons (pe_meth0 (pv 0) T.cl_Wind T.m_Wind_place G_Wind_place (hr.mono (by decide)) b_Wind_place .nil pass0) pa_nil))) pa_nil)))), ?_⟩
    refine x_ret (x_cb (x_cons (x_call (Evl.EvA.go (ea_cons (ev_wrose T (ev_var rfl) hv) (ea_cons (ev_wplace (ev_var rfl) hv pl) ea_nil)) fun H1 e1 => ?_))))
    obtain ⟨_, _, _, hx, _⟩ := hv.ex e1
    exact ⟨x, R, p, rfl, hx, pl.ok, pl.lt, fun H2 e2 => x_nil ⟨_, rfl, k H2 (e1.trans e2)⟩⟩
abbrev Gws (P : Program) (w : World) (K : PySem.W.Frag) (mg : Str → Option Value) (base : Heap) (fd : FuncData) : Prop := FnOk P w K mg base CX0 7 (He.ma K (He.ga K "Wind") "__str__") fd ["self"] (sp_wstr K)
theorem ok_wlen {fds : FuncData} (F : FnM K "__len__" "Wind.__len__" s_Wind___len__ f fd) (T : Txt K mg) (D_parted : Dn P w K mg base 3 "parted" ["text"] sp_parted) (G_Wind___str__ : Gws P w K mg base fds) (b_Wind___str__ : Binds K fds ["self"] []) : FnOk P w K mg base CX0 10 f fd ["self"] (sp_wlen K) := by
  refine F.ok sc_Wind___len__ (fun vs H Q E h => ?_) (fun cdv A outer s H vs Q E hr h => ?_)
  · obtain ⟨v, x, R, p, rfl, _⟩ := h
    rfl
  · obtain ⟨v, x, R, p, rfl, hv, pl, k⟩ := h
    refine ⟨_, PSs.nox (pss_one (ps_ret (pe_callB call_len_str (by rfl) T.b_len (by decide +kernel) (pa_cons (pe_ix ix_tup (pe_cd D_parted (hr.mono (by decide)) (by rfl) (pa_cons (pe_callTy (call_strO T.m_Wind___str__ (FnOk.raw0 G_Wind___str__ b_Wind___str__) (hr.mono (by decide))) (by rfl) T.b_str (by decide +kernel) (pa_cons (pv 0) pa_nil)) pa_nil)) pe_int (fun _ _ => rfl)) pa_nil)))), ?_⟩
    obtain ⟨o, g, eo, ln, _⟩ := own_one pl
    have l1 := g.len
    have l2 := pl.ok.h5
    refine x_ret (x_cb (x_cons (x_op (x_call (x_cons (Evl.Ev.go (ev_wstr (ev_var rfl) hv pl) fun H1 e1 => x_nil ⟨Rs.word R o.1, o.2, by rw [eo]; rfl, name_word pl.ok g, g.ms, by omega, fun r H2 hr2 e2 h2 => ?_⟩))))))
    refine ev_c H2 (Ex.refl _) _ fun H3 e3 => rv_ixT (K := K) (st_of (e3 _ _ h2)) (atI_nat (j := 1) rfl) H3 (Ex.refl _) _ fun H4 e4 => x_nil ⟨_, rfl, ?_, ?_⟩
    · rw [ofL_len]
      exact sz_of (by omega)
    · rw [ofL_len, ln]
      exact k H4 (((e1.trans e2).trans e3).trans e4)
def Wc (P : Program) (w : World) (K : PySem.W.Frag) (mg : Str → Option Value) (base : Heap) : Prop := ∃ fd, FnOk P w K mg base CX0 6 (He.ma K (He.ga K "Wind") "__init__") fd ["self", "rose", "turn"] (sp_winit K) ∧ Binds K fd ["self", "rose", "turn"] []
theorem ok_wat (F : FnP K "wind_at" s_wind_at f fd) (T : Txt K mg) (WC : Wc P w K mg base) (D_turn_at : Dn P w K mg base 5 "turn_at" ["rose", "place"] (sp_tat K)) : FnOk P w K mg base CX0 8 f fd ["rose", "place"] (sp_wat K) := by
  obtain ⟨fdI, G_Wind_init, b_Wind_init⟩ := WC
  refine F.ok sc_wind_at (fun vs H Q E h => ?_) (fun cdv A outer s H vs Q E hr h => ?_)
  · obtain ⟨x, R, i, rfl, _⟩ := h
    rfl
  · obtain ⟨x, R, i, rfl, hx, ok, k⟩ := h
    refine ⟨_, PSs.nox (pss_one (ps_ret (pe_make T.mk_Wind G_Wind_init (hr.mono (by decide)) (by rfl) T.g_Wind b_Wind_init .nil pass0 (pa_cons (pv 0) (pa_cons (pe_cd D_turn_at (hr.mono (by decide)) (by rfl) (pa_cons (pv 0) (pa_cons (pv 1) pa_nil))) pa_nil))))), ?_⟩
    refine x_ret (x_makeW (x_cons (x_var rfl (x_cons (x_call (x_cons (x_var rfl (x_cons (x_var rfl (x_nil ⟨x, R, i, rfl, hx, ok, fun t H1 ht1 e1 h1 => x_nil ?_⟩))))))))))
    rw [pm_turn ok] at h1
    exact make_wind (hx.ex e1) h1 ⟨ok, pm_lt ok i⟩ (k.ex e1)
theorem ok_wof (F : FnP K "wind_of" s_wind_of f fd) (T : Txt K mg) (D_wind_at : Dn P w K mg base 8 "wind_at" ["rose", "place"] (sp_wat K)) (D_place_told : Dn P w K mg base 4 "place_told" ["rose", "name"] (sp_ptold K)) : FnOk P w K mg base CX0 9 f fd ["rose", "name"] (sp_wof K) := by
  refine F.ok sc_wind_of (fun vs H Q E h => ?_) (fun cdv A outer s H vs Q E hr h => ?_)
  · obtain ⟨x, R, o, rfl, _⟩ := h
    rfl
  · obtain ⟨x, R, o, rfl, hx, ok, g, k⟩ := h
    refine ⟨_, PSs.nox (pss_one (ps_ret (pe_cd D_wind_at (hr.mono (by decide)) (by rfl) (pa_cons (pv 0) (pa_cons (pe_cd D_place_told (hr.mono (by decide)) (by rfl) (pa_cons (pv 0) (pa_cons (pv 1) pa_nil))) pa_nil))))), ?_⟩
    exact x_ret (x_call (Evl.EvA.go (ea_cons (ev_var rfl) (ea_cons (ev_call (z := .int (Rs.placeT R o)) (ea_cons (ev_var rfl) (ea_cons (ev_var rfl) ea_nil)) fun H1 e Q' q E' => ⟨x, R, o, rfl, hx.ex e, ok, g, q⟩) ea_nil)) fun H1 e1 => ⟨x, R, _, rfl, hx.ex e1, ok, k.ex e1⟩))
end
end K09

namespace K09
open PySem PySem.Spec PyProof.Rows L2 Evl
/-- the law's pool: three ints -/
def Pool (H : Hp) (p : Addr) : Prop := ∃ a b c : Int, H p = some (.lst [.int a, .int b, .int c]) ∧ 0 ≤ a ∧ a < 2147483549 ∧ 0 ≤ b
def sp_cell (K : PySem.W.Frag) : Sp := fun vs H Q _ => ∃ (l : Addr) (ns : List Int) (k : Nat), vs = [.ref l, .int (k : Int)] ∧ SqL K H l (ns.map V.int) ∧ k < 100 ∧ ∀ (i : Int) H2, Ex H H2 → Q (.int i) H2
def sp_pool : Sp := fun vs H Q _ => ∃ c : Int, vs = [.int c] ∧ ∀ p H2, H p = none → Ex H H2 → Pool H2 p → Q (.ref p) H2
def sp_take : Sp := fun vs H Q _ => ∃ (p : Addr) (m : Int), vs = [.ref p, .int m] ∧ 0 < m ∧ m < 1073741824 ∧ Pool H p ∧ ∀ (d : Int) H2, 0 ≤ d → d < m → But p H H2 → Pool H2 p → Q (.int d) H2
abbrev L_take (P : Program) (w : World) (K : PySem.W.Frag) (mg : Str → Option Value) (base : Heap) : Prop := Dn P w K mg base 1 "_law_take" ["_law_pool_here", "_law_many"] sp_take
theorem at0 {a b c : V} : atI [a, b, c] 0 = some a := rfl
theorem at1 {a b c : V} : atI [a, b, c] 1 = some b := rfl
theorem at2 {a b c : V} : atI [a, b, c] 2 = some c := rfl
section
variable {K : PySem.W.Frag} {σ : L2.St} {H H' : Hp} {te : TE} {m : Int} {p : Addr} {i : Nat} {Q : VK}
theorem pool_ex (h : Pool H p) (e : Ex H H') : Pool H' p := by
  obtain ⟨a, b, c, hp, q⟩ := h
  exact ⟨a, b, c, e _ _ hp, q⟩
theorem pool_ne {r : Addr} (h : Pool H p) (hr : H r = none) : r ≠ p := by
  obtain ⟨a, b, c, hp, q⟩ := h
  exact (ne_of_none hp hr).symm
theorem take_go {E : XK} {tm : TE} (hσ : σ[i]? = some (some (.ref p))) (hm : Ev tm σ H (.int m)) (hp : Pool H p) (m0 : 0 < m) (m1 : m < 1073741824) (k : ∀ (d : Int) H2, 0 ≤ d → d < m → But p H H2 → Pool H2 p → Q (.int d) H2) : tCall sp_take [] E (tCons (tVar i) (tCons tm tNil)) σ H Q :=
  ⟨.ref p, hσ, hm H (Ex.refl _) _ fun H1 e1 => ⟨p, m, rfl, m0, m1, pool_ex hp e1, fun d H2 h1 h2 b pl => k d H2 h1 h2 ((But.ex e1).trans b) pl⟩⟩
theorem at_ints {L : List Int} {j : Int} (h0 : 0 ≤ j) (h1 : j < L.length) : ∃ v ∈ L, atI (L.map V.int) j = some (.int v) := by
  obtain ⟨n, rfl⟩ := Int.eq_ofNat_of_zero_le h0
  have hn : n < L.length := by omega
  exact ⟨L[n], List.getElem_mem hn, atI_nat (by rw [List.getElem?_map, List.getElem?_eq_getElem hn]; rfl)⟩
end
section
variable {P : Program} {w : World} {K : PySem.W.Frag} {mg : Str → Option Value} {base : Heap} {f : Addr} {fd : FuncData}
theorem ok_cell (F : FnP K "_law_cell" s_l_cell f fd) (T : Txt K mg) : FnOk P w K mg base CX0 1 f fd ["_law_script", "_law_k"] (sp_cell K) := by
  refine F.ok sc_l_cell (fun vs H Q E h => ?_) (fun cdv A outer s H vs Q E hr h => ?_)
  · obtain ⟨l, ns, k, rfl, _⟩ := h
    rfl
  · obtain ⟨l, ns, k, rfl, hs, hk, q⟩ := h
    refine ⟨_, PSs.nox (pss_cons (ps_if (pt_cmpR op_lt (pv 1) (pe_callB call_len_seq (by rfl) T.b_len (by decide +kernel) (pa_cons (pv 0) pa_nil)) (nomark _)) (pss_one (ps_ret (pe_ix ix_list (pv 0) (pv 1) (fun _ _ => rfl)))) pss_nil)
      (pss_cons (ps_set (i := 2) sc_l_cell.nd rfl (Or.inl rfl) (pe_op op_mod (pe_op op_mulW pe_int (pe_op op_add (pe_op op_add (pe_op op_mulW (pv 1) (pv 1)) (pe_op op_mulW pe_int (pv 1))) pe_int)) pe_int))
      (pss_cons (ps_for PassesOwn.never rfl (pi_list (pe_slice sl_list (pv 0) po_none (po_some pe_int))) (pg_name (i := 3) sc_l_cell.nd rfl (Or.inl rfl)) (pss_one (ps_set (i := 2) sc_l_cell.nd rfl (Or.inl rfl) (pe_op op_mod (pe_op op_add (pe_op op_mulW (pv 2) pe_int) (pv 3)) pe_int))))
      (pss_one (ps_ret (pv 2)))))), ?_⟩
    refine q_when (et_test (ev_lt (ev_var rfl) (ev_cb (ea_cons (ev_var rfl) ea_nil) (z := .int ((ns.map V.int).length : Nat)) (fun H1 e Q' k' => ⟨l, _, rfl, .inl (ex_l e hs), k' H1 (Ex.refl _)⟩)))) (fun hb H1 e1 => ?_) fun hb H1 e1 => ?_
    · have hlt : (k : Int) < ((ns.map V.int).length : Nat) := of_decide_eq_true hb
      rw [List.length_map] at hlt
      have hk2 : k < ns.length := by omega
      refine s_ret (ev_op (ev_var rfl) (ev_var rfl) (rv_ixL (ex_l e1 hs) (atI_nat (j := k) (v := .int ns[k]) (by rw [List.getElem?_map, List.getElem?_eq_getElem hk2]; rfl)))) fun H2 e2 => q _ H2 (e1.trans e2)
    · have hk9 : (k : Int).natAbs < 2 ^ 7 := by omega
      refine q_asg (ev_mod (ev_mulW (n := 16) (m := 20) ev_c (ev_add (ev_add (ev_mulW (ev_var rfl) (ev_var rfl) hk9 hk9) (ev_mulW (n := 3) ev_c (ev_var rfl) (by decide) hk9)) ev_c) (by decide) ?_) ev_c (by decide)) fun H2 e2 => ?_
      · have h1 : (k : Int) * (k : Int) = ((k * k : Nat) : Int) := by simp
        have h2 : k * k ≤ 100 * 100 := Nat.mul_le_mul (by omega) (by omega)
        rw [h1]
        omega
      · refine q_forNLn (K := K) (el_sl (ev_var rfl) eo_none (eo_some ev_c) (ex_l (e1.trans e2) hs)) (fun p i σ' H' => Ex H H' ∧ H' p = some (.lst (cutV (ns.map V.int) none (some 3))) ∧ ∃ (z : Int) (v : Option V), σ' = [some (.ref l), some (.int (k : Int)), some (.int z), v] ∧ 0 ≤ z ∧ z < 2147483549) (fun p H3 hp e3 h3 => ?_) (fun p i σ' H' _ ⟨_, h, _⟩ => sq_of h) (fun p i x σ' H' hi ⟨e, hp, z, v, hσ, z0, z1⟩ => ?_) fun p σ' H' ⟨e, hp, z, v, hσ, z0, z1⟩ => ?_
        · exact ⟨(e1.trans e2).trans e3, h3, _, _, rfl, Int.emod_nonneg _ (by decide), Int.emod_lt_of_pos _ (by decide)⟩
        · subst hσ
          obtain ⟨u, rfl⟩ : ∃ u, x = V.int u := by
            have hm := List.mem_of_getElem? hi
            unfold cutV at hm
            obtain ⟨u, _, e⟩ := List.mem_map.mp (List.mem_of_mem_drop (List.mem_of_mem_take hm))
            exact ⟨u, e.symm⟩
          exact s_asg (ev_mod (ev_add (ev_mulW (n := 40) (m := 20) (ev_var rfl) ev_c (by omega) (by decide)) (ev_var rfl)) ev_c (by decide)) fun H4 e4 => ⟨e.trans e4, e4 _ _ hp, _, _, rfl, Int.emod_nonneg _ (by decide), Int.emod_lt_of_pos _ (by decide)⟩
        · subst hσ
          exact s_ret (ev_var rfl) fun H4 e4 => q _ H4 (e.trans e4)
theorem ok_pool (F : FnP K "_law_pool" s_l_pool f fd) (T : Txt K mg) : FnOk P w K mg base CX0 1 f fd ["_law_cell_here"] sp_pool := by
  refine F.ok sc_l_pool (fun vs H Q E h => ?_) (fun cdv A outer s H vs Q E hr h => ?_)
  · obtain ⟨c, rfl, _⟩ := h
    rfl
  · obtain ⟨c, rfl, q⟩ := h
    refine ⟨_, PSs.nox (pss_cons (ps_set (i := 1) sc_l_pool.nd rfl (Or.inl rfl) pe_int)
      (pss_cons (ps_if (PW.pt (pw_or (pt_cmpR op_lt (pv 0) pe_int (nomark _)) (pw_or1 (pt_cmpR op_ge (pv 0) (pe_op op_pow pe_int pe_int) (nomark _))))) (pss_one (ps_set (i := 1) sc_l_pool.nd rfl (Or.inl rfl) (pe_callB call_abs (by rfl) T.b_abs (by decide +kernel) (pa_cons (pv 0) pa_nil)))) pss_nil)
      (pss_one (ps_ret (pe_lst (pa_cons (pe_op op_mod (pv 0) pe_int) (pa_cons (pv 1) (pa_cons pe_int pa_nil)))))))), ?_⟩
    refine q_asg ev_c fun H1 e1 => ?_
    have fin : ∀ (b : Int) H2, 0 ≤ b → Ex H1 H2 → tRet (tLst (tCons (tOp (rI (fun _ j => 0 < j) fun i j => .int (i % j)) (tVar 0) (tC (.int 2147483549))) (tCons (tVar 1) (tCons (tC (.int 0)) tNil)))) { nx := fun _ H' => Q .non H', rt := Q } [some (.int c), some (.int b)] H2 := fun b H2 hb e2 => by
      refine s_retL (el_lst (ea_cons (ev_mod (ev_var rfl) ev_c (by decide)) (ea_cons (ev_var rfl) (ea_cons ev_c ea_nil))) (by show 3 ≤ 100000; decide)) fun p H3 hp e3 h3 => ?_
      exact q p H3 (fresh_back (e1.trans e2) hp) ((e1.trans e2).trans e3) ⟨_, _, _, h3, Int.emod_nonneg _ (by decide), Int.emod_lt_of_pos _ (by decide), hb⟩
    refine q_when (et_or (et_test (ev_lt (ev_var rfl) ev_c)) fun _ => et_test (ev_ge (ev_var rfl) (ev_op ev_c ev_c (rv_I (show CPow 10 18 from ⟨by decide, by decide, by decide⟩))))) (fun hb H2 e2 => ?_) fun hb H2 e2 => ?_
    · refine s_asg (ev_cb (ea_cons (ev_var rfl) ea_nil) rc_abs) fun H3 e3 => fin _ H3 (by omega) (e2.trans e3)
    · exact fin 0 H2 (by decide) e2
theorem ok_take (F : FnP K "_law_take" s_l_take f fd) (T : Txt K mg) : FnOk P w K mg base CX0 1 f fd ["_law_pool_here", "_law_many"] sp_take := by
  refine F.ok sc_l_take (fun vs H Q E h => ?_) (fun cdv A outer s H vs Q E hr h => ?_)
  · obtain ⟨p, m, rfl, _⟩ := h
    rfl
  · obtain ⟨p, m, rfl, m0, m1, ⟨a, b, c, hp, a0, a1, b0⟩, k⟩ := h
    refine ⟨_, PSs.nox (pss_cons (ps_asg (pe_op op_add (pe_ix ix_list (pv 0) pe_int (fun _ _ => rfl)) pe_int) (pg_sub (pv 0) pe_int set_list))
      (pss_cons (ps_set (i := 2) sc_l_take.nd rfl (Or.inl rfl) (pe_ix ix_list (pv 0) pe_int (fun _ _ => rfl)))
      (pss_cons (ps_asg (pe_op op_mod (pe_op op_add (pe_op op_mulW (pv 2) (pe_op op_add (pe_op op_mod (pv 2) pe_int) pe_int)) (pe_op op_mul pe_int (pe_ix ix_list (pv 0) pe_int (fun _ _ => rfl)))) pe_int) (pg_sub (pv 0) pe_int set_list))
      (pss_cons (ps_if (pt_cmpR op_gt (pe_ix ix_list (pv 0) pe_int (fun _ _ => rfl)) pe_int (nomark _)) (pss_cons (ps_asg (pe_callB call_divmod (by rfl) T.b_divmod (by decide +kernel) (pa_cons (pe_ix ix_list (pv 0) pe_int (fun _ _ => rfl)) (pa_cons (pv 1) pa_nil))) (pg_tup rfl (pgs_cons (pg_sub (pv 0) pe_int set_list) (pgs_cons (pg_name (i := 3) sc_l_take.nd rfl (Or.inl rfl)) pgs_nil))))
        (pss_one (ps_ret (pv 3)))) pss_nil)
      (pss_one (ps_ret (pe_op op_mod (pe_op op_fdivW (pe_ix ix_list (pv 0) pe_int (fun _ _ => rfl)) pe_int) (pv 1)))))))), ?_⟩
    -- pool[2] = pool[2] + 1
    refine q_setL (j := 2) hp (ev_add (ev_op (ev_var rfl) ev_c (rv_ixL (sq_of hp) at2)) ev_c) (ev_var rfl) ev_c (by show 2 < 3; decide) fun H1 e1 => ?_
    have hp1 : upd H1 p (.lst [.int a, .int b, .int (c + 1)]) p = some (.lst [.int a, .int b, .int (c + 1)]) := upd_same
    have bt1 : But p H (upd H1 p (.lst [.int a, .int b, .int (c + 1)])) := (But.ex e1).trans But.upd
    show tSeq _ _ _ _ (upd H1 p (.lst [.int a, .int b, .int (c + 1)]))
    generalize upd H1 p (.lst [.int a, .int b, .int (c + 1)]) = G at *
    -- state = pool[0]
    refine q_asg (ev_op (ev_var rfl) ev_c (rv_ixL (sq_of hp1) at0)) fun H2 e2 => ?_
    have hp2 := e2 _ _ hp1
    have bt2 := bt1.trans (But.ex e2)
    have n0 : 0 ≤ a % 47017 := Int.emod_nonneg _ (by decide)
    have n1 : a % 47017 < 47017 := Int.emod_lt_of_pos _ (by decide)
    refine q_setL (j := 0) hp2 (ev_mod (ev_add (ev_mulW (n := 40) (m := 40) (ev_var rfl) (ev_add (ev_mod (ev_var rfl) ev_c (by decide)) ev_c) (by omega) (by omega)) (ev_mul ev_c (ev_op (ev_var rfl) ev_c (rv_ixL (sq_of hp2) at2)) (.inl ⟨by decide, by decide⟩))) ev_c (by decide)) (ev_var rfl) ev_c (by show 0 < 3; decide) fun H3 e3 => ?_
    have z0 := Int.emod_nonneg (a * (a % 47017 + 31013) + 90001 * (c + 1)) (show (2147483549 : Int) ≠ 0 by decide)
    have z1 := Int.emod_lt_of_pos (a * (a % 47017 + 31013) + 90001 * (c + 1)) (show (0 : Int) < 2147483549 by decide)
    show tSeq _ _ _ _ (upd H3 p (.lst [.int ((a * (a % 47017 + 31013) + 90001 * (c + 1)) % 2147483549), .int b, .int (c + 1)]))
    generalize (a * (a % 47017 + 31013) + 90001 * (c + 1)) % 2147483549 = z at *
    have hp3 : upd H3 p (.lst [.int z, .int b, .int (c + 1)]) p = some (.lst [.int z, .int b, .int (c + 1)]) := upd_same
    have bt3 : But p H (upd H3 p (.lst [.int z, .int b, .int (c + 1)])) := (bt2.trans (But.ex e3)).trans But.upd
    generalize upd H3 p (.lst [.int z, .int b, .int (c + 1)]) = G3 at *
    refine q_when (et_test (ev_gt (ev_op (ev_var rfl) ev_c (rv_ixL (sq_of hp3) at1)) ev_c)) (fun hb H4 e4 => ?_) fun hb H4 e4 => ?_
    · have hp4 := e4 _ _ hp3
      have bt4 := bt3.trans (But.ex e4)
      have hb0 : 0 < b := of_decide_eq_true hb
      refine q_asgX (x_cb (Evl.EvA.go (ea_cons (ev_op (ev_var rfl) ev_c (rv_ixL (sq_of hp4) at1)) (ea_cons (ev_var rfl) ea_nil)) fun H5 e5 => ?_))
      have hp5 := e5 _ _ hp4
      have bt5 := bt4.trans (But.ex e5)
      refine ⟨_, _, rfl, ⟨m0, m1⟩, fun r hr5 => ?_⟩
      have npr : p ≠ r := ne_of_none hp5 hr5
      have h6 : upd H5 r (.tup [.int (b / m), .int (b % m)]) p = some (.lst [.int z, .int b, .int (c + 1)]) := by
        rw [upd_ne npr]
        exact hp5
      refine ⟨r, _, rfl, st_of upd_same, rfl, _, _, rfl, ?_⟩
      refine ⟨_, rfl, p, _, 1, 1, rfl, rfl, h6, rfl, ?_⟩
      refine ⟨_, _, rfl, ?_⟩
      refine ⟨rfl, ?_⟩
      refine s_ret (ev_var rfl) fun H7 e7 => ?_
      refine k _ H7 (Int.emod_nonneg _ (by omega)) (Int.emod_lt_of_pos _ m0) ?_ ⟨_, _, _, e7 _ _ upd_same, z0, z1, Int.ediv_nonneg b0 (by omega)⟩
      exact ((bt5.trans (But.ex (Ex.new hr5))).trans But.upd).trans (But.ex e7)
    · have hp4 := e4 _ _ hp3
      have bt4 := bt3.trans (But.ex e4)
      refine s_ret (ev_mod (ev_fdivW (n := 7) (ev_op (ev_var rfl) ev_c (rv_ixL (sq_of hp4) at0)) ev_c (by decide) (by decide)) (ev_var rfl) m0) fun H5 e5 => ?_
      exact k _ H5 (Int.emod_nonneg _ (by omega)) (Int.emod_lt_of_pos _ m0) (bt4.trans (But.ex e5)) ⟨_, _, _, e5 _ _ hp4, z0, z1, b0⟩
end
end K09
namespace K09
open PySem PySem.Spec PyProof.Rows L2 Evl
section
variable {P : Program} {w : World} {K : PySem.W.Frag} {mg : Str → Option Value} {base : Heap} {f : Addr} {fd : FuncData}
abbrev L_on (P : Program) (w : World) (K : PySem.W.Frag) (mg : Str → Option Value) (base : Heap) : Prop := Dn P w K mg base 3 "_law_on" ["_law_one", "_law_other"] (sp_pair Tn.on)
theorem ok_on (F : FnP K "_law_on" s_l_on f fd) (T : Txt K mg) (D_l_part : L_part P w K mg base) : FnOk P w K mg base CX0 3 f fd ["_law_one", "_law_other"] (sp_pair Tn.on) := by
  refine F.ok sc_l_on (fun vs H Q E h => ?_) (fun cdv A outer s H vs Q E hr h => ?_)
  · obtain ⟨p, q, a, b, rfl, _⟩ := h
    rfl
  · obtain ⟨p, q, a, b, rfl, hp, hq, ha, hb, k⟩ := h
    refine ⟨_, PSs.nox (pss_one (ps_ret (pe_cd D_l_part (hr.mono (by decide)) (by rfl) (pa_cons (pe_op op_add (pe_op op_mulW (pe_ix ix_tup (pv 0) pe_int (fun _ _ => rfl)) (pe_ix ix_tup (pv 1) pe_int (fun _ _ => rfl))) (pe_op op_mulW (pe_ix ix_tup (pv 1) pe_int (fun _ _ => rfl)) (pe_ix ix_tup (pv 0) pe_int (fun _ _ => rfl)))) (pa_cons (pe_op op_mulW (pe_ix ix_tup (pv 0) pe_int (fun _ _ => rfl)) (pe_ix ix_tup (pv 1) pe_int (fun _ _ => rfl))) pa_nil))))), ?_⟩
    have s1 : Ev (tOp (rIxT K) (tVar 0) (tC (.int 0))) [some (.ref p), some (.ref q)] H (.int a.1) := ev_ixT (j := 0) (ev_var rfl) hp rfl
    have s2 : Ev (tOp (rIxT K) (tVar 0) (tC (.int 1))) [some (.ref p), some (.ref q)] H (.int a.2) := ev_ixT (j := 1) (ev_var rfl) hp rfl
    have o1 : Ev (tOp (rIxT K) (tVar 1) (tC (.int 0))) [some (.ref p), some (.ref q)] H (.int b.1) := ev_ixT (j := 0) (ev_var rfl) hq rfl
    have o2 : Ev (tOp (rIxT K) (tVar 1) (tC (.int 1))) [some (.ref p), some (.ref q)] H (.int b.2) := ev_ixT (j := 1) (ev_var rfl) hq rfl
    exact s_retU (eu_call (ea_cons (ev_add (ev_mulW s1 o2 ha.b1 hb.b2) (ev_mulW o1 s2 hb.b1 ha.b2)) (ea_cons (ev_mulW s2 o2 ha.b2 hb.b2) ea_nil)) (part_call (Int.mul_pos ha.1.pos hb.1.pos) (pow_up (pow_mul ha.b2 hb.b2) (by decide)))) k
end
end K09
namespace K09
open PySem PySem.Spec PyProof.Rows L2 Evl
section
variable {K : PySem.W.Frag} {σ : L2.St} {H : Hp} {ta tb te tm : TE} {Q : VK} {p : Addr} {i : Nat} {m : Int}
/-- [e for j in range(n)], e takes out of the pool -/
theorem lc_pool {n : Nat} {j : Nat} {vs : List Nat} (R : V → Prop) (hn : n ≤ 1000) (hp : Pool H p) (hw : ∀ x, wipe ((wipe σ vs).set j (some x)) vs = wipe σ vs)
    (he : ∀ (i : Nat) H1, i < n → But p H H1 → Pool H1 p → ∀ Q' : VK, (∀ y H2, R y → But p H1 H2 → Pool H2 p → Q' y H2) → te ((wipe σ vs).set j (some (.int (i : Int)))) H1 Q')
    (k : ∀ (r : Addr) (ys : List V) H2, H r = none → But p H H2 → Pool H2 p → H2 r = some (.lst ys) → ys.length = n → (∀ y ∈ ys, R y) → Q (.ref r) H2) :
    tLc (iRng1 (fun _ H R => R [.int (n : Int)] H)) (gName j) tYes te vs σ H Q := by
  refine ⟨(n : Int), rfl, by omega, by omega, fun Dl hD => ?_⟩
  have nDp : Dl ≠ p := pool_ne hp hD
  refine lc_range (lo := 0) (n := n) (fun i H' => But p H H' ∧ Pool H' p ∧ ∃ ys : List V, H' Dl = some (.lst ys) ∧ ys.length = i ∧ ∀ y ∈ ys, R y) ⟨But.ex (Ex.new hD), pool_ex hp (Ex.new hD), [], upd_same, rfl, fun y hy => nomatch hy⟩ ?_ ?_
  · rintro i H' hi ⟨b, pl, ys, hy, yl, yr⟩
    have e0 : (0 : Int) + (i : Int) = (i : Int) := Int.zero_add _
    rw [e0]
    refine ⟨hw _, ?_⟩
    refine he i H' hi b pl _ fun y H2 hR b2 p2 => ?_
    refine ⟨ys, b2 _ _ nDp hy, ?_, ?_, ?_, ys ++ [y], upd_same, by rw [List.length_append, yl]; rfl, fun z hz => ?_⟩
    · rw [sizeLine_eq]
      omega
    · intro c o nc hc
      have ncD : c ≠ Dl := ne_of_none hc hD
      rw [upd_ne ncD]
      exact (b.trans b2) c o nc hc
    · obtain ⟨a, b, c, ha, q⟩ := p2
      exact ⟨a, b, c, by rw [upd_ne nDp.symm]; exact ha, q⟩
    · rcases List.mem_append.mp hz with hz | hz
      · exact yr z hz
      · rw [List.mem_singleton.mp hz]
        exact hR
  · rintro H' ⟨b, pl, ys, hy, yl, yr⟩
    exact k Dl ys H' hD b pl hy yl yr
end
theorem joinL_ones : ∀ zs : List Nat, TL.joinL [] (zs.map fun c => [c]) = zs
  | [] => rfl
  | [_] => rfl
  | a :: b :: r => by
    show [a] ++ ([] ++ TL.joinL [] ((b :: r).map fun c => [c])) = _
    rw [joinL_ones (b :: r)]
    rfl
theorem join_cs (zs : List Nat) : cs (Txt.join (Str.ofString "") (zs.map fun c => (⟨#[c]⟩ : Str))) = zs := by
  rw [TL.join_eq]
  show TL.tl _ = _
  rw [TL.tl_join, List.map_map]
  exact joinL_ones zs
theorem sum_ones (zs : List Nat) : ((zs.map fun c => (⟨#[c]⟩ : Str)).map (·.length)).sum = zs.length := by
  induction zs with
  | nil => rfl
  | cons a r ih =>
    rw [List.map_cons, List.map_cons, List.sum_cons, ih, List.length_cons]
    show 1 + _ = _
    omega

theorem go_all : ∀ i ∈ List.range 12, ∀ j ∈ List.range 12, go (i : Int) = go (j : Int) → i = j := by decide +kernel
theorem go_inj {i j : Int} (h0 : 0 ≤ i) (h1 : i < 12) (g0 : 0 ≤ j) (g1 : j < 12) (h : go i = go j) : i = j := by
  obtain ⟨a, rfl⟩ := Int.eq_ofNat_of_zero_le h0
  obtain ⟨b, rfl⟩ := Int.eq_ofNat_of_zero_le g0
  have := go_all a (List.mem_range.mpr (by omega)) b (List.mem_range.mpr (by omega)) h
  omega
theorem gl_all : ∀ i ∈ List.range 26, ∀ j ∈ List.range 26, gl (i : Int) = gl (j : Int) → i = j := by decide +kernel
theorem gl_inj {i j : Int} (h0 : 0 ≤ i) (h1 : i < 26) (g0 : 0 ≤ j) (g1 : j < 26) (h : gl i = gl j) : i = j := by
  obtain ⟨a, rfl⟩ := Int.eq_ofNat_of_zero_le h0
  obtain ⟨b, rfl⟩ := Int.eq_ofNat_of_zero_le g0
  have := gl_all a (List.mem_range.mpr (by omega)) b (List.mem_range.mpr (by omega)) h
  omega
theorem nodup_rng {α : Type} {m : Nat} {g : Nat → α} (h : ∀ i j, i < j → j < m → g i ≠ g j) : ((List.range m).map g).Nodup := by
  refine List.pairwise_map.mpr ?_
  exact List.Pairwise.imp_of_mem (fun ha hb hab => h _ _ hab (List.mem_range.mp hb)) List.pairwise_lt_range
theorem rep_cs (c n : Nat) : cs ⟨(List.replicate n (cs ⟨#[c]⟩)).flatten.toArray⟩ = List.replicate n c := by
  show (List.replicate n [c]).flatten = _
  induction n with
  | zero => rfl
  | succ n ih =>
    rw [List.replicate_succ, List.flatten_cons, ih]
    rfl
/-- the law's words: unlike, so many -/
def sp_words : Sp := fun vs H Q _ => ∃ (p : Addr) (m : Nat), vs = [.ref p, .int (m : Int)] ∧ m ≤ 8 ∧ Pool H p ∧
  ∀ (r : Addr) (ws : List (List Nat)) H2, H r = none → But p H H2 → Pool H2 p → WordsAt H2 r ws → ws.length = m → ws.Nodup → (∀ z ∈ ws, Rs.WordL z) → Q (.ref r) H2
section
variable {P : Program} {w : World} {K : PySem.W.Frag} {mg : Str → Option Value} {base : Heap} {f : Addr} {fd : FuncData}
theorem ok_words (F : FnP K "_law_words" s_l_words f fd) (T : Txt K mg) (D_l_take : L_take P w K mg base) : FnOk P w K mg base CX0 2 f fd ["_law_pool_here", "_law_many"] sp_words := by
  refine F.ok sc_l_words (fun vs H Q E h => ?_) (fun cdv A outer s H vs Q E hr h => ?_)
  · obtain ⟨p, m, rfl, _⟩ := h
    rfl
  · obtain ⟨p, m, rfl, m1, hp, k⟩ := h
    refine ⟨_, PSs.nox (pss_cons (ps_set (i := 2) sc_l_words.nd rfl (Or.inr rfl) (pe_lst (pa_cons pe_str (pa_cons pe_str (pa_cons pe_str (pa_cons pe_str (pa_cons pe_str (pa_cons pe_str (pa_cons pe_str (pa_cons pe_str (pa_cons pe_str (pa_cons pe_str (pa_cons pe_str (pa_cons pe_str pa_nil))))))))))))))
      (pss_cons (ps_asg (pe_tup (pa_cons (pe_cd D_l_take (hr.mono (by decide)) (by rfl) (pa_cons (pv 0) (pa_cons pe_int pa_nil))) (pa_cons (pe_cd D_l_take (hr.mono (by decide)) (by rfl) (pa_cons (pv 0) (pa_cons pe_int pa_nil))) (pa_cons (pe_ix ix_list (pe_lst (pa_cons pe_int (pa_cons pe_int (pa_cons pe_int (pa_cons pe_int pa_nil))))) (pe_cd D_l_take (hr.mono (by decide)) (by rfl) (pa_cons (pv 0) (pa_cons pe_int pa_nil))) (fun _ _ => rfl)) pa_nil)))) (pg_tup rfl (pgs_cons (pg_name (i := 3) sc_l_words.nd rfl (Or.inl rfl)) (pgs_cons (pg_name (i := 4) sc_l_words.nd rfl (Or.inr rfl)) (pgs_cons (pg_name (i := 5) sc_l_words.nd rfl (Or.inr rfl)) pgs_nil)))))
      (pss_cons (ps_if (pt_cmpR op_eq (pv 3) pe_int (nomark _)) (pss_one (ps_ret (pe_callTy call_tupF (by rfl) T.b_tuple (by decide +kernel) (pa_cons (pe_lc (own := [("_law_k", 6)]) (g := (gName 6)) (tt := tYes) rfl sc_l_words.nd (pi_range1 (by rfl) T.b_range (pa_cons (pv 1) pa_nil)) (blkOk_by (own := [("_law_k", 6)]) (N := ["_law_pool_here", "_law_many", "_law_own", "_law_way", "_law_at", "_law_step", "_law_k", "_law_letters", "_law_stem", "_law_put", "_law_first", "_law_found"]) (sc := defScope s_l_words) (by decide +kernel)) (fun _ _ _ _ _ => (pg_name (i := 6) sc_l_words.nd rfl (Or.inl rfl))) (fun _ _ _ _ _ => pts_nil) (fun _ _ _ _ _ => (pe_ix (r := rIxL K) ix_list (pv 2) (pe_op op_mod (pe_op op_add (pv 4) (pe_op op_mulW (pv 5) (pv 6))) pe_int) (fun _ _ => rfl)))) pa_nil)))) pss_nil)
      (pss_cons (ps_set (i := 7) sc_l_words.nd rfl (Or.inr rfl) pe_str)
      (pss_cons (ps_set (i := 8) sc_l_words.nd rfl (Or.inr rfl) (pe_join pe_str (pe_lc (own := [("_law_k", 6)]) (g := (gName 6)) (tt := tYes) rfl sc_l_words.nd (pi_range1 (by rfl) T.b_range (pa_cons (pe_cd D_l_take (hr.mono (by decide)) (by rfl) (pa_cons (pv 0) (pa_cons pe_int pa_nil))) pa_nil)) (blkOk_by (own := [("_law_k", 6)]) (N := ["_law_pool_here", "_law_many", "_law_own", "_law_way", "_law_at", "_law_step", "_law_k", "_law_letters", "_law_stem", "_law_put", "_law_first", "_law_found"]) (sc := defScope s_l_words) (by decide +kernel)) (fun _ _ _ _ _ => (pg_name (i := 6) sc_l_words.nd rfl (Or.inl rfl))) (fun _ _ _ _ _ => pts_nil) (fun _ _ _ _ _ => (pe_ix (r := rIxS) ix_str (pv 7) (pe_cd D_l_take (hr.mono (by decide)) (by rfl) (pa_cons (pv 0) (pa_cons pe_int pa_nil))) (fun _ _ => rfl))))))
      (pss_cons (ps_asg (pe_tup (pa_cons (pe_cd D_l_take (hr.mono (by decide)) (by rfl) (pa_cons (pv 0) (pa_cons (pe_op op_add (pe_callB call_len_str (by rfl) T.b_len (by decide +kernel) (pa_cons (pv 8) pa_nil)) pe_int) pa_nil))) (pa_cons (pe_cd D_l_take (hr.mono (by decide)) (by rfl) (pa_cons (pv 0) (pa_cons pe_int pa_nil))) pa_nil))) (pg_tup rfl (pgs_cons (pg_name (i := 9) sc_l_words.nd rfl (Or.inr rfl)) (pgs_cons (pg_name (i := 10) sc_l_words.nd rfl (Or.inr rfl)) pgs_nil))))
      (pss_cons (ps_setLc (i := 11) (own := [("_law_k", 6)]) (g := (gName 6)) (tt := tYes) rfl sc_l_words.nd rfl rfl (sw_true rfl rfl rfl rfl) (pi_range1 (by rfl) T.b_range (pa_cons (pv 1) pa_nil)) (blkOk_by (own := [("_law_k", 6)]) (N := ["_law_pool_here", "_law_many", "_law_own", "_law_way", "_law_at", "_law_step", "_law_k", "_law_letters", "_law_stem", "_law_put", "_law_first", "_law_found"]) (sc := defScope s_l_words) (by decide +kernel)) (fun _ _ _ _ _ => (pg_name (i := 6) sc_l_words.nd rfl (Or.inl rfl))) (fun _ _ _ _ _ => pts_nil) (fun _ _ _ _ _ => (pe_op op_add_str (pe_op op_add_str (pe_slice sl_str (pv 8) po_none (po_some (pv 9))) (pe_ix (r := rIxS) ix_str (pv 7) (pe_op op_mod (pe_op op_add (pv 10) (pe_op op_mulW (pv 5) (pv 6))) pe_int) (fun _ _ => rfl))) (pe_slice sl_str (pv 8) (po_some (pv 9)) po_none))))
      (pss_cons (ps_if (pt_cmpR op_eq (pv 3) pe_int (nomark _)) (pss_one (ps_setLc (i := 11) (own := [("_law_k", 6)]) (g := (gName 6)) (tt := tYes) rfl sc_l_words.nd rfl rfl (sw_true rfl rfl rfl rfl) (pi_range1 (by rfl) T.b_range (pa_cons (pv 1) pa_nil)) (blkOk_by (own := [("_law_k", 6)]) (N := ["_law_pool_here", "_law_many", "_law_own", "_law_way", "_law_at", "_law_step", "_law_k", "_law_letters", "_law_stem", "_law_put", "_law_first", "_law_found"]) (sc := defScope s_l_words) (by decide +kernel)) (fun _ _ _ _ _ => (pg_name (i := 6) sc_l_words.nd rfl (Or.inl rfl))) (fun _ _ _ _ _ => pts_nil) (fun _ _ _ _ _ => (pe_op op_mulS (pe_ix (r := rIxS) ix_str (pv 7) (pe_op op_mod (pe_op op_add (pv 10) (pe_op op_fdivNN (pv 6) pe_int)) pe_int) (fun _ _ => rfl)) (pe_op op_add pe_int (pe_op op_mod (pv 6) pe_int)))))) pss_nil)
      (pss_one (ps_ret (pe_callTy call_tupF (by rfl) T.b_tuple (by decide +kernel) (pa_cons (pv 11) pa_nil)))))))))))), ?_⟩
    have done : ∀ (g : Nat → Str) (H6 : Hp), (∀ i, i < m → Word (g i)) → (∀ i j, i < j → j < m → g i ≠ g j) → But p H H6 → Pool H6 p → ∀ l H2, H6 l = none → Ex H6 H2 → FzT H2 l (given m (fun _ => true) fun i => .str (g i)) → Q (.ref l) H2 := fun g H6 hg hne b pl l H2 hl e2 h2 => by
      have hl' : H l = none := by
        cases q : H l with
        | none => rfl
        | some o =>
          have nlp : l ≠ p := fun z => by
            obtain ⟨a, b, c, ha, _⟩ := pl
            rw [z, ha] at hl
            cases hl
          have := b l o nlp q
          rw [this] at hl
          cases hl
      refine k l ((List.range m).map fun i => cs (g i)) H2 hl' (b.trans (But.ex e2)) (pool_ex pl e2) ?_ (by rw [List.length_map, List.length_range]) (nodup_rng fun i j hij hj e => hne i j hij hj ?_) fun z hz => ?_
      · rw [given_all] at h2
        have ee : txs ((List.range m).map fun i => cs (g i)) = (List.range m).map g := by
          unfold txs
          rw [List.map_map]
          refine List.map_congr_left fun i _ => ?_
          exact ofL_cs _
        show FzT H2 l _
        rw [ee]
        exact h2
      · rw [← ofL_cs (g i), e, ofL_cs]
      · obtain ⟨i, hi, rfl⟩ := List.mem_map.mp hz
        exact hg i (List.mem_range.mp hi)
    refine q_set (Evl.EvL.go (xs := ownS.map V.str) (el_lst (ea_cons ev_c (ea_cons ev_c (ea_cons ev_c (ea_cons ev_c (ea_cons ev_c (ea_cons ev_c (ea_cons ev_c (ea_cons ev_c (ea_cons ev_c (ea_cons ev_c (ea_cons ev_c (ea_cons ev_c ea_nil)))))))))))) (by show 12 ≤ 100000; decide)) fun q H1 hq e1 h1 => ?_)
    have p1 := pool_ex hp e1
    have nqp : q ≠ p := pool_ne hp hq
    have B1 : But p H H1 := But.ex e1
    -- way, at, step
    refine q_asgX (x_tup (x_cons (take_go rfl ev_c p1 (by decide) (by decide) fun way H2 w0 w1 b2 p2 => x_cons (take_go rfl ev_c p2 (by decide) (by decide) fun at_ H3 a0 a1 b3 p3 => x_cons (x_op (Evl.EvL.go (xs := [1, 5, 7, 11].map V.int) (el_lst (ea_cons ev_c (ea_cons ev_c (ea_cons ev_c (ea_cons ev_c ea_nil)))) (by show 4 ≤ 100000; decide)) fun r4 H4 hr4 e4 h4 => take_go rfl ev_c (pool_ex p3 e4) (by decide) (by decide) fun d H5 d0 d1 b5 p5 => ?_))))))
    have nr4 : r4 ≠ p := pool_ne p3 hr4
    obtain ⟨step, hstep, hat⟩ : ∃ v ∈ ([1, 5, 7, 11] : List Int), atI ([1, 5, 7, 11].map V.int) d = some (.int v) := by
      obtain ⟨n, rfl⟩ := Int.eq_ofNat_of_zero_le d0
      have hn : n < ([1, 5, 7, 11] : List Int).length := by
        show n < 4
        omega
      exact ⟨([1, 5, 7, 11] : List Int)[n], List.getElem_mem hn, atI_nat (by rw [List.getElem?_map, List.getElem?_eq_getElem hn]; rfl)⟩
    have sv : step = 1 ∨ step = 5 ∨ step = 7 ∨ step = 11 := by
      simpa only [List.mem_cons, List.mem_nil_iff, or_false] using hstep
    have sb : step.natAbs < 2 ^ 4 ∧ 0 ≤ step := by
      rcases sv with rfl | rfl | rfl | rfl <;> decide
    refine ⟨r4, _, _, _, rfl, rfl, sq_of (b5 _ _ nr4 h4), hat, x_nil ⟨by show 3 ≤ sizeLine; decide, fun r hr5 => ⟨r, _, rfl, st_of upd_same, rfl, _, _, rfl, _, _, rfl, _, _, rfl, rfl, ?_⟩⟩⟩
    have B5 : But p H (upd H5 r (.tup [.int way, .int at_, .int step])) := ((((B1.trans b2).trans b3).trans (But.ex e4)).trans b5).trans (But.ex (Ex.new hr5))
    have p5' := pool_ex p5 (Ex.new (o := .tup [.int way, .int at_, .int step]) hr5)
    have h5 : upd H5 r (.tup [.int way, .int at_, .int step]) q = some (.lst (ownS.map V.str)) := (But.ex (p := p) (Ex.new hr5)) _ _ nqp (b5 _ _ nqp (e4 _ _ (b3 _ _ nqp (b2 _ _ nqp h1))))
    generalize upd H5 r (.tup [.int way, .int at_, .int step]) = G5 at *
    refine q_when (et_test (ev_eqI (ev_var rfl) ev_c)) (fun hb H6 e6 => ?_) fun hb H6 e6 => ?_
    · -- words of rows
      have h6 := e6 _ _ h5
      refine x_ret (x_cb (x_cons (Evl.EvL.go (xs := given m (fun _ => true) fun i => V.str (go ((at_ + step * (i : Int)) % 12))) (el_lcR1 (n := (m : Int)) (fun _ => true) (fun i => V.str (go ((at_ + step * (i : Int)) % 12))) (ea_cons (ev_var rfl) ea_nil) ⟨by omega, by omega⟩ (fun _ => rfl) (fun i H7 _ _ => et_yes) fun i H7 e7 hi _ => ?_) fun l H7 hl7 e7 h7 => x_nil ⟨l, _, rfl, sq_of h7, ?_⟩)))
      · have hi7 : (i : Int).natAbs < 2 ^ 7 := by omega
        exact ev_op (ev_var rfl) (ev_mod (ev_add (ev_var rfl) (ev_mulW (ev_var rfl) (ev_var rfl) sb.1 hi7)) ev_c (by decide)) (rv_ixL (sq_of (e7 _ _ h6)) (go_at (Int.emod_nonneg _ (by decide)) (Int.emod_lt_of_pos _ (by decide))).1)
      · refine done (fun i => go ((at_ + step * (i : Int)) % 12)) H7 (fun i hi => (go_at (Int.emod_nonneg _ (by decide)) (Int.emod_lt_of_pos _ (by decide))).2) (fun i j hij hj e => ?_) (B5.trans (But.ex (e6.trans e7))) (pool_ex p5' (e6.trans e7))
        have := go_inj (Int.emod_nonneg _ (by decide)) (Int.emod_lt_of_pos _ (by decide)) (Int.emod_nonneg _ (by decide)) (Int.emod_lt_of_pos _ (by decide)) e
        rcases sv with rfl | rfl | rfl | rfl <;> omega
    · refine q_asg (v := .str LT) ev_c fun H7 e7 => ?_
      have p7 := pool_ex p5' (e6.trans e7)
      have B7 := B5.trans (But.ex (e6.trans e7))
      refine q_set (show tM1 _ _ _ _ _ _ from x_c ⟨⟨_, rfl⟩, ?_⟩)
      refine lc_rng (take_go rfl ev_c p7 (by decide) (by decide) fun size H8 s0 s1 b8 p8 => ?_)
      obtain ⟨sz, rfl⟩ := Int.eq_ofNat_of_zero_le s0
      refine lc_pool (R := fun y => ∃ c, y = .str ⟨#[c]⟩ ∧ isL c = true) (n := sz) (by omega) p8 (fun _ => rfl) ?_ ?_
      · intro i H9 hi b9 p9 Q' q'
        refine x_op (x_var rfl (take_go rfl ev_c p9 (by decide) (by decide) fun d9 H10 d90 d91 b10 p10 => ?_))
        have g9 := gl_at d90 d91
        exact ⟨LT, d9, gl d9, rfl, rfl, sz_of (by decide +kernel), g9.1, q' _ _ ⟨_, rfl, g9.2⟩ b10 p10⟩
      · intro r9 ys H9 hr9 b9 p9 h9 yl yr
        obtain ⟨zs, rfl, zl⟩ : ∃ zs : List Nat, ys = (zs.map fun c => (⟨#[c]⟩ : Str)).map V.str ∧ ∀ c ∈ zs, isL c = true := by
          clear h9 yl
          induction ys with
          | nil => exact ⟨[], rfl, fun c hc => nomatch hc⟩
          | cons y r ih =>
            obtain ⟨zs, rfl, hz⟩ := ih fun y hy => yr y (List.mem_cons_of_mem _ hy)
            obtain ⟨c, rfl, hc⟩ := yr y List.mem_cons_self
            refine ⟨c :: zs, rfl, fun d hd => ?_⟩
            rcases List.mem_cons.mp hd with rfl | hd
            · exact hc
            · exact hz d hd
        rw [List.length_map, List.length_map] at yl
        refine ⟨_, r9, _, rfl, rfl, .inl (sq_of h9), ?_, ?_⟩
        · rw [sum_ones]
          show zs.length + _ * 0 ≤ _
          omega
        · have hst : cs (Txt.join (Str.ofString "") (zs.map fun c => (⟨#[c]⟩ : Str))) = zs := join_cs zs
          show tSeq _ _ _ _ _
          generalize Txt.join (Str.ofString "") (zs.map fun c => (⟨#[c]⟩ : Str)) = st at *
          have stl : st.length ≤ 5 := by
            rw [cs_len, hst]
            omega
          have B9 := (B7.trans b8).trans b9
          refine q_asgX (x_tup (x_cons (take_go rfl (ev_add (ev_cb (ea_cons (ev_var rfl) ea_nil) (rc_lenS (by omega))) ev_c) p9 (by omega) (by rw [← cs_len]; omega) fun put H10 u0 u1 b10 p10 => x_cons (take_go rfl ev_c p10 (by decide) (by decide) fun first H11 f0 f1 b11 p11 => x_nil ⟨by show 2 ≤ sizeLine; decide, fun r hr11 => ⟨r, _, rfl, st_of upd_same, rfl, _, _, rfl, _, _, rfl, rfl, ?_⟩⟩))))
          have B11 : But p H (upd H11 r (.tup [.int put, .int first])) := ((B9.trans b10).trans b11).trans (But.ex (Ex.new hr11))
          have p11' := pool_ex p11 (Ex.new (o := .tup [.int put, .int first]) hr11)
          generalize upd H11 r (.tup [.int put, .int first]) = G at *
          obtain ⟨pn, rfl⟩ := Int.eq_ofNat_of_zero_le u0
          rw [hst] at u1
          have ec : ∀ i : Nat, cs (takeS st pn ++ (⟨#[gl ((first + step * (i : Int)) % 26)]⟩ : Str) ++ dropS st pn) = zs.take pn ++ [gl ((first + step * (i : Int)) % 26)] ++ zs.drop pn := fun i => by
            rw [cs_app, cs_app, cs_take, cs_drop, hst]
            rfl
          refine q_asgL (xs := given m (fun _ => true) fun i => V.str (takeS st pn ++ (⟨#[gl ((first + step * (i : Int)) % 26)]⟩ : Str) ++ dropS st pn)) (el_lcR1 (n := (m : Int)) (fun _ => true) (fun i => V.str (takeS st pn ++ (⟨#[gl ((first + step * (i : Int)) % 26)]⟩ : Str) ++ dropS st pn)) (ea_cons (ev_var rfl) ea_nil) ⟨by omega, by omega⟩ (fun _ => rfl) (fun i H7 _ _ => et_yes) fun i H13 e13 hi _ => ?_) fun l12 H12 hl12 e12 h12 => ?_
          · have hi7 : (i : Int).natAbs < 2 ^ 7 := by omega
            have t1 : (takeS st pn).length ≤ 5 := by
              rw [cs_len, cs_take, List.length_take, ← cs_len]
              omega
            have t2 : (dropS st pn).length ≤ 5 := by
              rw [cs_len, cs_drop, List.length_drop, ← cs_len]
              omega
            refine ev_cat (ev_cat (ev_take (ev_var rfl) (ev_var rfl) (by omega)) (ev_op (ev_var rfl) (ev_mod (ev_add (ev_var rfl) (ev_mulW (ev_var rfl) (ev_var rfl) sb.1 hi7)) ev_c (by decide)) (rv_ixS (by decide +kernel) (gl_at (Int.emod_nonneg _ (by decide)) (Int.emod_lt_of_pos _ (by decide))).1)) (by omega) (by show 1 ≤ 10000; decide)) (ev_drop (ev_var rfl) (ev_var rfl) (by omega)) ?_ (by omega)
            rw [Str.length_append]
            show _ + 1 ≤ _
            omega
          have B12 := B11.trans (But.ex (p := p) e12)
          have p12 := pool_ex p11' e12
          refine q_when (et_test (ev_eqI (ev_var rfl) ev_c)) (fun hb2 H13 e13 => ?_) fun hb2 H13 e13 => ?_
          · refine s_asgL (xs := given m (fun _ => true) fun i => V.str ⟨(List.replicate (1 + i % 6) (cs ⟨#[gl ((first + ((i / 6 : Nat) : Int)) % 26)]⟩)).flatten.toArray⟩) (el_lcR1 (n := (m : Int)) (fun _ => true) (fun i => V.str ⟨(List.replicate (1 + i % 6) (cs ⟨#[gl ((first + ((i / 6 : Nat) : Int)) % 26)]⟩)).flatten.toArray⟩) (ea_cons (ev_var rfl) ea_nil) ⟨by omega, by omega⟩ (fun _ => rfl) (fun i H7 _ _ => et_yes) fun i H14 e14 hi _ => ?_) fun l14 H14 hl14 e14 h14 => ?_
            · refine ev_op (ev_op (ev_var rfl) (ev_mod (ev_add (ev_var rfl) (ev_op (ev_var rfl) ev_c (fun H14 _ Q' q' => ⟨i, 6, rfl, rfl, ⟨by decide, by decide⟩, q' H14 (Ex.refl _)⟩))) ev_c (by decide)) (rv_ixS (by decide +kernel) (gl_at (Int.emod_nonneg _ (by decide)) (Int.emod_lt_of_pos _ (by decide))).1)) (ev_add ev_c (ev_mod (ev_var rfl) ev_c (by decide))) fun H14 _ Q' q' => ?_
              exact ⟨_, 1 + i % 6, rfl, rfl, by show 1 ≤ 1000; decide, by omega, q' H14 (Ex.refl _)⟩
            · refine x_ret (ev_tupF (K := K) (ev_var rfl) h14 ?_)
              refine done (fun i => ⟨(List.replicate (1 + i % 6) (cs ⟨#[gl ((first + ((i / 6 : Nat) : Int)) % 26)]⟩)).flatten.toArray⟩) H14 (fun i hi => ?_) (fun i j hij hj e => ?_) (B12.trans (But.ex (e13.trans e14))) (pool_ex p12 (e13.trans e14))
              · have hg := (gl_at (j := (first + ((i / 6 : Nat) : Int)) % 26) (Int.emod_nonneg _ (by decide)) (Int.emod_lt_of_pos _ (by decide))).2
                generalize gl ((first + ((i / 6 : Nat) : Int)) % 26) = c at *
                refine ⟨?_, ?_, fun d hd => ?_⟩
                · rw [rep_cs, List.length_replicate]
                  omega
                · rw [rep_cs, List.length_replicate]
                  omega
                · rw [rep_cs] at hd
                  rw [(List.mem_replicate.mp hd).2]
                  exact hg
              · have e2 := congrArg cs e
                rw [rep_cs, rep_cs] at e2
                have l2 := congrArg List.length e2
                rw [List.length_replicate, List.length_replicate] at l2
                rw [← l2, Nat.add_comm 1, List.replicate_succ, List.replicate_succ] at e2
                have c2 := (List.cons.inj e2).1
                have := gl_inj (Int.emod_nonneg _ (by decide)) (Int.emod_lt_of_pos _ (by decide)) (Int.emod_nonneg _ (by decide)) (Int.emod_lt_of_pos _ (by decide)) c2
                omega
          · refine x_ret (ev_tupF (K := K) (ev_var rfl) (e13 _ _ h12) ?_)
            refine done (fun i => takeS st pn ++ (⟨#[gl ((first + step * (i : Int)) % 26)]⟩ : Str) ++ dropS st pn) H13 (fun i hi => ?_) (fun i j hij hj e => ?_) (B12.trans (But.ex e13)) (pool_ex p12 e13)
            · have hg := (gl_at (j := (first + step * (i : Int)) % 26) (Int.emod_nonneg _ (by decide)) (Int.emod_lt_of_pos _ (by decide))).2
              unfold Word
              rw [ec]
              refine ⟨?_, ?_, fun d hd => ?_⟩
              · simp only [List.length_append, List.length_take, List.length_drop, List.length_cons, List.length_nil]
                omega
              · simp only [List.length_append, List.length_take, List.length_drop, List.length_cons, List.length_nil]
                omega
              · rw [List.mem_append, List.mem_append, List.mem_singleton] at hd
                rcases hd with (hd | rfl) | hd
                · exact zl d (List.mem_of_mem_take hd)
                · exact hg
                · exact zl d (List.mem_of_mem_drop hd)
            · have e2 := congrArg cs e
              rw [ec, ec] at e2
              have e3 := List.append_cancel_left (List.append_cancel_right e2)
              have := gl_inj (Int.emod_nonneg _ (by decide)) (Int.emod_lt_of_pos _ (by decide)) (Int.emod_nonneg _ (by decide)) (Int.emod_lt_of_pos _ (by decide)) (List.cons.inj e3).1
              rcases sv with rfl | rfl | rfl | rfl <;> omega
end
end K09

namespace K09
open PySem PySem.Spec PyProof.Rows L2 Evl
/-! ### the law's own roses -/
def LRoseAt (H : Hp) (r : Addr) (R : Rs.Rose) : Prop := ∃ tw tb, H r = some (.tup [.ref tw, .int (R.h : Int), .ref tb]) ∧ WordsAt H tw R.ws ∧ H tb = some (.tup (tv R.b))
theorem LRoseAt.ex {H H' : Hp} {r : Addr} {R : Rs.Rose} (h : LRoseAt H r R) (e : Ex H H') : LRoseAt H' r R := by
  obtain ⟨tw, tb, h1, h2, h3⟩ := h
  exact ⟨tw, tb, e _ _ h1, FzT.ex h2 e, e _ _ h3⟩
def sp_power : Sp := fun vs H Q _ => ∃ n : Nat, vs = [.int (n : Int)] ∧ n ≤ 5 ∧ ∀ H2, Ex H H2 → Q (.int ((2 ^ n : Nat) : Int)) H2
def sp_begin : Sp := fun vs H Q _ => ∃ p : Addr, vs = [.ref p] ∧ Pool H p ∧ ∀ (r : Addr) (a : Int × Int) H2, H r = none → But p H H2 → Pool H2 p → H2 r = some (.tup (tv a)) → Sn 100 a → Q (.ref r) H2
def sp_lrose : Sp := fun vs H Q _ => ∃ (p : Addr) (most : Int), vs = [.ref p, .int most] ∧ Pool H p ∧ ∀ (r : Addr) (R : Rs.Rose) H2, H r = none → But p H H2 → Pool H2 p → LRoseAt H2 r R → Rs.Ok R → Q (.ref r) H2
def sp_lsize : Sp := fun vs H Q _ => ∃ (r : Addr) (R : Rs.Rose), vs = [.ref r] ∧ LRoseAt H r R ∧ Rs.Ok R ∧ ∀ H2, Ex H H2 → Q (.int (Rs.size R : Int)) H2
def sp_lturn : Sp := fun vs H Q _ => ∃ (r : Addr) (R : Rs.Rose) (i : Int), vs = [.ref r, .int i] ∧ LRoseAt H r R ∧ Rs.Ok R ∧ ∀ q H2, Ex H H2 → H2 q = some (.tup (tv (Tn.on R.b (Tn.part i (Rs.size R : Int))))) → Q (.ref q) H2
theorem fresh_but {p r : Addr} {H H2 : Hp} (b : But p H H2) (pl : Pool H2 p) (hr : H2 r = none) : H r = none := by
  cases q : H r with
  | none => rfl
  | some o =>
    have n : r ≠ p := fun z => by
      obtain ⟨a, b, c, ha, _⟩ := pl
      rw [z, ha] at hr
      cases hr
    rw [b r o n q] at hr
    cases hr
section
variable {P : Program} {w : World} {K : PySem.W.Frag} {mg : Str → Option Value} {base : Heap} {f : Addr} {fd : FuncData}
theorem ok_power (F : FnP K "_law_power" s_l_power f fd) (T : Txt K mg) : FnOk P w K mg base CX0 1 f fd ["_law_many"] sp_power := by
  refine F.ok sc_l_power (fun vs H Q E h => ?_) (fun cdv A outer s H vs Q E hr h => ?_)
  · obtain ⟨n, rfl, _⟩ := h
    rfl
  · obtain ⟨n, rfl, h5, k⟩ := h
    refine ⟨_, PSs.nox (pss_cons (ps_set (i := 1) sc_l_power.nd rfl (Or.inl rfl) pe_int)
      (pss_cons (ps_for PassesOwn.never rfl (pi_range1 (by rfl) T.b_range (pa_cons (pv 0) pa_nil)) (pg_name (i := 2) sc_l_power.nd rfl (Or.inl rfl)) (pss_one (ps_set (i := 1) sc_l_power.nd rfl (Or.inl rfl) (pe_op op_mulW pe_int (pv 1)))))
      (pss_one (ps_ret (pv 1))))), ?_⟩
    refine q_asg ev_c fun H1 e1 => ?_
    refine q_forR1 (n := (n : Int)) (ea_cons (ev_var rfl) ea_nil) (by omega) (fun i σ' H' => Ex H H' ∧ ∃ tn : Option V, σ' = [some (.int (n : Int)), some (.int ((2 ^ i : Nat) : Int)), tn]) (fun H2 e2 => ⟨e1.trans e2, none, rfl⟩) ?_ ?_
    · rintro i σ' H' hi ⟨e, tn, rfl⟩
      have lt : 2 ^ i < 2 ^ 6 := Nat.pow_lt_pow_right (by decide) (by omega)
      refine s_asg (ev_mulW (n := 2) (m := 6) ev_c (ev_var rfl) (by decide) (by rw [Int.natAbs_natCast]; exact lt)) fun H2 e2 => ⟨e.trans e2, some (.int (i : Int)), ?_⟩
      have e3 : (2 : Int) * ((2 ^ i : Nat) : Int) = ((2 ^ (i + 1) : Nat) : Int) := by
        rw [Nat.pow_succ, Int.natCast_mul, Int.mul_comm]
        rfl
      rw [e3]
      rfl
    · rintro σ' H' ⟨e, tn, rfl⟩
      exact s_ret (ev_var rfl) fun H2 e2 => k H2 (e.trans e2)
abbrev L_power (P : Program) (w : World) (K : PySem.W.Frag) (mg : Str → Option Value) (base : Heap) : Prop := Dn P w K mg base 1 "_law_power" ["_law_many"] sp_power
theorem ok_begin (F : FnP K "_law_begin" s_l_begin f fd) (T : Txt K mg) (D_l_take : L_take P w K mg base) (D_l_part : L_part P w K mg base) : FnOk P w K mg base CX0 3 f fd ["_law_pool_here"] sp_begin := by
  refine F.ok sc_l_begin (fun vs H Q E h => ?_) (fun cdv A outer s H vs Q E hr h => ?_)
  · obtain ⟨p, rfl, _⟩ := h
    rfl
  · obtain ⟨p, rfl, hp, k⟩ := h
    refine ⟨_, PSs.nox (pss_cons (ps_set (i := 1) sc_l_begin.nd rfl (Or.inl rfl) (pe_cd D_l_take (hr.mono (by decide)) (by rfl) (pa_cons (pv 0) (pa_cons pe_int pa_nil))))
      (pss_cons (ps_if (pt_cmpR op_lt (pv 1) pe_int (nomark _)) (pss_one (ps_ret (pe_tup (pa_cons pe_int (pa_cons pe_int pa_nil))))) pss_nil)
      (pss_cons (ps_if (pt_cmpR op_eq (pv 1) pe_int (nomark _)) (pss_cons (ps_set (i := 2) sc_l_begin.nd rfl (Or.inl rfl) (pe_op op_add (pe_op op_add (pe_op op_mulW (pe_cd D_l_take (hr.mono (by decide)) (by rfl) (pa_cons (pv 0) (pa_cons (pe_op op_pow pe_int pe_int) pa_nil))) (pe_op op_pow pe_int pe_int)) (pe_op op_mulW pe_int (pe_cd D_l_take (hr.mono (by decide)) (by rfl) (pa_cons (pv 0) (pa_cons (pe_op op_pow pe_int pe_int) pa_nil))))) pe_int))
        (pss_one (ps_ret (pe_cd D_l_part (hr.mono (by decide)) (by rfl) (pa_cons (pv 2) (pa_cons (pe_op op_add (pe_op op_pow pe_int pe_int) (pe_cd D_l_take (hr.mono (by decide)) (by rfl) (pa_cons (pv 0) (pa_cons (pe_op op_pow pe_int pe_int) pa_nil)))) pa_nil)))))) pss_nil)
      (pss_cons (ps_set (i := 3) sc_l_begin.nd rfl (Or.inl rfl) (pe_ix ix_list (pe_lst (pa_cons pe_int (pa_cons pe_int (pa_cons pe_int (pa_cons pe_int (pa_cons (pe_op op_add pe_int (pe_cd D_l_take (hr.mono (by decide)) (by rfl) (pa_cons (pv 0) (pa_cons pe_int pa_nil)))) pa_nil)))))) (pe_cd D_l_take (hr.mono (by decide)) (by rfl) (pa_cons (pv 0) (pa_cons pe_int pa_nil))) (fun _ _ => rfl)))
      (pss_one (ps_ret (pe_cd D_l_part (hr.mono (by decide)) (by rfl) (pa_cons (pe_cd D_l_take (hr.mono (by decide)) (by rfl) (pa_cons (pv 0) (pa_cons (pv 3) pa_nil))) (pa_cons (pv 3) pa_nil))))))))), ?_⟩
    refine q_set (take_go rfl ev_c hp (by decide) (by decide) fun way H1 w0 w1 b1 p1 => ?_)
    refine q_when (et_test (ev_lt (ev_var rfl) ev_c)) (fun hb H2 e2 => ?_) fun hb H2 e2 => ?_
    · refine s_retU (eu_tup (ea_cons ev_c (ea_cons ev_c ea_nil)) (by show 2 ≤ 100000; decide)) fun r H3 hr3 e3 h3 => ?_
      have b3 := b1.trans (But.ex (p := p) (e2.trans e3))
      exact k r (0, 1) H3 (fresh_but (b1.trans (But.ex e2)) (pool_ex p1 e2) hr3) b3 (pool_ex p1 (e2.trans e3)) h3 ⟨Tn.can01, by decide⟩
    have p2 := pool_ex p1 e2
    have b2 := b1.trans (But.ex (p := p) e2)
    refine q_when (et_test (ev_eqI (ev_var rfl) ev_c)) (fun hb H3 e3 => ?_) fun hb H3 e3 => ?_
    · have p3 := pool_ex p2 e3
      have b3 := b2.trans (But.ex (p := p) e3)
      refine q_set (x_op (x_op (x_op (take_go (m := 1000000000) rfl (ev_is (ev_op ev_c ev_c (rv_I (show CPow 10 9 from ⟨by decide, by decide, by decide⟩))) rfl) p3 (by decide) (by decide) fun d4 H4 c0 c1 b4 p4 => ?_))))
      refine Evl.Ev.go (v := .int 1000000000000000000) (ev_is (ev_op ev_c ev_c (rv_I (show CPow 10 18 from ⟨by decide, by decide, by decide⟩))) rfl) fun H5 e5 => ?_
      refine ⟨_, _, rfl, rfl, wide_mul (a := 40) (b := 64) (by omega) (by decide) (by decide) (by decide) (by decide), ?_⟩
      refine x_op (x_c (take_go (m := 1000000000) rfl (ev_is (ev_op ev_c ev_c (rv_I (show CPow 10 9 from ⟨by decide, by decide, by decide⟩))) rfl) (pool_ex p4 e5) (by decide) (by decide) fun d6 H6 g0 g1 b6 p6 => ?_))
      refine ⟨_, _, rfl, rfl, wide_mul (a := 4) (b := 40) (by decide) (by omega) (by decide) (by decide) (by decide), ⟨_, _, rfl, rfl, x_c ⟨_, _, rfl, rfl, ?_⟩⟩⟩
      have b36 := ((b3.trans b4).trans (But.ex (p := p) e5)).trans b6
      refine x_ret (x_call (x_cons (x_var rfl (x_cons (x_op (Evl.Ev.go (v := .int (10 ^ 29)) (ev_is (ev_op ev_c ev_c (rv_I (show CPow 10 29 from ⟨by decide, by decide, by decide⟩))) rfl) fun H7 e7 => ?_))))))
      refine take_go (m := 1000000000) rfl (ev_is (ev_op ev_c ev_c (rv_I (show CPow 10 9 from ⟨by decide, by decide, by decide⟩))) rfl) (pool_ex p6 e7) (by decide) (by decide) fun d8 H8 i0 i1 b8 p8 => ?_
      have b38 := (b36.trans (But.ex (p := p) e7)).trans b8
      have u0 : (0 : Int) < 10 ^ 29 + d8 := by omega
      have uz : ((10 : Int) ^ 29 + d8).natAbs < 2 ^ 100 := by omega
      refine ⟨_, _, rfl, rfl, x_nil ⟨_, _, rfl, u0, pow_up uz (by decide), fun r H9 hr9 e9 h9 => ?_⟩⟩
      exact k r _ H9 (fresh_but b38 p8 hr9) (b38.trans (But.ex e9)) (pool_ex p8 e9) h9 (sn_le u0 uz)
    · have p3 := pool_ex p2 e3
      have b3 := b2.trans (But.ex (p := p) e3)
      refine q_set (x_op (x_lst (x_cons (x_c (x_cons (x_c (x_cons (x_c (x_cons (x_c (x_cons (x_op (x_c (take_go rfl ev_c p3 (by decide) (by decide) fun d4 H4 c0 c1 b4 p4 => ?_))))))))))))))
      refine ⟨_, _, rfl, rfl, x_nil ⟨by show 5 ≤ sizeLine; decide, fun l hl => ?_⟩⟩
      have nlp : l ≠ p := pool_ne p4 hl
      have p4' := pool_ex p4 (Ex.new (o := .lst [.int 2, .int 3, .int 4, .int 16, .int (1 + d4)]) hl)
      refine take_go rfl ev_c p4' (by decide) (by decide) fun d5 H5 g0 g1 b5 p5 => ?_
      obtain ⟨v, hv, hat⟩ := at_ints (L := [2, 3, 4, 16, 1 + d4]) g0 g1
      refine ⟨l, _, d5, _, rfl, rfl, sq_of (b5 _ _ nlp upd_same), hat, ?_⟩
      have vb : 0 < v ∧ v ≤ 200 := by
        simp only [List.mem_cons, List.mem_nil_iff, or_false] at hv
        rcases hv with rfl | rfl | rfl | rfl | rfl <;> omega
      have b35 := ((b3.trans b4).trans (But.ex (p := p) (Ex.new hl))).trans b5
      refine x_ret (x_call (x_cons (take_go rfl (ev_var rfl) p5 vb.1 (by omega) fun d6 H6 i0 i1 b6 p6 => x_cons (x_var rfl (x_nil ⟨_, _, rfl, vb.1, ?_, fun r H7 hr7 e7 h7 => ?_⟩)))))
      · exact Nat.lt_of_lt_of_le (m := 2 ^ 9) (by omega) (Nat.pow_le_pow_right (by decide) (by decide))
      · exact k r _ H7 (fresh_but (b35.trans b6) p6 hr7) ((b35.trans b6).trans (But.ex e7)) (pool_ex p6 e7) h7 (sn_le vb.1 (Nat.lt_of_lt_of_le (m := 2 ^ 9) (by omega) (Nat.pow_le_pow_right (by decide) (by decide))))
abbrev L_begin (P : Program) (w : World) (K : PySem.W.Frag) (mg : Str → Option Value) (base : Heap) : Prop := Dn P w K mg base 3 "_law_begin" ["_law_pool_here"] sp_begin
abbrev L_words (P : Program) (w : World) (K : PySem.W.Frag) (mg : Str → Option Value) (base : Heap) : Prop := Dn P w K mg base 2 "_law_words" ["_law_pool_here", "_law_many"] sp_words
theorem sp_pow {n : Nat} {H : Hp} (h : n ≤ 5) : SpV sp_power [.int (n : Int)] H (.int ((2 ^ n : Nat) : Int)) := fun H1 e Q' q E' => ⟨n, rfl, h, q⟩
theorem ok_lrose (F : FnP K "_law_rose" s_l_rose f fd) (T : Txt K mg) (D_l_take : L_take P w K mg base) (D_l_words : L_words P w K mg base) (D_l_power : L_power P w K mg base) (D_l_begin : L_begin P w K mg base) : FnOk P w K mg base CX0 4 f fd ["_law_pool_here", "_law_most"] sp_lrose := by
  refine F.ok sc_l_rose (fun vs H Q E h => ?_) (fun cdv A outer s H vs Q E hr h => ?_)
  · obtain ⟨p, most, rfl, _⟩ := h
    rfl
  · obtain ⟨p, most, rfl, hp, k⟩ := h
    refine ⟨_, PSs.nox (pss_cons (ps_set (i := 2) sc_l_rose.nd rfl (Or.inl rfl) (pe_cd D_l_words (hr.mono (by decide)) (by rfl) (pa_cons (pv 0) (pa_cons (pe_op op_add pe_int (pe_cd D_l_take (hr.mono (by decide)) (by rfl) (pa_cons (pv 0) (pa_cons pe_int pa_nil)))) pa_nil))))
      (pss_cons (ps_set (i := 3) sc_l_rose.nd rfl (Or.inl rfl) (pe_cd D_l_take (hr.mono (by decide)) (by rfl) (pa_cons (pv 0) (pa_cons pe_int pa_nil))))
      (pss_cons (ps_while PassesOwn.never (PW.pt (pw_and (pt_cmpR op_gt (pv 3) pe_int (nomark _)) (pw_and1 (pt_cmpR op_gt (pe_op op_mulW (pe_callB call_len_seq (by rfl) T.b_len (by decide +kernel) (pa_cons (pv 2) pa_nil)) (pe_cd D_l_power (hr.mono (by decide)) (by rfl) (pa_cons (pv 3) pa_nil))) (pv 1) (nomark _))))) (pss_one (ps_set (i := 3) sc_l_rose.nd rfl (Or.inl rfl) (pe_op op_sub (pv 3) pe_int))))
      (pss_one (ps_ret (pe_tup (pa_cons (pv 2) (pa_cons (pv 3) (pa_cons (pe_cd D_l_begin (hr.mono (by decide)) (by rfl) (pa_cons (pv 0) pa_nil)) pa_nil))))))))), ?_⟩
    refine q_set (x_call (x_cons (x_var rfl (x_cons (x_op (x_c (take_go rfl ev_c hp (by decide) (by decide) fun d H1 d0 d1 b1 p1 => ?_)))))))
    obtain ⟨dn, rfl⟩ := Int.eq_ofNat_of_zero_le d0
    refine ⟨_, _, rfl, rfl, x_nil ⟨p, 3 + dn, by rw [Int.natCast_add]; rfl, by omega, p1, fun tw ws H2 htw b2 p2 hw wl nd wd => ?_⟩⟩
    refine q_set (take_go rfl ev_c p2 (by decide) (by decide) fun hv H3 h0 h1 b3 p3 => ?_)
    obtain ⟨hn, rfl⟩ := Int.eq_ofNat_of_zero_le h0
    have ntp : tw ≠ p := fun z => by
      obtain ⟨a, b, c, ha, _⟩ := p1
      rw [z, ha] at htw
      cases htw
    have hw3 : WordsAt H3 tw ws := by
      obtain ⟨o, ho, q⟩ := hw
      exact ⟨o, b3 _ _ ntp ho, q⟩
    have B3 := (b1.trans b2).trans b3
    refine q_while (fun m σ' H' => Ex H3 H' ∧ ∃ h : Nat, σ' = [some (.ref p), some (.int most), some (.ref tw), some (.int (h : Int))] ∧ h ≤ 5 ∧ m = h) hn ⟨Ex.refl _, hn, rfl, by omega, rfl⟩ ?_
    rintro m σ' H' ⟨e, h, rfl, h5, rfl⟩
    have tl : ((txs ws).map V.str).length = ws.length := by
      unfold txs
      rw [List.length_map, List.length_map]
    have pz : ((2 ^ m : Nat) : Int).natAbs < 2 ^ 6 := by
      rw [Int.natAbs_natCast]
      exact Nat.pow_lt_pow_right (by decide) (by omega)
    refine ⟨_, et_and (et_test (ev_gt (ev_var rfl) ev_c)) fun _ => et_test (ev_gt (ev_mulW (n := 6) (m := 6) (ev_cb (ea_cons (ev_var rfl) ea_nil) (rc_len (K := K) (.inr (FzT.ex hw3 e).sq))) (ev_call (ea_cons (ev_var rfl) ea_nil) (sp_pow h5)) (by rw [tl]; omega) pz) (ev_var rfl)), fun hb H4 e4 => ?_, fun hb H4 e4 => ?_⟩
    · have hm : 0 < m := by
        rw [Bool.and_eq_true] at hb
        have := of_decide_eq_true hb.1
        omega
      refine ⟨fun σ2 H5 => Ex H3 H5 ∧ σ2 = [some (.ref p), some (.int most), some (.ref tw), some (.int ((m : Int) - 1))], fun σ2 H5 ⟨e5, h5'⟩ => ⟨m - 1, by omega, e5, m - 1, ?_, by omega, rfl⟩, ?_⟩
      · rw [h5', show (m : Int) - 1 = ((m - 1 : Nat) : Int) by omega]
      · exact s_asg (ev_sub (ev_var rfl) ev_c) fun H5 e5 => ⟨(e.trans e4).trans e5, rfl⟩
    · have B4 := B3.trans (But.ex (p := p) (e.trans e4))
      have p4 := pool_ex p3 (e.trans e4)
      refine x_ret (x_tup (x_cons (x_var rfl (x_cons (x_var rfl (x_cons (x_call (x_cons (x_var rfl (x_nil ⟨p, rfl, p4, fun tb a H5 htb b5 p5 h5' sa => x_nil ⟨by show 3 ≤ sizeLine; decide, fun r hr5 => ?_⟩⟩))))))))))
      have e6 := Ex.new (o := .tup [.ref tw, .int (m : Int), .ref tb]) hr5
      have B5 := B4.trans b5
      refine k r ⟨ws, m, a⟩ _ (fresh_but B5 p5 hr5) (B5.trans (But.ex e6)) (pool_ex p5 e6) ⟨tw, tb, upd_same, ?_, e6 _ _ h5'⟩ ⟨by show 3 ≤ ws.length; omega, by show ws.length ≤ 8; omega, h5, nd, wd, sa.1, sa.2⟩
      obtain ⟨o, ho, q⟩ := FzT.ex hw3 (e.trans e4)
      exact ⟨o, e6 _ _ (b5 _ _ ntp ho), q⟩
theorem ok_lsize (F : FnP K "_law_size_of" s_l_size_of f fd) (T : Txt K mg) (D_l_power : L_power P w K mg base) : FnOk P w K mg base CX0 2 f fd ["_law_rose_here"] sp_lsize := by
  refine F.ok sc_l_size_of (fun vs H Q E h => ?_) (fun cdv A outer s H vs Q E hr h => ?_)
  · obtain ⟨r, R, rfl, _⟩ := h
    rfl
  · obtain ⟨r, R, rfl, ⟨tw, tb, h1, hw, hb⟩, ok, k⟩ := h
    refine ⟨_, PSs.nox (pss_one (ps_ret (pe_op op_mulW (pe_callB call_len_seq (by rfl) T.b_len (by decide +kernel) (pa_cons (pe_ix ix_tup (pv 0) pe_int (fun _ _ => rfl)) pa_nil)) (pe_cd D_l_power (hr.mono (by decide)) (by rfl) (pa_cons (pe_ix ix_tup (pv 0) pe_int (fun _ _ => rfl)) pa_nil))))), ?_⟩
    have n8 := ok.n8
    have h5 := ok.h5
    have tl : ((txs R.ws).map V.str).length = R.ws.length := by
      unfold txs
      rw [List.length_map, List.length_map]
    have pz : ((2 ^ R.h : Nat) : Int).natAbs < 2 ^ 6 := by
      rw [Int.natAbs_natCast]
      exact Nat.pow_lt_pow_right (by decide) (by omega)
    refine s_ret (v := .int (Rs.size R : Int)) (ev_is (ev_mulW (n := 6) (m := 6) (ev_cb (ea_cons (ev_ixT (j := 0) (ev_var rfl) h1 rfl) ea_nil) (rc_len (K := K) (.inr (FzT.sq hw)))) (ev_call (ea_cons (ev_ixT (j := 1) (ev_var rfl) h1 rfl) ea_nil) (sp_pow h5)) (by rw [tl]; omega) pz) ?_) k
    rw [tl, ← Int.natCast_mul]
    rfl
abbrev L_size (P : Program) (w : World) (K : PySem.W.Frag) (mg : Str → Option Value) (base : Heap) : Prop := Dn P w K mg base 2 "_law_size_of" ["_law_rose_here"] sp_lsize
theorem ok_lturn (F : FnP K "_law_turn_of" s_l_turn_of f fd) (T : Txt K mg) (D_l_size_of : L_size P w K mg base) (D_l_part : L_part P w K mg base) (D_l_on : L_on P w K mg base) : FnOk P w K mg base CX0 4 f fd ["_law_rose_here", "_law_place"] sp_lturn := by
  refine F.ok sc_l_turn_of (fun vs H Q E h => ?_) (fun cdv A outer s H vs Q E hr h => ?_)
  · obtain ⟨r, R, i, rfl, _⟩ := h
    rfl
  · obtain ⟨r, R, i, rfl, hr0, ok, k⟩ := h
    refine ⟨_, PSs.nox (pss_one (ps_ret (pe_cd D_l_on (hr.mono (by decide)) (by rfl) (pa_cons (pe_ix ix_tup (pv 0) pe_int (fun _ _ => rfl)) (pa_cons (pe_cd D_l_part (hr.mono (by decide)) (by rfl) (pa_cons (pv 1) (pa_cons (pe_cd D_l_size_of (hr.mono (by decide)) (by rfl) (pa_cons (pv 0) pa_nil)) pa_nil))) pa_nil))))), ?_⟩
    obtain ⟨tw, tb, h1, hw, hb⟩ := id hr0
    have sl := ok.size_le
    have bg : EvR (tOp (rIxT K) (tVar 0) (tC (.int 2))) [some (.ref r), some (.int i)] H (PP R.b) := fun H1 e Q' q => ev_ixT (j := 2) (v := .ref tb) (ev_var rfl) h1 rfl H1 e _ fun H2 e2 => q tb H2 e2 ((e.trans e2) _ _ hb)
    refine x_ret (EvR.go (er_pairs (g := Tn.on) bg (er_part (ev_var rfl) (ev_call (z := .int (Rs.size R : Int)) (ea_cons (ev_var rfl) ea_nil) fun H1 e Q' q E' => ⟨r, R, rfl, hr0.ex e, ok, q⟩) (by omega) ?_) (sn_b ok).sm (sn_le (n := 9) (by omega) (by omega)).sm) k)
    exact Nat.lt_of_lt_of_le (m := 2 ^ 9) (by omega) (Nat.pow_le_pow_right (by decide) (by decide))
end
end K09

namespace K09
open PySem PySem.Spec PyProof.Rows L2 Evl
def sp_lmarks : Sp := fun vs H Q _ => ∃ (t : Int) (m : Nat), vs = [.int t, .int (m : Int)] ∧ m ≤ 5 ∧ Mk.good t (m : Int) = true ∧ ∀ H2, Ex H H2 → Q (.str (ofL (Mk.mk m t))) H2
def sp_lnames : Sp := fun vs H Q _ => ∃ (r : Addr) (R : Rs.Rose) (p : Nat), vs = [.ref r, .int (p : Int)] ∧ LRoseAt H r R ∧ Pl R p ∧ ∀ q H2, Ex H H2 → NamesAt H2 q (Rs.names R p) → Q (.ref q) H2
def sp_house (K : PySem.W.Frag) : Sp := fun vs H Q _ => ∃ (r : Addr) (R : Rs.Rose), vs = [.ref r] ∧ LRoseAt H r R ∧ Rs.Ok R ∧ ∀ x H2, H x = none → Ex H H2 → RoseAt K H2 x R → Q (.ref x) H2
theorem lmk_len (n : Int) : ∀ i, (Rs.lmk i n).length = i
  | 0 => rfl
  | i + 1 => congrArg (· + 1) (lmk_len n i)
section
variable {P : Program} {w : World} {K : PySem.W.Frag} {mg : Str → Option Value} {base : Heap} {f : Addr} {fd : FuncData}
theorem ok_lmarks (F : FnP K "_law_marks" s_l_marks f fd) (T : Txt K mg) (D_l_power : L_power P w K mg base) : FnOk P w K mg base CX0 2 f fd ["_law_top", "_law_many"] sp_lmarks := by
  refine F.ok sc_l_marks (fun vs H Q E h => ?_) (fun cdv A outer s H vs Q E hr h => ?_)
  · obtain ⟨t, m, rfl, _⟩ := h
    rfl
  · obtain ⟨t, m, rfl, m5, g, k⟩ := h
    refine ⟨_, PSs.nox (pss_cons (ps_par (i := 2) (j := 3) (by rfl) sc_l_marks.nd rfl rfl (by decide) rfl rfl (pa_cons (pe_op op_fdivW (pe_op op_sub (pe_op op_add (pv 0) (pe_cd D_l_power (hr.mono (by decide)) (by rfl) (pa_cons (pv 1) pa_nil))) pe_int) pe_int) (pa_cons pe_str pa_nil)) (by rfl))
      (pss_cons (ps_for PassesOwn.never rfl (pi_range1 (by rfl) T.b_range (pa_cons (pv 1) pa_nil)) (pg_name (i := 4) sc_l_marks.nd rfl (Or.inl rfl)) (pss_cons (ps_set (i := 3) sc_l_marks.nd rfl (Or.inl rfl) (pe_op op_add_str (pe_ix ix_list (pe_lst (pa_cons pe_str (pa_cons pe_str pa_nil))) (pe_op op_mod (pv 2) pe_int) (fun _ _ => rfl)) (pv 3)))
        (pss_one (ps_set (i := 2) sc_l_marks.nd rfl (Or.inl rfl) (pe_op op_fdivW (pv 2) pe_int)))))
      (pss_one (ps_ret (pv 3))))), ?_⟩
    have p2 : ((2 ^ m : Nat) : Int) = 2 ^ m := Int.natCast_pow 2 m
    rw [← Rs.lmk_ok g] at k
    refine q_par (Evl.EvA.go (vs := [.int ((t + 2 ^ m - 1) / 2), .str (ofL [])]) (ea_cons (ev_is (ev_fdivW (n := 3) (ev_sub (ev_add (ev_var rfl) (ev_call (ea_cons (ev_var rfl) ea_nil) (sp_pow m5))) ev_c) ev_c (by decide) (by decide)) (by rw [p2])) (ea_cons ev_c ea_nil)) fun H1 e2 => ⟨_, _, rfl, ?_⟩)
    generalize (t + 2 ^ m - 1) / 2 = N at *
    refine q_forR1 (n := (m : Int)) (ea_cons (ev_var rfl) ea_nil) (by omega) (fun i σ' H' => Ex H H' ∧ i ≤ m ∧ ∃ tn : Option V, σ' = [some (.int t), some (.int (m : Int)), some (.int (N / 2 ^ i)), some (.str (ofL (Rs.lmk i N))), tn]) (fun H3 e3 => ⟨e2.trans e3, Nat.zero_le _, none, by rw [Int.pow_zero, Int.ediv_one]; rfl⟩) ?_ ?_
    · rintro i σ' H' hi ⟨e, hi2, tn, rfl⟩
      have hb : (N / 2 ^ i) % 2 = 0 ∨ (N / 2 ^ i) % 2 = 1 := by omega
      have at2 : atI ([.str (ofL [60]), .str (ofL [62])] : List V) ((N / 2 ^ i) % 2) = some (.str (ofL [if (N / 2 ^ i) % 2 = 1 then 62 else 60])) := by
        rcases hb with h | h <;> rw [h] <;> rfl
      refine q_asg (v := .str (ofL (Rs.lmk (i + 1) N))) (ev_is (ev_addStr (ev_opL1 (el_lst (vs := [.str (ofL [60]), .str (ofL [62])]) (ea_cons ev_c (ea_cons ev_c ea_nil)) (by show 2 ≤ 100000; decide)) (fun H7 _ => ev_mod (ev_var rfl) ev_c (by decide)) fun l H7 hl _ => rv_ixL (sq_of hl) at2) (ev_var rfl) ?_) ?_) fun H3 e3 => ?_
      · rw [ofL_len, ofL_len, lmk_len]
        show 1 + i ≤ _
        omega
      · rw [ofL_app]
        rfl
      refine s_asg (ev_fdivW (n := 3) (ev_var rfl) ev_c (by decide) (by decide)) fun H4 e4 => ⟨(e.trans e3).trans e4, by omega, some (.int (i : Int)), ?_⟩
      have e5 : N / 2 ^ i / 2 = N / 2 ^ (i + 1) := by
        rw [Int.pow_succ, Int.ediv_ediv_of_nonneg (Int.pow_nonneg (by decide))]
      rw [e5]
      rfl
    · rintro σ' H' ⟨e, _, tn, rfl⟩
      exact s_ret (ev_var rfl) fun H3 e3 => k H3 (e.trans e3)
end
section
variable {K : PySem.W.Frag} {mg : Str → Option Value} {σ : L2.St} {H : Hp} {x : Addr} {R : Rs.Rose}
theorem make_rose {tw tb : Addr} {Q : VK} (hw : WordsAt H tw R.ws) (ht : TurnAt (He.ga K "Turn") H tb R.b) (k : Rs.Ok R) (q : ∀ x H2, H x = none → Ex H H2 → RoseAt K H2 x R → Q (.ref x) H2) :
    ∀ v dv, H v = none → H dv = none → dv ≠ v → sp_rinit K [.ref v, .ref tw, .int (R.h : Int), .ref tb] (upd (upd H dv (.own v)) v (.ins (He.ga K "Rose") dv [])) (fun u H2 => u = .non ∧ Q (.ref v) H2) E0 := fun v dv hv hdv ne => by
  have e1 : Ex H (upd (upd H dv (.own v)) v (.ins (He.ga K "Rose") dv [])) := (Ex.new hdv).mut hv
  refine ⟨v, dv, tw, tb, R, rfl, upd_same, FzT.ex hw e1, ht.ex e1, k, fun H2 b hb => ⟨rfl, ?_⟩⟩
  have e2 : Ex H H2 := fun a o h => by
    have n1 : a ≠ v := ne_of_none h hv
    refine b a o n1 ?_
    rw [upd_ne n1, upd_ne (ne_of_none h hdv)]
    exact h
  exact q v H2 hv e2 ⟨dv, tw, tb, hb, FzT.ex hw e2, ht.ex e2⟩
end
def Rc (P : Program) (w : World) (K : PySem.W.Frag) (mg : Str → Option Value) (base : Heap) : Prop := ∃ fd, FnOk P w K mg base CX0 4 (He.ma K (He.ga K "Rose") "__init__") fd ["self", "words", "halvings", "begin"] (sp_rinit K) ∧ Binds K fd ["self", "words", "halvings", "begin"] []
section
variable {P : Program} {w : World} {K : PySem.W.Frag} {mg : Str → Option Value} {base : Heap} {f : Addr} {fd : FuncData}
theorem ok_house (F : FnP K "_law_house" s_l_house f fd) (T : Txt K mg) (TC : Tc P w K mg base) (RC : Rc P w K mg base) : FnOk P w K mg base CX0 6 f fd ["_law_rose_here"] (sp_house K) := by
  obtain ⟨fdI, G_Turn_init, b_Turn_init, _, _⟩ := TC
  obtain ⟨fdR, G_Rose_init, b_Rose_init⟩ := RC
  refine F.ok sc_l_house (fun vs H Q E h => ?_) (fun cdv A outer s H vs Q E hr h => ?_)
  · obtain ⟨r, R, rfl, _⟩ := h
    rfl
  · obtain ⟨r, R, rfl, ⟨tw, tb, h1, hw, hb⟩, ok, k⟩ := h
    refine ⟨_, PSs.nox (pss_one (ps_ret (pe_make T.mk_Rose G_Rose_init (hr.mono (by decide)) (by rfl) T.g_Rose b_Rose_init .nil pass0 (pa_cons (pe_ix ix_tup (pv 0) pe_int (fun _ _ => rfl)) (pa_cons (pe_ix ix_tup (pv 0) pe_int (fun _ _ => rfl)) (pa_cons (pe_make T.mk_Turn G_Turn_init (hr.mono (by decide)) (by rfl) T.g_Turn b_Turn_init .nil pass0 (pa_cons (pe_ix ix_tup (pe_ix ix_tup (pv 0) pe_int (fun _ _ => rfl)) pe_int (fun _ _ => rfl)) (pa_cons (pe_ix ix_tup (pe_ix ix_tup (pv 0) pe_int (fun _ _ => rfl)) pe_int (fun _ _ => rfl)) pa_nil))) pa_nil)))))), ?_⟩
    have hs : Tn.sgn R.b.1 R.b.2 = R.b := by
      rw [Tn.sgn_pos ok.can.pos, Tn.part_self ok.can]
    have hp := ok.can.pos
    refine x_ret (x_makeW (x_cons (Evl.Ev.go (ev_ixT (j := 0) (ev_var rfl) h1 rfl) fun H1 e1 => x_cons (Evl.Ev.go (ev_ixT (j := 1) (ev_var rfl) (e1 _ _ h1) rfl) fun H2 e2 => x_cons ?_))))
    have h12 := (e1.trans e2) _ _ h1
    have b12 := (e1.trans e2) _ _ hb
    refine er_new (P := PT (He.ga K "Turn") R.b) (fun H3 e3 Q' q => (tn_make (t := R.b.1) (u := R.b.2) (ea_cons (ev_ixT (j := 0) (ev_ixT (j := 2) (ev_var rfl) h12 rfl) b12 rfl) (ea_cons (ev_ixT (j := 1) (ev_ixT (j := 2) (ev_var rfl) h12 rfl) b12 rfl) ea_nil)) (by omega) (pow_up ok.sm (by decide))).is hs H3 e3 Q' q) fun t H3 ht3 e3 h3 => x_nil ?_
    have e03 := (e1.trans e2).trans e3
    exact make_rose (FzT.ex hw e03) h3 ok fun x H4 hx e4 h4 => k x H4 (fresh_back e03 hx) (e03.trans e4) h4
theorem ev_leI {σ : L2.St} {H : Hp} {ta tb : TE} {i j : Int} (ha : Ev ta σ H (.int i)) (hb : Ev tb σ H (.int j)) : Ev (tOp (rI0 fun i j => .bl (decide (i ≤ j))) ta tb) σ H (.bl (decide (i ≤ j))) := ev_op ha hb rv_I0
theorem ev_wordT {σ : L2.St} {H : Hp} {te ti : TE} {tw : Addr} {R : Rs.Rose} {c : Nat} (h : Ev te σ H (.ref tw)) (hi : Ev ti σ H (.int (c : Int))) (hw : WordsAt H tw R.ws) (hc : c < R.ws.length) : Ev (tOp (rIxT K) te ti) σ H (.str (ofL (Rs.word R c))) := by
  refine ev_op h hi (rv_ixT (FzT.sq hw) (atI_nat ?_))
  rw [List.getElem?_map, at_txs (Rs.word_at hc).1]
  rfl
theorem ok_lnames (F : FnP K "_law_names_of" s_l_names_of f fd) (T : Txt K mg) (D_l_power : L_power P w K mg base) (D_l_marks : Dn P w K mg base 2 "_law_marks" ["_law_top", "_law_many"] sp_lmarks) : FnOk P w K mg base CX0 3 f fd ["_law_rose_here", "_law_place"] sp_lnames := by
  refine F.ok sc_l_names_of (fun vs H Q E h => ?_) (fun cdv A outer s H vs Q E hr h => ?_)
  · obtain ⟨r, R, p, rfl, _⟩ := h
    rfl
  · obtain ⟨r, R, p, rfl, ⟨tw, tb, h1, hw, hb⟩, ⟨ok, hp⟩, k⟩ := h
    refine ⟨_, PSs.nox (pss_cons (ps_par (i := 2) (j := 3) (by rfl) sc_l_names_of.nd rfl rfl (by decide) rfl rfl (pa_cons (pe_ix ix_tup (pv 0) pe_int (fun _ _ => rfl)) (pa_cons (pe_ix ix_tup (pv 0) pe_int (fun _ _ => rfl)) pa_nil)) (by rfl))
      (pss_cons (ps_set (i := 4) sc_l_names_of.nd rfl (Or.inl rfl) (pe_cd D_l_power (hr.mono (by decide)) (by rfl) (pa_cons (pv 3) pa_nil)))
      (pss_cons (ps_par (i := 5) (j := 6) (by rfl) sc_l_names_of.nd rfl rfl (by decide) rfl rfl (pa_cons (pe_op op_fdivW (pv 1) (pv 4)) (pa_cons (pe_op op_mod (pv 1) (pv 4)) pa_nil)) (by rfl))
      (pss_cons (ps_if (pt_cmpR op_eq (pv 6) pe_int (nomark _)) (pss_one (ps_ret (pe_tup (pa_cons (pe_ix ix_tup (pv 2) (pv 5) (fun _ _ => rfl)) pa_nil)))) pss_nil)
      (pss_cons (ps_while PassesOwn.never (pt_cmpR op_eq (pe_op op_mod (pv 6) pe_int) pe_int (nomark _)) (pss_one (ps_par3 (i := 6) (j := 4) (l := 3) (by rfl) sc_l_names_of.nd rfl rfl rfl (by decide) (by decide) (by decide) rfl rfl rfl (pa_cons (pe_op op_fdivW (pv 6) pe_int) (pa_cons (pe_op op_fdivW (pv 4) pe_int) (pa_cons (pe_op op_sub (pv 3) pe_int) pa_nil))) (by rfl))))
      (pss_cons (ps_set (i := 7) sc_l_names_of.nd rfl (Or.inl rfl) (pe_op op_add_str (pe_ix ix_tup (pv 2) (pv 5) (fun _ _ => rfl)) (pe_cd D_l_marks (hr.mono (by decide)) (by rfl) (pa_cons (pv 6) (pa_cons (pv 3) pa_nil)))))
      (pss_cons (ps_set (i := 8) sc_l_names_of.nd rfl (Or.inl rfl) (pe_op op_add_str (pe_ix ix_tup (pv 2) (pe_op op_mod (pe_op op_add (pv 5) pe_int) (pe_callB call_len_seq (by rfl) T.b_len (by decide +kernel) (pa_cons (pv 2) pa_nil))) (fun _ _ => rfl)) (pe_cd D_l_marks (hr.mono (by decide)) (by rfl) (pa_cons (pe_op op_sub (pv 6) (pv 4)) (pa_cons (pv 3) pa_nil)))))
      (pss_one (ps_ret (pe_ifExp (pt_cmpR op_le (pe_op op_mulW pe_int (pv 6)) (pv 4) (nomark _)) (pe_tup (pa_cons (pv 7) (pa_cons (pv 8) pa_nil))) (pe_tup (pa_cons (pv 8) (pa_cons (pv 7) pa_nil))))))))))))), ?_⟩
    have gl := ok.gap_le
    have h5 := ok.h5
    have n3 := ok.n3
    have n8 := ok.n8
    have pl := Rs.place_lt ok hp
    have ml : p % Rs.gap R < Rs.gap R := Nat.mod_lt _ (by omega)
    refine q_par (Evl.EvA.go (vs := [.ref tw, .int (R.h : Int)]) (ea_cons (ev_ixT (j := 0) (ev_var rfl) h1 rfl) (ea_cons (ev_ixT (j := 1) (ev_var rfl) h1 rfl) ea_nil)) fun H1 e1 => ⟨_, _, rfl, ?_⟩)
    refine q_asg (v := .int (Rs.gap R : Int)) (ev_call (ea_cons (ev_var rfl) ea_nil) (sp_pow h5)) fun H2 e2 => ?_
    refine q_par (Evl.EvA.go (vs := [.int ((p / Rs.gap R : Nat) : Int), .int ((p % Rs.gap R : Nat) : Int)]) (ea_cons (ev_is (ev_fdivW (n := 6) (ev_var rfl) (ev_var rfl) (by omega) (by omega)) (by rw [Int.natCast_ediv])) (ea_cons (ev_is (ev_mod (ev_var rfl) (ev_var rfl) (by omega)) (by rw [Int.natCast_emod])) ea_nil)) fun H3 e3 => ⟨_, _, rfl, ?_⟩)
    have e03 := (e1.trans e2).trans e3
    refine q_when (et_test (ev_eqI (ev_var rfl) ev_c)) (fun hb H4 e4 => ?_) fun hb H4 e4 => ?_
    · have m0 : ((p % Rs.gap R : Nat) : Int) = 0 := of_decide_eq_true hb
      have m0 : p % Rs.gap R = 0 := by omega
      refine s_retU (eu_tup (ea_cons (ev_wordT (R := R) (ev_var rfl) (ev_var rfl) (FzT.ex hw (e03.trans e4)) pl) ea_nil) (by show 1 ≤ 100000; decide)) fun q H5 hq e5 h5 => k q H5 ((e03.trans e4).trans e5) ?_
      show H5 q = _
      unfold Rs.names Rs.ones
      rw [h5, if_pos m0]
      show _ = some (HO.tup [V.str (ofL (Rs.word R (p / Rs.gap R) ++ []))])
      rw [List.append_nil]
    · have m0 : ¬ ((p % Rs.gap R : Nat) : Int) = 0 := of_decide_eq_false hb
      have m0 : 0 < p % Rs.gap R := by omega
      have e04 := e03.trans e4
      obtain ⟨lo, l1, lh, ll, lw⟩ := Rs.low_ok h5 m0 ml
      obtain ⟨g1, g2⟩ := Rs.good_odd l1 (Nat.le_trans lh h5) lo ll
      have en : Rs.names R p = if Rs.gap R < 2 * (p % Rs.gap R) then [Rs.nameOf R (Rs.backOf R p), Rs.nameOf R (Rs.onOf R p)] else [Rs.nameOf R (Rs.onOf R p), Rs.nameOf R (Rs.backOf R p)] := by
        unfold Rs.names Rs.ones
        rw [if_neg (by omega)]
        split <;> rfl
      have eon : Rs.nameOf R (Rs.onOf R p) = Rs.word R (p / Rs.gap R) ++ Mk.mk (Rs.lowF (p % Rs.gap R) R.h).2 ((Rs.lowF (p % Rs.gap R) R.h).1 : Int) := rfl
      have eba : Rs.nameOf R (Rs.backOf R p) = Rs.word R ((p / Rs.gap R + 1) % R.ws.length) ++ Mk.mk (Rs.lowF (p % Rs.gap R) R.h).2 (((Rs.lowF (p % Rs.gap R) R.h).1 : Int) - 2 ^ (Rs.lowF (p % Rs.gap R) R.h).2) := rfl
      have eg : Rs.gap R = 2 ^ (Rs.lowF (p % Rs.gap R) R.h).2 * 2 ^ (R.h - (Rs.lowF (p % Rs.gap R) R.h).2) := by
        rw [← Nat.pow_add]
        show 2 ^ R.h = _
        congr 1
        omega
      refine q_while (fun m σ' H' => Ex H H' ∧ ∃ a b : Nat, σ' = [some (.ref r), some (.int (p : Int)), some (.ref tw), some (.int (b : Int)), some (.int ((2 ^ b : Nat) : Int)), some (.int ((p / Rs.gap R : Nat) : Int)), some (.int (a : Int)), none, none] ∧ 0 < a ∧ a < 2 ^ b ∧ b ≤ 5 ∧ Rs.lowF a b = Rs.lowF (p % Rs.gap R) R.h ∧ m = a) (p % Rs.gap R) ⟨e04, p % Rs.gap R, R.h, rfl, m0, ml, h5, rfl, rfl⟩ ?_
      rintro m σ' H' ⟨e, a, b, rfl, a0, al, b5, hl, rfl⟩
      obtain ⟨c, rfl⟩ : ∃ c, b = c + 1 := by
        cases b with
        | zero => exact absurd al (by simp; omega)
        | succ c => exact ⟨c, rfl⟩
      have pz : ((2 ^ (c + 1) : Nat) : Int).natAbs < 2 ^ 6 := by
        rw [Int.natAbs_natCast]
        exact Nat.pow_lt_pow_right (by decide) (by omega)
      refine ⟨_, et_test (ev_eqI (ev_mod (ev_var rfl) ev_c (by decide)) ev_c), fun hb H5 e5 => ?_, fun hb H5 e5 => ?_⟩
      · have m2 : (m : Int) % 2 = 0 := of_decide_eq_true hb
        have m2 : m % 2 = 0 := by omega
        refine ⟨fun σ2 H6 => Ex H H6 ∧ σ2 = [some (.ref r), some (.int (p : Int)), some (.ref tw), some (.int (((c + 1 : Nat) : Int) - 1)), some (.int (((2 ^ (c + 1) : Nat) : Int) / 2)), some (.int ((p / Rs.gap R : Nat) : Int)), some (.int ((m : Int) / 2)), none, none], fun σ2 H6 ⟨e6, h6⟩ => ?_, ?_⟩
        · refine ⟨m / 2, by omega, e6, m / 2, c, ?_, by omega, ?_, by omega, ?_, rfl⟩
          · rw [h6]
            have z1 : (m : Int) / 2 = ((m / 2 : Nat) : Int) := by omega
            have z2 : (((c + 1 : Nat) : Int) - 1) = (c : Int) := by omega
            have z3 : (((2 ^ (c + 1) : Nat) : Int) / 2) = ((2 ^ c : Nat) : Int) := by
              rw [Nat.pow_succ]
              omega
            rw [z1, z2, z3]
          · rw [Nat.pow_succ] at al
            omega
          · rw [← hl]
            show _ = (if m % 2 = 0 then Rs.lowF (m / 2) c else (m, c + 1))
            rw [if_pos m2]
        · exact show tPar3 _ _ _ _ _ _ _ from Evl.EvA.go (ea_cons (ev_fdivW (n := 3) (ev_var rfl) ev_c (by decide) (by decide)) (ea_cons (ev_fdivW (n := 3) (ev_var rfl) ev_c (by decide) (by decide)) (ea_cons (ev_sub (ev_var rfl) ev_c) ea_nil))) fun H6 e6 => ⟨_, _, _, rfl, (e.trans e5).trans e6, rfl⟩
      · have m2 : ¬ (m : Int) % 2 = 0 := of_decide_eq_false hb
        have m2 : ¬ m % 2 = 0 := by omega
        have hl2 : Rs.lowF (p % Rs.gap R) R.h = (m, c + 1) := by
          rw [← hl]
          show (if m % 2 = 0 then Rs.lowF (m / 2) c else (m, c + 1)) = _
          rw [if_neg m2]
        rw [hl2] at eon eba g1 g2 eg lw
        dsimp only at eon eba g1 g2 eg lw
        have e05 := e.trans e5
        have mkl : ∀ {u : Int}, Mk.good u ((c + 1 : Nat) : Int) = true → (Mk.mk (c + 1) u).length = c + 1 := fun h => (Rs.mk_ok h).2.1
        have nl : (p / Rs.gap R + 1) % R.ws.length < R.ws.length := Nat.mod_lt _ (by omega)
        have mby : ∀ {u : Int} {H0 : Hp}, Mk.good u ((c + 1 : Nat) : Int) = true → SpV sp_lmarks [.int u, .int ((c + 1 : Nat) : Int)] H0 (.str (ofL (Mk.mk (c + 1) u))) := fun {u H0} hg H1 e Q' q E' => ⟨u, c + 1, rfl, b5, hg, q⟩
        have wl : ∀ {c : Nat}, c < R.ws.length → (Rs.word R c).length ≤ 6 := fun hc => (ok.wd _ (Rs.word_at hc).2).2.1
        have tl : ((txs R.ws).map V.str).length = R.ws.length := by
          unfold txs
          rw [List.length_map, List.length_map]
        have g2' : Mk.good ((m : Int) - ((2 ^ (c + 1) : Nat) : Int)) ((c + 1 : Nat) : Int) = true := by
          rw [Int.natCast_pow]
          exact g2
        refine q_asg (v := .str (ofL (Rs.nameOf R (Rs.onOf R p)))) (ev_is (ev_addStr (ev_wordT (R := R) (ev_var rfl) (ev_var rfl) (FzT.ex hw e05) pl) (ev_call (ea_cons (ev_var rfl) (ea_cons (ev_var rfl) ea_nil)) (mby g1)) ?_) ?_) fun H8 e8 => ?_
        · have := wl pl
          rw [ofL_len, ofL_len, mkl g1]
          omega
        · rw [ofL_app, eon]
        refine q_asg (v := .str (ofL (Rs.nameOf R (Rs.backOf R p)))) (ev_is (ev_addStr (ev_wordT (R := R) (c := (p / Rs.gap R + 1) % R.ws.length) (ev_var rfl) (ev_is (ev_mod (ev_add (ev_var rfl) ev_c) (ev_cb (ea_cons (ev_var rfl) ea_nil) (rc_len (K := K) (.inr (FzT.ex hw (e05.trans e8)).sq))) ?_) ?_) (FzT.ex hw (e05.trans e8)) nl) (ev_call (ea_cons (ev_sub (ev_var rfl) (ev_var rfl)) (ea_cons (ev_var rfl) ea_nil)) (mby g2')) ?_) ?_) fun H9 e9 => ?_
        · rw [tl]
          omega
        · rw [tl, Int.natCast_emod, Int.natCast_add]
          rfl
        · have := wl nl
          rw [ofL_len, ofL_len, mkl g2']
          omega
        · rw [ofL_app, eba, Int.natCast_pow]
          rfl
        have e09 := (e05.trans e8).trans e9
        have iffc : (2 * m ≤ 2 ^ (c + 1)) ↔ ¬ (Rs.gap R < 2 * (p % Rs.gap R)) := by
          have kp : 0 < 2 ^ (R.h - (c + 1)) := Nat.pow_pos (by decide)
          generalize 2 ^ (R.h - (c + 1)) = kk at *
          generalize 2 ^ (c + 1) = ss at *
          rw [← lw, eg, Nat.not_lt]
          constructor
          · intro hle
            have := Nat.mul_le_mul_right kk hle
            rw [Nat.mul_assoc] at this
            exact this
          · intro hle
            rw [← Nat.mul_assoc] at hle
            exact Nat.le_of_mul_le_mul_right hle kp
        refine x_ret ((et_test (ev_leI (ev_mulW (n := 2) (m := 6) ev_c (ev_var rfl) (by decide) (by omega)) (ev_var rfl))) H9 (Ex.refl _) _ fun H10 e10 => ?_)
        by_cases cc : 2 * m ≤ 2 ^ (c + 1)
        · rw [if_pos (decide_eq_true (by omega))]
          refine (eu_tup (ea_cons (ev_var rfl) (ea_cons (ev_var rfl) ea_nil)) (by show 2 ≤ 100000; decide)) H10 (Ex.refl _) _ fun q H11 hq e11 h11 => k q H11 ((e09.trans e10).trans e11) ?_
          show H11 q = _
          rw [h11, en, if_neg (iffc.mp cc)]
          rfl
        · rw [if_neg (by rw [decide_eq_false (by omega)]; decide)]
          refine (eu_tup (ea_cons (ev_var rfl) (ea_cons (ev_var rfl) ea_nil)) (by show 2 ≤ 100000; decide)) H10 (Ex.refl _) _ fun q H11 hq e11 h11 => k q H11 ((e09.trans e10).trans e11) ?_
          show H11 q = _
          rw [h11, en, if_pos (Decidable.byContradiction fun z => cc (iffc.mpr z))]
          rfl
end
end K09

namespace K09
open PySem PySem.Spec PyProof.Rows L2 Evl
/-! ### what the laws ask of winds' names -/
abbrev L_whole (P : Program) (w : World) (K : PySem.W.Frag) (mg : Str → Option Value) (base : Heap) : Prop := Dn P w K mg base 1 "_law_whole" ["_law_thing"] sp_is_whole
def sp_isturn (C : Addr) : Sp := fun vs H Q _ => ∃ (t d : Addr) (a : Int × Int), vs = [.ref t, .ref d] ∧ TurnAt C H t a ∧ H d = some (.tup (tv a)) ∧ ∀ H2, Ex H H2 → Q (.bl true) H2
theorem dpa_strs {K : PySem.W.Frag} {H : Hp} : ∀ ns : List Str, DpAll K H (ns.map V.str) (ns.map PyData.str)
  | [] => .nil
  | a :: r => .cons (.str a) (dpa_strs r)
theorem names_two (R : Rs.Rose) (p : Nat) : (∃ a, Rs.names R p = [a]) ∨ ∃ a b, Rs.names R p = [a, b] := by
  have l := Rs.ones_len R p
  unfold Rs.names
  cases e : Rs.ones R p with
  | nil => rw [e] at l; exact absurd l.1 (by decide)
  | cons o r =>
    cases r with
    | nil => exact .inl ⟨_, rfl⟩
    | cons o2 r2 =>
      cases r2 with
      | nil => exact .inr ⟨_, _, rfl⟩
      | cons o3 r3 =>
        rw [e] at l
        have : r3.length + 3 ≤ 2 := l.2
        omega
theorem isL_lt {c : Nat} (h : isL c = true) : c < 1114112 := by
  have q : ∀ c ∈ cs (Str.ofString "abcdefghijklmnopqrstuvwxyz"), c < 1114112 := by decide +kernel
  exact q c (of_decide_eq_true h)
theorem name_ok {R : Rs.Rose} {o : Rs.One} (k : Rs.Ok R) (g : Rs.Good R o) : PyData.strOk (ofL (Rs.nameOf R o)) = true := by
  unfold PyData.strOk
  rw [Array.all_eq_true_iff_forall_mem]
  intro c hc
  have hc2 : c ∈ Rs.word R o.1 ++ o.2 := by
    have := Array.mem_toList_iff.mpr hc
    exact this
  rcases List.mem_append.mp hc2 with h | h
  · exact decide_eq_true (isL_lt ((k.wd _ (Rs.word_at g.c).2).2.2 c h))
  · rcases g.ms c h with rfl | rfl <;> decide
theorem shaped_names {R : Rs.Rose} {p : Nat} (k : Pl R p) : SeqAt.shaped (.tuple ((txs (Rs.names R p)).map PyData.str)) = true := by
  have al : ∀ n ∈ Rs.names R p, PyData.strOk (ofL n) = true := fun n hn => by
    unfold Rs.names at hn
    obtain ⟨o, ho, rfl⟩ := List.mem_map.mp hn
    exact name_ok k.ok (Rs.ones_ok k.ok k.lt ho).1
  rcases names_two R p with ⟨a, e⟩ | ⟨a, b, e⟩
  · rw [e] at al ⊢
    have o1 := al a (by simp)
    show (PyData.canLay0 (.tuple [.str (ofL a)]) && decide (PyData.depth (.tuple [.str (ofL a)]) ≤ 64)) = true
    simp [PyData.canLay0, PyData.canLayAll0, PyData.depth, PyData.depthAll, o1]
  · rw [e] at al ⊢
    have o1 := al a (by simp)
    have o2 := al b (by simp)
    show (PyData.canLay0 (.tuple [.str (ofL a), .str (ofL b)]) && decide (PyData.depth (.tuple [.str (ofL a), .str (ofL b)]) ≤ 64)) = true
    simp [PyData.canLay0, PyData.canLayAll0, PyData.depth, PyData.depthAll, o1, o2]
theorem mk_goes {c : Nat} (h : c = 60 ∨ c = 62) : (Str.ofString "<>").cps.contains c = true := by
  rcases h with rfl | rfl <;> decide +kernel
theorem no_goes {c : Nat} (h : isL c = true) : (Str.ofString "<>").cps.contains c = false := by
  have e : (Str.ofString "<>").cps = #[60, 62] := by decide +kernel
  rw [e]
  have n1 : c ≠ 60 := fun z => by
    rw [Rs.isL_mark (.inl z)] at h
    cases h
  have n2 : c ≠ 62 := fun z => by
    rw [Rs.isL_mark (.inr z)] at h
    cases h
  simp [n1, n2]
theorem rstrip_name {wd ms : List Nat} (hw : Rs.WordL wd) (hm : Rs.MarksL ms) : (cs (Txt.rstripChars (ofL (wd ++ ms)) (Str.ofString "<>"))).length = wd.length := by
  unfold Txt.rstripChars
  rw [PyProof.Rows.stripBy_eq, strSub_mk]
  unfold stripHi stripLo
  rw [if_pos rfl, if_neg Bool.false_ne_true]
  have e1 : (ofL (wd ++ ms)).cps.toList = wd ++ ms := rfl
  rw [e1, List.drop_zero, List.reverse_append, List.takeWhile_append_of_pos (fun c hc => mk_goes (hm c (List.mem_reverse.mp hc)))]
  have e2 : wd.reverse.takeWhile (Str.ofString "<>").cps.contains = [] := by
    cases e : wd.reverse with
    | nil => rfl
    | cons a r =>
      have : a ∈ wd := List.mem_reverse.mp (by rw [e]; exact List.mem_cons_self)
      rw [List.takeWhile_cons, if_neg (by rw [no_goes (hw.2.2 a this)]; decide)]
  rw [e2, List.append_nil, List.length_reverse, ofL_len]
  show ((wd ++ ms).take _).length = _
  rw [List.length_take, List.length_append]
  omega
section
variable {K : PySem.W.Frag} {mg : Str → Option Value} {σ : L2.St} {H : Hp} {v x d : Addr} {R : Rs.Rose} {p : Nat} {te to ty : TE} {a : Int × Int}
theorem ev_isturn {C : Addr} (h1 : EvR to σ H (PT C a)) (h2 : EvR ty σ H (PP a)) : Ev (tCall (sp_isturn C) [] E0 (tCons to (tCons ty tNil))) σ H (.bl true) := fun H1 e Q q =>
  h1 H1 e _ fun t H2 e2 ht => h2 H2 (e.trans e2) _ fun d H3 e3 hd => ⟨t, d, a, rfl, TurnAt.ex ht e3, hd, fun H4 e4 => q H4 ((e2.trans e3).trans e4)⟩
theorem et_neN (h1 : EvN to σ H (fun r H2 => NamesAt H2 r (Rs.names R p))) (h2 : Ev ty σ H (.ref d)) (hd : NamesAt H d (Rs.names R p)) (k : Pl R p) : EvT (tTest (tOp (rNeD K) to ty)) σ H false :=
  et_test fun H1 e Q q => h1 H1 e _ fun r H2 _ e2 hr => h2 H2 (e.trans e2) _ fun H3 e3 => by
    refine ⟨_, _, .tup (st_of (e3 _ _ hr)) (dpa_strs _), .tup (st_of (((e.trans e2).trans e3) _ _ hd)) (dpa_strs _), shaped_names k, shaped_names k, ?_⟩
    rw [SeqAt.eqv_refl _ (SeqAt.canLay_of_shaped (shaped_names k))]
    exact q H3 (e2.trans e3)
theorem ev_isN (h : EvN te σ H (fun r H2 => NamesAt H2 r (Rs.names R p))) : Ev (tCB (rIsi K) (tCons te (tCons (tC (.ty "tuple")) tNil))) σ H (.bl true) := fun H1 e Q q =>
  h H1 e _ fun r H2 _ e2 hr => x_c (x_nil (rc_isi (b := true) (.ty "tuple") (fun H3 e3 => .base (.tup (e3 _ _ hr))) (kit_ty (by decide +kernel)) H2 (Ex.refl _) Q fun H3 e3 => q H3 (e2.trans e3)))
theorem ev_rstrip {z b : Str} (h : Ev te σ H (.str z)) (hz : z.length ≤ 1000) : Ev (tBM K "str" (fun x xs H Q => ∃ a b, x = .str a ∧ xs = [.str b] ∧ a.length ≤ sizeLine ∧ Q (.str (Txt.rstripChars a b)) H) te (tCons (tC (.str b)) tNil)) σ H (.str (Txt.rstripChars z b)) := fun H1 e Q q =>
  h H1 e _ fun H2 e2 => ⟨rfl, x_c (x_nil ⟨z, b, rfl, rfl, sz_of (by omega), q H2 e2⟩)⟩
theorem ev_own0 (h : Ev te σ H (.ref d)) (hd : NamesAt H d (Rs.names R p)) : Ev (tOp (rIxT K) te (tC (.int 0))) σ H (.str (ofL (ownN R p))) := by
  refine ev_ixT (j := 0) h hd ?_
  rw [List.getElem?_map, own_at]
  rfl
theorem er_makeW {tx tt : TE} (h1 : Ev tx σ H (.ref x)) (h2 : EvR tt σ H (PT (He.ga K "Turn") (Rs.turn R p))) (hx : RoseAt K H x R) (k : Pl R p) : EvN (tMake (He.ga K "Wind") (sp_winit K) [] E0 (tCons tx (tCons tt tNil))) σ H (fun v H2 => WindAt K H2 v x R p) := fun H1 e Q q =>
  h1 H1 e _ fun H2 e2 => h2 H2 (e.trans e2) _ fun t H3 e3 ht => make_wind (Q := Q) (hx.ex ((e.trans e2).trans e3)) ht k fun v H4 hv e4 h4 => q v H4 (fresh_back (e2.trans e3) hv) ((e2.trans e3).trans e4) h4
theorem ev_wplaceR (h : EvR te σ H (fun v H2 => WindAt K H2 v x R p)) (k : Pl R p) : Ev (tMeth (He.ga K "Wind") "place" (sp_wplace K) [] E0 te tNil) σ H (.int (p : Int)) := fun H1 e Q q =>
  h H1 e _ fun v H2 e2 hv => by
    obtain ⟨dv, t, h1, _⟩ := id hv
    exact ⟨v, dv, _, rfl, h1, wf_no x t (by decide +kernel) (by decide +kernel), ⟨v, x, R, p, rfl, hv, k, fun H3 e3 => q H3 (e2.trans e3)⟩⟩
theorem er_wof {o : Rs.One} (h1 : Ev to σ H (.ref x)) (h2 : Ev ty σ H (.str (ofL (Rs.nameOf R o)))) (hx : RoseAt K H x R) (k : Pl R p) (g : Rs.Good R o) (hp : Rs.placeT R o = (p : Int)) : EvR (tCall (sp_wof K) [] E0 (tCons to (tCons ty tNil))) σ H (fun v H2 => WindAt K H2 v x R p) := fun H1 e Q q =>
  h1 H1 e _ fun H2 e2 => h2 H2 (e.trans e2) _ fun H3 e3 => ⟨x, R, o, rfl, hx.ex ((e.trans e2).trans e3), k.ok, g, fun v H4 hv e4 h4 => q v H4 ((e2.trans e3).trans e4) (by
    rw [hp, pm_nat k.lt] at h4
    exact h4)⟩
theorem er_told {o : Rs.One} (h1 : Ev to σ H (.ref x)) (h2 : Ev ty σ H (.str (ofL (Rs.nameOf R o)))) (hx : RoseAt K H x R) (k : Pl R p) (g : Rs.Good R o) (hp : Rs.placeT R o = (p : Int)) : EvR (tMeth (He.ga K "Rose") "told" (sp_rtold K) [] E0 to (tCons ty tNil)) σ H (PT (He.ga K "Turn") (Rs.turn R p)) := fun H1 e Q q =>
  h1 H1 e _ fun H2 e2 => by
    obtain ⟨dx, tw, tb, hx1, _⟩ := id hx
    refine ⟨x, dx, _, rfl, (e.trans e2) _ _ hx1, rf_no _ _ _ (by decide +kernel) (by decide +kernel) (by decide +kernel), h2 H2 (e.trans e2) _ fun H3 e3 => ⟨x, R, o, rfl, hx.ex ((e.trans e2).trans e3), k.ok, g, fun t H4 ht e4 h4 => q t H4 ((e2.trans e3).trans e4) ?_⟩⟩
    rw [hp] at h4
    exact h4
end
section
variable {P : Program} {w : World} {K : PySem.W.Frag} {mg : Str → Option Value} {base : Heap} {f : Addr} {fd : FuncData}
theorem ok_lwhole (F : FnP K "_law_whole" s_l_whole f fd) (T : Txt K mg) : FnOk P w K mg base CX0 1 f fd ["_law_thing"] sp_is_whole := by
  refine F.ok sc_l_whole (fun vs H Q E h => ?_) (fun cdv A outer s H vs Q E hr h => ?_)
  · obtain ⟨i, rfl, _⟩ := h
    rfl
  · obtain ⟨i, rfl, k⟩ := h
    refine ⟨_, PSs.nox (pss_one (ps_ret (pe_and (pe_callB call_isi (by rfl) T.b_isinstance (by decide +kernel) (pa_cons (pv 0) (pa_cons (pe_bltn (v := .ty "int") (by rfl) T.b_int (by decide +kernel) rfl) pa_nil))) (pe_one (pe_not (pe_callB call_isi (by rfl) T.b_isinstance (by decide +kernel) (pa_cons (pv 0) (pa_cons (pe_bltn (v := .ty "bool") (by rfl) T.b_bool (by decide +kernel) rfl) pa_nil)))))))), ?_⟩
    exact s_ret (v := .bl true) (ev_andV (ev_cb (ea_cons (ev_var rfl) (ea_cons ev_c ea_nil)) rc_isiI) fun _ => ev_notV (ev_cb (ea_cons (ev_var rfl) (ea_cons ev_c ea_nil)) rc_isiB)) k
theorem ok_isturn (F : FnP K "_law_is_turn" s_l_is_turn f fd) (T : Txt K mg) (D_l_whole : L_whole P w K mg base) : FnOk P w K mg base CX0 2 f fd ["_law_thing", "_law_due"] (sp_isturn (He.ga K "Turn")) := by
  refine F.ok sc_l_is_turn (fun vs H Q E h => ?_) (fun cdv A outer s H vs Q E hr h => ?_)
  · obtain ⟨t, d, a, rfl, _⟩ := h
    rfl
  · obtain ⟨x, q, a, rfl, ⟨dx, hx⟩, hq, k⟩ := h
    refine ⟨_, PSs.nox (pss_cons (ps_if (PW.pt (pw_or (pt_not (pt_val (pe_callB call_isi (by rfl) T.b_isinstance (by decide +kernel) (pa_cons (pv 0) (pa_cons (pe_glob (v := .ref (He.ga K "Turn")) (by rfl) T.g_Turn rfl) pa_nil))))) (pw_or (pt_not (pt_val (pe_cd D_l_whole (hr.mono (by decide)) (by rfl) (pa_cons (pe_fld (pv 0) rfl) pa_nil)))) (pw_or1 (pt_not (pt_val (pe_cd D_l_whole (hr.mono (by decide)) (by rfl) (pa_cons (pe_fld (pv 0) rfl) pa_nil)))))))) (pss_one (ps_ret pe_bl)) pss_nil)
      (pss_one (ps_ret (pe_cmpR (op_eqD hr.units) (pe_tup (pa_cons (pe_fld (pv 0) rfl) (pa_cons (pe_fld (pv 0) rfl) pa_nil))) (pv 1) (nomark _))))), ?_⟩
    have wh : ∀ {i : Int} {H0 : Hp}, SpV sp_is_whole [.int i] H0 (.bl true) := fun {i H0} H1 e Q' q E' => ⟨i, rfl, q⟩
    have s1 : ∀ H1, Ex H H1 → Ev (tFld K (tVar 0) "top") [some (.ref x), some (.ref q)] H1 (.int a.1) := fun H1 e => ev_fld (ev_var rfl) (e _ _ hx) T.cl_Turn T.no_Turn_top (tf_top a)
    have s2 : ∀ H1, Ex H H1 → Ev (tFld K (tVar 0) "bottom") [some (.ref x), some (.ref q)] H1 (.int a.2) := fun H1 e => ev_fld (ev_var rfl) (e _ _ hx) T.cl_Turn T.no_Turn_bottom (tf_bottom a)
    refine q_when (b := false) (et_or (et_not (et_B (ev_cb (ea_cons (ev_var rfl) (ea_cons ev_c ea_nil)) (rc_isiC hx T.cl_Turn T.own_Turn.is)))) fun _ => et_or (et_not (et_B (ev_call (ea_cons (s1 H (Ex.refl _)) ea_nil) wh))) fun _ => et_not (et_B (ev_call (ea_cons (s2 H (Ex.refl _)) ea_nil) wh))) (fun hb => nomatch hb) fun _ H1 e1 => ?_
    refine x_ret (x_op (Evl.EvU.go (eu_tup (ea_cons (s1 H1 e1) (ea_cons (s2 H1 e1) ea_nil)) (by show 2 ≤ 100000; decide)) fun p H2 hp e2 h2 => ?_))
    refine ⟨_, rfl, rv_eqP (K := K) (a := a) (b := a) h2 ((e1.trans e2) _ _ hq) H2 (Ex.refl _) _ fun H3 e3 => ?_⟩
    rw [decide_eq_true rfl]
    exact k H3 ((e1.trans e2).trans e3)
abbrev L_isturn (P : Program) (w : World) (K : PySem.W.Frag) (mg : Str → Option Value) (base : Heap) : Prop := Dn P w K mg base 2 "_law_is_turn" ["_law_thing", "_law_due"] (sp_isturn (He.ga K "Turn"))
end
end K09

namespace K09
open PySem PySem.Spec PyProof.Rows L2 Evl
def sp_right (K : PySem.W.Frag) : Sp := fun vs H Q _ => ∃ (r x : Addr) (R : Rs.Rose) (p : Nat), vs = [.ref r, .ref x, .int (p : Int)] ∧ LRoseAt H r R ∧ RoseAt K H x R ∧ Pl R p ∧ ∀ H2, Ex H H2 → Q (.bl true) H2
section
variable {P : Program} {w : World} {K : PySem.W.Frag} {mg : Str → Option Value} {base : Heap} {f : Addr} {fd : FuncData}
theorem ok_right {fd1 fd2 fd3 fd4 fd5 : FuncData} (F : FnP K "_law_right" s_l_right f fd) (T : Txt K mg) (TC : Tc P w K mg base) (WC : Wc P w K mg base) (D_l_names_of : Dn P w K mg base 3 "_law_names_of" ["_law_rose_here", "_law_place"] sp_lnames) (D_l_turn_of : Dn P w K mg base 4 "_law_turn_of" ["_law_rose_here", "_law_place"] sp_lturn)
    (D_l_whole : L_whole P w K mg base) (D_l_is_turn : L_isturn P w K mg base) (D_wind_of : Dn P w K mg base 9 "wind_of" ["rose", "name"] (sp_wof K))
    (G_Wind_place : Gwp P w K mg base fd1) (b_Wind_place : Binds K fd1 ["self"] [])
    (G_Wind_names : FnOk P w K mg base CX0 7 (He.ma K (He.ga K "Wind") "names") fd2 ["self"] (sp_wnames K)) (b_Wind_names : Binds K fd2 ["self"] [])
    (G_Wind___str__ : Gws P w K mg base fd3) (b_Wind___str__ : Binds K fd3 ["self"] [])
    (G_Wind___len__ : FnOk P w K mg base CX0 10 (He.ma K (He.ga K "Wind") "__len__") fd4 ["self"] (sp_wlen K)) (b_Wind___len__ : Binds K fd4 ["self"] [])
    (G_Rose_told : FnOk P w K mg base CX0 6 (He.ma K (He.ga K "Rose") "told") fd5 ["self", "name"] (sp_rtold K)) (b_Rose_told : Binds K fd5 ["self", "name"] []) :
    FnOk P w K mg base CX0 14 f fd ["_law_rose_here", "_law_house_here", "_law_place"] (sp_right K) := by
  obtain ⟨fdI, G_Turn_init, b_Turn_init, _, _⟩ := TC
  obtain ⟨fdW, G_Wind_init, b_Wind_init⟩ := WC
  refine F.ok sc_l_right (fun vs H Q E h => ?_) (fun cdv A outer s H vs Q E hr h => ?_)
  · obtain ⟨r, x, R, p, rfl, _⟩ := h
    rfl
  · obtain ⟨r, x, R, p, rfl, hr0, hx, pl, k⟩ := h
    refine ⟨_, PSs.nox (pss_cons (ps_par (i := 3) (j := 4) (by rfl) sc_l_right.nd rfl rfl (by decide) rfl rfl (pa_cons (pe_cd D_l_names_of (hr.mono (by decide)) (by rfl) (pa_cons (pv 0) (pa_cons (pv 2) pa_nil))) (pa_cons (pe_cd D_l_turn_of (hr.mono (by decide)) (by rfl) (pa_cons (pv 0) (pa_cons (pv 2) pa_nil))) pa_nil)) (by rfl))
      (pss_cons (ps_set (i := 5) sc_l_right.nd rfl (Or.inl rfl) (pe_make T.mk_Wind G_Wind_init (hr.mono (by decide)) (by rfl) T.g_Wind b_Wind_init .nil pass0 (pa_cons (pv 1) (pa_cons (pe_make T.mk_Turn G_Turn_init (hr.mono (by decide)) (by rfl) T.g_Turn b_Turn_init .nil pass0 (pa_cons (pe_ix ix_tup (pv 4) pe_int (fun _ _ => rfl)) (pa_cons (pe_ix ix_tup (pv 4) pe_int (fun _ _ => rfl)) pa_nil))) pa_nil))))
      (pss_cons (ps_if (PW.pt (pw_or (pt_not (pt_val (pe_cd D_l_whole (hr.mono (by decide)) (by rfl) (pa_cons (pe_meth0 (pv 5) T.cl_Wind T.m_Wind_place G_Wind_place (hr.mono (by decide)) b_Wind_place .nil pass0) pa_nil)))) (pw_or (pt_cmpR op_ne (pe_meth0 (pv 5) T.cl_Wind T.m_Wind_place G_Wind_place (hr.mono (by decide)) b_Wind_place .nil pass0) (pv 2) (nomark _)) (pw_or1 (pt_not (pt_val (pe_cd D_l_is_turn (hr.mono (by decide)) (by rfl) (pa_cons (pe_fld (pv 5) rfl) (pa_cons (pv 4) pa_nil))))))))) (pss_one (ps_ret pe_bl)) pss_nil)
      (pss_cons (ps_if (PW.pt (pw_or (pt_not (pt_val (pe_callB call_isi (by rfl) T.b_isinstance (by decide +kernel) (pa_cons (pe_meth0 (pv 5) T.cl_Wind T.m_Wind_names G_Wind_names (hr.mono (by decide)) b_Wind_names .nil pass0) (pa_cons (pe_bltn (v := .ty "tuple") (by rfl) T.b_tuple (by decide +kernel) rfl) pa_nil))))) (pw_or (pt_cmpR (op_neD hr.units) (pe_meth0 (pv 5) T.cl_Wind T.m_Wind_names G_Wind_names (hr.mono (by decide)) b_Wind_names .nil pass0) (pv 3) (nomark _)) (pw_or1 (pt_cmpR op_ne (pe_callTy (call_strO T.m_Wind___str__ (FnOk.raw0 G_Wind___str__ b_Wind___str__) (hr.mono (by decide))) (by rfl) T.b_str (by decide +kernel) (pa_cons (pv 5) pa_nil)) (pe_ix ix_tup (pv 3) pe_int (fun _ _ => rfl)) (nomark _)))))) (pss_one (ps_ret pe_bl)) pss_nil)
      (pss_cons (ps_if (PW.pt (pw_or (pt_cmpR op_ne (pe_callB (call_lenO T.m_Wind___len__ (FnOk.raw0 G_Wind___len__ b_Wind___len__) (hr.mono (by decide))) (by rfl) T.b_len (by decide +kernel) (pa_cons (pv 5) pa_nil)) (pe_op op_sub (pe_callB call_len_str (by rfl) T.b_len (by decide +kernel) (pa_cons (pe_ix ix_tup (pv 3) pe_int (fun _ _ => rfl)) pa_nil)) (pe_callB call_len_str (by rfl) T.b_len (by decide +kernel) (pa_cons (pe_bm PySem.F.plainAttrs_str PySem.F.slot_str_rstrip PySem.F.type_str_rstrip mt_rstripChars (pe_ix ix_tup (pv 3) pe_int (fun _ _ => rfl)) (pa_cons pe_str pa_nil)) pa_nil))) (nomark _)) (pw_or1 (pt_cmpR (op_neD hr.units) (pe_meth0 (pv 5) T.cl_Wind T.m_Wind_names G_Wind_names (hr.mono (by decide)) b_Wind_names .nil pass0) (pv 3) (nomark _))))) (pss_one (ps_ret pe_bl)) pss_nil)
      (pss_cons (ps_for PassesOwn.never rfl (pi_tup (pv 3)) (pg_name (i := 6) sc_l_right.nd rfl (Or.inl rfl)) (pss_one (ps_if (PW.pt (pw_or (pt_not (pt_val (pe_cd D_l_is_turn (hr.mono (by decide)) (by rfl) (pa_cons (pe_meth (pv 1) T.cl_Rose T.m_Rose_told G_Rose_told (hr.mono (by decide)) b_Rose_told .nil pass0 (pa_cons (pv 6) pa_nil)) (pa_cons (pv 4) pa_nil))))) (pw_or1 (pt_cmpR op_ne (pe_meth0 (pe_cd D_wind_of (hr.mono (by decide)) (by rfl) (pa_cons (pv 1) (pa_cons (pv 6) pa_nil))) T.cl_Wind T.m_Wind_place G_Wind_place (hr.mono (by decide)) b_Wind_place .nil pass0) (pv 2) (nomark _))))) (pss_one (ps_ret pe_bl)) pss_nil)))
      (pss_one (ps_ret pe_bl)))))))), ?_⟩
    have ok := pl.ok
    have sl := ok.size_le
    -- due, turn
    refine q_par (x_cons (x_call (x_cons (x_var rfl (x_cons (x_var rfl (x_nil ⟨r, R, p, rfl, hr0, pl, fun due H1 e1 hd1 => ?_⟩)))))))
    refine x_cons (x_call (x_cons (x_var rfl (x_cons (x_var rfl (x_nil ⟨r, R, (p : Int), rfl, hr0.ex e1, ok, fun tu H2 e2 ht2 => x_nil ⟨_, _, rfl, ?_⟩⟩))))))
    have ht2 : H2 tu = some (.tup (tv (Rs.turn R p))) := ht2
    have e02 := e1.trans e2
    have st := sn_turn (R := R) (p := p) ok
    have tp := st.1.pos
    have hs : Tn.sgn (Rs.turn R p).1 (Rs.turn R p).2 = Rs.turn R p := by
      rw [Tn.sgn_pos tp, Tn.part_self st.1]
    -- breeze
    refine q_set (er_new (er_makeW (ev_var rfl) (er_tn ((tn_make (t := (Rs.turn R p).1) (u := (Rs.turn R p).2) (ea_cons (ev_ixT (j := 0) (ev_var rfl) ht2 rfl) (ea_cons (ev_ixT (j := 1) (ev_var rfl) ht2 rfl) ea_nil)) (by omega) (pow_up st.2 (by decide))).is hs)) (hx.ex e02) pl) fun v H4 hv4 e4 h4 => ?_)
    have e04 := e02.trans e4
    have hx4 := hx.ex e04
    have hd4 : NamesAt H4 due (Rs.names R p) := (e2.trans e4) _ _ hd1
    have ht4 : H4 tu = some (.tup (tv (Rs.turn R p))) := e4 _ _ ht2
    have wh : ∀ {i : Int} {H0 : Hp}, SpV sp_is_whole [.int i] H0 (.bl true) := fun {i H0} H1 e Q' q E' => ⟨i, rfl, q⟩
    refine q_when (b := false) (et_or0 (et_not (et_B (ev_call (ea_cons (ev_wplace (ev_var rfl) h4 pl) ea_nil) wh))) (et_or0 (et_is (et_test (ev_neI (ev_wplace (ev_var rfl) h4 pl) (ev_var rfl))) (by rw [decide_eq_true rfl]; rfl)) (et_not (et_B (ev_isturn (er_wturn T (ev_var rfl) h4) (er_pair rfl ht4)))))) (fun hb => nomatch hb) fun _ H5 e5 => ?_
    have h5 := h4.ex e5
    have hd5 : NamesAt H5 due (Rs.names R p) := e5 _ _ hd4
    refine q_when (b := false) (et_or0 (et_not (et_B (ev_isN (K := K) (er_wnames (ev_var rfl) h5 pl)))) (et_or0 (et_neN (K := K) (er_wnames (ev_var rfl) h5 pl) (ev_var rfl) hd5 pl) (et_is (et_test (ev_neS2 (ev_wstr (ev_var rfl) h5 pl) (ev_own0 (K := K) (ev_var rfl) hd5))) (by rw [decide_eq_true rfl]; rfl)))) (fun hb => nomatch hb) fun _ H6 e6 => ?_
    have h6 := h5.ex e6
    have hd6 : NamesAt H6 due (Rs.names R p) := e6 _ _ hd5
    obtain ⟨o1, g1, eo1, ln1, _⟩ := own_one pl
    have wl1 := ok.wd _ (Rs.word_at g1.c).2
    have ol : (ofL (ownN R p)).length = (Rs.word R o1.1).length + o1.2.length := by
      rw [ofL_len, eo1]
      exact List.length_append
    have oz : (ofL (ownN R p)).length ≤ 11 := by
      have a1 := wl1.2.1
      have a2 := g1.len
      have a3 := ok.h5
      omega
    have rl : (cs (Txt.rstripChars (ofL (ownN R p)) (Str.ofString "<>"))).length = (Rs.word R o1.1).length := by
      rw [eo1]
      exact rstrip_name wl1 g1.ms
    refine q_when (b := false) (et_or0 (et_is (et_test (ev_neI (ev_wlen (ev_var rfl) h6 pl) (ev_sub (ev_cb (ea_cons (ev_own0 (K := K) (ev_var rfl) hd6) ea_nil) (rc_lenS (by omega))) (ev_cb (ea_cons (ev_rstrip (K := K) (b := Str.ofString "<>") (ev_own0 (K := K) (ev_var rfl) hd6) (by omega)) ea_nil) (rc_lenS ?_))))) ?_) (et_neN (K := K) (er_wnames (ev_var rfl) h6 pl) (ev_var rfl) hd6 pl)) (fun hb => nomatch hb) fun _ H7 e7 => ?_
    · rw [cs_len, rl]
      have a1 := wl1.2.1
      omega
    · rw [rl, ← cs_len, ol, decide_eq_true (by omega)]
      rfl
    have e47 := (e5.trans e6).trans e7
    have hd7 : NamesAt H7 due (Rs.names R p) := e7 _ _ hd6
    refine q_forT (K := K) (ev_var rfl) (st_of hd7) (fun i σ' H' => Ex H7 H' ∧ ∃ tn : Option V, σ' = [some (.ref r), some (.ref x), some (.int (p : Int)), some (.ref due), some (.ref tu), some (.ref v), tn]) (fun H8 e8 => ⟨e8, none, rfl⟩) (fun i σ' H' _ ⟨e, _⟩ => st_of (e _ _ hd7)) ?_ ?_
    · rintro i y σ' H' hy ⟨e, tn, rfl⟩
      obtain ⟨o, ho, rfl⟩ : ∃ o ∈ Rs.ones R p, y = .str (ofL (Rs.nameOf R o)) := by
        obtain ⟨z, hz, rfl⟩ := List.mem_map.mp (List.mem_of_getElem? hy)
        unfold txs Rs.names at hz
        obtain ⟨n, hn, rfl⟩ := List.mem_map.mp hz
        obtain ⟨o, ho, rfl⟩ := List.mem_map.mp hn
        exact ⟨o, ho, rfl⟩
      obtain ⟨g, pt, _⟩ := Rs.ones_ok ok pl.lt ho
      have e8 := e47.trans e
      refine s_when (b := false) (et_or0 (et_not (et_B (ev_isturn (er_told (ev_var rfl) (ev_var rfl) (hx4.ex e8) pl g pt) (er_pair rfl (e8 _ _ ht4))))) (et_is (et_test (ev_neI (ev_wplaceR (er_wof (ev_var rfl) (ev_var rfl) (hx4.ex e8) pl g pt) pl) (ev_var rfl))) (by rw [decide_eq_true rfl]; rfl))) (fun hb => nomatch hb) fun _ H8 e9 => ⟨e.trans e9, _, rfl⟩
    · rintro σ' H' ⟨e, tn, rfl⟩
      exact s_ret ev_c fun H8 e8 => k H8 (((e04.trans e47).trans e).trans e8)
end
end K09

namespace K09
open PySem PySem.Spec PyProof.Rows L2 Evl
section
variable {K : PySem.W.Frag} {σ : L2.St} {H : Hp} {Q : VK} {tu : TS} {D : Ends}
/-- k == 0 and take(pool, m) == n -/
theorem great_go {p : Addr} {i1 i2 : Nat} {kv m n : Int} (h1 : σ[i1]? = some (some (.int kv))) (h2 : σ[i2]? = some (some (.ref p))) (hp : Pool H p) (m0 : 0 < m) (m1 : m < 1073741824) (k : ∀ (b : Bool) H2, But p H H2 → Pool H2 p → Q (.bl b) H2) :
    tAndV (tOp rEq (tVar i1) (tC (.int 0))) (tOp rEq (tCall sp_take [] E0 (tCons (tVar i2) (tCons (tC (.int m)) tNil))) (tC (.int n))) σ H Q := by
  refine (ev_eqI (ev_var h1) ev_c) H (Ex.refl _) _ fun H1 e1 => ⟨_, rfl, ?_⟩
  by_cases c : kv = 0
  · rw [if_pos (decide_eq_true c)]
    refine x_op (take_go h2 ev_c (pool_ex hp e1) m0 m1 fun d H2 _ _ b2 p2 => x_c (rv_eq (x := .int d) (y := .int n) rfl H2 (Ex.refl _) _ fun H3 e3 => ?_))
    exact k _ H3 (((But.ex e1).trans b2).trans (But.ex e3)) (pool_ex p2 e3)
  · rw [if_neg (by rw [decide_eq_false c]; decide)]
    exact k _ H1 (But.ex e1) (pool_ex hp e1)
/-- [x, y][int(b)] -/
theorem ev_pick {te : TE} {x y : Int} {b : Bool} (h : Ev te σ H (.bl b)) : Ev (tOp (rIxL K) (tLst (tCons (tC (.int x)) (tCons (tC (.int y)) tNil))) (tCB (fun xs H Q => (∃ i, xs = [V.int i] ∧ Q (.int i) H) ∨ ∃ k, xs = [V.bl k] ∧ Q (.int (if k then 1 else 0)) H) (tCons te tNil))) σ H (.int (if b then y else x)) :=
  ev_opL1 (el_lst (ea_cons ev_c (ea_cons ev_c ea_nil)) (by show 2 ≤ 100000; decide)) (fun H1 e => ev_cb (ea_cons (Ev.mono e h) ea_nil) rc_intB) fun l H1 hl _ => rv_ixL (sq_of hl) (by cases b <;> rfl)
theorem s_forR3 {ta : TA} {j : Nat} {lo hi c : Int} {n : Nat} (h : EvA ta σ H [.int lo, .int hi, .int c]) (hr : RgC lo hi c n) (Pv : Nat → L2.St → Hp → Prop) (h0 : ∀ H1, Ex H H1 → Pv 0 σ H1)
    (hs : ∀ (i : Nat) σ' H', i < n → Pv i σ' H' → tu { D with nx := Pv (i + 1), ct := Pv (i + 1), bk := D.nx } (σ'.set j (some (.int (lo + (i : Nat) * c)))) H') (hd : ∀ σ' H', Pv n σ' H' → D.nx σ' H') : tFor (iRng3 ta) (gName j) tu D σ H :=
  h H (Ex.refl H) _ fun H1 e => ⟨lo, hi, c, n, rfl, hr, for_rangeC Pv (h0 H1 e) (fun i σ' H' hi p => hs i σ' H' hi p) hd⟩
end
theorem small_all : ∀ s ∈ List.range 257, (Builtin.Range.small 0 (s : Int) 1 && Builtin.Range.small 0 (s : Int) 7) = true := by decide +kernel
theorem rg17 {s : Nat} {c : Int} (hs : s ≤ 256) (hc : c = 1 ∨ c = 7) : ∃ n : Nat, RgC 0 (s : Int) c n ∧ ∀ i : Nat, i < n → (i : Int) * c < (s : Int) := by
  have sm := small_all s (List.mem_range.mpr (by omega))
  rw [Bool.and_eq_true] at sm
  refine ⟨(Builtin.Range.rangeSize 0 (s : Int) c).toNat, ⟨by omega, by omega, ?_, rangeSize_toNat _ _ _⟩, fun i hi => ?_⟩
  · rcases hc with rfl | rfl
    · exact sm.1
    · exact sm.2
  · refine (start_inside (c := c) (by omega) (by omega) (Int.natCast_nonneg i) ?_).2
    rw [rangeSize_toNat]
    omega
end K09
namespace K09
open PySem PySem.Spec PyProof.Rows L2 Evl
def sp_law (K : PySem.W.Frag) : Sp := fun vs H Q _ => ∃ (a : Addr) (ns : List Int), vs = [.ref a] ∧ SqL K H a (ns.map V.int) ∧ ns.length ≤ 63 ∧ ∀ H', Q (.bl true) H'
section
variable {P : Program} {w : World} {K : PySem.W.Frag} {mg : Str → Option Value} {base : Heap} {f : Addr} {fd : FuncData}
theorem ok_law (F : FnP K "law" s_law f fd) (T : Txt K mg) (D_l_cell : Dn P w K mg base 1 "_law_cell" ["_law_script", "_law_k"] (sp_cell K)) (D_l_pool : Dn P w K mg base 1 "_law_pool" ["_law_cell_here"] sp_pool) (D_l_take : L_take P w K mg base)
    (D_l_rose : Dn P w K mg base 4 "_law_rose" ["_law_pool_here", "_law_most"] sp_lrose) (D_l_house : Dn P w K mg base 6 "_law_house" ["_law_rose_here"] (sp_house K)) (D_l_size_of : L_size P w K mg base) (D_l_right : Dn P w K mg base 14 "_law_right" ["_law_rose_here", "_law_house_here", "_law_place"] (sp_right K)) :
    FnOk P w K mg base CX0 15 f fd ["_law_script"] (sp_law K) := by
  refine F.ok sc_law (fun vs H Q E h => ?_) (fun cdv A outer s H vs Q E hr h => ?_)
  · obtain ⟨a, ns, rfl, _⟩ := h
    rfl
  · obtain ⟨l, ns, rfl, hs, hlen, k⟩ := h
    refine ⟨_, PSs.nox (pss_cons (ps_for PassesOwn.never rfl (pi_range1 (by rfl) T.b_range (pa_cons (pe_callB (call_max2 rfl) (by rfl) T.b_max (by decide +kernel) (pa_cons pe_int (pa_cons (pe_callB (call_min2 rfl) (by rfl) T.b_min (by decide +kernel) (pa_cons pe_int (pa_cons (pe_callB call_len_seq (by rfl) T.b_len (by decide +kernel) (pa_cons (pv 0) pa_nil)) pa_nil))) pa_nil))) pa_nil)) (pg_name (i := 1) sc_law.nd rfl (Or.inl rfl)) (pss_cons (ps_set (i := 2) sc_law.nd rfl (Or.inl rfl) (pe_cd D_l_pool (hr.mono (by decide)) (by rfl) (pa_cons (pe_cd D_l_cell (hr.mono (by decide)) (by rfl) (pa_cons (pv 0) (pa_cons (pv 1) pa_nil))) pa_nil)))
        (pss_cons (ps_set (i := 3) sc_law.nd rfl (Or.inl rfl) (pe_and (pe_cmpR op_eq (pv 1) pe_int (nomark _)) (pe_one (pe_cmpR op_eq (pe_cd D_l_take (hr.mono (by decide)) (by rfl) (pa_cons (pv 2) (pa_cons pe_int pa_nil))) pe_int (nomark _)))))
        (pss_cons (ps_set (i := 4) sc_law.nd rfl (Or.inl rfl) (pe_cd D_l_rose (hr.mono (by decide)) (by rfl) (pa_cons (pv 2) (pa_cons (pe_ix ix_list (pe_lst (pa_cons pe_int (pa_cons pe_int pa_nil))) (pe_callTy call_int1 (by rfl) T.b_int (by decide +kernel) (pa_cons (pv 3) pa_nil)) (fun _ _ => rfl)) pa_nil))))
        (pss_cons (ps_set (i := 5) sc_law.nd rfl (Or.inl rfl) (pe_cd D_l_house (hr.mono (by decide)) (by rfl) (pa_cons (pv 4) pa_nil)))
        (pss_one (ps_for PassesOwn.never rfl (pi_range3 (by rfl) T.b_range (pa_cons pe_int (pa_cons (pe_cd D_l_size_of (hr.mono (by decide)) (by rfl) (pa_cons (pv 4) pa_nil)) (pa_cons (pe_ix ix_list (pe_lst (pa_cons pe_int (pa_cons pe_int pa_nil))) (pe_callTy call_int1 (by rfl) T.b_int (by decide +kernel) (pa_cons (pv 3) pa_nil)) (fun _ _ => rfl)) pa_nil)))) (pg_name (i := 6) sc_law.nd rfl (Or.inl rfl)) (pss_one (ps_if (pt_not (pt_val (pe_cd D_l_right (hr.mono (by decide)) (by rfl) (pa_cons (pv 4) (pa_cons (pv 5) (pa_cons (pv 6) pa_nil)))))) (pss_one (ps_ret pe_bl)) pss_nil)))))))))
      (pss_one (ps_ret pe_bl))), ?_⟩
    have nlen : ((ns.map V.int).length : Int) ≤ 63 := by
      rw [List.length_map]
      omega
    obtain ⟨turns, tn, tb⟩ : ∃ turns : Int, Ev (tCB (fun xs H Q => ∃ i j, xs = [.int i, .int j] ∧ Q (.int (if j > i then j else i)) H) (tCons (tC (.int 1)) (tCons (tCB (fun xs H Q => ∃ i j, xs = [.int i, .int j] ∧ Q (.int (if j < i then j else i)) H) (tCons (tC (.int 3)) (tCons (tCB (fun xs H Q => ∃ p ys, xs = [.ref p] ∧ (SqL K H p ys ∨ SqT K H p ys) ∧ Q (.int (ys.length : Nat)) H) (tCons (tVar 0) tNil)) tNil))) tNil))) [some (.ref l), none, none, none, none, none, none] H (.int turns) ∧ 0 ≤ turns ∧ turns ≤ 20 := by
      refine ⟨_, ev_cb (ea_cons ev_c (ea_cons (ev_cb (ea_cons ev_c (ea_cons (ev_cb (ea_cons (ev_var rfl) ea_nil) (fun H1 e Q' q => ⟨l, _, rfl, .inl (ex_l e hs), q H1 (Ex.refl _)⟩)) ea_nil)) fun H1 _ Q' q => ⟨_, _, rfl, q H1 (Ex.refl _)⟩) ea_nil)) fun H1 _ Q' q => ⟨_, _, rfl, q H1 (Ex.refl _)⟩, ?_⟩
      generalize ((ns.map V.int).length : Int) = n at nlen
      split <;> split <;> omega
    refine q_forR1 (n := turns) (ea_cons tn ea_nil) ⟨tb.1, by omega⟩ (fun i σ' H' => Ex H H' ∧ ∃ v1 v2 v3 v4 v5 v6, σ' = [some (.ref l), v1, v2, v3, v4, v5, v6]) (fun H1 e1 => ⟨e1, _, _, _, _, _, _, rfl⟩) ?_ ?_
    · rintro i σ' H' hi ⟨e, v1, v2, v3, v4, v5, v6, rfl⟩
      refine q_set (x_call (x_cons (x_call (x_cons (x_var rfl (x_cons (x_var rfl (x_nil ⟨l, ns, i, rfl, ex_l e hs, by omega, fun c H1 e1 => ?_⟩))))))))
      refine x_nil ⟨c, rfl, fun p H2 hp2 e2 pp => ?_⟩
      have f2 : Ex H H2 := (e.trans e1).trans e2
      have np : H p = none := fresh_back (e.trans e1) hp2
      refine q_set (great_go rfl rfl pp (by decide) (by decide) fun great H3 b3 p3 => ?_)
      refine q_set (x_call (x_cons (x_var rfl (x_cons (Evl.Ev.go (ev_pick (K := K) (ev_var rfl)) fun H4 e4 => x_nil ⟨p, _, rfl, pool_ex p3 e4, fun r R H5 hr5 b5 p5 hlr ok => ?_⟩)))))
      have e05 : Ex H H5 := (((But.ex f2).trans b3).trans ((But.ex e4).trans b5)).new np
      refine q_set (x_call (x_cons (x_var rfl (x_nil ⟨r, R, rfl, hlr, ok, fun x H6 hx6 e6 h6 => ?_⟩))))
      have hlr6 := hlr.ex e6
      have sl := ok.size_le
      obtain ⟨n, rg, lt⟩ := rg17 (s := Rs.size R) (c := if great then 7 else 1) sl.2 (by cases great <;> simp)
      refine s_forR3 (n := n) (lo := 0) (hi := (Rs.size R : Int)) (c := if great then 7 else 1) (ea_cons ev_c (ea_cons (ev_call (z := .int (Rs.size R : Int)) (ea_cons (ev_var rfl) ea_nil) fun H7 e7 Q' q' E' => ⟨r, R, rfl, hlr6.ex e7, ok, q'⟩) (ea_cons (ev_pick (K := K) (ev_var rfl)) ea_nil))) rg (fun j σ2 H7 => Ex H6 H7 ∧ ∃ v, σ2 = [some (.ref l), some (.int (i : Int)), some (.ref p), some (.bl great), some (.ref r), some (.ref x), v]) (fun H7 e7 => ⟨e7, v6, rfl⟩) ?_ ?_
      · rintro j σ2 H7 hj ⟨e7, v, rfl⟩
        have lj := lt j hj
        have ep : (0 : Int) + (j : Int) * (if great then 7 else 1) = (((j : Int) * (if great then 7 else 1)).toNat : Int) := by
          have : 0 ≤ (j : Int) * (if great then 7 else 1) := by cases great <;> simp <;> omega
          omega
        rw [ep]
        generalize hP : ((j : Int) * (if great then 7 else 1)).toNat = pn at *
        have pl : Pl R pn := ⟨ok, by omega⟩
        exact s_when (b := false) (et_not (a := true) (et_B (ev_call (z := .bl true) (ea_cons (ev_var rfl) (ea_cons (ev_var rfl) (ea_cons (ev_var rfl) ea_nil))) fun H8 e8 Q' q' E' => ⟨r, x, R, pn, rfl, hlr6.ex (e7.trans e8), h6.ex (e7.trans e8), pl, q'⟩))) (fun hb => nomatch hb) fun _ H8 e8 => ⟨e7.trans e8, _, rfl⟩
      · rintro σ2 H7 ⟨e7, v, rfl⟩
        exact ⟨(e05.trans e6).trans e7, _, _, _, _, _, _, rfl⟩
    · rintro σ' H' ⟨e, v1, v2, v3, v4, v5, v6, rfl⟩
      exact s_ret ev_c fun H1 e1 => k H1
end
end K09

namespace K09
open PySem PySem.Spec PyProof.Rows L2 Evl
theorem facts {P : Program} {w : World} {K : PySem.W.Frag} {h : Heap} {mg : Str → Option Value} {f : Addr} (X : K.In h) (G : h.Ns mainGlobals mg) (hfa : mg ("law" : Str) = some (.ref f)) (c : He.SaysD fa fn K) (cx : ex K = true) :
    ∃ fd : FuncData, (∀ (s : Shared) (v : Value), BindsTo s fd ⟨[v], []⟩ [("_law_script", v)]) ∧ ∀ base : Heap, K.In base → base.Ns mainGlobals mg → FnOk P w K mg base CX0 15 f fd ["_law_script"] (sp_law K) := by
  obtain ⟨cx0, cx⟩ := He.ba cx
  obtain ⟨cx1, cx2⟩ := He.ba cx
  have T : Txt K mg := { g_Turn := He.glo_ok X G (c.fact 51 (f := .glo "Turn") rfl), cl_Turn := He.cls_ok (c.fact 52 (f := .cls "Turn") rfl), mk_Turn := He.mkr_ok (c.fact 53 (f := .mkr "Turn") rfl), no_Turn_top := He.noat_ok (c.fact 54 (f := .noat "Turn" "top") rfl), no_Turn_bottom := He.noat_ok (c.fact 55 (f := .noat "Turn" "bottom") rfl), m_Turn_plus := He.meth_ok (c.fact 56 (f := .meth "Turn" "plus") rfl), m_Turn_minus := He.meth_ok (c.fact 57 (f := .meth "Turn" "minus") rfl), g_Rose := He.glo_ok X G (c.fact 58 (f := .glo "Rose") rfl), cl_Rose := He.cls_ok (c.fact 59 (f := .cls "Rose") rfl), mk_Rose := He.mkr_ok (c.fact 60 (f := .mkr "Rose") rfl), no_Rose_words := He.noat_ok (c.fact 61 (f := .noat "Rose" "words") rfl), no_Rose_halvings := He.noat_ok (c.fact 62 (f := .noat "Rose" "halvings") rfl), no_Rose_begin := He.noat_ok (c.fact 63 (f := .noat "Rose" "begin") rfl), m_Rose___len__ := He.meth_ok (c.fact 64 (f := .meth "Rose" "__len__") rfl), m_Rose_told := He.meth_ok (c.fact 65 (f := .meth "Rose" "told") rfl), g_Wind := He.glo_ok X G (c.fact 66 (f := .glo "Wind") rfl), cl_Wind := He.cls_ok (c.fact 67 (f := .cls "Wind") rfl), mk_Wind := He.mkr_ok (c.fact 68 (f := .mkr "Wind") rfl), no_Wind_rose := He.noat_ok (c.fact 69 (f := .noat "Wind" "rose") rfl), no_Wind_turn := He.noat_ok (c.fact 70 (f := .noat "Wind" "turn") rfl), m_Wind___len__ := He.meth_ok (c.fact 71 (f := .meth "Wind" "__len__") rfl), m_Wind___str__ := He.meth_ok (c.fact 72 (f := .meth "Wind" "__str__") rfl), m_Wind_place := He.meth_ok (c.fact 73 (f := .meth "Wind" "place") rfl), m_Wind_names := He.meth_ok (c.fact 74 (f := .meth "Wind" "names") rfl), b_isinstance := He.free_ok X G (c.fact 38 (f := .free "isinstance") rfl), b_int := He.free_ok X G (c.fact 39 (f := .free "int") rfl), b_bool := He.free_ok X G (c.fact 40 (f := .free "bool") rfl), b_abs := He.free_ok X G (c.fact 41 (f := .free "abs") rfl), b_len := He.free_ok X G (c.fact 42 (f := .free "len") rfl), b_divmod := He.free_ok X G (c.fact 43 (f := .free "divmod") rfl), b_range := He.free_ok X G (c.fact 44 (f := .free "range") rfl), b_max := He.free_ok X G (c.fact 45 (f := .free "max") rfl), b_min := He.free_ok X G (c.fact 46 (f := .free "min") rfl), b_str := He.free_ok X G (c.fact 47 (f := .free "str") rfl), b_tuple := He.free_ok X G (c.fact 48 (f := .free "tuple") rfl), b_all := He.free_ok X G (c.fact 49 (f := .free "all") rfl), b_set := He.free_ok X G (c.fact 50 (f := .free "set") rfl), g_LETTERS := He.str_ok X G (c.fact 75 (f := .str "LETTERS" "abcdefghijklmnopqrstuvwxyz") rfl), g_MOST_LETTERS := He.int_ok X G (c.fact 76 (f := .int "MOST_LETTERS" 6) rfl), g_ON := He.str_ok X G (c.fact 77 (f := .str "ON" ">") rfl), g_BACK := He.str_ok X G (c.fact 78 (f := .str "BACK" "<") rfl), g_MOST_MARKS := He.int_ok X G (c.fact 79 (f := .int "MOST_MARKS" 5) rfl), g_LEAST_CORNERS := He.int_ok X G (c.fact 80 (f := .int "LEAST_CORNERS" 3) rfl), g_MOST_CORNERS := He.int_ok X G (c.fact 81 (f := .int "MOST_CORNERS" 8) rfl), g_MOST_HALVINGS := He.int_ok X G (c.fact 82 (f := .int "MOST_HALVINGS" 5) rfl), own_Turn := ownB_ok cx0, own_Rose := ownB_ok cx1, own_Wind := ownB_ok cx2 }
  obtain ⟨fd_is_whole, F0_is_whole⟩ := c.def_ 0 (d := d_is_whole) rfl
  have F_is_whole : FnP K "is_whole" s_is_whole (He.ga K "is_whole") fd_is_whole := F0_is_whole
  have g_is_whole := He.glo_ok X G (c.fact 0 (f := .glo "is_whole") rfl)
  have b_is_whole : Binds K fd_is_whole ["thing"] [] := F_is_whole.bindsN fun _ _ _ _ _ _ us hl => match us, hl with | [_], _ => rfl
  obtain ⟨fd_common, F0_common⟩ := c.def_ 1 (d := d_common) rfl
  have F_common : FnP K "common" s_common (He.ga K "common") fd_common := F0_common
  have g_common := He.glo_ok X G (c.fact 1 (f := .glo "common") rfl)
  have b_common : Binds K fd_common ["one", "other"] [] := F_common.bindsN fun _ _ _ _ _ _ us hl => match us, hl with | [_, _], _ => rfl
  obtain ⟨fd_is_word, F0_is_word⟩ := c.def_ 2 (d := d_is_word) rfl
  have F_is_word : FnP K "is_word" s_is_word (He.ga K "is_word") fd_is_word := F0_is_word
  have g_is_word := He.glo_ok X G (c.fact 2 (f := .glo "is_word") rfl)
  have b_is_word : Binds K fd_is_word ["thing"] [] := F_is_word.bindsN fun _ _ _ _ _ _ us hl => match us, hl with | [_], _ => rfl
  obtain ⟨fd_parted, F0_parted⟩ := c.def_ 3 (d := d_parted) rfl
  have F_parted : FnP K "parted" s_parted (He.ga K "parted") fd_parted := F0_parted
  have g_parted := He.glo_ok X G (c.fact 3 (f := .glo "parted") rfl)
  have b_parted : Binds K fd_parted ["text"] [] := F_parted.bindsN fun _ _ _ _ _ _ us hl => match us, hl with | [_], _ => rfl
  obtain ⟨fd_parted_within, F0_parted_within⟩ := c.def_ 4 (d := d_parted_within) rfl
  have F_parted_within : FnP K "parted_within" s_parted_within (He.ga K "parted_within") fd_parted_within := F0_parted_within
  have g_parted_within := He.glo_ok X G (c.fact 4 (f := .glo "parted_within") rfl)
  have b_parted_within : Binds K fd_parted_within ["text", "most"] [] := F_parted_within.bindsN fun _ _ _ _ _ _ us hl => match us, hl with | [_, _], _ => rfl
  obtain ⟨fd_end_of_run, F0_end_of_run⟩ := c.def_ 5 (d := d_end_of_run) rfl
  have F_end_of_run : FnP K "end_of_run" s_end_of_run (He.ga K "end_of_run") fd_end_of_run := F0_end_of_run
  have g_end_of_run := He.glo_ok X G (c.fact 5 (f := .glo "end_of_run") rfl)
  have b_end_of_run : Binds K fd_end_of_run ["text", "begin", "signs", "most"] [] := F_end_of_run.bindsN fun _ _ _ _ _ _ us hl => match us, hl with | [_, _, _, _], _ => rfl
  obtain ⟨fd_step_of, F0_step_of⟩ := c.def_ 6 (d := d_step_of) rfl
  have F_step_of : FnP K "step_of" s_step_of (He.ga K "step_of") fd_step_of := F0_step_of
  have g_step_of := He.glo_ok X G (c.fact 6 (f := .glo "step_of") rfl)
  have b_step_of : Binds K fd_step_of ["marks"] [] := F_step_of.bindsN fun _ _ _ _ _ _ us hl => match us, hl with | [_], _ => rfl
  obtain ⟨fd_marks_by, F0_marks_by⟩ := c.def_ 7 (d := d_marks_by) rfl
  have F_marks_by : FnP K "marks_by" s_marks_by (He.ga K "marks_by") fd_marks_by := F0_marks_by
  have g_marks_by := He.glo_ok X G (c.fact 7 (f := .glo "marks_by") rfl)
  have b_marks_by : Binds K fd_marks_by ["top", "many"] [] := F_marks_by.bindsN fun _ _ _ _ _ _ us hl => match us, hl with | [_, _], _ => rfl
  obtain ⟨fd_makes_marks, F0_makes_marks⟩ := c.def_ 8 (d := d_makes_marks) rfl
  have F_makes_marks : FnP K "makes_marks" s_makes_marks (He.ga K "makes_marks") fd_makes_marks := F0_makes_marks
  have g_makes_marks := He.glo_ok X G (c.fact 8 (f := .glo "makes_marks") rfl)
  have b_makes_marks : Binds K fd_makes_marks ["top", "many"] [] := F_makes_marks.bindsN fun _ _ _ _ _ _ us hl => match us, hl with | [_, _], _ => rfl
  obtain ⟨fd_must_be_turn, F0_must_be_turn⟩ := c.def_ 9 (d := d_must_be_turn) rfl
  have F_must_be_turn : FnP K "must_be_turn" s_must_be_turn (He.ga K "must_be_turn") fd_must_be_turn := F0_must_be_turn
  have g_must_be_turn := He.glo_ok X G (c.fact 9 (f := .glo "must_be_turn") rfl)
  have b_must_be_turn : Binds K fd_must_be_turn ["thing"] [] := F_must_be_turn.bindsN fun _ _ _ _ _ _ us hl => match us, hl with | [_], _ => rfl
  obtain ⟨fd_Turn_init, F0_Turn_init⟩ := c.def_ 10 (d := d_Turn_init) rfl
  have F_Turn_init : FunD K "__init__" "Turn.__init__" (defArgs s_Turn_init) (defBody s_Turn_init) (defScope s_Turn_init) [.int 1] [] (He.ma K (He.ga K "Turn") "__init__") fd_Turn_init := F0_Turn_init
  obtain ⟨fd_Turn_plus, F0_Turn_plus⟩ := c.def_ 11 (d := d_Turn_plus) rfl
  have F_Turn_plus : FnM K "plus" "Turn.plus" s_Turn_plus (He.ma K (He.ga K "Turn") "plus") fd_Turn_plus := F0_Turn_plus
  have b_Turn_plus : Binds K fd_Turn_plus ["self", "other"] [] := F_Turn_plus.bindsN fun _ _ _ _ _ _ us hl => match us, hl with | [_, _], _ => rfl
  obtain ⟨fd_Turn_minus, F0_Turn_minus⟩ := c.def_ 12 (d := d_Turn_minus) rfl
  have F_Turn_minus : FnM K "minus" "Turn.minus" s_Turn_minus (He.ma K (He.ga K "Turn") "minus") fd_Turn_minus := F0_Turn_minus
  have b_Turn_minus : Binds K fd_Turn_minus ["self", "other"] [] := F_Turn_minus.bindsN fun _ _ _ _ _ _ us hl => match us, hl with | [_, _], _ => rfl
  obtain ⟨fd_place_told, F0_place_told⟩ := c.def_ 13 (d := d_place_told) rfl
  have F_place_told : FnP K "place_told" s_place_told (He.ga K "place_told") fd_place_told := F0_place_told
  have g_place_told := He.glo_ok X G (c.fact 10 (f := .glo "place_told") rfl)
  have b_place_told : Binds K fd_place_told ["rose", "name"] [] := F_place_told.bindsN fun _ _ _ _ _ _ us hl => match us, hl with | [_, _], _ => rfl
  obtain ⟨fd_turn_at, F0_turn_at⟩ := c.def_ 14 (d := d_turn_at) rfl
  have F_turn_at : FnP K "turn_at" s_turn_at (He.ga K "turn_at") fd_turn_at := F0_turn_at
  have g_turn_at := He.glo_ok X G (c.fact 11 (f := .glo "turn_at") rfl)
  have b_turn_at : Binds K fd_turn_at ["rose", "place"] [] := F_turn_at.bindsN fun _ _ _ _ _ _ us hl => match us, hl with | [_, _], _ => rfl
  obtain ⟨fd_place_at, F0_place_at⟩ := c.def_ 15 (d := d_place_at) rfl
  have F_place_at : FnP K "place_at" s_place_at (He.ga K "place_at") fd_place_at := F0_place_at
  have g_place_at := He.glo_ok X G (c.fact 12 (f := .glo "place_at") rfl)
  have b_place_at : Binds K fd_place_at ["rose", "turn"] [] := F_place_at.bindsN fun _ _ _ _ _ _ us hl => match us, hl with | [_, _], _ => rfl
  obtain ⟨fd_names_at, F0_names_at⟩ := c.def_ 16 (d := d_names_at) rfl
  have F_names_at : FnP K "names_at" s_names_at (He.ga K "names_at") fd_names_at := F0_names_at
  have g_names_at := He.glo_ok X G (c.fact 13 (f := .glo "names_at") rfl)
  have b_names_at : Binds K fd_names_at ["rose", "place"] [] := F_names_at.bindsN fun _ _ _ _ _ _ us hl => match us, hl with | [_, _], _ => rfl
  obtain ⟨fd_lowest, F0_lowest⟩ := c.def_ 17 (d := d_lowest) rfl
  have F_lowest : FnP K "lowest" s_lowest (He.ga K "lowest") fd_lowest := F0_lowest
  have g_lowest := He.glo_ok X G (c.fact 14 (f := .glo "lowest") rfl)
  have b_lowest : Binds K fd_lowest ["top", "many"] [] := F_lowest.bindsN fun _ _ _ _ _ _ us hl => match us, hl with | [_, _], _ => rfl
  obtain ⟨fd_own_name, F0_own_name⟩ := c.def_ 18 (d := d_own_name) rfl
  have F_own_name : FnP K "own_name" s_own_name (He.ga K "own_name") fd_own_name := F0_own_name
  have g_own_name := He.glo_ok X G (c.fact 15 (f := .glo "own_name") rfl)
  have b_own_name : Binds K fd_own_name ["rose", "place"] [] := F_own_name.bindsN fun _ _ _ _ _ _ us hl => match us, hl with | [_, _], _ => rfl
  obtain ⟨fd_Rose_init, F0_Rose_init⟩ := c.def_ 19 (d := d_Rose_init) rfl
  have F_Rose_init : FunD K "__init__" "Rose.__init__" (defArgs s_Rose_init) (defBody s_Rose_init) (defScope s_Rose_init) [.int 2, .non] [] (He.ma K (He.ga K "Rose") "__init__") fd_Rose_init := F0_Rose_init
  obtain ⟨fd_Rose___len__, F0_Rose___len__⟩ := c.def_ 20 (d := d_Rose___len__) rfl
  have F_Rose___len__ : FnM K "__len__" "Rose.__len__" s_Rose___len__ (He.ma K (He.ga K "Rose") "__len__") fd_Rose___len__ := F0_Rose___len__
  have b_Rose___len__ : Binds K fd_Rose___len__ ["self"] [] := F_Rose___len__.bindsN fun _ _ _ _ _ _ us hl => match us, hl with | [_], _ => rfl
  obtain ⟨fd_Rose_told, F0_Rose_told⟩ := c.def_ 21 (d := d_Rose_told) rfl
  have F_Rose_told : FnM K "told" "Rose.told" s_Rose_told (He.ma K (He.ga K "Rose") "told") fd_Rose_told := F0_Rose_told
  have b_Rose_told : Binds K fd_Rose_told ["self", "name"] [] := F_Rose_told.bindsN fun _ _ _ _ _ _ us hl => match us, hl with | [_, _], _ => rfl
  obtain ⟨fd_are_corners, F0_are_corners⟩ := c.def_ 22 (d := d_are_corners) rfl
  have F_are_corners : FnP K "are_corners" s_are_corners (He.ga K "are_corners") fd_are_corners := F0_are_corners
  have g_are_corners := He.glo_ok X G (c.fact 16 (f := .glo "are_corners") rfl)
  have b_are_corners : Binds K fd_are_corners ["thing"] [] := F_are_corners.bindsN fun _ _ _ _ _ _ us hl => match us, hl with | [_], _ => rfl
  obtain ⟨fd_Wind_init, F0_Wind_init⟩ := c.def_ 23 (d := d_Wind_init) rfl
  have F_Wind_init : FnM K "__init__" "Wind.__init__" s_Wind_init (He.ma K (He.ga K "Wind") "__init__") fd_Wind_init := F0_Wind_init
  have b_Wind_init : Binds K fd_Wind_init ["self", "rose", "turn"] [] := F_Wind_init.bindsN fun _ _ _ _ _ _ us hl => match us, hl with | [_, _, _], _ => rfl
  obtain ⟨fd_Wind___len__, F0_Wind___len__⟩ := c.def_ 24 (d := d_Wind___len__) rfl
  have F_Wind___len__ : FnM K "__len__" "Wind.__len__" s_Wind___len__ (He.ma K (He.ga K "Wind") "__len__") fd_Wind___len__ := F0_Wind___len__
  have b_Wind___len__ : Binds K fd_Wind___len__ ["self"] [] := F_Wind___len__.bindsN fun _ _ _ _ _ _ us hl => match us, hl with | [_], _ => rfl
  obtain ⟨fd_Wind___str__, F0_Wind___str__⟩ := c.def_ 25 (d := d_Wind___str__) rfl
  have F_Wind___str__ : FnM K "__str__" "Wind.__str__" s_Wind___str__ (He.ma K (He.ga K "Wind") "__str__") fd_Wind___str__ := F0_Wind___str__
  have b_Wind___str__ : Binds K fd_Wind___str__ ["self"] [] := F_Wind___str__.bindsN fun _ _ _ _ _ _ us hl => match us, hl with | [_], _ => rfl
  obtain ⟨fd_Wind_place, F0_Wind_place⟩ := c.def_ 26 (d := d_Wind_place) rfl
  have F_Wind_place : FnM K "place" "Wind.place" s_Wind_place (He.ma K (He.ga K "Wind") "place") fd_Wind_place := F0_Wind_place
  have b_Wind_place : Binds K fd_Wind_place ["self"] [] := F_Wind_place.bindsN fun _ _ _ _ _ _ us hl => match us, hl with | [_], _ => rfl
  obtain ⟨fd_Wind_names, F0_Wind_names⟩ := c.def_ 27 (d := d_Wind_names) rfl
  have F_Wind_names : FnM K "names" "Wind.names" s_Wind_names (He.ma K (He.ga K "Wind") "names") fd_Wind_names := F0_Wind_names
  have b_Wind_names : Binds K fd_Wind_names ["self"] [] := F_Wind_names.bindsN fun _ _ _ _ _ _ us hl => match us, hl with | [_], _ => rfl
  obtain ⟨fd_wind_at, F0_wind_at⟩ := c.def_ 28 (d := d_wind_at) rfl
  have F_wind_at : FnP K "wind_at" s_wind_at (He.ga K "wind_at") fd_wind_at := F0_wind_at
  have g_wind_at := He.glo_ok X G (c.fact 17 (f := .glo "wind_at") rfl)
  have b_wind_at : Binds K fd_wind_at ["rose", "place"] [] := F_wind_at.bindsN fun _ _ _ _ _ _ us hl => match us, hl with | [_, _], _ => rfl
  obtain ⟨fd_wind_of, F0_wind_of⟩ := c.def_ 29 (d := d_wind_of) rfl
  have F_wind_of : FnP K "wind_of" s_wind_of (He.ga K "wind_of") fd_wind_of := F0_wind_of
  have g_wind_of := He.glo_ok X G (c.fact 18 (f := .glo "wind_of") rfl)
  have b_wind_of : Binds K fd_wind_of ["rose", "name"] [] := F_wind_of.bindsN fun _ _ _ _ _ _ us hl => match us, hl with | [_, _], _ => rfl
  obtain ⟨fd_l_cell, F0_l_cell⟩ := c.def_ 30 (d := d_l_cell) rfl
  have F_l_cell : FnP K "_law_cell" s_l_cell (He.ga K "_law_cell") fd_l_cell := F0_l_cell
  have g_l_cell := He.glo_ok X G (c.fact 19 (f := .glo "_law_cell") rfl)
  have b_l_cell : Binds K fd_l_cell ["_law_script", "_law_k"] [] := F_l_cell.bindsN fun _ _ _ _ _ _ us hl => match us, hl with | [_, _], _ => rfl
  obtain ⟨fd_l_pool, F0_l_pool⟩ := c.def_ 31 (d := d_l_pool) rfl
  have F_l_pool : FnP K "_law_pool" s_l_pool (He.ga K "_law_pool") fd_l_pool := F0_l_pool
  have g_l_pool := He.glo_ok X G (c.fact 20 (f := .glo "_law_pool") rfl)
  have b_l_pool : Binds K fd_l_pool ["_law_cell_here"] [] := F_l_pool.bindsN fun _ _ _ _ _ _ us hl => match us, hl with | [_], _ => rfl
  obtain ⟨fd_l_take, F0_l_take⟩ := c.def_ 32 (d := d_l_take) rfl
  have F_l_take : FnP K "_law_take" s_l_take (He.ga K "_law_take") fd_l_take := F0_l_take
  have g_l_take := He.glo_ok X G (c.fact 21 (f := .glo "_law_take") rfl)
  have b_l_take : Binds K fd_l_take ["_law_pool_here", "_law_many"] [] := F_l_take.bindsN fun _ _ _ _ _ _ us hl => match us, hl with | [_, _], _ => rfl
  obtain ⟨fd_l_low, F0_l_low⟩ := c.def_ 33 (d := d_l_low) rfl
  have F_l_low : FnP K "_law_low" s_l_low (He.ga K "_law_low") fd_l_low := F0_l_low
  have g_l_low := He.glo_ok X G (c.fact 22 (f := .glo "_law_low") rfl)
  have b_l_low : Binds K fd_l_low ["_law_top", "_law_bottom"] [] := F_l_low.bindsN fun _ _ _ _ _ _ us hl => match us, hl with | [_, _], _ => rfl
  obtain ⟨fd_l_part, F0_l_part⟩ := c.def_ 34 (d := d_l_part) rfl
  have F_l_part : FnP K "_law_part" s_l_part (He.ga K "_law_part") fd_l_part := F0_l_part
  have g_l_part := He.glo_ok X G (c.fact 23 (f := .glo "_law_part") rfl)
  have b_l_part : Binds K fd_l_part ["_law_top", "_law_bottom"] [] := F_l_part.bindsN fun _ _ _ _ _ _ us hl => match us, hl with | [_, _], _ => rfl
  obtain ⟨fd_l_on, F0_l_on⟩ := c.def_ 35 (d := d_l_on) rfl
  have F_l_on : FnP K "_law_on" s_l_on (He.ga K "_law_on") fd_l_on := F0_l_on
  have g_l_on := He.glo_ok X G (c.fact 24 (f := .glo "_law_on") rfl)
  have b_l_on : Binds K fd_l_on ["_law_one", "_law_other"] [] := F_l_on.bindsN fun _ _ _ _ _ _ us hl => match us, hl with | [_, _], _ => rfl
  obtain ⟨fd_l_words, F0_l_words⟩ := c.def_ 36 (d := d_l_words) rfl
  have F_l_words : FnP K "_law_words" s_l_words (He.ga K "_law_words") fd_l_words := F0_l_words
  have g_l_words := He.glo_ok X G (c.fact 25 (f := .glo "_law_words") rfl)
  have b_l_words : Binds K fd_l_words ["_law_pool_here", "_law_many"] [] := F_l_words.bindsN fun _ _ _ _ _ _ us hl => match us, hl with | [_, _], _ => rfl
  obtain ⟨fd_l_power, F0_l_power⟩ := c.def_ 37 (d := d_l_power) rfl
  have F_l_power : FnP K "_law_power" s_l_power (He.ga K "_law_power") fd_l_power := F0_l_power
  have g_l_power := He.glo_ok X G (c.fact 26 (f := .glo "_law_power") rfl)
  have b_l_power : Binds K fd_l_power ["_law_many"] [] := F_l_power.bindsN fun _ _ _ _ _ _ us hl => match us, hl with | [_], _ => rfl
  obtain ⟨fd_l_begin, F0_l_begin⟩ := c.def_ 38 (d := d_l_begin) rfl
  have F_l_begin : FnP K "_law_begin" s_l_begin (He.ga K "_law_begin") fd_l_begin := F0_l_begin
  have g_l_begin := He.glo_ok X G (c.fact 27 (f := .glo "_law_begin") rfl)
  have b_l_begin : Binds K fd_l_begin ["_law_pool_here"] [] := F_l_begin.bindsN fun _ _ _ _ _ _ us hl => match us, hl with | [_], _ => rfl
  obtain ⟨fd_l_rose, F0_l_rose⟩ := c.def_ 39 (d := d_l_rose) rfl
  have F_l_rose : FnP K "_law_rose" s_l_rose (He.ga K "_law_rose") fd_l_rose := F0_l_rose
  have g_l_rose := He.glo_ok X G (c.fact 28 (f := .glo "_law_rose") rfl)
  have b_l_rose : Binds K fd_l_rose ["_law_pool_here", "_law_most"] [] := F_l_rose.bindsN fun _ _ _ _ _ _ us hl => match us, hl with | [_, _], _ => rfl
  obtain ⟨fd_l_size_of, F0_l_size_of⟩ := c.def_ 40 (d := d_l_size_of) rfl
  have F_l_size_of : FnP K "_law_size_of" s_l_size_of (He.ga K "_law_size_of") fd_l_size_of := F0_l_size_of
  have g_l_size_of := He.glo_ok X G (c.fact 29 (f := .glo "_law_size_of") rfl)
  have b_l_size_of : Binds K fd_l_size_of ["_law_rose_here"] [] := F_l_size_of.bindsN fun _ _ _ _ _ _ us hl => match us, hl with | [_], _ => rfl
  obtain ⟨fd_l_turn_of, F0_l_turn_of⟩ := c.def_ 41 (d := d_l_turn_of) rfl
  have F_l_turn_of : FnP K "_law_turn_of" s_l_turn_of (He.ga K "_law_turn_of") fd_l_turn_of := F0_l_turn_of
  have g_l_turn_of := He.glo_ok X G (c.fact 30 (f := .glo "_law_turn_of") rfl)
  have b_l_turn_of : Binds K fd_l_turn_of ["_law_rose_here", "_law_place"] [] := F_l_turn_of.bindsN fun _ _ _ _ _ _ us hl => match us, hl with | [_, _], _ => rfl
  obtain ⟨fd_l_marks, F0_l_marks⟩ := c.def_ 42 (d := d_l_marks) rfl
  have F_l_marks : FnP K "_law_marks" s_l_marks (He.ga K "_law_marks") fd_l_marks := F0_l_marks
  have g_l_marks := He.glo_ok X G (c.fact 31 (f := .glo "_law_marks") rfl)
  have b_l_marks : Binds K fd_l_marks ["_law_top", "_law_many"] [] := F_l_marks.bindsN fun _ _ _ _ _ _ us hl => match us, hl with | [_, _], _ => rfl
  obtain ⟨fd_l_names_of, F0_l_names_of⟩ := c.def_ 43 (d := d_l_names_of) rfl
  have F_l_names_of : FnP K "_law_names_of" s_l_names_of (He.ga K "_law_names_of") fd_l_names_of := F0_l_names_of
  have g_l_names_of := He.glo_ok X G (c.fact 32 (f := .glo "_law_names_of") rfl)
  have b_l_names_of : Binds K fd_l_names_of ["_law_rose_here", "_law_place"] [] := F_l_names_of.bindsN fun _ _ _ _ _ _ us hl => match us, hl with | [_, _], _ => rfl
  obtain ⟨fd_l_house, F0_l_house⟩ := c.def_ 44 (d := d_l_house) rfl
  have F_l_house : FnP K "_law_house" s_l_house (He.ga K "_law_house") fd_l_house := F0_l_house
  have g_l_house := He.glo_ok X G (c.fact 33 (f := .glo "_law_house") rfl)
  have b_l_house : Binds K fd_l_house ["_law_rose_here"] [] := F_l_house.bindsN fun _ _ _ _ _ _ us hl => match us, hl with | [_], _ => rfl
  obtain ⟨fd_l_whole, F0_l_whole⟩ := c.def_ 45 (d := d_l_whole) rfl
  have F_l_whole : FnP K "_law_whole" s_l_whole (He.ga K "_law_whole") fd_l_whole := F0_l_whole
  have g_l_whole := He.glo_ok X G (c.fact 34 (f := .glo "_law_whole") rfl)
  have b_l_whole : Binds K fd_l_whole ["_law_thing"] [] := F_l_whole.bindsN fun _ _ _ _ _ _ us hl => match us, hl with | [_], _ => rfl
  obtain ⟨fd_l_is_turn, F0_l_is_turn⟩ := c.def_ 46 (d := d_l_is_turn) rfl
  have F_l_is_turn : FnP K "_law_is_turn" s_l_is_turn (He.ga K "_law_is_turn") fd_l_is_turn := F0_l_is_turn
  have g_l_is_turn := He.glo_ok X G (c.fact 35 (f := .glo "_law_is_turn") rfl)
  have b_l_is_turn : Binds K fd_l_is_turn ["_law_thing", "_law_due"] [] := F_l_is_turn.bindsN fun _ _ _ _ _ _ us hl => match us, hl with | [_, _], _ => rfl
  obtain ⟨fd_l_right, F0_l_right⟩ := c.def_ 47 (d := d_l_right) rfl
  have F_l_right : FnP K "_law_right" s_l_right (He.ga K "_law_right") fd_l_right := F0_l_right
  have g_l_right := He.glo_ok X G (c.fact 36 (f := .glo "_law_right") rfl)
  have b_l_right : Binds K fd_l_right ["_law_rose_here", "_law_house_here", "_law_place"] [] := F_l_right.bindsN fun _ _ _ _ _ _ us hl => match us, hl with | [_, _, _], _ => rfl
  obtain ⟨fd_law, F0_law⟩ := c.def_ 48 (d := d_law) rfl
  have F_law : FnP K "law" s_law (He.ga K "law") fd_law := F0_law
  have g_law := He.glo_ok X G (c.fact 37 (f := .glo "law") rfl)
  have e := hfa.symm.trans g_law
  cases e
  have bl := FunD.bindsA (ps := ["_law_script"]) F_law fun _ _ _ _ _ _ us hl => match us, hl with | [_], _ => rfl
  refine ⟨fd_law, fun s v => bl s [v] rfl, fun base _ _ => ?_⟩
  obtain ⟨d3, v3, b3⟩ := F_Turn_init.binds1 (ps := ["self", "top", "bottom"]) 3 1 (by simp) rfl fun T kV doc pm an cdv ct us its h1 h2 => match us, its, h1, h2 with | [_, _, _], [_], _, _ => ⟨_, rfl, rfl⟩
  obtain ⟨d2, v2, b2⟩ := F_Turn_init.binds1 (ps := ["self", "top", "bottom"]) 2 0 (by simp) rfl fun T kV doc pm an cdv ct us its h1 h2 => match us, its, h1, h2 with | [_, _], [_], _, _ => ⟨_, rfl, rfl⟩
  obtain ⟨its, kb⟩ := F_Turn_init.kbindsD (ps := ["self", "top", "bottom"]) 2 ["bottom"] (fun us _ ws => us ++ ws) (by simp) (fun a _ b => a.append b) fun T kV doc pm an cdv ct us its ws h1 h2 h3 => match us, its, ws, h1, h2, h3 with | [_, _], [_], [_], _, _, _ => ⟨_, rfl, rfl⟩
  have e3 : d3 = [] := by
    cases v3
    rfl
  subst e3
  obtain ⟨d4, v4, b4⟩ := F_Rose_init.binds1 (ps := ["self", "words", "halvings", "begin"]) 4 2 (by simp) rfl fun T kV doc pm an cdv ct us its h1 h2 => match us, its, h1, h2 with | [_, _, _, _], [_, _], _, _ => ⟨_, rfl, rfl⟩
  have e4 : d4 = [] := by
    cases v4
    rfl
  subst e4
  have D1 : Dn P w K mg base 1 "is_whole" ["thing"] sp_is_whole := ⟨_, _, ok_is_whole F_is_whole T, g_is_whole, F_is_whole.kp, b_is_whole⟩
  have D2 : Dn P w K mg base 1 "common" ["one", "other"] sp_common := ⟨_, _, ok_common F_common T, g_common, F_common.kp, b_common⟩
  have D3 : Dn P w K mg base 1 "must_be_turn" ["thing"] (sp_must (He.ga K "Turn")) := ⟨_, _, ok_must F_must_be_turn T, g_must_be_turn, F_must_be_turn.kp, b_must_be_turn⟩
  have TC : Tc P w K mg base := ⟨_, ok_init F_Turn_init T D1 D2, b3, ⟨d2, v2, b2⟩, its, kb⟩
  have Gp := ok_plus (base := base) F_Turn_plus T D3 TC
  have Gm := ok_minus (base := base) F_Turn_minus T D3 TC
  have Er : Dn P w K mg base 1 "end_of_run" ["text", "begin", "signs", "most"] sp_run := ⟨_, _, ok_run F_end_of_run T, g_end_of_run, F_end_of_run.kp, b_end_of_run⟩
  have Iw : Dn P w K mg base 2 "is_word" ["thing"] sp_isword := ⟨_, _, ok_isword F_is_word T Er, g_is_word, F_is_word.kp, b_is_word⟩
  have Pw : Dn P w K mg base 2 "parted_within" ["text", "most"] sp_pw := ⟨_, _, ok_pw F_parted_within T Er, g_parted_within, F_parted_within.kp, b_parted_within⟩
  have Pt : Dn P w K mg base 3 "parted" ["text"] sp_parted := ⟨_, _, ok_parted F_parted T Pw, g_parted, F_parted.kp, b_parted⟩
  have So : Dn P w K mg base 1 "step_of" ["marks"] sp_step := ⟨_, _, ok_step F_step_of T, g_step_of, F_step_of.kp, b_step_of⟩
  have Mm : Dn P w K mg base 2 "makes_marks" ["top", "many"] sp_makes0 := ⟨_, _, ok_makes0 F_makes_marks T D1, g_makes_marks, F_makes_marks.kp, b_makes_marks⟩
  have Mb : Dn P w K mg base 3 "marks_by" ["top", "many"] sp_marks0 := ⟨_, _, ok_marks0 F_marks_by T Mm, g_marks_by, F_marks_by.kp, b_marks_by⟩
  have Co : Dn P w K mg base 3 "are_corners" ["thing"] sp_corners := ⟨_, _, ok_corners F_are_corners T Iw, g_are_corners, F_are_corners.kp, b_are_corners⟩
  have RC : Rc P w K mg base := ⟨_, ok_rinit F_Rose_init T D1 Co TC, b4⟩
  have Gl := ok_rlen (P := P) (w := w) (base := base) F_Rose___len__ T
  have Pd : Dn P w K mg base 4 "place_told" ["rose", "name"] (sp_ptold K) := ⟨_, _, ok_ptold F_place_told T Pw So Gl b_Rose___len__, g_place_told, F_place_told.kp, b_place_told⟩
  have Ta : Dn P w K mg base 5 "turn_at" ["rose", "place"] (sp_tat K) := ⟨_, _, ok_tat F_turn_at T TC Gp b_Turn_plus Gl b_Rose___len__, g_turn_at, F_turn_at.kp, b_turn_at⟩
  have Pa : Dn P w K mg base 5 "place_at" ["rose", "turn"] (sp_pat K) := ⟨_, _, ok_pat F_place_at T Gm b_Turn_minus Gl b_Rose___len__, g_place_at, F_place_at.kp, b_place_at⟩
  have Lo : Dn P w K mg base 1 "lowest" ["top", "many"] sp_low2 := ⟨_, _, ok_lowest F_lowest T, g_lowest, F_lowest.kp, b_lowest⟩
  have Na : Dn P w K mg base 4 "names_at" ["rose", "place"] (sp_nat K) := ⟨_, _, ok_nat F_names_at T Lo Mb, g_names_at, F_names_at.kp, b_names_at⟩
  have On : Dn P w K mg base 5 "own_name" ["rose", "place"] (sp_own K) := ⟨_, _, ok_own F_own_name T Na, g_own_name, F_own_name.kp, b_own_name⟩
  have Gt := ok_rtold (base := base) F_Rose_told T Ta Pd
  have WC : Wc P w K mg base := ⟨_, ok_winit F_Wind_init T Pa, b_Wind_init⟩
  have Gwp := ok_wplace (base := base) F_Wind_place T Pa
  have Gwn := ok_wnames (base := base) F_Wind_names T Na Gwp b_Wind_place
  have Gws := ok_wstr (base := base) F_Wind___str__ T On Gwp b_Wind_place
  have Gwl := ok_wlen (base := base) F_Wind___len__ T Pt Gws b_Wind___str__
  have Wa : Dn P w K mg base 8 "wind_at" ["rose", "place"] (sp_wat K) := ⟨_, _, ok_wat F_wind_at T WC Ta, g_wind_at, F_wind_at.kp, b_wind_at⟩
  have Wo : Dn P w K mg base 9 "wind_of" ["rose", "name"] (sp_wof K) := ⟨_, _, ok_wof F_wind_of T Wa Pd, g_wind_of, F_wind_of.kp, b_wind_of⟩
  have Lc : Dn P w K mg base 1 "_law_cell" ["_law_script", "_law_k"] (sp_cell K) := ⟨_, _, ok_cell F_l_cell T, g_l_cell, F_l_cell.kp, b_l_cell⟩
  have Lp : Dn P w K mg base 1 "_law_pool" ["_law_cell_here"] sp_pool := ⟨_, _, ok_pool F_l_pool T, g_l_pool, F_l_pool.kp, b_l_pool⟩
  have Lt : Dn P w K mg base 1 "_law_take" ["_law_pool_here", "_law_many"] sp_take := ⟨_, _, ok_take F_l_take T, g_l_take, F_l_take.kp, b_l_take⟩
  have Ll : Dn P w K mg base 1 "_law_low" ["_law_top", "_law_bottom"] sp_low := ⟨_, _, ok_low F_l_low T, g_l_low, F_l_low.kp, b_l_low⟩
  have La : Dn P w K mg base 2 "_law_part" ["_law_top", "_law_bottom"] sp_part := ⟨_, _, ok_part F_l_part T Ll, g_l_part, F_l_part.kp, b_l_part⟩
  have Lon : Dn P w K mg base 3 "_law_on" ["_law_one", "_law_other"] (sp_pair Tn.on) := ⟨_, _, ok_on F_l_on T La, g_l_on, F_l_on.kp, b_l_on⟩
  have Lw : Dn P w K mg base 2 "_law_words" ["_law_pool_here", "_law_many"] sp_words := ⟨_, _, ok_words F_l_words T Lt, g_l_words, F_l_words.kp, b_l_words⟩
  have Lpw : Dn P w K mg base 1 "_law_power" ["_law_many"] sp_power := ⟨_, _, ok_power F_l_power T, g_l_power, F_l_power.kp, b_l_power⟩
  have Lb : Dn P w K mg base 3 "_law_begin" ["_law_pool_here"] sp_begin := ⟨_, _, ok_begin F_l_begin T Lt La, g_l_begin, F_l_begin.kp, b_l_begin⟩
  have Lr : Dn P w K mg base 4 "_law_rose" ["_law_pool_here", "_law_most"] sp_lrose := ⟨_, _, ok_lrose F_l_rose T Lt Lw Lpw Lb, g_l_rose, F_l_rose.kp, b_l_rose⟩
  have Ls : Dn P w K mg base 2 "_law_size_of" ["_law_rose_here"] sp_lsize := ⟨_, _, ok_lsize F_l_size_of T Lpw, g_l_size_of, F_l_size_of.kp, b_l_size_of⟩
  have Ltu : Dn P w K mg base 4 "_law_turn_of" ["_law_rose_here", "_law_place"] sp_lturn := ⟨_, _, ok_lturn F_l_turn_of T Ls La Lon, g_l_turn_of, F_l_turn_of.kp, b_l_turn_of⟩
  have Lm : Dn P w K mg base 2 "_law_marks" ["_law_top", "_law_many"] sp_lmarks := ⟨_, _, ok_lmarks F_l_marks T Lpw, g_l_marks, F_l_marks.kp, b_l_marks⟩
  have Ln : Dn P w K mg base 3 "_law_names_of" ["_law_rose_here", "_law_place"] sp_lnames := ⟨_, _, ok_lnames F_l_names_of T Lpw Lm, g_l_names_of, F_l_names_of.kp, b_l_names_of⟩
  have Lh : Dn P w K mg base 6 "_law_house" ["_law_rose_here"] (sp_house K) := ⟨_, _, ok_house F_l_house T TC RC, g_l_house, F_l_house.kp, b_l_house⟩
  have Lwh : Dn P w K mg base 1 "_law_whole" ["_law_thing"] sp_is_whole := ⟨_, _, ok_lwhole F_l_whole T, g_l_whole, F_l_whole.kp, b_l_whole⟩
  have Lit : Dn P w K mg base 2 "_law_is_turn" ["_law_thing", "_law_due"] (sp_isturn (He.ga K "Turn")) := ⟨_, _, ok_isturn F_l_is_turn T Lwh, g_l_is_turn, F_l_is_turn.kp, b_l_is_turn⟩
  have Lri : Dn P w K mg base 14 "_law_right" ["_law_rose_here", "_law_house_here", "_law_place"] (sp_right K) := ⟨_, _, ok_right F_l_right T TC WC Ln Ltu Lwh Lit Wo Gwp b_Wind_place Gwn b_Wind_names Gws b_Wind___str__ Gwl b_Wind___len__ Gt b_Rose_told, g_l_right, F_l_right.kp, b_l_right⟩
  exact ok_law F_law T Lc Lp Lt Lr Lh Ls Lri
end K09
open PySem PySem.W PySem.Calls PyProof.Rows
set_option maxRecDepth 100000 in
set_option maxHeartbeats 0 in
theorem PySem.Challenge.cw_rosenames_k09_names_of_winds_holds : PySem.Challenge.rw_rosenames_k09_names_of_winds.Holds := by
  w_on; o_law
  refine HandSHeadRun.head_any (r := OpenLaw.row PySem.Challenge.rw_rosenames_k09_names_of_winds) (q := view (OpenLaw.row PySem.Challenge.rw_rosenames_k09_names_of_winds).prog [68]) (H := K09.hk) (ob := K09.ob) (M := 6000) (loose := K09.names) (d := HandSHeadRun.topDef (OpenLaw.row PySem.Challenge.rw_rosenames_k09_names_of_winds).prog 68) (kwd := []) K09.ob_eq
    (by kernel_rfl) (fun s => by kernel_rfl) K09.run (by kernel_rfl) (by kernel_rfl) (by kernel_rfl) (by rfl) (by first | assumption | decide +kernel) (by decide +kernel) ⟨rfl, rfl, rfl, rfl, rfl, by decide +kernel⟩ ?hw ?hc
  case hw => w_witness2
  case hc =>
    refine L2.walk_ofE (l := PySem.Challenge.rw_rosenames_k09_names_of_winds) (n := 63) (k := 15) (x := "_law_script") (CX := L2.CX0) rfl (by decide) (by kernel_rfl) ⟨rfl, by decide, by decide⟩ ?F (fun _ _ _ _ z => z)
    intro w mg fa h Y G hmg0
    obtain ⟨K, KX, c, cx⟩ := Y
    have hmg : mg ("law" : PySem.Str) = some (.ref fa) := by
      have e : (HandSHeadRun.topDef (OpenLaw.row PySem.Challenge.rw_rosenames_k09_names_of_winds).prog 68).name = ("law" : PySem.Str) := by kernel_rfl
      rw [← e]
      exact hmg0
    obtain ⟨fd, hb, hF⟩ := K09.facts (P := (PySem.Challenge.rw_rosenames_k09_names_of_winds).prog) (w := w) KX G hmg c cx
    exact ⟨K, fd, K09.sp_law K, KX, hb, fun H a ns hl _ hS => ⟨a, ns, rfl, hS, hl, fun _ => rfl⟩, hF⟩

