import PyProof.Rows.All
import Wide.All
import OpenK.AllK
import Wide.FinOn
import KE.KStateDown
import HandS.ForMost
import HandS.Exc
import HandS.Defaults
import HandS.MakeKw
import HandS.IsInst
import HandS.Wide
import HandS.WideBits
import HandS.Evl
import HandS.WordsExc
import HandS.Head0
import HandS.Head1
import HandS.Head2
import HandS.HeadEnd
import HandS.HeadHook1
import HandS.HeadHook2
import KE.KExcIs
import HandS.ExcInit
import HandS.Iter
import PyProof.EnumMake
import PyProof.Draws
import PyProof.StrOps2
import HandS.Zip
import HandS.SetFor
import HandS.WideMore
import HandS.DictComp
import PyProof.Rows.CountFlat
import HandS.EndBits
import KE.KFmtOwn
import PyProof.InstNe
import HandS.OwnEq
import HandS.More
import HandS.SlotsOwn
import HandS.FStr
import HandS.Style
import PyProof.FString3
import PyProof.Rows.StrIntSpec
import HandS.Text
import PySem.Challenge.RW_rosenames_k02_turns_compared_and_shown
set_option Elab.async false
set_option linter.all false
set_option maxRecDepth 100000
set_option maxHeartbeats 0
/-! The head's Hook with one Bool more; a def by its name; what an own class needs for isinstance. -/
namespace L2
open PySem PySem.Spec PyProof.Rows
/-- what the module's names reach, and the cell of the statics -/
def asN (g : Addr → Option Obj) (n : Nat) : List Addr := cStatics :: He.asD g n
def hookM (n : Nat) (fa : List He.Fa) (fn : List He.DefD) (ex : PySem.W.Frag → Bool) : PySem.W.Hook where
  α := He.AlD × Bool
  obs := fun s => (He.obsD fa fn (He.frG s.heap.get? (asN s.heap.get? n)), ex (He.frG s.heap.get? (asN s.heap.get? n)))
  val := fun _ => (He.valD fn, true)
  says := fun _ h => ∃ K : PySem.W.Frag, K.In h ∧ He.SaysD fa fn K ∧ ex K = true
  of := fun _ _ e => ⟨_, He.frG_in, congrArg (fun z : He.AlD × Bool => z.1) e, congrArg (fun z : He.AlD × Bool => z.2) e⟩
  keeps := fun _ _ _ ⟨K, hK, c⟩ k => ⟨K, PySem.W.Frag.In.keeps hK k, c⟩
/-- isinstance of an own class's instances -/
structure IsC (K : PySem.W.Frag) (C : Addr) : Prop where
  ha : PySem.W.findIn K (.ref C) "__class__" = some (some (.builtin "object.__class__"))
  hn : PySem.W.specialIn K (.builtin "object.__class__") "__get__" = some (some (.builtin "getset_descriptor.__get__"))
  htk : PySem.W.takesIn K (.builtin "object.__class__") = some true
  hm : PySem.W.mroIn K C (.type "object") = some true
def tyB (K : PySem.W.Frag) (x : Str) : Bool :=
  He.eqO (PySem.W.findIn K (.ref (He.ga K x)) "__class__") (some (some (.builtin "object.__class__"))) &&
  (He.eqO (PySem.W.specialIn K (.builtin "object.__class__") "__get__") (some (some (.builtin "getset_descriptor.__get__"))) &&
  (decide (PySem.W.takesIn K (.builtin "object.__class__") = some true) && decide (PySem.W.mroIn K (He.ga K x) (.type "object") = some true)))
theorem tyB_ok {K : PySem.W.Frag} {x : Str} (h : tyB K x = true) : IsC K (He.ga K x) := by
  obtain ⟨h1, h⟩ := He.ba h
  obtain ⟨h2, h⟩ := He.ba h
  obtain ⟨h3, h4⟩ := He.ba h
  exact ⟨He.eqO_ok h1, He.eqO_ok h2, of_decide_eq_true h3, of_decide_eq_true h4⟩
/-- a def of the module by its name: where it stands, what it promises, how it binds -/
structure Dn (P : Program) (w : World) (K : PySem.W.Frag) (mg : Str → Option Value) (base : Heap) (k : Nat) (x : Str) (ps : List Str) (sp : Sp) : Prop where
  ex : ∃ (f : Addr) (fd : FuncData), FnOk P w K mg base CX0 k f fd ps sp ∧ mg x = some (.ref f) ∧ PySem.W.keepIn K (.ref f) = true ∧ Binds K fd ps []
section
variable {X : Cx} {k : Nat} {x : Str} {ps : List Str} {sp : Sp} {e : Expr} {es : List Expr} {t : TA} {p pos : Pos}
theorem pe_cd (D : Dn X.prog X.w X.K X.mg X.base k x ps sp) (hr : Room k X.A) (hg : Gl X x) (ha : PA X (e :: es) t) (hdb : (x == ("__debug__" : Str)) = false := by decide)
    (he : starEach (e :: es) X.env = (false, eval e X.env) :: starEach es X.env := by rfl) (hpl : (backTo pos (starEach es X.env)).any (·.1) = false := by rfl) :
    PE X (.Call (.Name x p) (e :: es) [] pos) (tCall sp [] E0 t) := by
  obtain ⟨f, fd, F, m, kp, b⟩ := D.ex
  exact pe_call F hr hg m kp b .nil pass0 ha hdb he hpl
theorem pe_cd0 (D : Dn X.prog X.w X.K X.mg X.base k x ps sp) (hr : Room k X.A) (hg : Gl X x) (hdb : (x == ("__debug__" : Str)) = false := by decide) :
    PE X (.Call (.Name x p) [] [] pos) (tCall sp [] E0 tNil) := by
  obtain ⟨f, fd, F, m, kp, b⟩ := D.ex
  exact pe_call0 F hr hg m kp b .nil pass0 hdb
end
end L2
/-! More of what evaluates to what (heaps that only grow), and heaps that change at one place. -/
namespace L2
open PySem PySem.Spec PyProof.Rows Evl
/-- all but what stands at p is as it was -/
def But (p : Addr) (H H' : Hp) : Prop := ∀ b o, b ≠ p → H b = some o → H' b = some o
theorem But.refl {p : Addr} (H : Hp) : But p H H := fun _ _ _ h => h
theorem But.trans {p : Addr} {H H1 H2 : Hp} (a : But p H H1) (b : But p H1 H2) : But p H H2 := fun c o n h => b c o n (a c o n h)
theorem But.ex {p : Addr} {H H' : Hp} (e : Ex H H') : But p H H' := fun b o _ h => e b o h
theorem But.upd {p : Addr} {H : Hp} {o : HO} : But p H (upd H p o) := fun b u n h => by
  rw [upd_ne n]
  exact h
/-- what p is not known to H: then it is an extension -/
theorem But.new {p : Addr} {H H' : Hp} (e : But p H H') (h : H p = none) : Ex H H' := fun b o q => e b o (ne_of_none q h) q
section
variable {K : PySem.W.Frag} {σ : L2.St} {H H' : Hp} {ta tb te : TE} {x y z v : V}
theorem ev_fld {a C dx : Addr} {fs : List (Str × V)} {f : Str} (h : Ev ta σ H (.ref a)) (ho : H a = some (.ins C dx fs)) (hc : Cls K C) (hn : NoAttr K C f) (hl : fs.lookup f = some v) : Ev (tFld K ta f) σ H v :=
  fun H1 e Q q => h H1 e _ fun H2 e2 => ⟨a, C, dx, fs, v, rfl, (e.trans e2) _ _ ho, hc, hn, hl, q H2 e2⟩
theorem rc_isi {x c : V} {t u : Value} {b : Bool} (hc : ClsV c u) (hx : ∀ H1, Ex H H1 → TyX K H1 x t) (hk : PySem.W.kitOne K t u = some b) : RC (rIsi K) [x, c] H (.bl b) :=
  fun H1 e Q q => ⟨x, c, t, u, b, rfl, hc, hx H1 e, hk, q H1 (Ex.refl _)⟩
theorem rc_isiI {i : Int} : RC (rIsi K) [.int i, .ty "int"] H (.bl true) := rc_isi (.ty "int") (fun _ _ => .base (.int i)) (kit_ty (by decide +kernel))
theorem rc_isiB {i : Int} : RC (rIsi K) [.int i, .ty "bool"] H (.bl false) := rc_isi (.ty "bool") (fun _ _ => .base (.int i)) (kit_ty (by decide +kernel))
theorem kit_self {t : Value} : PySem.W.kitOne K t t = some true := by
  unfold PySem.W.kitOne
  rw [if_pos (beq_self_eq_true t)]
theorem rc_isiC {a C dx : Addr} {fs : List (Str × V)} (ho : H a = some (.ins C dx fs)) (hc : Cls K C) (hi : IsC K C) : RC (rIsi K) [.ref a, .ref C] H (.bl true) :=
  rc_isi (.own C) (fun _ e => .base (.ins (e _ _ ho) hc hi.ha hi.hn hi.htk hi.hm)) kit_self
def rAbs : List V → Hp → VK → Prop := fun xs H Q => ∃ i, xs = [.int i] ∧ Q (.int (if i < 0 then -i else i)) H
theorem rc_abs {i : Int} : RC (fun xs H Q => ∃ i, xs = [.int i] ∧ Q (.int (if i < 0 then -i else i)) H) [.int i] H (.int (i.natAbs : Int)) := fun H1 _ Q q => ⟨i, rfl, by
  have e : (if i < 0 then -i else i) = (i.natAbs : Int) := by
    by_cases h : i < 0
    · rw [if_pos h]
      omega
    · rw [if_neg h]
      omega
  rw [e]
  exact q H1 (Ex.refl _)⟩
/-- tuples' items by a written place -/
theorem ev_ixT {p : Addr} {xs : List V} {j : Nat} (h : Ev ta σ H (.ref p)) (hs : H p = some (.tup xs)) (hj : xs[j]? = some v) : Ev (tOp (rIxT K) ta (tC (.int (j : Int)))) σ H v :=
  ev_op h ev_c (rv_ixT (st_of hs) (atI_nat hj))
theorem ev_mulW {i j : Int} {n m : Nat} (ha : Ev ta σ H (.int i)) (hb : Ev tb σ H (.int j)) (hi : i.natAbs < 2 ^ n) (hj : j.natAbs < 2 ^ m) (h0 : 0 < n := by decide) (h1 : 0 < m := by decide) (h : n + m ≤ 1000000 := by decide) :
    Ev (tOp (rI CMulW fun i j => .int (i * j)) ta tb) σ H (.int (i * j)) := ev_op ha hb (rv_I (wide_mul hi hj h0 h1 h))
theorem ev_mul {i j : Int} (ha : Ev ta σ H (.int i)) (hb : Ev tb σ H (.int j)) (h : CMul i j) : Ev (tOp (rI CMul fun i j => .int (i * j)) ta tb) σ H (.int (i * j)) := ev_op ha hb (rv_I h)
theorem ev_add {i j : Int} (ha : Ev ta σ H (.int i)) (hb : Ev tb σ H (.int j)) : Ev (tOp (rI0 fun i j => .int (i + j)) ta tb) σ H (.int (i + j)) := ev_op ha hb rv_I0
theorem ev_sub {i j : Int} (ha : Ev ta σ H (.int i)) (hb : Ev tb σ H (.int j)) : Ev (tOp (rI0 fun i j => .int (i - j)) ta tb) σ H (.int (i - j)) := ev_op ha hb rv_I0
theorem ev_mod {i j : Int} (ha : Ev ta σ H (.int i)) (hb : Ev tb σ H (.int j)) (h : 0 < j) : Ev (tOp (rI (fun _ j => 0 < j) fun i j => .int (i % j)) ta tb) σ H (.int (i % j)) := ev_op ha hb (rv_I h)
theorem ev_fdivW {i j : Int} {n : Nat} (ha : Ev ta σ H (.int i)) (hb : Ev tb σ H (.int j)) (h : 0 < j) (hj : j.natAbs < 2 ^ n) (h0 : 0 < n := by decide) (h1 : n ≤ 9000 := by decide) : Ev (tOp (rI CDivW fun i j => .int (i / j)) ta tb) σ H (.int (i / j)) :=
  ev_op ha hb (rv_I (wide_div h hj h0 h1))
theorem ev_lt {i j : Int} (ha : Ev ta σ H (.int i)) (hb : Ev tb σ H (.int j)) : Ev (tOp (rI0 fun i j => .bl (decide (i < j))) ta tb) σ H (.bl (decide (i < j))) := ev_op ha hb rv_I0
theorem ev_gt {i j : Int} (ha : Ev ta σ H (.int i)) (hb : Ev tb σ H (.int j)) : Ev (tOp (rI0 fun i j => .bl (decide (j < i))) ta tb) σ H (.bl (decide (j < i))) := ev_op ha hb rv_I0
theorem ev_ge {i j : Int} (ha : Ev ta σ H (.int i)) (hb : Ev tb σ H (.int j)) : Ev (tOp (rI0 fun i j => .bl (decide (j ≤ i))) ta tb) σ H (.bl (decide (j ≤ i))) := ev_op ha hb rv_I0
theorem ev_eqI {i j : Int} (ha : Ev ta σ H (.int i)) (hb : Ev tb σ H (.int j)) : Ev (tOp rEq ta tb) σ H (.bl (decide (i = j))) := by
  have h := ev_op ha hb (rv_eq (x := .int i) (y := .int j) rfl)
  have e : decide (V.int i = V.int j) = decide (i = j) := by
    rw [Bool.eq_iff_iff]
    simp
  rw [e] at h
  exact h
theorem ev_neI {i j : Int} (ha : Ev ta σ H (.int i)) (hb : Ev tb σ H (.int j)) : Ev (tOp rNe ta tb) σ H (.bl (!decide (i = j))) := by
  have h := ev_op ha hb (rv_ne (x := .int i) (y := .int j) rfl)
  have e : decide (V.int i = V.int j) = decide (i = j) := by
    rw [Bool.eq_iff_iff]
    simp
  rw [e] at h
  exact h
theorem pow_big {n : Nat} {i : Int} {m : Nat} (h : i.natAbs < 2 ^ n) (hm : n ≤ m) : i.natAbs < 2 ^ m := Nat.lt_of_lt_of_le h (Nat.pow_le_pow_right (by decide) hm)
theorem ev_neg {i : Int} (ha : Ev ta σ H (.int i)) : Ev (tUn (rU fun i => .int (-i)) ta) σ H (.int (-i)) := ev_un ha ru_neg
end
end L2
/-! Readings opened one step. -/
namespace L2
open PySem PySem.Spec PyProof.Rows Evl
section
variable {σ : L2.St} {H : Hp} {D : Ends} {te ta tb : TE} {tA : TA} {t u : TS} {tt tu : TT} {Q : VK} {QT : Bool → Hp → Prop} {QA : List V → Hp → Prop} {vs xs dvs : List V} {v : V} {b : Bool}
theorem x_ret (h : te σ H D.rt) : tRet te D σ H := h
theorem x_seq (h : t { D with nx := u D } σ H) : tSeq t u D σ H := h
theorem x_asg {g : TG} (h : te σ H fun x H1 => g x σ H1 D.nx) : tAsg te g D σ H := h
theorem x_set {i : Nat} (h : te σ H fun x H1 => D.nx (σ.set i (some x)) H1) : tAsg te (gName i) D σ H := h
theorem x_drop (h : te σ H fun _ H1 => D.nx σ H1) : tDrop te D σ H := h
theorem x_par {i j : Nat} (h : tA σ H fun vs H1 => ∃ v w, vs = [v, w] ∧ D.nx ((σ.set i (some v)).set j (some w)) H1) : tPar i j tA D σ H := h
theorem x_op {r : R2} (h : ta σ H fun x H1 => tb σ H1 fun y H2 => r x y H2 Q) : tOp r ta tb σ H Q := h
theorem x_cb {r : List V → Hp → VK → Prop} (h : tA σ H fun vs H1 => r vs H1 Q) : tCB r tA σ H Q := h
theorem x_call {sp : Sp} {E : XK} (h : tA σ H fun vs H1 => sp (vs ++ dvs) H1 Q E) : tCall sp dvs E tA σ H Q := h
theorem x_cons {tr : TA} (h : ta σ H fun x H1 => tr σ H1 fun xs H2 => QA (x :: xs) H2) : tCons ta tr σ H QA := h
theorem x_nil (h : QA [] H) : tNil σ H QA := h
theorem x_if (h : tt σ H fun b H1 => if b = true then t D σ H1 else u D σ H1) : tIfS tt t u D σ H := h
theorem x_B (h : te σ H fun x H1 => ∃ c, x = .bl c ∧ QT c H1) : tB te σ H QT := h
theorem x_test (h : te σ H fun x H1 => ∃ c, x = .bl c ∧ QT c H1) : tTest te σ H QT := h
theorem x_not (h : tt σ H fun c H1 => QT (!c) H1) : tNot tt σ H QT := h
theorem x_or (h : tt σ H fun c H1 => if c = true then QT true H1 else tu σ H1 QT) : tOr tt tu σ H QT := h
theorem x_and (h : tt σ H fun c H1 => if c = true then tu σ H1 QT else QT false H1) : tAnd tt tu σ H QT := h
theorem x_meth {C : Addr} {m : Str} {sp : Sp} {E : XK} (h : ta σ H fun x H1 => ∃ a dx fs, x = .ref a ∧ H1 a = some (.ins C dx fs) ∧ fs.lookup m = none ∧ tA σ H1 fun vs H2 => sp (x :: (vs ++ dvs)) H2 Q E) : tMeth C m sp dvs E ta tA σ H Q := h
theorem x_lst (h : tA σ H fun xs H1 => xs.length ≤ sizeLine ∧ ∀ p, H1 p = none → Q (.ref p) (upd H1 p (.lst xs))) : tLst tA σ H Q := h
theorem x_tup (h : tA σ H fun xs H1 => xs.length ≤ sizeLine ∧ ∀ p, H1 p = none → Q (.ref p) (upd H1 p (.tup xs))) : tTup tA σ H Q := h
theorem x_c (h : Q v H) : tC v σ H Q := h
theorem x_var {i : Nat} (e : σ[i]? = some (some v)) (h : Q v H) : tVar i σ H Q := ⟨v, e, h⟩
theorem x_while {W : Nat → St → Hp → Prop} (m : Nat) (w0 : W m σ H) (h : ∀ m σ H, W m σ H → tt σ H fun b H1 => if b = true then ∃ N : St → Hp → Prop, (∀ σ' H', N σ' H' → ∃ m', m' < m ∧ W m' σ' H') ∧ t { D with nx := N, ct := N, bk := D.nx } σ H1 else D.nx σ H1) : tWhile tt t D σ H := ⟨W, ⟨m, w0⟩, h⟩
theorem Evl.Ev.go (h : Ev te σ H v) (k : ∀ H1, Ex H H1 → Q v H1) : te σ H Q := h H (Ex.refl _) _ k
theorem Evl.EvT.go (h : EvT tt σ H b) (k : ∀ H1, Ex H H1 → QT b H1) : tt σ H QT := h H (Ex.refl _) _ k
theorem Evl.EvA.go (h : EvA tA σ H vs) (k : ∀ H1, Ex H H1 → QA vs H1) : tA σ H QA := h H (Ex.refl _) _ k
theorem Evl.EvU.go (h : EvU te σ H xs) (k : ∀ p H1, H p = none → Ex H H1 → H1 p = some (.tup xs) → Q (.ref p) H1) : te σ H Q := h H (Ex.refl _) _ k
theorem Evl.EvL.go (h : EvL te σ H xs) (k : ∀ p H1, H p = none → Ex H H1 → H1 p = some (.lst xs) → Q (.ref p) H1) : te σ H Q := h H (Ex.refl _) _ k
end
end L2
/-! The same with something behind. -/
namespace L2
open PySem PySem.Spec PyProof.Rows Evl
section
variable {σ : L2.St} {H : Hp} {D : Ends} {te : TE} {tA : TA} {t u tz : TS} {tt : TT}
theorem q_par {i j : Nat} (h : tA σ H fun vs H1 => ∃ v w, vs = [v, w] ∧ tz D ((σ.set i (some v)).set j (some w)) H1) : tSeq (tPar i j tA) tz D σ H := h
theorem q_set {i : Nat} (h : te σ H fun x H1 => tz D (σ.set i (some x)) H1) : tSeq (tAsg te (gName i)) tz D σ H := h
theorem q_asgX {g : TG} (h : te σ H fun x H1 => g x σ H1 (tz D)) : tSeq (tAsg te g) tz D σ H := h
theorem q_dropX (h : te σ H fun _ H1 => tz D σ H1) : tSeq (tDrop te) tz D σ H := h
theorem q_ifX (h : tt σ H fun b H1 => if b = true then t { D with nx := tz D } σ H1 else u { D with nx := tz D } σ H1) : tSeq (tIfS tt t u) tz D σ H := h
end
end L2
/-! An exception that a clause has caught and given to another name: it is tracked behind the suite; its fields are read, its class is asked. -/
namespace L2
open PySem PySem.Spec PyProof.Rows
/-- at a: a caught exception, by its class and its dict -/
def exk (a : Addr) (cls : Value) (d : Option Addr) : HO := .ext fun h => ∃ (oe : Obj) (vs : Array Value), h.get? a = some oe ∧ Zc cls d oe ∧ oe.data = .fields vs
section
variable {X : Cx} {pins : List (Addr × Obj)} {σ : St} {H : Hp} {s : Shared}
theorem exk_ok {P : Program} {w : World} {H : Hp} {h : Heap} {a : Addr} {cls : Value} {d : Option Addr} {oe : Obj} {vs : Array Value} (e : h.get? a = some oe) (z : Zc cls d oe) (q : oe.data = .fields vs) : ObjOk P w H h a (exk a cls d) :=
  ⟨⟨oe, vs, e, z, q⟩, ⟨oe, e⟩, fun _ _ ⟨o, v, e1, r⟩ k => ⟨o, v, k o e1, r⟩⟩
theorem exk_at {P : Program} {w : World} {h : Heap} {a : Addr} {cls : Value} {d : Option Addr} (ok : HOk P w H h) (e : H a = some (exk a cls d)) : ∃ (oe : Obj) (vs : Array Value), h.get? a = some oe ∧ Zc cls d oe ∧ oe.data = .fields vs := by
  have q : ObjOk P w H h a (.ext fun h => ∃ (oe : Obj) (vs : Array Value), h.get? a = some oe ∧ Zc cls d oe ∧ oe.data = .fields vs) := ok a _ e
  exact q.1
/-- an object that came up behind the entry, and isn't tracked, is tracked from now on -/
theorem Inv.taken {a : Addr} {o : HO} {oe : Obj} (I : Inv X pins σ H s) (ha : s.heap.get? a = some oe) (na : H a = none) (n0 : X.s_0.heap.get? a = none) (nL : a ≠ X.env.locals) (nC : ∀ v, oe.data ≠ .cell v) (nP : ∀ p ∈ X.pn ++ pins, p.1 ≠ a)
    (new : ObjOk X.prog X.w (upd H a o) s.heap a o) : Inv X pins σ (upd H a o) s := by
  have ne0 : ∀ {b : Addr} {u : Obj}, X.s_0.heap.get? b = some u → b ≠ a := fun {b u} q z => by
    rw [z, n0] at q
    cases q
  refine ⟨I.ok, I.os, I.bare, ⟨I.base.keep, I.base.slot, fun b u q n z => ?_, I.base.there, fun b xs q => ?_, fun b u v q => ?_, fun b ps q => ?_⟩, I.loc, I.cell, ?_, fun y c e => ?_, fun p hp => ?_, fun b u q => ?_, I.len⟩
  · rw [upd_ne (ne0 q)]
    exact I.base.free b u q n z
  · have z := I.base.tups b xs q
    rw [upd_ne (ne_of_none z na)]
    exact z
  · have z := I.base.frzs b u v q
    rw [upd_ne (ne_of_none z na)]
    exact z
  · obtain ⟨m, z⟩ := I.base.tbls b ps q
    exact ⟨m, by rw [upd_ne (ne_of_none z na)]; exact z⟩
  · rw [upd_ne (Ne.symm nL)]
    exact I.free
  · have n : c ≠ a := fun z => by
      obtain ⟨v, o', h1, h2⟩ := I.cell y c e
      rw [z, ha] at h1
      cases h1
      exact nC _ h2
    rw [upd_ne n]
    exact I.freeC y c e
  · obtain ⟨h1, h2, h3⟩ := I.pin p hp
    exact ⟨h1, by rw [upd_ne (nP p hp)]; exact h2, h3⟩
  · by_cases hb : b = a
    · subst hb
      rw [upd_same] at q
      cases q
      exact new
    · rw [upd_ne hb] at q
      exact (I.hok b u q).stay (fun _ _ _ r => r) (fun c r => by rw [upd_ne (ne_of_none r na)]; exact r) fun c xs r => by rw [upd_ne (ne_of_none r na)]; exact r
end
/-- what 'except x as n: suite' wishes of the body, the exception tracked behind the suite -/
def wHold (K : PySem.W.Frag) (c : Value) (i : Nat) (ts : Addr → Value → Option Addr → TS) (Wo : WX) (D : Ends) : WX := fun cls d σ H => ∃ b, PySem.W.exmOne K cls c = some b ∧
  (b = true → ∀ a, H a = none → ts a cls d ⟨fun σ' H' => D.nx (σ'.set i none) (upd H' a (exk a cls d)), D.rt, fun _ _ => False, fun _ _ => False⟩ (σ.set i (some (.ref a))) H) ∧ (b = false → Wo cls d σ H)
section
variable {X : Cx} {x n : Str} {c : Value} {i : Nat} {body rest : List Stmt} {st0 : Stmt} {np pos pos' : Pos} {tb : WX → TS} {ts : Addr → Value → Option Addr → TS} {Wo : WX}
theorem ps_try_hold (hs : X.stack = X.env :: X.outer) (hf : X.env.frame = some X.env.locals) (hex : X.ex = []) (hN : X.N.Nodup) (hi : X.N[i]? = some n) (hln : X.env.kindOf n = some .local) (hc : Names X x c) (tk : Takes X Wo)
    (hb : ∀ (W : WX) (pn : List (Addr × Obj)) (xe : Value → Shared → Prop), Takes (X.tr pn xe) W → PassesOwn (model X.prog X.w) X.A X.env xe → PSs (X.tr pn xe) body (tb W))
    (hu : ∀ (a : Addr) (oe : Obj) (cls : Value) (d : Option Addr) (pn : List (Addr × Obj)), Zc cls d oe → (∃ vs, oe.data = .fields vs) → PSs (X.suite a ((a, oe) :: pn)) (st0 :: rest) (ts a cls d)) :
    PS X (.Try body [.ExceptHandler (some (.Name x np)) (some n) (st0 :: rest) pos'] [] [] pos) (fun D σ H => tb (wHold X.K c i ts Wo D) D σ H) := by
  refine ⟨fun pins s σ H D I h => ?_⟩
  have ok := I.ok
  have frA : X.A.frames = some (X.env :: X.outer) := ok.frames.trans (congrArg some hs)
  refine wpAny_Try_except ?_
  let xe1 : Value → Shared → Prop := fun e s1 => wpAny (model X.prog X.w) X.A (noteFrame e X.env) (fun _ s2 => wpAny (model X.prog X.w) X.A (setFlight e none) (fun _ s3 =>
    wpAny (model X.prog X.w) X.A (handleBy e X.env [.ExceptHandler (some (.Name x np)) (some n) (st0 :: rest) pos']) (SP X pins D) X.xe s3) X.xe s2) X.xe s1
  have took : Takes (X.tr (X.pn ++ pins) xe1) (wHold X.K c i ts Wo D) := by
    rintro u s1 ⟨a, B, sI, pins', σ1, H1, cls, d, rfl, J0, below, up, sky, na, eos, gb, b, eb, yes, no⟩
    have J : Inv X pins σ1 H1 sI := J0.ofTry ok
    rw [show (X.tr (X.pn ++ pins) xe1).stack = X.env :: X.outer from hs] at sky
    show wpAny (model X.prog X.w) X.A (noteFrame (.ref a) X.env) _ _ _
    refine Sky.land Zc.steady frA hf sky fun h3 f3 up3 => ?_
    have J3 : Inv X pins σ1 H1 { s1 with heap := h3 } := J.landed below f3.1 (up.trans up3) eos gb
    obtain ⟨o3, v3, e3, z3, d3⟩ := f3.there
    have nfr : a ∉ frs (X.env :: X.outer) := fun hm => by
      obtain ⟨_, o', q, hno⟩ := f3.2.2.1.mem hm
      rw [e3] at q
      cases q
      exact hno _ d3
    have nL : a ≠ X.env.locals := fun z => nfr (List.mem_filterMap.mpr ⟨X.env, List.mem_cons_self, hf.trans (congrArg some z.symm)⟩)
    have nF : a ∉ X.fs := fun hm => by
      obtain ⟨en, he, q⟩ := List.mem_filterMap.mp hm
      exact nfr (List.mem_filterMap.mpr ⟨en, List.mem_cons_of_mem _ he, q⟩)
    -- it wasn't there at the entry, nor is it pinned
    have gone : ∀ {b : Addr} {o : Obj}, sI.heap.get? b = some o → b ≠ a := fun {b o} q z => by
      subst z
      have := below b o q (by rw [show (X.tr (X.pn ++ pins) xe1).stack = X.env :: X.outer from hs]; exact nfr)
      rw [f3.2.1] at this
      cases this
    have n0 : X.s_0.heap.get? a = none := by
      cases q : X.s_0.heap.get? a with
      | none => rfl
      | some o =>
        obtain ⟨o', q'⟩ := J.base.there a o q (by rw [hex]; exact fun z => nomatch z)
        exact absurd rfl (gone q')
    have nP : ∀ p ∈ X.pn ++ pins, p.1 ≠ a := fun p hp => gone (J.pin p hp).1
    have S3 := J3.suite e3 d3 na nL nF
    refine wpAny_handleBy_cons (codeAny_handlers_test ?_) (by intro q; cases q)
    have LT : PySem.W.Looks (model X.prog X.w) h3 (typeOf (.ref a)) cls := fun _ _ _ _ k q => wpAny_typeOf_ref (k _ _ e3) (by rw [z3.1]; exact q)
    have LM := PySem.W.exm_one (M := model X.prog X.w) J3.kIn LT eb
    have named : ∀ {Q E : Value → Shared → Prop}, Q c { s1 with heap := h3 } → wpAny (model X.prog X.w) (X.A.mark (some (.ref a))) (eval (.Name x np) X.env) Q E { s1 with heap := h3 } := fun {Q E} q => by
      obtain ⟨g1, g2, g3 | ⟨g3, g4, g5⟩⟩ := hc
      · exact ld_glob (X := X.suite a ((a, o3) :: (X.pn ++ pins))) S3 g1 g3 q g2
      · exact ld_blt (X := X.suite a ((a, o3) :: (X.pn ++ pins))) S3 g1 g3 g4 q g5 g2
    refine named (LM.here ?_)
    cases b with
    | true =>
      refine codeAny_handlers_suite_as (HandSPX.lands_againZ f3 fun h4 f4 up4 => ?_)
      have J4 : Inv X pins σ1 H1 { s1 with heap := h4 } := J.landed below f4.1 ((up.trans up3).trans up4) eos gb
      obtain ⟨o4, v4, e4, z4, d4⟩ := f4.there
      refine store_ok (X := X.suite a ((a, o4) :: (X.pn ++ pins))) (v := .ref a) (J4.suite e4 d4 na nL nF) hN hi (.inl hln) rfl (fun s5 S5 => ?_) (.inr hln)
      refine wpAny_mono ((hu a o4 cls d (X.pn ++ pins) z4 ⟨_, d4⟩).run [] s5 _ H1 _ S5 (yes rfl a na)) (fun fl s6 q6 => ?_) fun _ _ z => z.elim
      cases fl with
      | next =>
        obtain ⟨σ6, H6, S6, r6⟩ := q6
        refine gone_ok (X := X.suite a ((a, o4) :: (X.pn ++ pins))) S6 hN hi hln fun s7 S7 => ?_
        obtain ⟨e7, n7, _⟩ := S7.pin (a, o4) (List.mem_append_left _ List.mem_cons_self)
        exact ⟨_, _, (S7.unsuite ok).taken e7 n7 n0 nL (fun v z => by rw [d4] at z; cases z) nP (exk_ok e7 z4 d4), r6⟩
      | ret u =>
        obtain ⟨v6, σ6, H6, S6, rv, r6⟩ := q6
        exact gone_ok (S6.unsuite ok) hN hi hln fun s7 J7 => ⟨_, _, _, J7, rv, r6⟩
      | brk =>
        obtain ⟨_, _, _, r6⟩ := q6
        exact r6.elim
      | cont =>
        obtain ⟨_, _, _, r6⟩ := q6
        exact r6.elim
    | false =>
      refine wpAny_handleBy_nil ?_
      obtain ⟨_, _, _, oe, vs, T, oT, ts', he, hz, hd, h1, hr⟩ := id f3
      unfold PySem.passOn
      refine wpAny_bind (wpAny_field he hd h1 ?_)
      rw [if_neg (show ¬ ((Value.ref T == Value.none) = true) by simp)]
      have on : wpAny (model X.prog X.w) X.A (setFlight (.ref a) X.env.frame) (fun _ s4 => wpAny (model X.prog X.w) X.A (throw (.ref a) : Sem Flow) (SP X pins D) X.xe s4) X.xe { s1 with heap := h3 } := by
        rw [hf]
        refine HandSPX.setFlight_upZ f3 fun h4 g4 up4 => wpAny_throw (tk _ _ ?_)
        exact ⟨a, B, sI, pins, σ1, H1, cls, d, rfl, J, below, (up.trans up3).trans up4, .inr (.inr (by rw [hs]; exact g4)), na, eos, gb, no rfl⟩
      first
        | exact wpAny_bind (wpAny_pure (wpAny_bind on))
        | exact wpAny_bind on
  refine wpAny_mono ((hb _ (X.pn ++ pins) xe1 took PassesOwn.looking).run [] s σ H D (I.toTry _) h) (fun fl s1 q => ?_) fun _ _ z => z
  cases fl with
  | next =>
    obtain ⟨σ', H', J', r⟩ := q
    exact wpAny_execs_nil ⟨σ', H', J'.ofTry ok, r⟩
  | brk =>
    obtain ⟨σ', H', J', r⟩ := q
    exact ⟨σ', H', J'.ofTry ok, r⟩
  | cont =>
    obtain ⟨σ', H', J', r⟩ := q
    exact ⟨σ', H', J'.ofTry ok, r⟩
  | ret u =>
    obtain ⟨v, σ', H', J', rv, r⟩ := q
    exact ⟨v, σ', H', J'.ofTry ok, rv, r⟩
end
/-- what the class of a caught exception says of reading and asking it -/
structure XkC (K : PySem.W.Frag) (C : Addr) : Prop where
  ga : PySem.W.findIn K (.ref C) "__getattribute__" = some (some (.builtin "BaseException.__getattribute__"))
  gg : PySem.W.findIn K (.ref C) "__getattr__" = some none
  sub : PySem.W.subIn K (.ref C) (.type "BaseException") = some true
  hd : PySem.W.hasDictIn K C = true
  is : IsC K C
def xkB (K : PySem.W.Frag) (x : Str) : Bool :=
  He.eqO (PySem.W.findIn K (.ref (He.ga K x)) "__getattribute__") (some (some (.builtin "BaseException.__getattribute__"))) && (He.eqO (PySem.W.findIn K (.ref (He.ga K x)) "__getattr__") (some none) &&
  (decide (PySem.W.subIn K (.ref (He.ga K x)) (.type "BaseException") = some true) && (PySem.W.hasDictIn K (He.ga K x) && tyB K x)))
theorem xkB_ok {K : PySem.W.Frag} {x : Str} (h : xkB K x = true) : XkC K (He.ga K x) := by
  obtain ⟨h1, h⟩ := He.ba h
  obtain ⟨h2, h⟩ := He.ba h
  obtain ⟨h3, h⟩ := He.ba h
  obtain ⟨h4, h5⟩ := He.ba h
  exact ⟨He.eqO_ok h1, He.eqO_ok h2, of_decide_eq_true h3, h4, tyB_ok h5⟩
/-- an exception of the class at C, with these fields -/
structure ExcAt (H : Hp) (a C d : Addr) (fs : List (Str × V)) : Prop where
  at_ : H a = some (exk a (.ref C) (some d))
  dict : H d = some (.xd fs)
theorem ExcAt.ex {H H' : Hp} {a C d : Addr} {fs : List (Str × V)} (x : ExcAt H a C d fs) (e : Evl.Ex H H') : ExcAt H' a C d fs := ⟨e _ _ x.at_, e _ _ x.dict⟩
section
variable {X : Cx} {pins : List (Addr × Obj)} {σ : St} {H : Hp} {s : Shared} {a C d : Addr} {fs : List (Str × V)}
theorem ExcAt.inst (I : Inv X pins σ H s) (x : ExcAt H a C d fs) : ∃ (oe od : Obj) (mA : Str → Option Value), PySem.W.InstAt s.heap a oe C (some od) ∧ (∀ f, RelO (fs.lookup f) (mA f)) ∧ ∀ name, PySem.W.lookIn name od = some (mA name) := by
  obtain ⟨oe, vs, e1, z, e2⟩ := exk_at I.hok x.at_
  have q : ObjOk X.prog X.w H s.heap d (.xd fs) := I.hok d _ x.dict
  obtain ⟨mA, hn, r⟩ := q
  obtain ⟨od, ho, hl⟩ := lookIn_ns hn
  exact ⟨oe, od, mA, ⟨e1, z.1, by unfold PySem.W.notCls; rw [e2] <;> rfl, by rw [z.2]; exact ho⟩, r, hl⟩
/-- e.f of a caught exception -/
def tXk (K : PySem.W.Frag) (te : TE) (f : Str) : TE := fun σ H Q => te σ H fun x H1 => ∃ (a C d : Addr) (fs : List (Str × V)) (v : V), x = .ref a ∧ ExcAt H1 a C d fs ∧ XkC K C ∧ NoAttr K C f ∧ fs.lookup f = some v ∧ Q v H1
theorem pe_xk {e : Expr} {te : TE} {pos : Pos} {f : Str} (he : PE X e te) (hb : attributeBase e f X.env (eval e X.env) = eval e X.env := by rfl) : PE X (.Attribute e f pos) (tXk X.K te f) := by
  refine ⟨fun pins s σ H Q I h => ?_⟩
  refine attr_of hb (thn (he.run pins s σ H _ I h) fun u s1 ⟨x, H1, I1, rx, a, C, d, fs, v, ex, xa, T, hno, l, q⟩ => ?_)
  subst ex
  obtain rfl : u = Value.ref a := rx
  obtain ⟨oe, od, mA, J, r, hl⟩ := xa.inst I1
  obtain ⟨w', hw, rw'⟩ := RelO.some_of (v := v) (o := mA f) (by rw [← l]; exact r f)
  exact HandSPX.exc_get I1.kIn J T.ga T.gg T.sub (PySem.W.findObj_own T.hd hno rfl (by rw [hl, hw])) (handed_of rw') ⟨v, H1, I1.tok _, rw', q⟩
theorem xk_kit (I : Inv X pins σ H s) (x : ExcAt H a C d fs) (T : XkC X.K C) : ∃ P : Heap → Prop, PySem.W.KitX X.K (.ref a) (.ref C) P ∧ P s.heap := by
  obtain ⟨oe, od, mA, J, _, _⟩ := x.inst I
  obtain ⟨cd, hcd, _⟩ := PySem.W.any_some T.hd
  exact ⟨_, PySem.W.kitx_exc (by rw [hcd]; rfl) T.ga T.gg T.sub T.is.ha T.is.hn T.is.htk T.is.hm, J⟩
/-- isinstance(e, c), isinstance(e, (c1, ..)) of a caught exception -/
def rIsk (K : PySem.W.Frag) : List V → Hp → VK → Prop := fun xs H Q => ∃ (a C d : Addr) (fs : List (Str × V)) (c : V) (u : Value) (b : Bool), xs = [.ref a, c] ∧ ExcAt H a C d fs ∧ XkC K C ∧ ClsV c u ∧ PySem.W.kitOne K (.ref C) u = some b ∧ Q (.bl b) H
def rIskT (K : PySem.W.Frag) : List V → Hp → VK → Prop := fun xs H Q => ∃ (a C d tp : Addr) (fs : List (Str × V)) (cs : List V) (us : List Value) (b : Bool), xs = [.ref a, .ref tp] ∧ ExcAt H a C d fs ∧ XkC K C ∧ H tp = some (.tup cs) ∧ Paired ClsV cs us ∧
  PySem.W.kitAny K (.ref C) us = some b ∧ Q (.bl b) H
theorem call_isk : CallR X (.builtin "isinstance") (rIsk X.K) := by
  intro pins s σ H xs us Q I r h
  obtain ⟨a, C, d, fs, c, u, b, rfl, xa, T, k, e, q⟩ := h
  obtain ⟨u1, u2, rfl, r1, r2⟩ := vals2 r
  obtain rfl : u1 = Value.ref a := r1
  have e2 := k.eq r2
  subst e2
  obtain ⟨P, Z, p⟩ := xk_kit I xa T
  exact PySem.W.kia_one Z I.kIn p e (fun z => nomatch z) fun tk => ⟨.bl b, H, I.tok tk, rfl, q⟩
theorem call_iskT : CallR X (.builtin "isinstance") (rIskT X.K) := by
  intro pins s σ H xs us Q I r h
  obtain ⟨a, C, d, tp, fs, cs, ws, b, rfl, xa, T, hT, k, e, q⟩ := h
  obtain ⟨u1, u2, rfl, r1, r2⟩ := vals2 r
  obtain rfl : u1 = Value.ref a := r1
  obtain rfl : u2 = Value.ref tp := r2
  obtain ⟨P, Z, p⟩ := xk_kit I xa T
  have ot : ObjOk X.prog X.w H s.heap tp (.tup cs) := I.hok tp _ hT
  obtain ⟨_, its, rv, o, h1, h2, n, h3⟩ := ot
  have e3 := ClsV.all k rv
  subst e3
  obtain ⟨oc, od, dt, sl⟩ := o
  simp only at h2 h3
  subst h2 h3
  exact PySem.W.kia_tup Z I.kIn p h1 e (fun z => nomatch z) fun tk => ⟨.bl b, H, I.tok tk, rfl, q⟩
end
/-! R.__init__(self, ..), R an own class over ValueError that has no __init__ -/
structure BaseC (K : PySem.W.Frag) (R : Addr) : Prop where
  rd : PySem.W.readsIn K R (.type "type") = true
  ga : PySem.W.specialIn K (.ref R) "__getattribute__" = some (some (.builtin "type.__getattribute__"))
  at_ : PySem.W.findCls K (.ref R) (.type "type") "__init__" = some (.val (.builtin "ValueError.__init__"))
def baseB (K : PySem.W.Frag) (x : Str) : Bool := PySem.W.readsIn K (He.ga K x) (.type "type") && (He.eqO (PySem.W.specialIn K (.ref (He.ga K x)) "__getattribute__") (some (some (.builtin "type.__getattribute__"))) &&
  (match PySem.W.findCls K (.ref (He.ga K x)) (.type "type") "__init__" with
    | some (.val (.builtin m)) => decide (m = "ValueError.__init__")
    | _ => false))
theorem baseB_ok {K : PySem.W.Frag} {x : Str} (h : baseB K x = true) : BaseC K (He.ga K x) := by
  obtain ⟨h1, h⟩ := He.ba h
  obtain ⟨h2, h3⟩ := He.ba h
  refine ⟨h1, He.eqO_ok h2, ?_⟩
  split at h3
  · rename_i m q
    rw [q, of_decide_eq_true h3]
  · cases h3
section
variable {X : Cx} {e : Expr} {es : List Expr} {ta : TA} {p1 p2 pos : Pos} {R : Addr} {x : Str}
theorem pe_baseinit {pl : Sem Bool} (hg : Gl X x) (hm : X.mg x = some (.ref R)) (B : BaseC X.K R) (ha : PA X (e :: es) ta)
    (hc : eval (.Call (.Attribute (.Name x p1) "__init__" p2) (e :: es) [] pos) X.env = (do
      let ov ← eval (.Name x p1) X.env
      standAt p2.atName
      let (f, first) ← holding [ov] (getMethod ov "__init__" pl)
      callWith pos f first (backTo pos (starEach (e :: es) X.env)) (backToKw pos (keywordEach [] X.env))) := by rfl)
    (hd : (x == ("__debug__" : Str)) = false := by decide) (he : starEach (e :: es) X.env = (false, eval e X.env) :: starEach es X.env := by rfl) (hpl : (backTo pos (starEach es X.env)).any (·.1) = false := by rfl) :
    PE X (.Call (.Attribute (.Name x p1) "__init__" p2) (e :: es) [] pos) (tVeI X.K ta) := by
  refine ⟨fun pins s σ H Q I h => ?_⟩
  refine PySem.W.methodCall_KW (ld_glob I hg hm ?_ hd) hc
  refine PySem.W.method_cls I.kIn B.ga (PySem.W.cls_value I.kIn B.rd B.at_ (by decide +kernel) ?_)
  show wpAny _ _ (callWith pos (Value.builtin "ValueError.__init__") [] (backTo pos (starEach (e :: es) X.env)) []) _ _ _
  refine PyProof.Rows.callWith_method1 (thn (ha.run pos pins _ σ H _ (I.tok _) h) fun us s1 ⟨vs, H1, I1, r1, a, C, ws, ev, hl, T, ea, q⟩ => ?_) he hpl
  subst ev
  cases r1 with
  | @cons _ u0 _ ur r0 rr =>
    obtain rfl : u0 = Value.ref a := r0
    have hz : ur.length ≤ sizeLine := by
      rw [← Paired.length rr, sizeLine_eq]
      omega
    exact oinit_ok T I1 ea hz fun s' J => ⟨.non, H1, J, rfl, q⟩
end
end L2
/-! constants of the module; what an own exception class must say to be made -/
namespace L2
open PySem PySem.Spec PyProof.Rows
section
variable {X : Cx} {x : Str} {pos : Pos}
theorem pe_gi {i : Int} (hg : Gl X x) (h : ∃ t, X.mg x = some (.int i t)) (hd : (x == ("__debug__" : Str)) = false := by decide) : PE X (.Name x pos) (tC (.int i)) := by
  obtain ⟨t, h⟩ := h
  exact pe_glob hg h ⟨t, rfl⟩ hd
theorem pe_gs {z : Str} (hg : Gl X x) (h : ∃ t, X.mg x = some (.str z t)) (hd : (x == ("__debug__" : Str)) = false := by decide) : PE X (.Name x pos) (tC (.str z)) := by
  obtain ⟨t, h⟩ := h
  exact pe_glob hg h ⟨t, rfl⟩ hd
end
def oexL (K : PySem.W.Frag) (C : Addr) : Bool := match K.lookup C with
  | some ⟨.type "type", _, .cls cd, sl⟩ => (match cd.mro, sl.toList with
    | .ref B :: bm, [_, _, _, _, some (.builtin n), _] => decide (B = C) && (decide (n = "ValueError.__new__") && (!cd.hasDel && (cd.hasDict && PySem.HandSPX.refsVE bm)))
    | _, _ => false)
  | _ => false
theorem oexL_ok {K : PySem.W.Frag} {C : Addr} (h : oexL K C = true) : ∃ nm q N bs bm sn sub ab col dd k0 k1 k2 k3 k5, K.lookup C = some (excClassObj nm q C N bs bm true sn sub ab col dd k0 k1 k2 k3 k5 "ValueError.__new__") ∧ PySem.HandSPX.refsVE bm = true := by
  unfold oexL at h
  split at h
  · rename_i dd cd sl ho
    split at h
    · rename_i B bm k0 k1 k2 k3 n k5 hm hs
      obtain ⟨h1, h⟩ := He.ba h
      obtain ⟨h2, h⟩ := He.ba h
      obtain ⟨h3, h⟩ := He.ba h
      obtain ⟨h4, h5⟩ := He.ba h
      have e1 := of_decide_eq_true h1
      have e2 := of_decide_eq_true h2
      subst e1 e2
      obtain ⟨nm, bs, mro, ns, qn, hd, sn, sub, ab, col, del⟩ := cd
      have e3 : del = false := by
        cases del with
        | false => rfl
        | true => cases h3
      have e4 : hd = true := h4
      have e5 : mro = .ref B :: bm := hm
      subst e3 e4 e5
      have e6 : sl = #[k0, k1, k2, k3, some (.builtin "ValueError.__new__"), k5] := by
        obtain ⟨l⟩ := sl
        simp only at hs
        rw [hs]
      subst e6
      exact ⟨nm, qn, ns, bs, bm, sn, sub, ab, col, dd, k0, k1, k2, k3, k5, ho, h5⟩
    · cases h
  · cases h
def oexB (K : PySem.W.Frag) (x : Str) : Bool := oexL K (He.ga K x) && (He.eqO (PySem.W.findIn K (.ref (He.ga K x)) "__setattr__") (some (some (.builtin "object.__setattr__"))) &&
  (decide (PySem.W.subIn K (.ref (He.ga K x)) (.type "BaseException") = some true) && (decide (PySem.W.typeIn K (.ref (He.ga K x)) = some (.type "type")) && PySem.W.keepIn K (.ref (He.ga K x)))))
theorem oexB_ok {K : PySem.W.Frag} {x : Str} (h : oexB K x = true) : OexC K (He.ga K x) := by
  obtain ⟨h1, h⟩ := He.ba h
  obtain ⟨h2, h⟩ := He.ba h
  obtain ⟨h3, h⟩ := He.ba h
  obtain ⟨h4, h5⟩ := He.ba h
  exact ⟨oexL_ok h1, He.eqO_ok h2, of_decide_eq_true h3, of_decide_eq_true h4, h5⟩
/-- an exception's class asked of others -/
def kitsB (K : PySem.W.Frag) (x : Str) (ys : List (Str × Bool)) : Bool := ys.all fun y => decide (PySem.W.kitOne K (.ref (He.ga K x)) (.ref (He.ga K y.1)) = some y.2)
theorem kitsB_ok {K : PySem.W.Frag} {x : Str} {ys : List (Str × Bool)} (h : kitsB K x ys = true) {y : Str} {b : Bool} (m : (y, b) ∈ ys) : PySem.W.kitOne K (.ref (He.ga K x)) (.ref (He.ga K y)) = some b :=
  of_decide_eq_true (List.all_eq_true.mp h (y, b) m)
/-- the own __init__ of such a class: R.__init__(self, text); self.f = value -/
def sp_exi (C : Addr) (f : Str) : Sp := fun vs H Q _ => ∃ (a : Addr) (v : V), vs = [.ref a, v] ∧ H a = some (exo a C none) ∧ ∀ dx, H dx = none → dx ≠ a → Q .non (upd (upd H dx (exd dx [(f, v)])) a (exo a C (some dx)))
section
variable {X : Cx} {C : Addr} {f : Str}
/-- what raise C(e) asks, by that __init__ -/
theorem mk_exi {σ : St} {H : Hp} {Q : XK} {ta : TA} {v : V} (h : Evl.EvA ta σ H [v]) (k : ∀ H1 d, Evl.Ex H H1 → H1 d = none → Q (.ref C) (some d) (upd H1 d (.xd [(f, v)]))) : tMkO C (sp_exi C f) [] ta σ H Q :=
  h H (Evl.Ex.refl _) _ fun H1 e1 => ⟨by show 1 ≤ 1000; decide, fun a ha => by
    refine ⟨a, v, rfl, upd_same, fun dx hdx ne => ⟨rfl, dx, [(f, v)], upd_same, ?_, ?_, ?_⟩⟩
    · rw [upd_ne ne, upd_same]
    · rw [upd_ne ne] at hdx
      exact hdx
    · have hd1 : H1 dx = none := by
        rw [upd_ne ne] at hdx
        exact hdx
      have e : upd (del (upd (upd (upd H1 a (exo a C none)) dx (exd dx [(f, v)])) a (exo a C (some dx))) a) dx (.xd [(f, v)]) = upd H1 dx (.xd [(f, v)]) := by
        funext b
        by_cases hb : b = dx
        · rw [hb, upd_same, upd_same]
        · rw [upd_ne hb, upd_ne hb]
          by_cases hba : b = a
          · rw [hba, del_same, ha]
          · rw [del_ne hba, upd_ne hba, upd_ne hb, upd_ne hba]
      rw [e]
      exact k H1 dx e1 hd1⟩
end
end L2
/-! for i, c in enumerate(text); text * n. -/
namespace L2
open PySem PySem.Spec PyProof.Rows
/-- a text's signs, each with its number in a new pair -/
def Itse (z : Str) : It := ⟨fun i _ => i < z.cps.size, fun i H v H' => ∃ (T : Addr) (c : Nat), v = .ref T ∧ H T = none ∧ H' = upd H T (.tup [.int (i : Nat), .str ⟨#[c]⟩]) ∧ z.cps[i]? = some c, fun i _ => i = z.cps.size⟩
theorem draws_str {prog : Program} {w : World} {A : Around} (hh : A.handled = none) (it : Addr) (z : Str) (t : Tok) :
    Draws prog w A it [it] z.cps.size (fun i v => ∃ c u, z.cps[i]? = some c ∧ v = .str ⟨#[c]⟩ u) (fun i h => h.IsStrIter it (strIterType z) z t i) := by
  unfold strIterType
  by_cases ha : z.cps.all (· < 128) = true
  · rw [if_pos ha]
    exact Draws.strAscii hh it z t
  · rw [if_neg ha]
    exact Draws.strWide hh it z t
theorem turn_enumS {P : Program} {w : World} {K : PySem.W.Frag} {elts : List Expr} {kk : Nat} {tpos : Pos} (z : Str) (t : Tok) (e it : Addr) :
    Turn P w K (.Tuple elts kk tpos) (Itse z) [e, it] e (fun i h => (∃ old, IsEnum h e it ((i : Nat) : Int) old) ∧ h.IsStrIter it (strIterType z) z t i ∧ e ≠ it) where
  mem := by simp
  obj := fun i h st b hb => by
    obtain ⟨⟨old, he⟩, ⟨o, ho, hc, hd⟩, _⟩ := st
    have bb : b = e ∨ b = it := by simpa using hb
    rcases bb with q | q
    · subst q
      exact ⟨_, he, fun v y => nomatch y⟩
    · subst q
      exact ⟨o, ho, fun v y => by rw [hd] at y; cases y⟩
  keep := fun i h h' st k => by
    obtain ⟨⟨old, he⟩, ⟨o, ho, r⟩, ne⟩ := st
    exact ⟨⟨old, k e (by simp) _ he⟩, ⟨o, k it (by simp) _ ho, r⟩, ne⟩
  item := by
    intro X hP hw hK hc i pins s σ H E I hf st hg
    subst hP hw hK
    obtain ⟨⟨old, he⟩, hit, ne⟩ := st
    have le : e < s.heap.objs.size := Heap.lt_size he
    have li : it < s.heap.objs.size := by
      obtain ⟨_, q, _⟩ := hit
      exact Heap.lt_size q
    refine wpAny_pyNext_enum_itemD (draws_str (A := X.A.in1) (I.ok.hd hc) it z t) he hit hg ne (by simpa using ne) fun x h' tk px ho st' hT hz hk => ?_
    obtain ⟨c, u, ec, rfl⟩ := px
    refine ⟨_, rfl, wpAny_letOwnedTupleGo_enum (s := { s with heap := h', toks := tk + 1 }) ho fun h'' he' sb => ?_⟩
    have hT2 : h''.get? s.heap.objs.size = some { cls := .type "tuple", data := .seq #[.int i tk, .str ⟨#[c]⟩ u] } := (sb.2 _ (Nat.ne_of_gt le)).trans hT
    have new : ObjOk X.prog X.w (upd H s.heap.objs.size (.tup [.int (i : Nat), .str ⟨#[c]⟩])) h'' s.heap.objs.size (.tup [.int (i : Nat), .str ⟨#[c]⟩]) :=
      ⟨by show 2 ≤ sizeLine; decide, [.int i tk, .str ⟨#[c]⟩ u], .cons ⟨_, rfl⟩ (.cons ⟨_, rfl⟩ .nil), ⟨_, hT2, rfl, _, rfl⟩⟩
    have J : Inv X pins σ (upd H s.heap.objs.size (.tup [.int (i : Nat), .str ⟨#[c]⟩])) { s with heap := h'', toks := tk + 1 } :=
      I.turnedNew (ch := [e, it]) (fun b ob hb q => (sb.2 b (fun y => hb (by simp [y]))).trans (hk b ob (fun y => hb (by simp [y])) (fun y => hb (by simp [y])) q)) hf (Nat.le_refl _) new
    refine ⟨.ref s.heap.objs.size, _, J, rfl, ⟨_, c, rfl, I.hok.fresh (Nat.le_refl _), rfl, ec⟩, ⟨⟨.str ⟨#[c]⟩ u, ?_⟩, ?_, ne⟩, fun b hb => ?_⟩
    · have e1 : ((i + 1 : Nat) : Int) = (i : Int) + 1 := by omega
      rw [e1]
      exact he'
    · obtain ⟨o, q, r⟩ := st'
      exact ⟨o, (sb.2 it (Ne.symm ne)).trans q, r⟩
    · have lb : b < s.heap.objs.size := by
        have bb : b = e ∨ b = it := by simpa using hb
        rcases bb with q | q
        · rw [q]
          exact le
        · rw [q]
          exact li
      rw [upd_ne (Nat.ne_of_lt lb)]
      exact (hf b hb).1
  done := by
    intro X hP hw hK hc i pins s σ H E I hf st hg
    subst hP hw hK
    obtain ⟨⟨old, he⟩, hit, ne⟩ := st
    obtain ⟨f0, f1, f2, f3, f4, f5⟩ := hf it (by simp)
    have q : i = z.cps.size := hg
    subst q
    exact wpAny_pyNext_enum_endD (draws_str (A := X.A.in1) (I.ok.hd hc) it z t) he hit fun h' eb => ⟨rfl, I.turned (t' := s.toks) (fun b o hb y => eb b o hb y) f0 f1 f3 f4 f5⟩
  self := fun A i s Q E st h => by
    obtain ⟨⟨_, he⟩, _⟩ := st
    exact wpAny_pyIter_enum he h
def iEnumS (ta : TA) : TI := fun σ H R => ta σ H fun vs H1 => ∃ z : Str, vs = [.str z] ∧ R (Itse z) H1
theorem pi_enumS {X : Cx} {e : Expr} {ta : TA} {p pos tpos : Pos} {elts : List Expr} {kk : Nat} (hg : Gl X "enumerate") (hm : X.mg "enumerate" = none) (ha : PA X [e] ta) (hs : starEach [e] X.env = [(false, eval e X.env)] := by rfl) :
    PI X (.Tuple elts kk tpos) (.Call (.Name "enumerate" p) [e] [] pos) (iEnumS ta) := by
  refine ⟨fun pins s σ H R I h => ?_⟩
  refine Call_ (ld_blt I hg hm boot_enumerate (PyProof.Rows.callWith_type1 (thn (ha.run pos pins s σ H _ I h) fun us s1 ⟨vs, H1, I1, r1, z, ez, q⟩ => ?_) hs rfl))
  subst ez
  obtain ⟨u, rfl, t, rfl⟩ := vals1 r1
  refine call_enumerate_str fun h' he hit hsz hk => wpAny_pyIter_enum he ?_
  have J : Inv X pins σ H1 { s1 with heap := h' } := I1.kept (t' := s1.toks) hk
  refine ⟨s1.heap.objs.size + 1, [s1.heap.objs.size + 1, s1.heap.objs.size], _, _, H1, rfl, J, turn_enumS z t (s1.heap.objs.size + 1) s1.heap.objs.size, ⟨⟨.none, he⟩, hit, Nat.succ_ne_self _⟩, fun b hb => ?_, q⟩
  have bb : b = s1.heap.objs.size + 1 ∨ b = s1.heap.objs.size := by simpa using hb
  have lb : s1.heap.objs.size ≤ b := by
    rcases bb with q | q
    · rw [q]
      exact Nat.le_add_right _ _
    · rw [q]
      exact Nat.le_refl _
  exact I1.fpOk lb (I1.hok.fresh lb)
/-- the loop: Pv i holds ahead of the i-th sign -/
theorem for_enumS {z : Str} {g : TG} {tb : TS} {D : Ends} {σ : St} {H : Hp} (Pv : Nat → St → Hp → Prop) (h0 : Pv 0 σ H)
    (hs : ∀ i c σ H T, z.cps[i]? = some c → Pv i σ H → H T = none → g (.ref T) σ (upd H T (.tup [.int (i : Nat), .str ⟨#[c]⟩])) fun σ2 H2 => tb { D with nx := Pv (i + 1), ct := Pv (i + 1), bk := D.nx } σ2 H2) (hd : ∀ σ H, Pv z.cps.size σ H → D.nx σ H) :
    ∃ W : Nat → Nat → St → Hp → Prop, (∃ m, W 0 m σ H) ∧ ∀ i m σ H, W i m σ H →
      ((Itse z).stop i H ∧ D.nx σ H) ∨ ((Itse z).go i H ∧ ∃ N : St → Hp → Prop, (∀ σ' H', N σ' H' → ∃ m', m' < m ∧ W (i + 1) m' σ' H') ∧ ∀ x H', (Itse z).yld i H x H' → g x σ H' fun σ2 H2 => tb { D with nx := N, ct := N, bk := D.nx } σ2 H2) := by
  refine ⟨fun i m σ H => m = z.cps.size - i ∧ i ≤ z.cps.size ∧ Pv i σ H, ⟨z.cps.size, by simp, Nat.zero_le _, h0⟩, ?_⟩
  rintro i m σ H ⟨rfl, hi, p⟩
  by_cases lt : i < z.cps.size
  · refine .inr ⟨lt, Pv (i + 1), fun σ' H' p' => ⟨z.cps.size - (i + 1), by omega, rfl, lt, p'⟩, fun x H' y => ?_⟩
    obtain ⟨T, c, rfl, hT, rfl, ec⟩ := y
    exact hs i c σ H T ec p hT
  · have e : i = z.cps.size := by omega
    subst e
    exact .inl ⟨rfl, hd σ H p⟩
/-- text * n, n small -/
def rMulS : R2 := fun x y H Q => ∃ (z : Str) (n : Nat), x = .str z ∧ y = .int (n : Int) ∧ z.length ≤ 1000 ∧ n ≤ 1000 ∧ Q (.str ⟨(List.replicate n z.cps.toList).flatten.toArray⟩) H
theorem rep_fold (n : Nat) (a : Array Nat) (b : Array Nat) : ((List.replicate n a).foldl (· ++ ·) b).toList = b.toList ++ (List.replicate n a.toList).flatten := by
  induction n generalizing b with
  | zero => simp
  | succ n ih =>
    rw [List.replicate_succ, List.foldl_cons, ih, List.replicate_succ, List.flatten_cons]
    simp
theorem op_mulS {X : Cx} : OpR X (binaryOp .Mult) rMulS := by
  intro pins s σ H x y v u Q I rx ry h
  obtain ⟨z, n, rfl, rfl, hz, hn, q⟩ := h
  obtain ⟨t, rfl⟩ := rx
  obtain ⟨t', rfl⟩ := ry
  have zl : z.length = z.cps.size := rfl
  have big : z.length * n ≤ 1000 * 1000 := Nat.mul_le_mul hz hn
  refine PySem.P.mul_str (by rw [decide_eq_false (by omega), decide_eq_false (by omega)]; rfl) (fun h1 _ h2 => ?_) (fun h1 _ => ?_) ?_
  · have h3 : (n : Int) * ((2 ^ 63 - 1) / (n : Int)) > 2 ^ 63 - 1 - (n : Int) := by
      have := Int.lt_ediv_add_one_mul_self (2 ^ 63 - 1) (show (0 : Int) < n by omega)
      have e := Int.mul_comm ((2 ^ 63 - 1) / (n : Int)) n
      have e2 : ((2 ^ 63 - 1) / (n : Int) + 1) * (n : Int) = (2 ^ 63 - 1) / (n : Int) * n + n := by rw [Int.add_mul, Int.one_mul]
      omega
    have h4 : (n : Int) * ((2 ^ 63 - 1) / (n : Int)) ≤ (n : Int) * (z.length : Int) := Int.mul_le_mul_of_nonneg_left (by omega) (by omega)
    have h5 : (n : Int) * (z.length : Int) = ((z.length * n : Nat) : Int) := by rw [Int.natCast_mul, Int.mul_comm]
    omega
  · rw [Int.toNat_natCast]
    unfold PySem.Builtin.Str.tooLong
    exact decide_eq_false (by rw [sizeLine_eq]; omega)
  · by_cases h1 : (n : Int) < 1
    · rw [if_pos h1]
      have n0 : n = 0 := by omega
      subst n0
      exact ⟨by decide, ⟨.str _, H, I.tok _, ⟨_, rfl⟩, q⟩⟩
    · rw [if_neg h1]
      by_cases h2 : ((n : Int) == 1 || z.length == 0) = true
      · rw [if_pos h2]
        have e : (⟨(List.replicate n z.cps.toList).flatten.toArray⟩ : Str) = z := by
          rw [Bool.or_eq_true, beq_iff_eq, beq_iff_eq] at h2
          rcases h2 with h2 | h2
          · have : n = 1 := by omega
            subst this
            simp
          · have : z.cps = #[] := Array.eq_empty_of_size_eq_zero h2
            obtain ⟨cps⟩ := z
            dsimp only at this
            subst this
            simp
        rw [e] at q
        exact ⟨.str z, H, I, ⟨_, rfl⟩, q⟩
      · rw [if_neg h2]
        have e : (⟨(List.replicate (n : Int).toNat z.cps).foldl (· ++ ·) #[]⟩ : Str) = ⟨(List.replicate n z.cps.toList).flatten.toArray⟩ := by
          rw [Int.toNat_natCast]
          congr 1
          apply Array.ext'
          rw [rep_fold]
          simp
        rw [e]
        refine ⟨?_, ⟨.str _, H, I.tok _, ⟨_, rfl⟩, q⟩⟩
        show ((List.replicate n z.cps.toList).flatten.toArray).size ≤ sizeLine
        rw [List.size_toArray, List.length_flatten, List.map_replicate, List.sum_replicate_nat, sizeLine_eq]
        have zz : z.cps.toList.length = z.length := by simp [Str.length]
        rw [zz, Nat.mul_comm]
        omega
end L2
namespace L2
open PySem PySem.Spec PyProof.Rows _root_.Evl
section
variable {σ : L2.St} {H : Hp} {t u : TT} {b : Bool}
theorem et_and0 (h : EvT t σ H false) : EvT (tAnd t u) σ H false := fun H1 e Q q => h H1 e _ fun H2 e2 => iteF (q H2 e2)
theorem et_and1 (h : EvT t σ H true) (h2 : EvT u σ H b) : EvT (tAnd t u) σ H b := fun H1 e Q q => h H1 e _ fun H2 e2 => iteT (h2 H2 (e.trans e2) Q fun H3 e3 => q H3 (e2.trans e3))
theorem et_or1 (h : EvT t σ H true) : EvT (tOr t u) σ H true := fun H1 e Q q => h H1 e _ fun H2 e2 => iteT (q H2 e2)
theorem et_or0 (h : EvT t σ H false) (h2 : EvT u σ H b) : EvT (tOr t u) σ H b := fun H1 e Q q => h H1 e _ fun H2 e2 => iteF (h2 H2 (e.trans e2) Q fun H3 e3 => q H3 (e2.trans e3))
theorem q_forE {te : TE} {g : TG} {tu tz : TS} {D : Ends} {z : Str} (h : Ev te σ H (.str z)) (Pv : Nat → St → Hp → Prop) (h0 : ∀ H1, Ex H H1 → Pv 0 σ H1)
    (hs : ∀ i c σ' H' T, z.cps[i]? = some c → Pv i σ' H' → H' T = none → g (.ref T) σ' (upd H' T (.tup [.int (i : Nat), .str ⟨#[c]⟩])) fun σ2 H2 => tu { D with nx := Pv (i + 1), ct := Pv (i + 1), bk := tz D } σ2 H2) (hd : ∀ σ' H', Pv z.cps.size σ' H' → tz D σ' H') :
    tSeq (tFor (iEnumS (tCons te tNil)) g tu) tz D σ H := h H (Ex.refl _) _ fun H1 e1 => ⟨z, rfl, for_enumS (D := { D with nx := tz D }) Pv (h0 H1 e1) hs hd⟩
theorem q_two {K : PySem.W.Frag} {tA : TA} {i j : Nat} {tz : TS} {D : Ends} {v w : V} (h : EvA tA σ H [v, w]) (k : ∀ H1, Ex H H1 → tz D ((σ.set i (some v)).set j (some w)) H1) : tSeq (tAsg (tTup tA) (gTup K 2 (gCons (gName i) (gCons (gName j) gNil)))) tz D σ H :=
  h H (Ex.refl _) _ fun H1 e1 => ⟨by show 2 ≤ sizeLine; decide, fun p hp => ⟨p, _, rfl, st_of upd_same, rfl, _, _, rfl, _, _, rfl, rfl, k _ (e1.trans (Ex.new hp))⟩⟩
end
end L2
/-! for c in text; list.count of truths; comprehensions over zip and over rows. -/
namespace L2
open PySem PySem.Spec PyProof.Rows _root_.Evl
/-- for c in text, something behind -/
theorem q_forS {σ : L2.St} {H : Hp} {te : TE} {j : Nat} {tu tz : TS} {D : Ends} {z : Str} (h : Ev te σ H (.str z)) (Pv : Nat → St → Hp → Prop) (h0 : ∀ H1, Ex H H1 → Pv 0 σ H1)
    (hs : ∀ i c σ' H', z.cps[i]? = some c → Pv i σ' H' → tu { D with nx := Pv (i + 1), ct := Pv (i + 1), bk := tz D } (σ'.set j (some (.str ⟨#[c]⟩))) H') (hd : ∀ σ' H', Pv z.cps.size σ' H' → tz D σ' H') :
    tSeq (tFor (iStr te) (gName j) tu) tz D σ H := h H (Ex.refl _) _ fun H1 e1 => ⟨z, rfl, fun i m σ' H' => m = z.cps.size - i ∧ i ≤ z.cps.size ∧ Pv i σ' H', ⟨z.cps.size, by simp, Nat.zero_le _, h0 H1 e1⟩, by
      rintro i m σ' H' ⟨rfl, hi, p⟩
      by_cases lt : i < z.cps.size
      · refine .inr ⟨lt, Pv (i + 1), fun σ2 H2 p2 => ⟨z.cps.size - (i + 1), by omega, rfl, lt, p2⟩, fun x H2 y => ?_⟩
        obtain ⟨rfl, c, hc, rfl⟩ := y
        exact hs i c σ' _ hc p
      · have e : i = z.cps.size := by omega
        subst e
        exact .inl ⟨Nat.le_refl _, hd σ' H' p⟩⟩
/-- list.count of a truth, of truths -/
def rCntB (K : PySem.W.Frag) : V → List V → Hp → VK → Prop := fun x xs H Q => ∃ (p : Addr) (bs : List Bool) (k : Bool), x = .ref p ∧ xs = [.bl k] ∧ SqL K H p (bs.map V.bl) ∧ Q (.int (bs.count k : Nat)) H
theorem bools_vals : ∀ {bs : List Bool} {us : List Value}, Vals (bs.map V.bl) us → us = bs.map Value.bool
  | [], _, .nil => rfl
  | b :: r, _, .cons h t => by
    rw [bools_vals t]
    cases h
    rfl
theorem bools_reads (hp : Heap) : ∀ bs : List Bool, ∃ as, ReadsAll hp (bs.map Value.bool) (bs.map PyData.bool) as
  | [] => ⟨_, .nil⟩
  | b :: r => by
    obtain ⟨as, h⟩ := bools_reads hp r
    exact ⟨_, .cons (.bool b) h⟩
theorem bools_count (k : Bool) : ∀ bs : List Bool, countIn (.bool k) (bs.map PyData.bool) = ((bs.count k : Nat) : Int)
  | [] => rfl
  | b :: r => by
    rw [List.map_cons, countIn, bools_count k r, List.count_cons]
    cases b <;> cases k <;> simp [same] <;> omega
theorem mt_lcountB {X : Cx} : MtR X "list.count" (rCntB X.K) := by
  intro pins s σ H x xs v us Q I rx rxs h
  obtain ⟨p, bs, k, rfl, rfl, hs, q⟩ := h
  cases rx
  obtain ⟨u, rfl, ru⟩ := rxs.one
  cases ru
  obtain ⟨its, rv, ⟨⟨cls, dd, data, sl⟩, n, ho, hc, hdn, hd⟩, hlen⟩ := I.list hs
  simp only at hc hd
  have e := bools_vals rv
  obtain ⟨as, ra⟩ := bools_reads s.heap bs
  rw [← e] at ra
  refine count_list_bools (hp := s.heap) ⟨_, ho, hc, n, hd⟩ ra (by
    rw [List.all_eq_true]
    intro d hd
    obtain ⟨b, _, rfl⟩ := List.mem_map.mp hd
    rfl) ?_
  rw [bools_count]
  exact ⟨.int _, H, I.tok _, ⟨_, rfl⟩, q⟩
/-- what a comprehension that yields pairs wants of its iterator -/
theorem lc_pairs {K : PySem.W.Frag} {σ : L2.St} {H : Hp} {te : TE} {Q : VK} {J : It} {xs ys : List V} {j l : Nat} {vs : List Nat} (v : Nat → V) (hl : xs.length ≤ 1000)
    (hgo : ∀ i H', Ex H H' → i < xs.length → J.go i H') (hstop : ∀ H', Ex H H' → J.stop xs.length H')
    (hy : ∀ i x H' H'', Ex H H' → J.yld i H' x H'' → ∃ T a b, x = .ref T ∧ H' T = none ∧ H'' = upd H' T (.tup [a, b]) ∧ xs[i]? = some a ∧ ys[i]? = some b)
    (hw : ∀ x y, wipe (((wipe σ vs).set j (some x)).set l (some y)) vs = wipe σ vs)
    (he : ∀ (i : Nat) (x y : V) H1, Ex H H1 → xs[i]? = some x → ys[i]? = some y → Ev te (((wipe σ vs).set j (some x)).set l (some y)) H1 (v i))
    (k : ∀ p H1, H p = none → Ex H H1 → H1 p = some (.lst ((List.range xs.length).map v)) → Q (.ref p) H1) :
    tLc (fun _ H1 R => R J H1) (gTup K 2 (gCons (gName j) (gCons (gName l) gNil))) tYes te vs σ H Q := by
  intro D hD
  refine ⟨fun i m H' => m = xs.length - i ∧ i ≤ xs.length ∧ Ex H H' ∧ H' D = some (.lst ((List.range i).map v)), ⟨xs.length, rfl, Nat.zero_le _, Ex.new hD, upd_same⟩, ?_⟩
  rintro i m H' ⟨rfl, hi, e, h⟩
  by_cases lt : i < xs.length
  · refine .inr ⟨hgo i H' e lt, fun H2 => Ex H H2 ∧ H2 D = some (.lst ((List.range (i + 1)).map v)), fun H2 ⟨e2, h2⟩ => ⟨xs.length - (i + 1), by omega, rfl, lt, e2, h2⟩, fun x H2 y => ?_⟩
    obtain ⟨T, a, b, rfl, hT, rfl, hx, hyb⟩ := hy i x H' H2 e y
    refine ⟨T, _, rfl, st_of upd_same, rfl, _, _, rfl, _, _, rfl, rfl, hw a b, ?_⟩
    refine he i a b _ (e.trans (Ex.new hT)) hx hyb _ (Ex.refl _) _ fun H3 e3 => ?_
    have e03 : Ex H' H3 := (Ex.new hT).trans e3
    refine ⟨_, e03 _ _ h, ?_, ?_, ?_⟩
    · rw [List.length_map, List.length_range, sizeLine_eq]
      omega
    · exact Ex.mut (e.trans e03) hD
    · rw [upd_same, List.range_succ, List.map_append]
      rfl
  · have e2 : i = xs.length := by omega
    subst e2
    exact .inl ⟨hstop H' e, k D H' hD e h⟩
theorem el_lcZ {K : PySem.W.Frag} {σ : L2.St} {H : Hp} {ta tb te : TE} {a b : Addr} {xs ys : List V} {j l : Nat} {vs : List Nat} (v : Nat → V) (ha : Ev ta σ H (.ref a)) (hb : Ev tb σ H (.ref b)) (hxy : (SqL K H a xs ∧ SqL K H b ys) ∨ (SqT K H a xs ∧ SqT K H b ys)) (hl : xs.length ≤ 1000) (hll : xs.length = ys.length)
    (hw : ∀ x y, wipe (((wipe σ vs).set j (some x)).set l (some y)) vs = wipe σ vs)
    (he : ∀ (i : Nat) (x y : V) H1, Ex H H1 → xs[i]? = some x → ys[i]? = some y → Ev te (((wipe σ vs).set j (some x)).set l (some y)) H1 (v i)) :
    EvL (tLc (RZ.iZipA K (tCons ta (tCons tb tNil))) (gTup K 2 (gCons (gName j) (gCons (gName l) gNil))) tYes te vs) σ H ((List.range xs.length).map v) := fun H0 e Q q =>
  ha H0 e _ fun H1 e1 => hb H1 (e.trans e1) _ fun H2 e2 => by
    have eA : Ex H H2 := (e.trans e1).trans e2
    have lt2 : ∀ {i : Nat}, i < xs.length → ys[i]? = some (ys.getD i .non) := fun {i} hi => by
      rw [List.getD_eq_getElem?_getD, List.getElem?_eq_getElem (by omega)]
      rfl
    have lt1 : ∀ {i : Nat}, i < xs.length → xs[i]? = some (xs.getD i .non) := fun {i} hi => by
      rw [List.getD_eq_getElem?_getD, List.getElem?_eq_getElem hi]
      rfl
    rcases hxy with ⟨hx, hy⟩ | ⟨hx, hy⟩
    · refine ⟨a, b, xs, ys, rfl, .inl ⟨ex_l eA hx, ex_l eA hy, ?_⟩⟩
      exact lc_pairs (K := K) (H := H2) (J := Itz K a b) (xs := xs) (ys := ys) v hl (fun i H' e' hi => ⟨xs, ys, _, _, ex_l (eA.trans e') hx, ex_l (eA.trans e') hy, lt1 hi, lt2 hi⟩) (fun H' e' => ⟨xs, ys, ex_l (eA.trans e') hx, ex_l (eA.trans e') hy, .inl (Nat.le_refl _)⟩)
        (fun i x H' H'' e' y => by
          obtain ⟨T, x', y', rfl, hT, rfl, f1, f2⟩ := y
          exact ⟨T, x', y', rfl, hT, rfl, f1 _ (ex_l (eA.trans e') hx), f2 _ (ex_l (eA.trans e') hy)⟩) hw (fun i x y H3 e3 h1 h2 => he i x y H3 (eA.trans e3) h1 h2) fun p H3 hp e3 h3 => q p H3 (fresh_back (e1.trans e2) hp) ((e1.trans e2).trans e3) h3
    · refine ⟨a, b, xs, ys, rfl, .inr ⟨ex_t eA hx, ex_t eA hy, ?_⟩⟩
      exact lc_pairs (K := K) (H := H2) (J := RZ.ItzT K a b) (xs := xs) (ys := ys) v hl (fun i H' e' hi => ⟨xs, ys, _, _, ex_t (eA.trans e') hx, ex_t (eA.trans e') hy, lt1 hi, lt2 hi⟩) (fun H' e' => ⟨xs, ys, ex_t (eA.trans e') hx, ex_t (eA.trans e') hy, .inl (Nat.le_refl _)⟩)
        (fun i x H' H'' e' y => by
          obtain ⟨T, x', y', rfl, hT, rfl, f1, f2⟩ := y
          exact ⟨T, x', y', rfl, hT, rfl, f1 _ (ex_t (eA.trans e') hx), f2 _ (ex_t (eA.trans e') hy)⟩) hw (fun i x y H3 e3 h1 h2 => he i x y H3 (eA.trans e3) h1 h2) fun p H3 hp e3 h3 => q p H3 (fresh_back (e1.trans e2) hp) ((e1.trans e2).trans e3) h3
/-! ''.join of single signs -/
theorem jn_ones : ∀ zs : List Nat, TL.joinL [] (zs.map fun c => [c]) = zs
  | [] => rfl
  | [_] => rfl
  | a :: b :: r => by
    show [a] ++ ([] ++ TL.joinL [] ((b :: r).map fun c => [c])) = _
    rw [jn_ones (b :: r)]
    rfl
theorem jn_text (zs : List Nat) : Txt.join (Str.ofString "") (zs.map fun c => (⟨#[c]⟩ : Str)) = ⟨zs.toArray⟩ := by
  have h : TL.tl (Txt.join (Str.ofString "") (zs.map fun c => (⟨#[c]⟩ : Str))) = zs := by
    rw [TL.join_eq, TL.tl_join, List.map_map]
    exact jn_ones zs
  rw [← TL.mk_tl (Txt.join (Str.ofString "") (zs.map fun c => (⟨#[c]⟩ : Str))), h]
theorem jn_sum (zs : List Nat) : ((zs.map fun c => (⟨#[c]⟩ : Str)).map (·.length)).sum = zs.length := by
  induction zs with
  | nil => rfl
  | cons a r ih =>
    rw [List.map_cons, List.map_cons, List.sum_cons, ih, List.length_cons]
    show 1 + _ = _
    omega
/-- x //= e, something behind -/
theorem q_augF {σ : L2.St} {H : Hp} {te : TE} {tz : TS} {D : Ends} {i : Nat} {a b : Int} (hx : σ[i]? = some (some (.int a))) (h : Ev te σ H (.int b)) (hb : CDiv a b) (k : ∀ H1, Ex H H1 → tz D (σ.set i (some (.int (a / b)))) H1) : tSeq (tAug i te (rI CDiv fun i j => .int (i / j))) tz D σ H :=
  ⟨.int a, hx, h H (Ex.refl H) _ fun H1 e => ⟨a, b, rfl, rfl, hb, k H1 e⟩⟩
theorem et_yes {σ : L2.St} {H : Hp} : EvT tYes σ H true := fun H8 _ Q' q' => q' H8 (Ex.refl _)
/-! caught exceptions, asked -/
section
variable {K : PySem.W.Frag} {σ : L2.St} {H : Hp} {ta tu te : TE} {t : TT}
theorem rv_isN {x : V} : RV (fun x y H Q => y = .non ∧ Q (.bl (decide (x = .non))) H) x .non H (.bl (decide (x = .non))) := fun H1 _ Q q => ⟨rfl, q H1 (Ex.refl _)⟩
theorem rc_isk {a C d : Addr} {fs : List (Str × V)} {c : V} {u : Value} {b : Bool} (xa : ExcAt H a C d fs) (T : XkC K C) (hc : ClsV c u) (hk : PySem.W.kitOne K (.ref C) u = some b) : RC (rIsk K) [.ref a, c] H (.bl b) := fun H1 e Q q =>
  ⟨a, C, d, fs, c, u, b, rfl, xa.ex e, T, hc, hk, q H1 (Ex.refl _)⟩
theorem ev_iskT {a C d : Addr} {fs : List (Str × V)} {cls : List V} {us : List Value} {b : Bool} (ha : Ev ta σ H (.ref a)) (hu : EvU tu σ H cls) (xa : ExcAt H a C d fs) (T : XkC K C) (hc : Paired ClsV cls us) (hk : PySem.W.kitAny K (.ref C) us = some b) :
    Ev (tCB (rIskT K) (tCons ta (tCons tu tNil))) σ H (.bl b) := fun H1 e Q q =>
  ha H1 e _ fun H2 e2 => hu H2 (e.trans e2) _ fun tp H3 _ e3 h3 => ⟨a, C, d, tp, fs, cls, us, b, rfl, xa.ex ((e.trans e2).trans e3), T, h3, hc, hk, q H3 (e2.trans e3)⟩
theorem ev_xk {a C d : Addr} {fs : List (Str × V)} {f : Str} {v : V} (ha : Ev ta σ H (.ref a)) (xa : ExcAt H a C d fs) (T : XkC K C) (hn : NoAttr K C f) (hl : fs.lookup f = some v) : Ev (tXk K ta f) σ H v := fun H1 e Q q =>
  ha H1 e _ fun H2 e2 => ⟨a, C, d, fs, v, rfl, xa.ex (e.trans e2), T, hn, hl, q H2 e2⟩
/-- isinstance(x, (c, ..)) -/
theorem ev_isiT {x : V} {t : Value} {cls : List V} {us : List Value} {b : Bool} (hx : Ev ta σ H x) (hu : EvU tu σ H cls) (ht : ∀ H1, Ex H H1 → TyX K H1 x t) (hc : Paired ClsV cls us) (hk : PySem.W.kitAny K t us = some b) : Ev (tCB (rIsiT K) (tCons ta (tCons tu tNil))) σ H (.bl b) := fun H1 e Q q =>
  hx H1 e _ fun H2 e2 => hu H2 (e.trans e2) _ fun tp H3 _ e3 h3 => ⟨x, tp, cls, t, us, b, rfl, h3, hc, ht H3 ((e.trans e2).trans e3), hk, q H3 (e2.trans e3)⟩
theorem ev_all {xs : List V} {bs : List Bool} (h : EvL te σ H xs) (hx : xs = bs.map V.bl) : Ev (tCB (rAll K) (tCons te tNil)) σ H (.bl (bs.all id)) := fun H1 e Q q =>
  h H1 e _ fun p H2 _ e2 h2 => ⟨p, bs, rfl, sq_of (by rw [← hx]; exact h2), q H2 e2⟩
/-- xs + [..], of a list that stands there -/
theorem el_cat {a : Addr} {xs ys : List V} (ha : Ev ta σ H (.ref a)) (hx : H a = some (.lst xs)) (h : EvL tu σ H ys) (hn : xs.length + ys.length ≤ 100000) : EvL (tOp rCat ta tu) σ H (xs ++ ys) := fun H1 e Q q =>
  ha H1 e _ fun H2 e2 => h H2 (e.trans e2) _ fun b H3 hb e3 h3 => ⟨a, b, xs, ys, rfl, rfl, ((e.trans e2).trans e3) _ _ hx, h3, sz_of hn, fun p hp => q p _ (fresh_back (e2.trans e3) hp) ((e2.trans e3).trans (Ex.new hp)) upd_same⟩
theorem ev_eqB {a b : Bool} (ha : Ev ta σ H (.bl a)) (hb : Ev tu σ H (.bl b)) : Ev (tOp rEq ta tu) σ H (.bl (a == b)) := by
  have h := ev_op ha hb (rv_eq (x := .bl a) (y := .bl b) rfl)
  rw [dec_bl] at h
  exact h
theorem ev_neB {a b : Bool} (ha : Ev ta σ H (.bl a)) (hb : Ev tu σ H (.bl b)) : Ev (tOp rNe ta tu) σ H (.bl (a != b)) := by
  have h := ev_op ha hb (rv_ne (x := .bl a) (y := .bl b) rfl)
  rw [dec_bl] at h
  exact h
end
/-! rows of three: loops and comprehensions by their parts -/
section
variable {K : PySem.W.Frag} {σ : L2.St} {H : Hp} {ta te : TE} {t : TT} {D : Ends} {tu tz : TS} {a : Addr} {rs : List V} {j1 j2 j3 : Nat}
theorem q_forT3 (h : Ev ta σ H (.ref a)) (Pv : Nat → L2.St → Hp → Prop) (h0 : ∀ H1, Ex H H1 → Pv 0 σ H1) (hl : ∀ i σ' H', i ≤ rs.length → Pv i σ' H' → SqL K H' a rs)
    (hs : ∀ i v σ' H', rs[i]? = some v → Pv i σ' H' → ∃ r x y z, v = .ref r ∧ H' r = some (.tup [x, y, z]) ∧ tu { D with nx := Pv (i + 1), ct := Pv (i + 1), bk := tz D } (((σ'.set j1 (some x)).set j2 (some y)).set j3 (some z)) H') (hd : ∀ σ' H', Pv rs.length σ' H' → tz D σ' H') :
    tSeq (tFor (iList K ta) (gTup K 3 (gCons (gName j1) (gCons (gName j2) (gCons (gName j3) gNil)))) tu) tz D σ H := h H (Ex.refl _) _ fun H1 e1 => ⟨a, rfl, ⟨rs, hl 0 σ H1 (Nat.zero_le _) (h0 H1 e1)⟩, fun i m σ' H' => m = rs.length - i ∧ i ≤ rs.length ∧ Pv i σ' H', ⟨rs.length, by simp, Nat.zero_le _, h0 H1 e1⟩, by
      rintro i m σ' H' ⟨rfl, hi, p⟩
      have q := hl i σ' H' hi p
      by_cases lt : i < rs.length
      · refine .inr ⟨⟨rs, rs[i], q, by simp [lt]⟩, Pv (i + 1), fun σ2 H2 p2 => ⟨rs.length - (i + 1), by omega, rfl, lt, p2⟩, fun v H2 y => ?_⟩
        obtain ⟨rfl, y⟩ := y
        obtain ⟨r, x, y, z, rfl, hr, hb⟩ := hs i v σ' _ (y rs q) p
        exact ⟨r, _, rfl, st_of hr, rfl, _, _, rfl, _, _, rfl, _, _, rfl, rfl, hb⟩
      · have e : i = rs.length := by omega
        subst e
        exact .inl ⟨⟨rs, q, Nat.le_refl _⟩, hd σ' H' p⟩⟩
theorem el_lcT3 {vs : List Nat} (f : Nat → Bool) (v : Nat → V) (h : Ev ta σ H (.ref a)) (hx : SqL K H a rs) (hz : rs.length ≤ 40000) (hw : ∀ x y z, wipe ((((wipe σ vs).set j1 (some x)).set j2 (some y)).set j3 (some z)) vs = wipe σ vs)
    (hr : ∀ i u, rs[i]? = some u → ∃ r x y z, u = .ref r ∧ H r = some (.tup [x, y, z]) ∧ ∀ H1, Ex H H1 → EvT t ((((wipe σ vs).set j1 (some x)).set j2 (some y)).set j3 (some z)) H1 (f i) ∧ (f i = true → Ev te ((((wipe σ vs).set j1 (some x)).set j2 (some y)).set j3 (some z)) H1 (v i))) :
    EvL (tLc (iList K ta) (gTup K 3 (gCons (gName j1) (gCons (gName j2) (gCons (gName j3) gNil)))) t te vs) σ H (given rs.length f v) := fun H0 e Q q => h H0 e _ fun H1 e1 => ⟨a, rfl, ⟨rs, ex_l (e.trans e1) hx⟩, fun Dl hD =>
  lc_list (xs := rs) (Cw H1 f v Dl) ⟨hD, Ex.new hD, upd_same⟩ (fun i H' _ p => ex_l ((e.trans e1).trans p.2.1) hx) (fun i u H' hi p => by
      obtain ⟨r, x, y, z, rfl, hrr, hE⟩ := hr i u hi
      have hlt : i < rs.length := (List.getElem?_eq_some_iff.mp hi).1
      exact ⟨r, _, rfl, st_of (((e.trans e1).trans p.2.1) _ _ hrr), rfl, _, _, rfl, _, _, rfl, _, _, rfl, rfl, hw x y z, cw_turn p (by omega) (hE H1 (e.trans e1)).1 (hE H1 (e.trans e1)).2⟩)
    fun H' p => q Dl H' (fresh_back e1 p.1) (e1.trans p.2.1) p.2.2⟩
end
/-- what may raise, where it doesn't -/
theorem FnOk.calm {P : Program} {w : World} {K : PySem.W.Frag} {mg : Str → Option Value} {base : Heap} {k : Nat} {f : Addr} {fd : FuncData} {ps : List Str} {sp sp0 : Sp} (F : FnOk P w K mg base (L2.CX P w) k f fd ps sp) (h : ∀ vs H Q E, sp0 vs H Q E → sp vs H Q E0) : FnOk P w K mg base CX0 k f fd ps sp0 :=
  ⟨fun vs H Q E q => F.len _ _ _ _ (h _ _ _ _ q), fun A outer s H args us vs Q E hr he hb hv hs => codeAny_mono (F.run A outer s H args us vs Q _ hr he hb hv (h _ _ _ _ hs)) fun r s' hq => by
    cases r with
    | ok v =>
      cases v with
      | ret u => exact hq
      | _ => exact hq
    | error e =>
      obtain ⟨_, _, _, _, _, _, _, _, _, _, _, _, z⟩ := hq
      exact z⟩
end L2
/-! Own values at the machine's level: !=, what a built-in's == says to an own instance, in. -/
namespace OwQ
open PySem PySem.W PySem.Spec PyProof.Rows
section
variable {prog : Program} {w : World} {A : Around} {E : Value → Shared → Prop} {s : Shared} {K : PySem.W.Frag} {x C f : Addr} {ox : Obj} {od : Option Obj} {b tb : Value}
/-- a special that is a built-in's slot, at an own instance -/
theorem ifBound_B {M : Model} {name : Str} {id : String} {args : List Value} {Q : Option Value → Shared → Prop} (X : K.In s.heap) (I : InstAt s.heap x ox C od) (hs : findIn K (.ref C) name = some (some (.builtin id)))
    (hb : ∀ self, bindSpecial (.builtin id) self = pure (.builtin id, [self])) (h : wpAny M A (call (.builtin id) (.ref x :: args)) (fun v => Q (some v)) E s) : wpAny M A (callSpecialIfBound? (.ref x) name args) Q E s := by
  simp only [callSpecialIfBound?, bindSpecialIfBound?]
  refine wpAny_holding (wpAny_bind (wpAny_bind (wpAny_bind (I.type.here ((looks_findIn X hs).here ?_)))))
  refine wpAny_bind (wpAny_askSetting (wpAny_ite ?_))
  have fin : wpAny M A (call (.builtin id) ([.ref x] ++ args) >>= fun v => pure (some v)) Q E s := wpAny_bind (wpAny_mono h (fun v s' h' => wpAny_pure h') fun _ _ h' => h')
  split
  · exact wpAny_bind ((Looks.of_pure (hb _)).here (wpAny_pure (by exact fin)))
  · exact wpAny_tryCatch (wpAny_bind ((Looks.of_pure (hb _)).here (wpAny_pure (by exact fin))))
/-- object.__ne__ of an own instance with an own __eq__ -/
theorem one_ne {Q : Value → Shared → Prop} (hu : A.in1.units < cLine) (X : K.In s.heap) (I : InstAt s.heap x ox C od) (hm : mroIn K C (.type "object") = some true) (hs : findIn K (.ref C) "__eq__" = some (some (.ref f))) (hf : isFn K (.ref f) = true)
    (h : wpAny (model prog w) A.in1 (call (.ref f) [.ref x, b]) (fun v s' => ∃ r, v = .bool r ∧ Q (.bool (!r)) s') E s) : wpAny (model prog w) A (call (.builtin "object.__ne__") [.ref x, b]) Q E s := by
  refine wpAny_call (codeAny_call_builtin PySem.F.slot_object_ne.plain PySem.F.cmpEntry_ne (check_slot (i := "object.__ne__") (owner := "object") (n := "__ne__") PySem.F.cmpKind_ne PySem.F.cmpSplit_ne (I.type.andThen (looks_mroIn X hm)) (PySem.F.cmpArgs_ne _ _) ?_))
  unfold Builtin.«object.__ne__»
  refine wpAny_bind (m := slotArgs "__ne__" 1 _) (wpAny_pure ?_)
  refine wpAny_bind (m := cRoomFor _ _) (wpAny_cRoomFor hu ?_)
  refine wpAny_bind (m := callSpecialIfBound? (.ref x) (Str.ofString "__eq__") [b]) (ifBound_K X I hs hf (wpAny_mono h (fun r s' hr => ?_) fun _ _ y => y))
  obtain ⟨r, rfl, hq⟩ := hr
  exact wpAny_bind (wpAny_truthy_bool (wpAny_pure hq))
/-- x != b, x an own instance with an own __eq__ -/
theorem ne_K {L : Addr} {h₀ : Heap} {m : Str → Option Value} {Q : Value → Shared → Prop} (hu : A.in1.units < cLine) (F : Fr h₀ L s.heap m) (X₀ : K.In h₀) (I : InstAt s.heap x ox C od) (hb : Looks (model prog w) s.heap (typeOf b) tb) (hn : notFirst K C tb = true)
    (hne : findIn K (.ref C) "__ne__" = some (some (.builtin "object.__ne__"))) (hm : mroIn K C (.type "object") = some true) (hs : findIn K (.ref C) "__eq__" = some (some (.ref f))) (hf : isFn K (.ref f) = true)
    (h : wpAny (model prog w) A.in1 (call (.ref f) [.ref x, b]) (fun v s' => ∃ r, v = .bool r ∧ Q (.bool (!r)) s') E s) : wpAny (model prog w) A (richCompare .NotEq (.ref x) b) Q E s := by
  have X := X₀.keeps F.keep
  have hu0 : A.units < cLine := Nat.lt_of_succ_lt hu
  have one : wpAny (model prog w) A (tryCompare (.ref x) (cmpInfo .NotEq).2.1 b) (fun r s' => ∃ v, r = some v ∧ Q v s') E s := by
    unfold tryCompare
    refine wpAny_bind (ifBound_B X I hne PySem.F.slot_object_ne.bind (one_ne hu X I hm hs hf (wpAny_mono h (fun v s' hv => ?_) fun _ _ e => e)))
    obtain ⟨r, rfl, hq⟩ := hv
    exact ⟨r, rfl, wpAny_pure ⟨_, rfl, hq⟩⟩
  unfold richCompare
  simp only [oneThing_ref]
  refine wpAny_holding (wpAny_bind (wpAny_cRoomFor hu0 ?_))
  refine wpAny_bind (I.type.here (wpAny_bind (hb.here ?_)))
  split
  · rename_i q
    have e : subIn K tb (.ref C) = some false := by
      rcases Bool.or_eq_true_iff.mp hn with e | e
      · rw [beq_iff_eq.mp e] at q; simp at q
      · exact beq_iff_eq.mp e
    refine wpAny_bind ((looks_subIn X e).here ?_)
    simp only [Bool.false_eq_true, if_false]
    refine wpAny_bind (wpAny_mono one (fun r s' z => ?_) fun _ _ e => e)
    obtain ⟨v, rfl, hq⟩ := z
    exact wpAny_pure hq
  · refine wpAny_bind (wpAny_pure ?_)
    simp only [Bool.false_eq_true, if_false]
    refine wpAny_bind (wpAny_mono one (fun r s' z => ?_) fun _ _ e => e)
    obtain ⟨v, rfl, hq⟩ := z
    exact wpAny_pure hq
/-- a op x, a of a built-in kind that declines, x an own instance -/
theorem right_K {L : Addr} {h₀ : Heap} {m : Str → Option Value} {a : Value} {T ida : String} {op : CmpOp} {Q : Value → Shared → Prop} (hu : A.units < cLine) (F : Fr h₀ L s.heap m) (X₀ : K.In h₀) (I : InstAt s.heap x ox C od) (ha : s.TypeIs a T)
    (hn : subIn K (.ref C) (.type T) = some false) (h1 : Slot T (cmpInfo op).2.1 ida) (hd : ∀ P : Value → Shared → Prop, P .notImplemented s → wpAny (model prog w) A (call (.builtin ida) [a, .ref x]) P E s)
    (h : wpAny (model prog w) A (tryCompare (.ref x) (cmpInfo op).2.2 a) (fun r s' => ∃ v, r = some v ∧ Q v s') E s) : wpAny (model prog w) A (richCompare op a (.ref x)) Q E s := by
  have X := X₀.keeps F.keep
  rcases hi : cmpInfo op with ⟨sym, f, r⟩
  rw [hi] at h1 h
  simp only [richCompare, hi, ha.oneThing_none]
  try with_reducible refine wpAny_holding ?_
  refine wpAny_bind (wpAny_cRoomFor hu ?_)
  refine wpAny_bind (wpAny_typeOf ha (wpAny_bind (I.type.here ?_)))
  have hne : (Value.type T != Value.ref C) = true := by
    rw [bne_iff_ne]
    exact fun z => nomatch z
  simp only [hne, if_true]
  refine wpAny_bind ((looks_subIn X hn).here ?_)
  simp only [Bool.false_eq_true, if_false, Bool.not_false, if_true]
  refine wpAny_bind (m := tryCompare a _ _) (wpAny_tryCompare_declines ha h1 (hd _ ⟨rfl, ?_⟩))
  refine wpAny_bind (m := tryCompare (.ref x) _ _) (wpAny_mono h (fun r s' z => ?_) fun _ _ e => e)
  obtain ⟨v, rfl, hq⟩ := z
  exact wpAny_pure hq
theorem try_eq {Q : Value → Shared → Prop} (X : K.In s.heap) (I : InstAt s.heap x ox C od) (hs : findIn K (.ref C) "__eq__" = some (some (.ref f))) (hf : isFn K (.ref f) = true)
    (h : wpAny (model prog w) A (call (.ref f) [.ref x, b]) (fun v s' => ∃ r, v = .bool r ∧ Q (.bool r) s') E s) : wpAny (model prog w) A (tryCompare (.ref x) "__eq__" b) (fun r s' => ∃ v, r = some v ∧ Q v s') E s := by
  unfold tryCompare
  refine wpAny_bind (ifBound_K X I hs hf (wpAny_mono h (fun v s' hv => ?_) fun _ _ e => e))
  obtain ⟨r, rfl, hq⟩ := hv
  exact wpAny_pure ⟨_, rfl, hq⟩
end
/-! what the built-in kinds' == answers to an own instance -/
section
variable {prog : Program} {w : World} {A : Around} {E : Value → Shared → Prop} {s : Shared} {K : PySem.W.Frag} {x C : Addr} {ox : Obj} {od : Option Obj} {P : Value → Shared → Prop}
theorem dec_none (h : P .notImplemented s) : wpAny (model prog w) A (call (.builtin "NoneType.__eq__") [.none, .ref x]) P E s := by
  refine wpAny_call_entry PySem.F.slot_NoneType_eq rfl PySem.F.entry_NoneType_eq ?_ (PySem.F.args_NoneType_eq_2 _ _)
  obtain ⟨hp, g, d, tk, os⟩ := s
  wp_walk
  exact ⟨_, rfl, h⟩
theorem dec_str {z : Str} {t : Tok} {dx : Addr} (hx : s.heap.get? x = some (instObj C dx)) (h : P .notImplemented s) : wpAny (model prog w) A (call (.builtin "str.__eq__") [.str z t, .ref x]) P E s := by
  refine wpAny_call_entry PySem.F.slot_str_eq (typeIs_str _ _ _) PySem.F.entry_str_eq ?_ (PySem.F.args_str_eq_2 _ _)
  obtain ⟨hp, g, d, tk, os⟩ := s
  wp_walk using AutoSeq1.wpAny_loadPart' hx
  exact ⟨_, rfl, h⟩
theorem dec_int {i : Int} {t : Tok} {dx : Addr} (hx : s.heap.get? x = some (instObj C dx)) (h : P .notImplemented s) : wpAny (model prog w) A (call (.builtin "int.__eq__") [.int i t, .ref x]) P E s := by
  refine wpAny_call_entry PySem.F.slot_int_eq (typeIs_int _ _ _) PySem.F.entry_int_eq ?_ (PySem.F.args_int_eq_2 _ _)
  obtain ⟨hp, g, d, tk, os⟩ := s
  wp_walk using AutoSeq1.wpAny_loadPart' hx
  exact ⟨_, rfl, h⟩
theorem dec_bool {b : Bool} {dx : Addr} (hx : s.heap.get? x = some (instObj C dx)) (h : P .notImplemented s) : wpAny (model prog w) A (call (.builtin "int.__eq__") [.bool b, .ref x]) P E s := by
  refine wpAny_call_entry PySem.F.slot_bool_eq rfl PySem.F.entry_int_eq ?_ (PySem.F.args_int_eq_2 _ _)
  obtain ⟨hp, g, d, tk, os⟩ := s
  wp_walk using AutoSeq1.wpAny_loadPart' hx
  exact ⟨_, rfl, h⟩
theorem dec_list {l : Addr} (hl : s.TypeIs (.ref l) "list") (X : K.In s.heap) (I : InstAt s.heap x ox C od) (hm : mroIn K C (.type "list") = some false) (h : P .notImplemented s) : wpAny (model prog w) A (call (.builtin "list.__eq__") [.ref l, .ref x]) P E s := by
  have hi : Looks (model prog w) s.heap (isInstance (.ref x) (.type "list")) false := I.type.andThen (looks_mroIn X hm)
  refine wpAny_call_entry PySem.F.slot_list_eq hl PySem.F.entry_list_eq ?_ (PySem.F.args_list_eq_2 _ _)
  refine wpAny_bind (m := slotArgs "__eq__" 1 _) (wpAny_pure ?_)
  refine wpAny_bind (m := isInstance (.ref x) (.type "list")) (hi.here ?_)
  exact wpAny_pure ⟨_, rfl, h⟩
theorem dec_tuple {l : Addr} (hl : s.TypeIs (.ref l) "tuple") (X : K.In s.heap) (I : InstAt s.heap x ox C od) (hm : mroIn K C (.type "tuple") = some false) (h : P .notImplemented s) : wpAny (model prog w) A (call (.builtin "tuple.__eq__") [.ref l, .ref x]) P E s := by
  have hi : Looks (model prog w) s.heap (isInstance (.ref x) (.type "tuple")) false := I.type.andThen (looks_mroIn X hm)
  refine wpAny_call_entry PySem.F.slot_tuple_eq hl PySem.F.entry_tuple_eq ?_ (PySem.F.args_tuple_eq_2 _ _)
  refine wpAny_bind (m := slotArgs "__eq__" 1 _) (wpAny_pure ?_)
  refine wpAny_bind (m := isInstance (.ref x) (.type "tuple")) (hi.here ?_)
  exact wpAny_pure ⟨_, rfl, h⟩
theorem dec_dict {l : Addr} (hl : s.TypeIs (.ref l) "dict") (X : K.In s.heap) (I : InstAt s.heap x ox C od) (hm : mroIn K C (.type "dict") = some false) (h : P .notImplemented s) : wpAny (model prog w) A (call (.builtin "dict.__eq__") [.ref l, .ref x]) P E s := by
  have hi : Looks (model prog w) s.heap (isInstance (.ref x) (.type "dict")) false := I.type.andThen (looks_mroIn X hm)
  refine wpAny_call_entry PySem.F.slot_dict_eq hl PySem.F.entry_dict_eq ?_ (PySem.F.args_dict_eq_2 _ _)
  refine wpAny_bind (m := Builtin.Dict.dictSlotArgs "__eq__" _) (wpAny_pure ?_)
  refine wpAny_bind (m := isInstance (.ref x) (.type "dict")) (hi.here ?_)
  exact wpAny_bind (wpAny_rule (wpAny_pure ⟨_, rfl, h⟩))
end
/-! in, == and != of lists and tuples whose items' == may make objects -/
section
open GQ PySem.SeqAt MeetsSeq MeetsSeq2 MeetsSeq3 SeqRoads2
open AutoSeq1 (wpAny_loadPart')
variable {prog : Program} {w : World} {A : Around} {R : Result → Shared → Prop} {E : Value → Shared → Prop}
theorem take_false {bs : List Bool} {i : Nat} {h : i < bs.length} (hp : (bs.take i).any id = false) (hb : bs[i] = false) : (bs.take (i + 1)).any id = false := by
  rw [List.take_succ_eq_append_getElem h, List.any_append, hp, List.any_cons, hb]
  rfl
theorem take_true {bs : List Bool} {i : Nat} (h : i < bs.length) (hb : bs[i] = true) : bs.any id = true := List.any_eq_true.mpr ⟨bs[i], List.getElem_mem h, hb⟩
theorem take_trueA {bs : List Bool} {i : Nat} {h : i < bs.length} (hp : (bs.take i).all id = true) (hb : bs[i] = true) : (bs.take (i + 1)).all id = true := by
  rw [List.take_succ_eq_append_getElem h, List.all_append, hp, List.all_cons, hb]
  rfl
theorem take_falseA {bs : List Bool} {i : Nat} (h : i < bs.length) (hb : bs[i] = false) : bs.all id = false := by
  rw [List.all_eq_false]
  exact ⟨bs[i], List.getElem_mem h, by rw [hb]; exact fun z => nomatch z⟩
/-- at each turn the list is read anew: bs.length items, the i-th compared with x is bs's i-th -/
def InI (prog : Program) (w : World) (A : Around) (E : Value → Shared → Prop) (l : Addr) (x : Value) (bs : List Bool) (I : Nat → Shared → Prop) : Prop :=
  ∀ i s, I i s → ∃ (items : Array Value) (n : Nat), s.heap.get? l = some { cls := .type "list", data := .seq items n } ∧ items.size = bs.length ∧
    ∀ (h1 : i < items.size) (h2 : i < bs.length), wpAny (model prog w) A.in1 (eqBool items[i] x) (fun r s' => r = bs[i] ∧ I (i + 1) s') E s
theorem in_loopG (l : Addr) (x : Value) (bs : List Bool) (I : Nat → Shared → Prop) (hl : InI prog w A (fun e s' => R (.error e) s') l x bs I)
    (fin : ∀ i s, I i s → R (.ok (.ret (.bool (bs.any id)))) s) (k : Nat) :
    ∀ i : Nat, bs.length - i = k → i ≤ bs.length → (bs.take i).any id = false → ∀ s, I i s →
      wpAny (model prog w) A.in1 (Builtin.«list.__contains__.loop» ⟨[.ref l, x, rawInt i], []⟩) (FinOf prog w A R) (fun e s' => R (.error e) s') s := by
  induction k with
  | zero =>
    intro i hk hi hp s h
    obtain ⟨items, n, hl1, hs1, _⟩ := hl _ _ h
    have hi' : i = bs.length := by omega
    have hR := fin i s h
    rw [hi', List.take_length] at hp
    rw [hp] at hR
    obtain ⟨hp, g, d, tk, os⟩ := s
    wp_walk using wpAny_loadPart' hl1
    have hi1 : items[((i : Nat) : Int).toNat]? = none := by simp; omega
    rw [hi1]
    wp_walk
    exact hR
  | succ k ih =>
    intro i hk hi hp s h
    obtain ⟨items, n, hl1, hs1, turn⟩ := hl _ _ h
    have hlt : i < items.size := by omega
    have hlt2 : i < bs.length := by omega
    have ht := turn hlt hlt2
    obtain ⟨hp', g, d, tk, os⟩ := s
    wp_walk using wpAny_loadPart' hl1
    have hi1 : items[((i : Nat) : Int).toNat]? = some items[i] := by simp [hlt]
    have hc : ((i : Int) + 1) = ((i + 1 : Nat) : Int) := by omega
    rw [hi1]
    refine wpAny_bind (wpAny_mono ht (fun r s2 h2 => ?_) fun _ _ x => x)
    obtain ⟨hr, h2⟩ := h2
    subst hr
    cases hb : bs[i] with
    | true =>
      have hR := fin _ _ h2
      rw [take_true hlt2 hb] at hR
      obtain ⟨hp2, g2, d2, tk2, os2⟩ := s2
      wp_walk
      exact hR
    | false =>
      have hrec := ih (i + 1) (by omega) (by omega) (take_false (h := hlt2) hp hb) s2 h2
      obtain ⟨hp2, g2, d2, tk2, os2⟩ := s2
      wp_walk
      rw [hc]
      exact ⟨plainId_quiet plain_contains_loop _, codeAny_builtin entry_contains_loop (by
        rw [Around.under_plainId plain_contains_loop _]
        exact hrec)⟩
theorem in_listG {l : Addr} {x : Value} {bs : List Bool} {I : Nat → Shared → Prop} {Q : Value → Shared → Prop} {s : Shared} (hl : InI prog w A E l x bs I) (fin : ∀ i s, I i s → Q (.bool (bs.any id)) s) (h : I 0 s) :
    wpAny (model prog w) A (compareOp .In x (.ref l)) Q E s := by
  obtain ⟨items, n, hl1, hs1, _⟩ := hl _ _ h
  have hT : s.TypeIs (.ref l) "list" := ⟨_, hl1, rfl⟩
  show wpAny _ A (do return .bool (← contains (.ref l) x)) Q E s
  refine wpAny_bind (wpAny_contains_slot hT F.slot_list_contains (call_here F.slot_list_contains hT F.entry_list_contains (F.args_list_contains_2 _ _) ?_))
  have hrec := in_loopG (A := A) (R := wants (fun v s' => wpAny (model prog w) A (truthy v) (fun b s'' => wpAny (model prog w) A (pure (Value.bool b)) Q E s'') E s') E) l x bs I hl (fun i s' q => wpAny_truthy_bool (wpAny_pure (fin i s' q))) _ 0 rfl (Nat.zero_le _) rfl s h
  obtain ⟨hp, g, d, tk, os⟩ := s
  wp_walk using wpAny_loadPart' hl1
  exact ⟨plainId_quiet plain_contains_loop _, codeAny_builtin entry_contains_loop (by
    rw [Around.under_plainId plain_contains_loop _]
    exact hrec)⟩
theorem in_tupG {l : Addr} {x : Value} {items : Array Value} {bs : List Bool} {I : Nat → Shared → Prop} {Q : Value → Shared → Prop} {s : Shared} (hl : s.heap.IsTuple l items) (hsz : items.size = bs.length)
    (turn : ∀ i (h1 : i < items.size) (h2 : i < bs.length) s, I i s → wpAny (model prog w) A.in1 (eqBool items[i] x) (fun r s' => r = bs[i] ∧ I (i + 1) s') E s)
    (fin : ∀ i s, I i s → Q (.bool (bs.any id)) s) (h : I 0 s) : wpAny (model prog w) A (compareOp .In x (.ref l)) Q E s := by
  obtain ⟨⟨cls, dd, data, sl⟩, ho, hc, n, hd⟩ := id hl
  simp only at hc hd
  subst hc hd
  have hT : s.TypeIs (.ref l) "tuple" := ⟨_, ho, rfl⟩
  show wpAny _ A (do return .bool (← contains (.ref l) x)) Q E s
  refine wpAny_bind (wpAny_contains_slot hT F.slot_tuple_contains (call_here F.slot_tuple_contains hT F.entry_tuple_contains (F.args_tuple_contains_2 _ _) ?_))
  have h0 := h
  have fin' : ∀ i s', I i s' → wpAny (model prog w) A (truthy (Value.bool (bs.any id))) (fun b s'' => wpAny (model prog w) A (pure (Value.bool b)) Q E s'') E s' := fun i s' q => wpAny_truthy_bool (wpAny_pure (fin i s' q))
  obtain ⟨hp, g, d, tk, os⟩ := s
  wp_walk using wpAny_loadPart' ho, wpAny_forIn_array _ (fun rest b s' => b.1 = none ∧ ∃ i, rest = items.toList.drop i ∧ i ≤ items.size ∧ (bs.take i).any id = false ∧ I i s') _
  case turn =>
    rintro y rest b s' ⟨hb', i, hz, hi, hp', hI⟩
    have hlt : i < items.toList.length := by
      rcases Nat.lt_or_ge i items.toList.length with h' | h'
      · exact h'
      · rw [List.drop_of_length_le h'] at hz; cases hz
    have h1 : i < items.size := by simpa using hlt
    have h2 : i < bs.length := hsz ▸ h1
    rw [List.drop_eq_getElem_cons hlt] at hz
    injection hz with hyx hrest
    have hy : y = items[i] := by simpa using hyx
    subst hy
    refine wpAny_bind (wpAny_mono (turn i h1 h2 s' hI) (fun r s2 q2 => ?_) fun _ _ x => x)
    obtain ⟨hr, q2⟩ := q2
    subst hr
    cases hb : bs[i] with
    | true =>
      have hR := fin' _ _ q2
      rw [take_true h2 hb] at hR
      wp_walk
      exact hR
    | false =>
      wp_walk
      exact ⟨rfl, i + 1, hrest, h1, take_false (h := h2) hp' hb, q2⟩
  case fin =>
    rintro ⟨b1, b2⟩ s' ⟨hb', i, hz, hi, hp', hI⟩
    simp only at hb'
    subst hb'
    have hge : items.size ≤ i := by
      rcases Nat.lt_or_ge i items.toList.length with h' | h'
      · rw [List.drop_eq_getElem_cons h'] at hz; cases hz
      · simpa using h'
    have hi' : i = bs.length := by omega
    have hR := fin' _ _ hI
    rw [hi', List.take_length] at hp'
    rw [hp'] at hR
    wp_walk
    exact hR
  case h =>
    exact ⟨rfl, 0, rfl, Nat.zero_le _, rfl, h0⟩
/-- two tuples, item by item: != -/
theorem tuple_neB (l b : Addr) (items items2 : Array Value) (n n2 : Nat) (dd dd2 : Option Addr) (sl sl2 : Array (Option Value)) (bs : List Bool) (hs1 : items.size = bs.length) (hs2 : items2.size = bs.length) (I : Nat → Shared → Prop)
    (turn : ∀ i (h1 : i < items.size) (h2 : i < items2.size) (h3 : i < bs.length) s, I i s → wpAny (model prog w) A.in1 (eqBool items[i] items2[i]) (fun r s' => r = bs[i] ∧ I (i + 1) s') (fun e s' => R (.error e) s') s)
    (fin : ∀ i s, I i s → R (.ok (.ret (.bool (!bs.all id)))) s) {s : Shared} (hl1 : s.heap.get? l = some { cls := .type "tuple", dict := dd, data := .seq items n, slots := sl }) (hb1 : s.heap.get? b = some { cls := .type "tuple", dict := dd2, data := .seq items2 n2, slots := sl2 }) (h : I 0 s) :
    wpAny (model prog w) A.in1 (Builtin.«tuple.__ne__» ⟨[.ref l, .ref b], []⟩) (FinOf prog w A R) (fun e s' => R (.error e) s') s := by
  have f2 := AutoSeq1.sub_tuple_tuple
  have hsz : items.size = items2.size := by omega
  have hZ : (items.toList.zip items2.toList).length = items.size := by simp [hsz]
  have h0 := h
  obtain ⟨hp, g, d, tk, os⟩ := s
  wp_walk using wpAny_loadPart' hl1, wpAny_loadPart' hb1, wpAny_forIn_list _ (fun rest b s' => b.1 = none ∧ ∃ i, rest = (items.toList.zip items2.toList).drop i ∧ i ≤ items.size ∧ (bs.take i).all id = true ∧ I i s') _
  case turn =>
    rintro ⟨y, x⟩ rest b s' ⟨hb', i, hz, hi, hp', hI⟩
    have hlt : i < (items.toList.zip items2.toList).length := by
      rcases Nat.lt_or_ge i (items.toList.zip items2.toList).length with h' | h'
      · exact h'
      · rw [List.drop_of_length_le h'] at hz; cases hz
    have h1 : i < items.size := hZ ▸ hlt
    have h2 : i < items2.size := hsz ▸ h1
    have h3 : i < bs.length := hs1 ▸ h1
    rw [List.drop_eq_getElem_cons hlt] at hz
    injection hz with hyx hrest
    have hy : y = items[i] := by have := congrArg Prod.fst hyx; simpa using this
    have hx : x = items2[i] := by have := congrArg Prod.snd hyx; simpa using this
    subst hy hx
    refine wpAny_bind (wpAny_mono (turn i h1 h2 h3 s' hI) (fun r s2 q2 => ?_) fun _ _ x => x)
    obtain ⟨hr, q2⟩ := q2
    subst hr
    cases hb : bs[i] with
    | false =>
      have hR := fin _ _ q2
      rw [take_falseA h3 hb] at hR
      wp_walk
      exact hR
    | true =>
      wp_walk
      exact ⟨rfl, i + 1, hrest, h1, take_trueA (h := h3) hp' hb, q2⟩
  case fin =>
    rintro ⟨b1, b2⟩ s' ⟨hb', i, hz, hi, hp', hI⟩
    simp only at hb'
    subst hb'
    have hge : items.size ≤ i := by
      rcases Nat.lt_or_ge i (items.toList.zip items2.toList).length with h' | h'
      · rw [List.drop_eq_getElem_cons h'] at hz; cases hz
      · exact hZ ▸ h'
    have hi' : i = bs.length := by omega
    have hR := fin _ _ hI
    rw [hi', List.take_length] at hp'
    rw [hp'] at hR
    wp_walk
    simpa [Builtin.Tuple.tupleCompareSizes, hsz] using hR
  case h =>
    exact ⟨rfl, 0, rfl, Nat.zero_le _, rfl, h0⟩
/-- two lists, item by item: == -/
def EqI (prog : Program) (w : World) (A : Around) (E : Value → Shared → Prop) (l b : Addr) (bs : List Bool) (I : Nat → Shared → Prop) : Prop :=
  ∀ i s, I i s → ∃ (items items2 : Array Value) (n n2 : Nat), s.heap.get? l = some { cls := .type "list", data := .seq items n } ∧ s.heap.get? b = some { cls := .type "list", data := .seq items2 n2 } ∧ items.size = bs.length ∧ items2.size = bs.length ∧
    ∀ (h1 : i < items.size) (h2 : i < items2.size) (h3 : i < bs.length), wpAny (model prog w) A.in1 (eqBool items[i] items2[i]) (fun r s' => r = bs[i] ∧ I (i + 1) s') E s
theorem eq_loopB (l b : Addr) (bs : List Bool) (I : Nat → Shared → Prop) (hl : EqI prog w A (fun e s' => R (.error e) s') l b bs I)
    (fin : ∀ i s, I i s → R (.ok (.ret (.bool (bs.all id)))) s) (k : Nat) :
    ∀ i : Nat, bs.length - i = k → i ≤ bs.length → (bs.take i).all id = true → ∀ s, I i s →
      wpAny (model prog w) A.in1 (Builtin.«list.__eq__.loop» ⟨[.ref l, .ref b, rawInt i, rawInt 2], []⟩) (FinOf prog w A R) (fun e s' => R (.error e) s') s := by
  induction k with
  | zero =>
    intro i hk hi hp s h
    obtain ⟨items, items2, n, n2, hl1, hb1, hs1, hs2, _⟩ := hl _ _ h
    have hi' : i = bs.length := by omega
    have hR := fin i s h
    rw [hi', List.take_length] at hp
    rw [hp] at hR
    obtain ⟨hp, g, d, tk, os⟩ := s
    wp_walk using wpAny_loadPart' hl1, wpAny_loadPart' hb1
    have hi1 : items[((i : Nat) : Int).toNat]? = none := by simp; omega
    have hi2 : items2[((i : Nat) : Int).toNat]? = none := by simp; omega
    rw [hi1, hi2]
    wp_walk using wpAny_loadPart' hl1, wpAny_loadPart' hb1
    show R (.ok (.ret (.bool (items.size == items2.size)))) _
    rw [hs1, hs2]
    simpa using hR
  | succ k ih =>
    intro i hk hi hp s h
    obtain ⟨items, items2, n, n2, hl1, hb1, hs1, hs2, turn⟩ := hl _ _ h
    have hlt : i < items.size := by omega
    have hlt2 : i < items2.size := by omega
    have hlt3 : i < bs.length := by omega
    have ht := turn hlt hlt2 hlt3
    obtain ⟨hp', g, d, tk, os⟩ := s
    wp_walk using wpAny_loadPart' hl1, wpAny_loadPart' hb1
    have hi1 : items[((i : Nat) : Int).toNat]? = some items[i] := by simp [hlt]
    have hi2 : items2[((i : Nat) : Int).toNat]? = some items2[i] := by simp [hlt2]
    have hc : ((i : Int) + 1) = ((i + 1 : Nat) : Int) := by omega
    rw [hi1, hi2]
    refine wpAny_bind (wpAny_mono ht (fun r s2 h2 => ?_) fun _ _ x => x)
    obtain ⟨hr, h2⟩ := h2
    subst hr
    cases hb : bs[i] with
    | true =>
      have hrec := ih (i + 1) (by omega) (by omega) (take_trueA (h := hlt3) hp hb) s2 h2
      obtain ⟨hp2, g2, d2, tk2, os2⟩ := s2
      wp_walk
      rw [hc]
      exact ⟨plainId_quiet plain_eq_loop _, codeAny_builtin entry_eq_loop (by
        rw [Around.under_plainId plain_eq_loop _]
        exact hrec)⟩
    | false =>
      have hR := fin _ _ h2
      rw [take_falseA hlt3 hb] at hR
      obtain ⟨xs, xs2, m, m2, hl2, hb2, hz1, hz2, _⟩ := hl _ _ h2
      obtain ⟨hp2, g2, d2, tk2, os2⟩ := s2
      have q1 : xs[((i : Nat) : Int).toNat]? = some xs[i] := by simp [show i < xs.size by omega]
      have q2 : xs2[((i : Nat) : Int).toNat]? = some xs2[i] := by simp [show i < xs2.size by omega]
      wp_walk using wpAny_loadPart' hl2, wpAny_loadPart' hb2
      rw [q1, q2]
      wp_walk
      exact hR
theorem list_eqB (l b : Addr) (bs : List Bool) (I : Nat → Shared → Prop) (hl : EqI prog w A (fun e s' => R (.error e) s') l b bs I)
    (fin : ∀ i s, I i s → R (.ok (.ret (.bool (bs.all id)))) s) {s : Shared} (h : I 0 s) :
    wpAny (model prog w) A.in1 (Builtin.«list.__eq__» ⟨[.ref l, .ref b], []⟩) (FinOf prog w A R) (fun e s' => R (.error e) s') s := by
  obtain ⟨items, items2, n, n2, hl1, hb1, hs1, hs2, _⟩ := hl _ _ h
  have hrec := eq_loopB (A := A) (R := R) l b bs I hl fin _ 0 rfl (Nat.zero_le _) rfl s h
  obtain ⟨hp, g, d, tk, os⟩ := s
  have f3 := AutoSeq1.sub_list_list
  have hne : ¬ (items.size != items2.size) = true := by simp [hs1, hs2]
  wp_walk using wpAny_loadPart' hl1, wpAny_loadPart' hb1
  exact ⟨plainId_quiet plain_eq_loop _, codeAny_builtin entry_eq_loop (by
    rw [Around.under_plainId plain_eq_loop _]
    exact hrec)⟩
end
end OwQ
/-! Own values over the layer: str, repr, f'{x}', len, ==, !=, in. -/
namespace L2
open PySem PySem.Spec PyProof.Rows _root_.Evl
def kindsT : List String := ["int", "bool", "str", "NoneType", "tuple", "list", "dict"]
def kindB (K : PySem.W.Frag) (C : Addr) (T : String) : Bool := PySem.W.notFirst K C (.type T) && (decide (PySem.W.subIn K (.ref C) (.type T) = some false) && (decide (PySem.W.mroIn K C (.type T) = some false) && decide (PySem.W.kitOne K (.type T) (.ref C) = some false)))
/-- what own values ask of the class at C -/
structure OwnC (K : PySem.W.Frag) (C : Addr) : Prop where
  is : IsC K C
  ne : PySem.W.findIn K (.ref C) "__ne__" = some (some (.builtin "object.__ne__"))
  fm : PySem.W.findIn K (.ref C) "__format__" = some (some (.builtin "object.__format__"))
  kd : ∀ T ∈ kindsT, kindB K C T = true
  nf : PySem.W.notFirst K C (.ref C) = true
def ownB (K : PySem.W.Frag) (x : Str) : Bool :=
  tyB K x && (He.eqO (PySem.W.findIn K (.ref (He.ga K x)) "__ne__") (some (some (.builtin "object.__ne__"))) && (He.eqO (PySem.W.findIn K (.ref (He.ga K x)) "__format__") (some (some (.builtin "object.__format__"))) && (kindsT.all (kindB K (He.ga K x)) && PySem.W.notFirst K (He.ga K x) (.ref (He.ga K x)))))
theorem ownB_ok {K : PySem.W.Frag} {x : Str} (h : ownB K x = true) : OwnC K (He.ga K x) := by
  obtain ⟨h1, h⟩ := He.ba h
  obtain ⟨h2, h⟩ := He.ba h
  obtain ⟨h3, h⟩ := He.ba h
  obtain ⟨h4, h5⟩ := He.ba h
  exact ⟨tyB_ok h1, He.eqO_ok h2, He.eqO_ok h3, List.all_eq_true.mp h4, h5⟩
theorem OwnC.first {K : PySem.W.Frag} {C : Addr} (c : OwnC K C) {T : String} (h : T ∈ kindsT) : PySem.W.notFirst K C (.type T) = true := (He.ba (c.kd T h)).1
theorem OwnC.sub {K : PySem.W.Frag} {C : Addr} (c : OwnC K C) {T : String} (h : T ∈ kindsT) : PySem.W.subIn K (.ref C) (.type T) = some false := of_decide_eq_true (He.ba (He.ba (c.kd T h)).2).1
theorem OwnC.mro {K : PySem.W.Frag} {C : Addr} (c : OwnC K C) {T : String} (h : T ∈ kindsT) : PySem.W.mroIn K C (.type T) = some false := of_decide_eq_true (He.ba (He.ba (He.ba (c.kd T h)).2).2).1
theorem OwnC.kit {K : PySem.W.Frag} {C : Addr} (c : OwnC K C) {T : String} (h : T ∈ kindsT) : PySem.W.kitOne K (.type T) (.ref C) = some false := of_decide_eq_true (He.ba (He.ba (He.ba (c.kd T h)).2).2).2
theorem FnOk.raw0 {P : Program} {w : World} {K : PySem.W.Frag} {mg : Str → Option Value} {base : Heap} {CX : CXT} {k : Nat} {f : Addr} {fd : FuncData} {ps : List Str} {sp : Sp} (F : FnOk P w K mg base CX k f fd ps sp) (hb : Binds K fd ps []) : FnR P w K mg base CX k f sp :=
  (FnOk.raw F hb .nil).imp fun vs H Q E h => by
    rw [List.append_nil]
    exact h
section
variable {X : Cx} {n : Nat} {C g : Addr} {sp : Sp}
/-- a text is told of an instance of the class at C -/
def rStrO (C : Addr) (sp : Sp) : List V → Hp → VK → Prop := fun xs H Q => ∃ a dx fs, xs = [V.ref a] ∧ H a = some (.ins C dx fs) ∧ sp [.ref a] H (fun v H' => ∃ z, v = .str z ∧ Q (.str z) H') E0
def rLenO (C : Addr) (sp : Sp) : List V → Hp → VK → Prop := fun xs H Q => ∃ a dx fs, xs = [V.ref a] ∧ H a = some (.ins C dx fs) ∧ sp [.ref a] H (fun v H' => ∃ i : Int, v = .int i ∧ 0 ≤ i ∧ i < 2 ^ 63 ∧ Q (.int i) H') E0
theorem pass00 : Passes CX0 X E0 := pass0
theorem call_strO (m : Meth X.K C "__str__" g) (F : FnR X.prog X.w X.K X.mg X.base CX0 n g sp) (hr : Room (n + 2) X.A) : CallR X (.type "str") (rStrO C sp) := by
  intro pins s σ H xs us Q I r h
  obtain ⟨a, dx, fs, rfl, ha, q⟩ := h
  obtain ⟨u, rfl, ru⟩ := r.one
  cases (show u = Value.ref a from ru)
  obtain ⟨mA, J, _⟩ := ins_get I.hok ha
  obtain ⟨od, J, _⟩ := J.look
  have hr2 : Room n X.A.in1.in1 := (show Room (n + 1) X.A.in1 from Room.in1 hr).in1
  refine PySem.W.kso_call hr2.units0 I.kIn J m.at_ m.fn (wpAny_mono (wpAny_call (SlX.run_at (us := [.ref a]) (ws := [.ref a]) F hr2 I.env0.in1.in1 pass0 I (.cons rfl .nil) q)) (fun w s' z => ?_) fun _ _ x => x)
  obtain ⟨z', H', I', rz, i, ei, qz⟩ := z
  subst ei
  obtain ⟨t, e⟩ := (show ∃ t, w = Value.str i t from rz)
  cases e
  exact ⟨.str i, H', I', ⟨t, rfl⟩, qz⟩
theorem call_reprO (m : Meth X.K C "__repr__" g) (F : FnR X.prog X.w X.K X.mg X.base CX0 n g sp) (hr : Room (n + 1) X.A) : CallR X (.builtin "repr") (rStrO C sp) := by
  intro pins s σ H xs us Q I r h
  obtain ⟨a, dx, fs, rfl, ha, q⟩ := h
  obtain ⟨u, rfl, ru⟩ := r.one
  cases (show u = Value.ref a from ru)
  obtain ⟨mA, J, _⟩ := ins_get I.hok ha
  obtain ⟨od, J, _⟩ := J.look
  obtain ⟨mm, hF⟩ := I.fr
  have hr2 : Room n X.A.in1 := Room.in1 hr
  refine PySem.W.repr_K hr2.units0 hF I.ok.mod.kin J m.at_ m.fn (wpAny_mono (wpAny_call (SlX.run_at (us := [.ref a]) (ws := [.ref a]) F hr2 I.env0.in1 pass0 I (.cons rfl .nil) q)) (fun w s' z => ?_) fun _ _ x => x)
  obtain ⟨z', H', I', rz, i, ei, qz⟩ := z
  subst ei
  obtain ⟨t, e⟩ := (show ∃ t, w = Value.str i t from rz)
  cases e
  exact ⟨.str i, H', I', ⟨t, rfl⟩, qz⟩
theorem call_lenO (m : Meth X.K C "__len__" g) (F : FnR X.prog X.w X.K X.mg X.base CX0 n g sp) (hr : Room (n + 1) X.A) : CallR X (.builtin "len") (rLenO C sp) := by
  intro pins s σ H xs us Q I r h
  obtain ⟨a, dx, fs, rfl, ha, q⟩ := h
  obtain ⟨u, rfl, ru⟩ := r.one
  cases (show u = Value.ref a from ru)
  obtain ⟨mA, J, _⟩ := ins_get I.hok ha
  obtain ⟨od, J, _⟩ := J.look
  obtain ⟨mm, hF⟩ := I.fr
  have hr2 : Room n X.A.in1 := Room.in1 hr
  refine PySem.W.len_K hF I.ok.mod.kin J m.at_ m.fn (wpAny_mono (wpAny_call (SlX.run_at (us := [.ref a]) (ws := [.ref a]) F hr2 I.env0.in1 pass0 I (.cons rfl .nil) q)) (fun w s' z => ?_) fun _ _ x => x)
  obtain ⟨z', H', I', rz, i, ei, i0, i1, qz⟩ := z
  subst ei
  obtain ⟨t, e⟩ := (show ∃ t, w = Value.int i t from rz)
  cases e
  exact ⟨⟨i0, i1⟩, .int i, H', I'.tok _, ⟨_, rfl⟩, qz⟩
/-- {x}, x an instance -/
def tFmtO (C : Addr) (sp : Sp) (te : TE) : TE := fun σ H Q => te σ H fun x H1 => rStrO C sp [x] H1 Q
theorem pe_fmtO {e : Expr} {te : TE} {pos : Pos} (c : OwnC X.K C) (m : Meth X.K C "__str__" g) (F : FnR X.prog X.w X.K X.mg X.base CX0 n g sp) (hr : Room (n + 1) X.A) (he : PE X e te) : PE X (.FormattedValue e (-1) none pos) (tFmtO C sp te) := by
  refine ⟨fun pins s σ H Q I h => ?_⟩
  refine wpAny_FormattedValue_plain (thn (he.run pins s σ H _ I h) fun v s1 hv => ?_)
  obtain ⟨x, H1, I1, r1, a, dx, fs, ex, ha, q⟩ := hv
  cases ex
  cases (show v = Value.ref a from r1)
  obtain ⟨mA, J, _⟩ := ins_get I1.hok ha
  obtain ⟨od, J, _⟩ := J.look
  have hr2 : Room n X.A.in1 := Room.in1 hr
  have I2 := I1.tok (s1.toks + 1)
  refine PySem.W.kfo_fieldS hr2.units0 I1.kIn J c.fm c.is.hm m.at_ m.fn (wpAny_mono (wpAny_call (SlX.run_at (us := [.ref a]) (ws := [.ref a]) F hr2 I2.env0.in1 pass0 I2 (.cons rfl .nil) q)) (fun w s' z => ?_) fun _ _ x => x)
  obtain ⟨z', H', I', rz, i, ei, qz⟩ := z
  subst ei
  obtain ⟨t, e⟩ := (show ∃ t, w = Value.str i t from rz)
  cases e
  exact ⟨.str i, H', I', ⟨t, rfl⟩, qz⟩
end
end L2
/-! == and != by an own __eq__, with either answer, against things of the built-in kinds too. -/
namespace L2
open PySem PySem.Spec PyProof.Rows _root_.Evl
abbrev EqR := V → V → Hp → Bool → Prop
/-- a thing of a built-in kind -/
inductive Kd (H : Hp) : V → String → Prop where
  | non : Kd H .non "NoneType"
  | bl (b : Bool) : Kd H (.bl b) "bool"
  | int (i : Int) : Kd H (.int i) "int"
  | str (z : Str) : Kd H (.str z) "str"
  | lst {a : Addr} {xs : List V} (h : H a = some (.lst xs)) : Kd H (.ref a) "list"
  | tup {a : Addr} {xs : List V} (h : H a = some (.tup xs)) : Kd H (.ref a) "tuple"
  | dK {a : Addr} {kvs : List (Key × V)} (h : H a = some (.dK kvs)) : Kd H (.ref a) "dict"
theorem Kd.tyx {K : PySem.W.Frag} {H : Hp} {x : V} {T : String} (h : Kd H x T) : TyX K H x (.type T) := by
  cases h with
  | non => exact .base .non
  | bl b => exact .base (.bl b)
  | int i => exact .base (.int i)
  | str z => exact .base (.str z)
  | lst h => exact .base (.lst h)
  | tup h => exact .base (.tup h)
  | dK h => exact .base (.dK h)
theorem Kd.mem {H : Hp} {x : V} {T : String} (h : Kd H x T) : T ∈ kindsT := by
  cases h <;> simp [kindsT]
theorem Kd.ex {H H' : Hp} {x : V} {T : String} (h : Kd H x T) (e : Ex H H') : Kd H' x T := by
  cases h with
  | non => exact .non
  | bl b => exact .bl b
  | int i => exact .int i
  | str z => exact .str z
  | lst h => exact .lst (e _ _ h)
  | tup h => exact .tup (e _ _ h)
  | dK h => exact .dK (e _ _ h)
def RcE (X : Cx) (n : Nat) (op : CmpOp) (D : EqR) : Prop :=
  ∀ (A : Around) (pins : List (Addr × Obj)) (s : Shared) (σ : St) (H : Hp) (x y : V) (u v : Value) (b : Bool), Sub X n A → Inv X pins σ H s → RelV x u → RelV y v → D x y H b →
    wpAny (model X.prog X.w) A (richCompare op u v) (fun r s' => r = .bool b ∧ ∃ H', Inv X pins σ H' s' ∧ Ex H H') X.xe s
def EqE (X : Cx) (n : Nat) (D : EqR) : Prop :=
  ∀ (A : Around) (pins : List (Addr × Obj)) (s : Shared) (σ : St) (H : Hp) (x y : V) (u v : Value) (b : Bool), Sub X n A → Inv X pins σ H s → RelV x u → RelV y v → D x y H b →
    wpAny (model X.prog X.w) A (eqBool u v) (fun r s' => r = b ∧ ∃ H', Inv X pins σ H' s' ∧ Ex H H') X.xe s
def MonE (D : EqR) : Prop := ∀ x y H H' b, Ex H H' → D x y H b → D x y H' b
/-- what the own == promises: R tells its answer -/
def spEqE (R : Addr → V → Hp → Bool → Prop) : Sp := fun vs H Q _ => ∃ a y b, vs = [.ref a, y] ∧ R a y H b ∧ ∀ H', Ex H H' → Q (.bl b) H'
/-- x an instance, y whatever isn't asked first -/
def DOwn (K : PySem.W.Frag) (C : Addr) (R : Addr → V → Hp → Bool → Prop) : EqR := fun x y H b => ∃ a dx fs t, x = .ref a ∧ H a = some (.ins C dx fs) ∧ (∀ H1, Ex H H1 → TyX K H1 y t) ∧ PySem.W.notFirst K C t = true ∧ R a y H b
/-- x of a built-in kind, y an instance -/
def DOff (C : Addr) (R : Addr → V → Hp → Bool → Prop) : EqR := fun x y H b => ∃ a dx fs T, y = .ref a ∧ H a = some (.ins C dx fs) ∧ Kd H x T ∧ R a x H b
section
variable {X : Cx} {n m : Nat} {C g : Addr} {R : Addr → V → Hp → Bool → Prop} {D D' : EqR} {op : CmpOp}
theorem RcE.or (h : RcE X n op D) (h' : RcE X n op D') : RcE X n op (fun x y H b => D x y H b ∨ D' x y H b) := fun A pins s σ H x y u v b sb I rx ry d => d.elim (h A pins s σ H x y u v b sb I rx ry) (h' A pins s σ H x y u v b sb I rx ry)
theorem EqE.or (h : EqE X n D) (h' : EqE X n D') : EqE X n (fun x y H b => D x y H b ∨ D' x y H b) := fun A pins s σ H x y u v b sb I rx ry d => d.elim (h A pins s σ H x y u v b sb I rx ry) (h' A pins s σ H x y u v b sb I rx ry)
theorem RcE.mono (h : RcE X n op D) (hn : n ≤ m) : RcE X m op D := fun A pins s σ H x y u v b sb => h A pins s σ H x y u v b (sb.mono hn)
theorem EqE.mono (h : EqE X n D) (hn : n ≤ m) : EqE X m D := fun A pins s σ H x y u v b sb => h A pins s σ H x y u v b (sb.mono hn)
/-- the own == runs somewhere below the running body -/
theorem own_runs {A : Around} {pins : List (Addr × Obj)} {s : Shared} {σ : St} {H : Hp} {a : Addr} {y : V} {v : Value} {b : Bool} (F : FnR X.prog X.w X.K X.mg X.base CX0 n g (spEqE R)) (sb : Sub X n A) (I : Inv X pins σ H s) (ry : RelV y v) (hr : R a y H b) :
    wpAny (model X.prog X.w) A (call (.ref g) [.ref a, v]) (fun r s' => r = .bool b ∧ ∃ H', Inv X pins σ H' s' ∧ Ex H H') X.xe s := by
  have e0 : Env0 X.prog X.w X.K X.mg X.base A X.stack s H := by
    have e := I.env0
    exact ⟨by rw [sb.fr]; exact e.frames, e.mod, e.bs, e.bsz, e.funs, e.frf, e.hok, e.bare⟩
  refine wpAny_mono (wpAny_call (SlX.run_at (us := [.ref a, v]) (ws := [.ref a, y]) (Q := fun z H' => z = .bl b ∧ Ex H H') F sb.room e0 pass0 I (.cons rfl (.cons ry .nil)) ⟨a, y, b, rfl, hr, fun H' e => ⟨rfl, e⟩⟩)) (fun r s' z => ?_) fun _ _ x => x
  obtain ⟨z', H', I', rz, ez, ex⟩ := z
  subst ez
  cases (show r = Value.bool b from rz)
  exact ⟨rfl, H', I', ex⟩
theorem tyLooks {pins : List (Addr × Obj)} {s : Shared} {σ : St} {H : Hp} {y : V} {v t : Value} (I : Inv X pins σ H s) (ry : RelV y v) (ty : TyX X.K H y t) : PySem.W.Looks (model X.prog X.w) s.heap (typeOf v) t := by
  obtain ⟨P, Z, p, hx⟩ := kit_of I ry ty
  exact Z.ty _ _ I.kIn p
theorem rcE_own (m : Meth X.K C "__eq__" g) (F : FnR X.prog X.w X.K X.mg X.base CX0 n g (spEqE R)) : RcE X n .Eq (DOwn X.K C R) := by
  intro A pins s σ H x y u v b sb I rx ry d
  obtain ⟨a, dx, fs, t, rfl, ha, ty, hn, hr⟩ := d
  cases (show u = Value.ref a from rx)
  obtain ⟨mA, J, _⟩ := ins_get I.hok ha
  obtain ⟨od, J, _⟩ := J.look
  obtain ⟨mm, hF⟩ := I.fr
  refine PySem.W.cmp_K (op := .Eq) (tb := t) sb.room.units0 hF I.ok.mod.kin J (tyLooks I ry (ty H (Ex.refl _))) hn m.at_ m.fn ?_
  refine wpAny_mono (own_runs F sb I ry hr) (fun r s' z => ?_) fun _ _ x => x
  obtain ⟨rfl, z⟩ := z
  exact ⟨rfl, z⟩
theorem neE_own (c : OwnC X.K C) (m : Meth X.K C "__eq__" g) (F : FnR X.prog X.w X.K X.mg X.base CX0 n g (spEqE R)) : RcE X (n + 1) .NotEq (fun x y H b => DOwn X.K C R x y H (!b)) := by
  intro A pins s σ H x y u v b sb I rx ry d
  obtain ⟨a, dx, fs, t, rfl, ha, ty, hn, hr⟩ := d
  cases (show u = Value.ref a from rx)
  obtain ⟨mA, J, _⟩ := ins_get I.hok ha
  obtain ⟨od, J, _⟩ := J.look
  obtain ⟨mm, hF⟩ := I.fr
  refine OwQ.ne_K (tb := t) sb.in1.room.units0 hF I.ok.mod.kin J (tyLooks I ry (ty H (Ex.refl _))) hn c.ne c.is.hm m.at_ m.fn ?_
  refine wpAny_mono (own_runs F sb.in1 I ry hr) (fun r s' z => ?_) fun _ _ x => x
  obtain ⟨rfl, z⟩ := z
  exact ⟨!b, rfl, by rw [Bool.not_not], z⟩
theorem rcE_off (c : OwnC X.K C) (m : Meth X.K C "__eq__" g) (F : FnR X.prog X.w X.K X.mg X.base CX0 n g (spEqE R)) : RcE X n .Eq (DOff C R) := by
  intro A pins s σ H x y u v b sb I rx ry d
  obtain ⟨a, dx, fs, T, rfl, ha, kd, hr⟩ := d
  cases (show v = Value.ref a from ry)
  obtain ⟨mA, J0, _⟩ := ins_get I.hok ha
  have hx := J0.obj
  obtain ⟨od, J, _⟩ := J0.look
  obtain ⟨mm, hF⟩ := I.fr
  have back : wpAny (model X.prog X.w) A (tryCompare (.ref a) (cmpInfo .Eq).2.2 u) (fun r s' => ∃ v, r = some v ∧ v = .bool b ∧ ∃ H', Inv X pins σ H' s' ∧ Ex H H') X.xe s := by
    refine OwQ.try_eq (Q := fun v s' => v = .bool b ∧ ∃ H', Inv X pins σ H' s' ∧ Ex H H') I.kIn J m.at_ m.fn (wpAny_mono (own_runs F sb I rx hr) (fun r s' z => ?_) fun _ _ x => x)
    obtain ⟨rfl, z⟩ := z
    exact ⟨b, rfl, rfl, z⟩
  have hm := kd.mem
  cases kd with
  | non =>
    cases (show u = Value.none from rx)
    exact OwQ.right_K (op := .Eq) sb.room.units0 hF I.ok.mod.kin J rfl (c.sub hm) PySem.F.slot_NoneType_eq (fun P h => OwQ.dec_none h) back
  | bl y =>
    cases (show u = Value.bool y from rx)
    exact OwQ.right_K (op := .Eq) sb.room.units0 hF I.ok.mod.kin J rfl (c.sub hm) PySem.F.slot_bool_eq (fun P h => OwQ.dec_bool hx h) back
  | int i =>
    obtain ⟨t, e⟩ := (show ∃ t, u = Value.int i t from rx)
    cases e
    exact OwQ.right_K (op := .Eq) sb.room.units0 hF I.ok.mod.kin J (typeIs_int _ _ _) (c.sub hm) PySem.F.slot_int_eq (fun P h => OwQ.dec_int hx h) back
  | str z =>
    obtain ⟨t, e⟩ := (show ∃ t, u = Value.str z t from rx)
    cases e
    exact OwQ.right_K (op := .Eq) sb.room.units0 hF I.ok.mod.kin J (typeIs_str _ _ _) (c.sub hm) PySem.F.slot_str_eq (fun P h => OwQ.dec_str hx h) back
  | @lst l xs ea =>
    cases (show u = Value.ref l from rx)
    obtain ⟨_, _, k, _, h1⟩ := (show ObjOk X.prog X.w H s.heap l (.lst xs) from I.hok l _ ea)
    have hT : s.TypeIs (.ref l) "list" := ⟨_, h1, rfl⟩
    exact OwQ.right_K (op := .Eq) sb.room.units0 hF I.ok.mod.kin J hT (c.sub hm) PySem.F.slot_list_eq (fun P h => OwQ.dec_list hT I.kIn J (c.mro hm) h) back
  | @tup l xs ea =>
    cases (show u = Value.ref l from rx)
    obtain ⟨_, _, _, o, h1, h2, _⟩ := (show ObjOk X.prog X.w H s.heap l (.tup xs) from I.hok l _ ea)
    have hT : s.TypeIs (.ref l) "tuple" := ⟨_, h1, h2⟩
    exact OwQ.right_K (op := .Eq) sb.room.units0 hF I.ok.mod.kin J hT (c.sub hm) PySem.F.slot_tuple_eq (fun P h => OwQ.dec_tuple hT I.kIn J (c.mro hm) h) back
  | @dK l kvs ea =>
    cases (show u = Value.ref l from rx)
    obtain ⟨_, _, vs, _, o, es, ep, h1, h2, _⟩ := (show ObjOk X.prog X.w H s.heap l (.dK kvs) from I.hok l _ ea)
    have hT : s.TypeIs (.ref l) "dict" := ⟨_, h1, h2.1⟩
    exact OwQ.right_K (op := .Eq) sb.room.units0 hF I.ok.mod.kin J hT (c.sub hm) PySem.F.slot_dict_eq (fun P h => OwQ.dec_dict hT I.kIn J (c.mro hm) h) back
end
end L2
/-! == inside lists and tuples. -/
namespace L2
open PySem PySem.Spec PyProof.Rows _root_.Evl
section
variable {X : Cx} {n : Nat} {C g : Addr} {R : Addr → V → Hp → Bool → Prop} {D D' : EqR}
theorem eqB_of {A : Around} {s : Shared} {E : Value → Shared → Prop} {u v : Value} {Q : Bool → Shared → Prop} (hne : u ≠ v) (hf : ∀ x t, u ≠ .float x t) (h : wpAny (model X.prog X.w) A (richCompare .Eq u v) (fun r s' => ∃ b, r = .bool b ∧ Q b s') E s) : wpAny (model X.prog X.w) A (eqBool u v) Q E s := by
  unfold eqBool
  refine wpAny_holding ?_
  refine wpAny_ite_split (fun hab => absurd (eq_of_beq hab) hne) (fun _ => ?_)
  have fin : wpAny (model X.prog X.w) A (richCompare .Eq u v >>= truthOfDropped) Q E s := by
    refine wpAny_bind (wpAny_mono h (fun r s' hv => ?_) fun _ _ x => x)
    obtain ⟨b, rfl, q⟩ := hv
    exact wpAny_truthy_bool q
  cases u with
  | float x t => exact absurd rfl (hf x t)
  | _ => first | exact fin | simpa using fin
theorem Kd.rel {H : Hp} {x : V} {T : String} {u : Value} (h : Kd H x T) (r : RelV x u) : (∀ y t, u ≠ .float y t) := by
  intro y t e
  subst e
  cases h with
  | non => cases (show Value.float y t = Value.none from r)
  | bl b => cases (show Value.float y t = Value.bool b from r)
  | int i => obtain ⟨k, e⟩ := (show ∃ k, Value.float y t = Value.int i k from r); cases e
  | str z => obtain ⟨k, e⟩ := (show ∃ k, Value.float y t = Value.str z k from r); cases e
  | @lst a xs h => cases (show Value.float y t = Value.ref a from r)
  | @tup a xs h => cases (show Value.float y t = Value.ref a from r)
  | @dK a xs h => cases (show Value.float y t = Value.ref a from r)
theorem Kd.ne_ins {H : Hp} {x : V} {T : String} {u : Value} {a dx : Addr} {fs : List (Str × V)} (h : Kd H x T) (r : RelV x u) (ha : H a = some (.ins C dx fs)) : u ≠ .ref a := by
  intro e
  subst e
  cases h with
  | non => cases (show Value.ref a = Value.none from r)
  | bl b => cases (show Value.ref a = Value.bool b from r)
  | int i => obtain ⟨k, e⟩ := (show ∃ k, Value.ref a = Value.int i k from r); cases e
  | str z => obtain ⟨k, e⟩ := (show ∃ k, Value.ref a = Value.str z k from r); cases e
  | @lst l xs h =>
    cases (show Value.ref a = Value.ref l from r)
    rw [ha] at h
    cases h
  | @tup l xs h =>
    cases (show Value.ref a = Value.ref l from r)
    rw [ha] at h
    cases h
  | @dK l xs h =>
    cases (show Value.ref a = Value.ref l from r)
    rw [ha] at h
    cases h
theorem eqE_own (m : Meth X.K C "__eq__" g) (F : FnR X.prog X.w X.K X.mg X.base CX0 n g (spEqE R)) (hself : ∀ a H b, R a (.ref a) H b → b = true) : EqE X n (DOwn X.K C R) := by
  intro A pins s σ H x y u v b sb I rx ry d
  have d0 := d
  obtain ⟨a, dx, fs, t, rfl, ha, ty, hn, hr⟩ := d
  cases (show u = Value.ref a from rx)
  by_cases hv : v = .ref a
  · subst hv
    have hy : y = .ref a := by
      cases y with
      | ref z => cases (show Value.ref a = Value.ref z from ry); rfl
      | non => cases (show Value.ref a = Value.none from ry)
      | bl b => cases (show Value.ref a = Value.bool b from ry)
      | int i => obtain ⟨k, e⟩ := (show ∃ k, Value.ref a = Value.int i k from ry); cases e
      | str z => obtain ⟨k, e⟩ := (show ∃ k, Value.ref a = Value.str z k from ry); cases e
      | byt z => obtain ⟨k, e⟩ := (show ∃ k, Value.ref a = Value.bytes z k from ry); cases e
      | flt z => obtain ⟨k, e⟩ := (show ∃ k, Value.ref a = Value.float z k from ry); cases e
      | ty z => cases (show Value.ref a = Value.type z from ry)
    subst hy
    cases hself _ _ _ hr
    exact SeqAt.EqAt.same (A := A) (s := s) (.ref a) X.prog X.w X.xe _ ⟨rfl, H, I, Ex.refl _⟩
  · refine eqB_of (fun z => hv z.symm) (fun _ _ z => nomatch z) (wpAny_mono (rcE_own m F A pins s σ H _ _ _ _ _ sb I rx ry d0) (fun r s' q => ?_) fun _ _ x => x)
    exact ⟨b, q.1, rfl, q.2⟩
theorem eqE_off (c : OwnC X.K C) (m : Meth X.K C "__eq__" g) (F : FnR X.prog X.w X.K X.mg X.base CX0 n g (spEqE R)) : EqE X n (DOff C R) := by
  intro A pins s σ H x y u v b sb I rx ry d
  have d0 := d
  obtain ⟨a, dx, fs, T, rfl, ha, kd, hr⟩ := d
  cases (show v = Value.ref a from ry)
  refine eqB_of (kd.ne_ins rx ha) (kd.rel rx) (wpAny_mono (rcE_off c m F A pins s σ H _ _ _ _ _ sb I rx ry d0) (fun r s' q => ?_) fun _ _ x => x)
  exact ⟨b, q.1, rfl, q.2⟩
/-- flat values -/
def DFl : EqR := fun x y _ b => flatV x = true ∧ flatV y = true ∧ eqV x y = b
theorem eqE_flat : EqE X n DFl := by
  intro A pins s σ H x y u v b sb I rx ry d
  obtain ⟨fx, fy, e⟩ := d
  have q := eqAt_V (A := A) (s := s) rx ry fx fy
  rw [e] at q
  exact q X.prog X.w X.xe _ ⟨rfl, H, I, Ex.refl _⟩
/-- item by item, with answers -/
structure PrE (D : EqR) (xs ys : List V) (H : Hp) (bs : List Bool) : Prop where
  lx : xs.length = bs.length
  ly : ys.length = bs.length
  at_ : ∀ (i : Nat) x y b, xs[i]? = some x → ys[i]? = some y → bs[i]? = some b → D x y H b
theorem PrE.nil {H : Hp} : PrE D [] [] H [] := ⟨rfl, rfl, fun i x y b h => by simp at h⟩
theorem PrE.cons {x y : V} {xs ys : List V} {H : Hp} {b : Bool} {bs : List Bool} (h : D x y H b) (p : PrE D xs ys H bs) : PrE D (x :: xs) (y :: ys) H (b :: bs) := by
  refine ⟨by rw [List.length_cons, List.length_cons, p.lx], by rw [List.length_cons, List.length_cons, p.ly], fun i u v c h1 h2 h3 => ?_⟩
  cases i with
  | zero =>
    simp at h1 h2 h3
    subst h1; subst h2; subst h3
    exact h
  | succ i =>
    simp at h1 h2 h3
    exact p.at_ i u v c h1 h2 h3
def LpI (X : Cx) (pins : List (Addr × Obj)) (σ : St) (H : Hp) (s' : Shared) : Prop := ∃ H', Inv X pins σ H' s' ∧ Ex H H'
theorem turnE (hD : MonE D) (h : EqE X n D) {A : Around} (sb : Sub X (n + 1) A) {pins : List (Addr × Obj)} {σ : St} {H : Hp} {xs ys : List V} {its its2 : List Value} {bs : List Bool} (p : PrE D xs ys H bs) (r : Vals xs its) (r2 : Vals ys its2)
    (i : Nat) (h1 : i < its.toArray.size) (h2 : i < its2.toArray.size) (h3 : i < bs.length) (s' : Shared) (l : LpI X pins σ H s') :
    wpAny (model X.prog X.w) A.in1 (eqBool its.toArray[i] its2.toArray[i]) (fun r s2 => r = bs[i] ∧ LpI X pins σ H s2) X.xe s' := by
  obtain ⟨H1, I1, e1⟩ := l
  have g1 : its[i]? = some its.toArray[i] := by
    have h1' : i < its.length := by simpa using h1
    rw [List.getElem?_eq_getElem h1'] <;> simp
  have g2 : its2[i]? = some its2.toArray[i] := by
    have h2' : i < its2.length := by simpa using h2
    rw [List.getElem?_eq_getElem h2'] <;> simp
  have k1 : i < xs.length := by rw [r.length]; simpa using h1
  have k2 : i < ys.length := by rw [r2.length]; simpa using h2
  obtain ⟨u, hu, ru⟩ := r.get (List.getElem?_eq_getElem k1)
  obtain ⟨v, hv, rv⟩ := r2.get (List.getElem?_eq_getElem k2)
  rw [g1] at hu
  rw [g2] at hv
  rw [Option.some.inj hu, Option.some.inj hv]
  refine wpAny_mono (h A.in1 pins s' σ H1 _ _ u v bs[i] sb.in1 I1 ru rv (hD _ _ _ _ _ e1 (p.at_ i _ _ _ (List.getElem?_eq_getElem k1) (List.getElem?_eq_getElem k2) (List.getElem?_eq_getElem h3)))) (fun r s2 q => ?_) fun _ _ x => x
  obtain ⟨hr, H2, I2, e2⟩ := q
  exact ⟨hr, H2, I2, e1.trans e2⟩
/-- x in [..], the items' == telling -/
def rInE (D : EqR) : R2 := fun x y H Q => ∃ p xs bs, y = .ref p ∧ H p = some (.lst xs) ∧ PrE D xs (List.replicate bs.length x) H bs ∧ ∀ H', Ex H H' → Q (.bl (bs.any id)) H'
def rInTE (K : PySem.W.Frag) (D : EqR) : R2 := fun x y H Q => ∃ p xs bs, y = .ref p ∧ SqT K H p xs ∧ PrE D xs (List.replicate bs.length x) H bs ∧ ∀ H', Ex H H' → Q (.bl (bs.any id)) H'
theorem reps {x : V} {u : Value} (r : RelV x u) : ∀ k : Nat, Vals (List.replicate k x) (List.replicate k u)
  | 0 => .nil
  | k + 1 => .cons r (reps r k)
theorem op_inE (hD : MonE D) (h : EqE X n D) (hr : Room (n + 1) X.A) : OpR X (compareOp .In) (rInE D) := by
  intro pins s σ H x y v u Q I rx ry hq
  obtain ⟨p, xs, bs, rfl, hp, pe, q⟩ := hq
  cases (show u = Value.ref p from ry)
  refine OwQ.in_listG (bs := bs) (I := fun _ s' => LpI X pins σ H s') (fun i s' l => ?_) (fun i s' l => ?_) ⟨H, I, Ex.refl _⟩
  · obtain ⟨H1, I1, e1⟩ := id l
    obtain ⟨z, its, k, r, e⟩ := (show ObjOk X.prog X.w H1 s'.heap p (.lst xs) from I1.hok p _ (e1 _ _ hp))
    have hz : its.length = bs.length := by rw [← r.length]; exact pe.lx
    refine ⟨its.toArray, k, e, by rw [List.size_toArray]; exact hz, fun h1 h2 => ?_⟩
    have t := turnE (A := X.A) hD h ⟨hr, rfl⟩ pe r (reps rx bs.length) i h1 (by simpa using h2) h2 s' l
    simpa using t
  · obtain ⟨H1, I1, e1⟩ := l
    exact ⟨.bl _, H1, I1, rfl, q H1 e1⟩
theorem op_inTE (hD : MonE D) (h : EqE X n D) (hr : Room (n + 1) X.A) : OpR X (compareOp .In) (rInTE X.K D) := by
  intro pins s σ H x y v u Q I rx ry hq
  obtain ⟨p, xs, bs, rfl, hp, pe, q⟩ := hq
  cases (show u = Value.ref p from ry)
  obtain ⟨its, r, e, z⟩ := I.tuple hp
  have hz : its.length = bs.length := by rw [← r.length]; exact pe.lx
  refine OwQ.in_tupG (bs := bs) (I := fun _ s' => LpI X pins σ H s') e (by rw [List.size_toArray]; exact hz) (fun i h1 h2 s' l => ?_) (fun i s' l => ?_) ⟨H, I, Ex.refl _⟩
  · have t := turnE (A := X.A) hD h ⟨hr, rfl⟩ pe r (reps rx bs.length) i h1 (by simpa using h2) h2 s' l
    simpa using t
  · obtain ⟨H1, I1, e1⟩ := l
    exact ⟨.bl _, H1, I1, rfl, q H1 e1⟩
/-- x == y, x != y as expressions -/
def rCmpE (D : EqR) : R2 := fun x y H Q => ∃ b, D x y H b ∧ ∀ H', Ex H H' → Q (.bl b) H'
theorem op_rcE {op : CmpOp} (hop : ∀ a b, compareOp op a b = richCompare op a b) (h : RcE X n op D) (hr : Room n X.A) : OpR X (compareOp op) (rCmpE D) := by
  intro pins s σ H x y v u Q I rx ry hq
  obtain ⟨b, d, q⟩ := hq
  rw [hop]
  refine wpAny_mono (h X.A pins s σ H x y v u b ⟨hr, rfl⟩ I rx ry d) (fun r s' z => ?_) fun _ _ x => x
  obtain ⟨hr', H', I', e⟩ := z
  subst hr'
  exact ⟨.bl b, H', I', rfl, q H' e⟩
theorem op_eqE (h : RcE X n .Eq D) (hr : Room n X.A) : OpR X (compareOp .Eq) (rCmpE D) := op_rcE (fun _ _ => rfl) h hr
theorem op_neE (h : RcE X n .NotEq D) (hr : Room n X.A) : OpR X (compareOp .NotEq) (rCmpE D) := op_rcE (fun _ _ => rfl) h hr
def DLs (D : EqR) : EqR := fun x y H b => ∃ p q xs ys bs, x = .ref p ∧ y = .ref q ∧ H p = some (.lst xs) ∧ H q = some (.lst ys) ∧ PrE D xs ys H bs ∧ b = bs.all id
def DTp (K : PySem.W.Frag) (D : EqR) : EqR := fun x y H b => ∃ p q xs ys bs, x = .ref p ∧ y = .ref q ∧ SqT K H p xs ∧ SqT K H q ys ∧ PrE D xs ys H bs ∧ b = !bs.all id
theorem rcE_list (hD : MonE D) (h : EqE X n D) : RcE X (n + 1) .Eq (DLs D) := by
  intro A pins s σ H x y u v b sb I rx ry d
  obtain ⟨p, q, xs, ys, bs, rfl, rfl, hp, hq, pe, rfl⟩ := d
  cases (show u = Value.ref p from rx)
  cases (show v = Value.ref q from ry)
  have hl : OwQ.EqI X.prog X.w A X.xe p q bs (fun _ s' => LpI X pins σ H s') := fun i s' l => by
    obtain ⟨H1, I1, e1⟩ := id l
    obtain ⟨z, its, k, r, e⟩ := (show ObjOk X.prog X.w H1 s'.heap p (.lst xs) from I1.hok p _ (e1 _ _ hp))
    obtain ⟨z2, its2, k2, r2, e2⟩ := (show ObjOk X.prog X.w H1 s'.heap q (.lst ys) from I1.hok q _ (e1 _ _ hq))
    refine ⟨its.toArray, its2.toArray, k, k2, e, e2, by rw [List.size_toArray, ← r.length]; exact pe.lx, by rw [List.size_toArray, ← r2.length]; exact pe.ly, fun h1 h2 h3 => turnE hD h sb pe r r2 i h1 h2 h3 s' l⟩
  obtain ⟨z, its, k, r, e⟩ := (show ObjOk X.prog X.w H s.heap p (.lst xs) from I.hok p _ hp)
  obtain ⟨z2, its2, k2, r2, e2⟩ := (show ObjOk X.prog X.w H s.heap q (.lst ys) from I.hok q _ hq)
  have hT : s.TypeIs (.ref p) "list" := ⟨_, e, rfl⟩
  have hT2 : s.TypeIs (.ref q) "list" := ⟨_, e2, rfl⟩
  refine wpAny_richCompare_same_room (op := .Eq) hT hT2 PySem.F.slot_list_eq (GQ.call_here PySem.F.slot_list_eq hT PySem.F.entry_list_eq (PySem.F.args_list_eq_2 _ _) ?_) sb.room.units0
  exact OwQ.list_eqB (R := wants (fun v s' => v ≠ .notImplemented ∧ (v = .bool (bs.all id) ∧ ∃ H', Inv X pins σ H' s' ∧ Ex H H')) X.xe) p q bs _ hl (fun i s' l => ⟨(fun x => nomatch x), rfl, l⟩) ⟨H, I, Ex.refl _⟩
theorem neE_tup (hD : MonE D) (h : EqE X n D) : RcE X (n + 1) .NotEq (DTp X.K D) := by
  intro A pins s σ H x y u v b sb I rx ry d
  obtain ⟨p, q, xs, ys, bs, rfl, rfl, hp, hq, pe, rfl⟩ := d
  cases (show u = Value.ref p from rx)
  cases (show v = Value.ref q from ry)
  obtain ⟨its, r, e, z⟩ := I.tuple hp
  obtain ⟨its2, r2, e2, z2⟩ := I.tuple hq
  obtain ⟨⟨cls, dd, data, sl⟩, ho, hc, k, hd⟩ := id e
  obtain ⟨⟨cls2, dd2, data2, sl2⟩, ho2, hc2, k2, hd2⟩ := id e2
  simp only at hc hd hc2 hd2
  subst hc hd hc2 hd2
  have hT : s.TypeIs (.ref p) "tuple" := ⟨_, ho, rfl⟩
  have hT2 : s.TypeIs (.ref q) "tuple" := ⟨_, ho2, rfl⟩
  refine wpAny_richCompare_same_room (op := .NotEq) hT hT2 PySem.F.slot_tuple_ne (GQ.call_here PySem.F.slot_tuple_ne hT PySem.F.entry_tuple_ne (PySem.F.args_tuple_ne_2 _ _) ?_) sb.room.units0
  exact OwQ.tuple_neB (R := wants (fun v s' => v ≠ .notImplemented ∧ (v = .bool (!bs.all id) ∧ ∃ H', Inv X pins σ H' s' ∧ Ex H H')) X.xe) p q _ _ k k2 dd dd2 sl sl2 bs (by rw [List.size_toArray, ← r.length]; exact pe.lx) (by rw [List.size_toArray, ← r2.length]; exact pe.ly) (fun _ s' => LpI X pins σ H s') (fun i h1 h2 h3 s' l => turnE hD h sb pe r r2 i h1 h2 h3 s' l) (fun i s' l => ⟨(fun x => nomatch x), rfl, l⟩) ho ho2 ⟨H, I, Ex.refl _⟩
end
end L2
/-! What these come to. -/
namespace L2
open PySem PySem.Spec PyProof.Rows _root_.Evl
section
variable {σ : L2.St} {H H' : Hp} {ta tb te : TE} {x y z v : V} {D : EqR} {b : Bool} {C : Addr} {sp : Sp} {K : PySem.W.Frag}
theorem rv_cmpE (h : ∀ H1, Ex H H1 → D x y H1 b) : RV (rCmpE D) x y H (.bl b) := fun H1 e Q q => ⟨b, h H1 e, q⟩
theorem rv_inE {p : Addr} {xs : List V} {bs : List Bool} (hp : H p = some (.lst xs)) (h : ∀ H1, Ex H H1 → PrE D xs (List.replicate bs.length x) H1 bs) : RV (rInE D) x (.ref p) H (.bl (bs.any id)) := fun H1 e Q q => ⟨p, xs, bs, rfl, e _ _ hp, h H1 e, q⟩
theorem rv_inTE {p : Addr} {xs : List V} {bs : List Bool} (hp : H p = some (.tup xs)) (h : ∀ H1, Ex H H1 → PrE D xs (List.replicate bs.length x) H1 bs) : RV (rInTE K D) x (.ref p) H (.bl (bs.any id)) := fun H1 e Q q => ⟨p, xs, bs, rfl, st_of (e _ _ hp), h H1 e, q⟩
/-- a call of one thing that tells a text -/
theorem ev_strO {a dx : Addr} {fs : List (Str × V)} {s : Str} (h : Ev te σ H (.ref a)) (ha : H a = some (.ins C dx fs)) (hs : SpV sp [.ref a] H (.str s)) : Ev (tCB (rStrO C sp) (tCons te tNil)) σ H (.str s) := fun H1 e Q q =>
  h H1 e _ fun H2 e2 => ⟨a, dx, fs, rfl, (e.trans e2) _ _ ha, hs H2 (e.trans e2) _ (fun H3 e3 => ⟨s, rfl, q H3 (e2.trans e3)⟩) _⟩
theorem ev_lenO {a dx : Addr} {fs : List (Str × V)} {i : Int} (h : Ev te σ H (.ref a)) (ha : H a = some (.ins C dx fs)) (hs : SpV sp [.ref a] H (.int i)) (i0 : 0 ≤ i) (i1 : i < 2 ^ 63) : Ev (tCB (rLenO C sp) (tCons te tNil)) σ H (.int i) := fun H1 e Q q =>
  h H1 e _ fun H2 e2 => ⟨a, dx, fs, rfl, (e.trans e2) _ _ ha, hs H2 (e.trans e2) _ (fun H3 e3 => ⟨i, rfl, i0, i1, q H3 (e2.trans e3)⟩) _⟩
theorem ev_fmtO {a dx : Addr} {fs : List (Str × V)} {s : Str} (h : Ev te σ H (.ref a)) (ha : H a = some (.ins C dx fs)) (hs : SpV sp [.ref a] H (.str s)) : Ev (tFmtO C sp te) σ H (.str s) := fun H1 e Q q =>
  h H1 e _ fun H2 e2 => ⟨a, dx, fs, rfl, (e.trans e2) _ _ ha, hs H2 (e.trans e2) _ (fun H3 e3 => ⟨s, rfl, q H3 (e2.trans e3)⟩) _⟩
theorem ev_fmtS {s : Str} (h : Ev te σ H (.str s)) (hl : s.length ≤ 100000) : Ev (tFmt te) σ H (.str s) := fun H1 e Q q => h H1 e _ fun H2 e2 => .inl ⟨s, rfl, sz_of hl, q H2 e2⟩
theorem ev_fmtI {i : Int} (h : Ev te σ H (.int i)) (hl : i.natAbs.log2 < 1920) : Ev (tFmt te) σ H (.str (Str.ofString (toString i))) := fun H1 e Q q => h H1 e _ fun H2 e2 => .inr ⟨i, rfl, hl, q H2 e2⟩
/-- texts one behind the other -/
def catS : Str → List Str → Str
  | acc, [] => acc
  | acc, y :: ys => catS (acc ++ y) ys
theorem len_app (x y : Str) : (x ++ y).length = x.length + y.length := by
  show (x.cps ++ y.cps).size = _
  exact Array.size_append
theorem catS_len : ∀ (ys : List Str) (acc : Str), acc.length ≤ (catS acc ys).length
  | [], acc => Nat.le_refl _
  | y :: ys, acc => Nat.le_trans (by rw [len_app]; omega) (catS_len ys (acc ++ y))
inductive EvJ (σ : L2.St) (H : Hp) : List TE → List Str → Prop where
  | nil : EvJ σ H [] []
  | cons {t : TE} {ts : List TE} {y : Str} {ys : List Str} (h : Ev t σ H (.str y)) (r : EvJ σ H ts ys) : EvJ σ H (t :: ts) (y :: ys)
theorem EvJ.go {ts : List TE} {ys : List Str} (h : EvJ σ H ts ys) : ∀ (acc : Str) (H1 : Hp), Ex H H1 → ∀ Q : Str → Hp → Prop, (catS acc ys).length ≤ 100000 → (∀ H2, Ex H1 H2 → Q (catS acc ys) H2) → tJs ts acc σ H1 Q := by
  induction h with
  | nil => exact fun acc H1 e Q _ q => q H1 (Ex.refl _)
  | @cons t ts y ys h r ih =>
    intro acc H1 e Q hl q
    exact h H1 e _ fun H2 e2 => ⟨y, rfl, sz_of (Nat.le_trans (catS_len ys (acc ++ y)) hl), ih (acc ++ y) H2 (e.trans e2) Q hl fun H3 e3 => q H3 (e2.trans e3)⟩
theorem ev_joined {ts : List TE} {ys : List Str} (h : EvJ σ H ts ys) (hl : (catS Str.empty ys).length ≤ 100000) : Ev (fun σ H Q => tJs ts Str.empty σ H fun out H1 => Q (.str out) H1) σ H (.str (catS Str.empty ys)) := fun H1 e Q q => h.go Str.empty H1 e _ hl q
theorem ev_addStr {x y : Str} (ha : Ev ta σ H (.str x)) (hb : Ev tb σ H (.str y)) (h : x.length + y.length ≤ 100000) : Ev (tOp (fun x y H Q => ∃ i j, x = .str i ∧ y = .str j ∧ i.length + j.length ≤ sizeLine ∧ Q (.str (i ++ j)) H) ta tb) σ H (.str (x ++ y)) :=
  ev_op ha hb (rv_val fun H1 _ Q q => ⟨x, y, rfl, rfl, sz_of h, q⟩)
theorem ev_eqS2 {x y : Str} (ha : Ev ta σ H (.str x)) (hb : Ev tb σ H (.str y)) : Ev (tOp rEq ta tb) σ H (.bl (decide (x = y))) := by
  have h := ev_op ha hb (rv_eq (x := .str x) (y := .str y) rfl)
  have e : decide (V.str x = V.str y) = decide (x = y) := by
    rw [Bool.eq_iff_iff]
    simp
  rw [e] at h
  exact h
theorem ev_neS2 {x y : Str} (ha : Ev ta σ H (.str x)) (hb : Ev tb σ H (.str y)) : Ev (tOp rNe ta tb) σ H (.bl (!decide (x = y))) := by
  have h := ev_op ha hb (rv_ne (x := .str x) (y := .str y) rfl)
  have e : decide (V.str x = V.str y) = decide (x = y) := by
    rw [Bool.eq_iff_iff]
    simp
  rw [e] at h
  exact h
theorem rc_strI {i : Int} (h : i.natAbs.log2 < 1920) : RC (fun xs H Q => ∃ i : Int, xs = [V.int i] ∧ i.natAbs.log2 < 1920 ∧ Q (.str (Str.ofString (toString i))) H) [.int i] H (.str (Str.ofString (toString i))) := fun H1 _ Q q => ⟨i, rfl, h, q H1 (Ex.refl _)⟩
theorem log_lt {i : Int} {n : Nat} (h : i.natAbs < 2 ^ n) (hn : n ≤ 1920) (h0 : 0 < n) : i.natAbs.log2 < 1920 := by
  rcases Nat.eq_zero_or_pos i.natAbs with e | e
  · rw [e]
    decide
  · exact Nat.lt_of_lt_of_le ((Nat.log2_lt (by omega)).mpr h) hn
/-- things of built-in kinds -/
def EvK (te : TE) (σ : L2.St) (H : Hp) : Prop := ∀ H1, Ex H H1 → ∀ Q : VK, (∀ v H2, Ex H1 H2 → (∃ T, Kd H2 v T) → Q v H2) → te σ H1 Q
def EvKA (ta : TA) (σ : L2.St) (H : Hp) (n : Nat) : Prop := ∀ H1, Ex H H1 → ∀ Q : List V → Hp → Prop, (∀ vs H2, Ex H1 H2 → vs.length = n → (∀ v ∈ vs, ∃ T, Kd H2 v T) → Q vs H2) → ta σ H1 Q
theorem ek_v {T : String} (h : Ev te σ H v) (k : ∀ H1, Ex H H1 → Kd H1 v T) : EvK te σ H := fun H1 e Q q => h H1 e _ fun H2 e2 => q v H2 e2 ⟨T, k H2 (e.trans e2)⟩
theorem ek_c {T : String} (k : ∀ H1, Kd H1 v T) : EvK (tC v) σ H := ek_v ev_c fun H1 _ => k H1
theorem ek_L {xs : List V} (h : EvL te σ H xs) : EvK te σ H := fun H1 e Q q => h H1 e _ fun p H2 _ e2 hp => q _ H2 e2 ⟨_, .lst hp⟩
theorem ek_U {xs : List V} (h : EvU te σ H xs) : EvK te σ H := fun H1 e Q q => h H1 e _ fun p H2 _ e2 hp => q _ H2 e2 ⟨_, .tup hp⟩
theorem ek_dict : EvK tDNewK σ H := fun H1 e Q q p hp => q _ _ (Ex.new hp) ⟨_, .dK upd_same⟩
theorem ek_nil : EvKA tNil σ H 0 := fun H1 e Q q => q [] H1 (Ex.refl _) rfl fun v h => nomatch h
theorem ek_cons {tr : TA} {n : Nat} (h : EvK te σ H) (hr : EvKA tr σ H n) : EvKA (tCons te tr) σ H (n + 1) := fun H1 e Q q => h H1 e _ fun v H2 e2 ⟨T, hT⟩ => hr H2 (e.trans e2) _ fun vs H3 e3 hl hk => q (v :: vs) H3 (e2.trans e3) (by rw [List.length_cons, hl]) fun u hu => by
  rcases List.mem_cons.mp hu with rfl | hu
  · exact ⟨T, hT.ex e3⟩
  · exact hk u hu
theorem EvKA.go {ta : TA} {n : Nat} {Q : List V → Hp → Prop} (h : EvKA ta σ H n) (k : ∀ vs H2, Ex H H2 → vs.length = n → (∀ v ∈ vs, ∃ T, Kd H2 v T) → Q vs H2) : ta σ H Q := h H (Ex.refl _) _ k
/-- pairs of ints compared -/
theorem eqv_pair (a b : Int × Int) : PyData.eqv (.tuple [.int a.1, .int a.2]) (.tuple [.int b.1, .int b.2]) = decide (a = b) := by
  obtain ⟨a1, a2⟩ := a
  obtain ⟨b1, b2⟩ := b
  show (a1 == b1 && (a2 == b2 && true)) = decide ((a1, a2) = (b1, b2))
  rw [Bool.eq_iff_iff]
  simp
theorem dp_pair {p : Addr} {a : Int × Int} (h : H p = some (.tup [.int a.1, .int a.2])) : Dp K H (.ref p) (.tuple [.int a.1, .int a.2]) := .tup (st_of h) (.cons (.int _) (.cons (.int _) .nil))
theorem rv_eqP {p q : Addr} {a b : Int × Int} (hp : H p = some (.tup [.int a.1, .int a.2])) (hq : H q = some (.tup [.int b.1, .int b.2])) : RV (rEqD K) (.ref p) (.ref q) H (.bl (decide (a = b))) := fun H1 e Q k =>
  ⟨_, _, dp_pair (e _ _ hp), dp_pair (e _ _ hq), rfl, rfl, by
    rw [eqv_pair]
    exact k H1 (Ex.refl _)⟩
theorem rv_neP {p q : Addr} {a b : Int × Int} (hp : H p = some (.tup [.int a.1, .int a.2])) (hq : H q = some (.tup [.int b.1, .int b.2])) : RV (rNeD K) (.ref p) (.ref q) H (.bl (!decide (a = b))) := fun H1 e Q k =>
  ⟨_, _, dp_pair (e _ _ hp), dp_pair (e _ _ hq), rfl, rfl, by
    rw [eqv_pair]
    exact k H1 (Ex.refl _)⟩
/-- a loop over a list that an expression tells: the expression first -/
theorem q_forO {g : TG} {tu tz : TS} {E : Ends} (h : te σ H fun x H1 => ∃ a, x = .ref a ∧ (∃ xs, SqL K H1 a xs) ∧ tFor (fun _ H' R => R (Itl K a) H') g tu { E with nx := tz E } σ H1) : tSeq (tFor (iList K te) g tu) tz E σ H := h
theorem rc_intB {b : Bool} : RC (fun xs H Q => (∃ i, xs = [V.int i] ∧ Q (.int i) H) ∨ ∃ k, xs = [V.bl k] ∧ Q (.int (if k then 1 else 0)) H) [.bl b] H (.int (if b then 1 else 0)) := fun H1 _ Q q => .inr ⟨b, rfl, q H1 (Ex.refl _)⟩
theorem rc_isiK {x : V} {T : String} (c : OwnC K C) (h : ∀ H1, Ex H H1 → Kd H1 x T) : RC (rIsi K) [x, .ref C] H (.bl false) := rc_isi (.own C) (fun H1 e => (h H1 e).tyx) (c.kit (h H (Ex.refl _)).mem)
end
end L2
/-! f'{n:018d}': figures with noughts ahead. -/
namespace L2
open PySem PySem.Spec PyProof.Rows _root_.Evl
def digB (K : PySem.W.Frag) : Bool := decide (PySem.W.nsIn K cStatics "sys.int_max_str_digits" = some none)
section
variable {X : Cx}
theorem noDigits_of {pins : List (Addr × Obj)} {s : Shared} {σ : St} {H : Hp} (I : Inv X pins σ H s) (h : digB X.K = true) : s.heap.NoDigits := by
  have h := of_decide_eq_true h
  obtain ⟨mc, ns, _⟩ := I.nolimit
  refine ⟨mc, ns, ?_⟩
  obtain ⟨o, es, ep, ho, hd, hk, hf⟩ := ns
  unfold PySem.W.nsIn at h
  cases e : X.K.lookup cStatics with
  | none =>
    rw [e] at h
    cases h
  | some o' =>
    rw [e] at h
    have q := I.kIn _ _ e
    rw [ho] at q
    cases q
    obtain ⟨c1, d1, dt, sl⟩ := o
    simp only at hd
    subst hd
    dsimp only at h
    rw [← hf]
    unfold nsFind findBy
    rw [← Array.find?_toList]
    split at h
    · cases h
    · rename_i q
      rw [q]
      rfl
/-- figures, noughts ahead to w of them -/
def zpad (w : Nat) (a : Int) : Str := ⟨(List.replicate (w - (Nat.toDigits 10 a.natAbs).length) 48).toArray⟩ ++ Str.ofString (toString a)
def tFmtZ (w : Nat) (te : TE) : TE := fun σ H Q => te σ H fun x H1 => ∃ i : Int, x = .int i ∧ 0 ≤ i ∧ i.natAbs < 10 ^ 4300 ∧ Q (.str (zpad w i)) H1
theorem pe_fmt18 {e : Expr} {te : TE} {pos p1 p2 : Pos} {k : Nat} (hd : digB X.K = true) (he : PE X e te) : PE X (.FormattedValue e (-1) (some (.JoinedStr [.Constant (.str "018d") k p1] p2)) pos) (tFmtZ 18 te) := by
  refine ⟨fun pins s σ H Q I h => ?_⟩
  refine wpAny_FormattedValue_spec (thn (he.run pins s σ H _ I h) fun v s1 hv => ?_)
  obtain ⟨x, H1, I1, r1, i, rfl, i0, i1, q⟩ := hv
  obtain ⟨t, rfl⟩ := r1
  refine thn ((pe_joined1 pe_str).run pins s1 σ H1 (fun z H2 => z = .str "018d" ∧ H2 = H1) I1 ⟨rfl, rfl⟩) fun r s2 hr => ?_
  obtain ⟨z, H2, I2, rz, rfl, rfl⟩ := hr
  obtain ⟨t2, rfl⟩ := rz
  refine ⟨"018d", t2, rfl, formatField_int_specOf (noDigits_of I2 hd) i1 (by decide +kernel) fun W hW F => ?_⟩
  have e : intSpecTextOf "018d" i = zpad 18 i := by
    have h := F.zeroG (by decide +kernel) i0
    have hW : W = 18 := hW.trans (by decide +kernel)
    rw [hW] at h
    exact h
  rw [e]
  exact ⟨.str (zpad 18 i), H2, I2.tok _, ⟨_, rfl⟩, q⟩
end
end L2
namespace L2
open PySem PySem.Spec PyProof.Rows _root_.Evl
theorem ev_fmtZ {σ : L2.St} {H : Hp} {te : TE} {i : Int} {w : Nat} (h : Ev te σ H (.int i)) (h0 : 0 ≤ i) (h1 : i.natAbs < 10 ^ 4300) : Ev (tFmtZ w te) σ H (.str (zpad w i)) := fun H1 e Q q => h H1 e _ fun H2 e2 => ⟨i, rfl, h0, h1, q H2 e2⟩
theorem bits_le {i : Int} {n : Nat} (h : i.natAbs < 2 ^ n) : Builtin.Int.intBits i ≤ n := PyProof.Rows.intBits_le h
end L2
namespace Tn
def low (t u : Int) : Int × Int := (t / (Int.gcd t u : Int), u / (Int.gcd t u : Int))
def part (t u : Int) : Int × Int := low (t % u) u
def sgn (t u : Int) : Int × Int := if u < 0 then part (-t) (-u) else part t u
def on (a b : Int × Int) : Int × Int := part (a.1 * b.2 + b.1 * a.2) (a.2 * b.2)
def off (a b : Int × Int) : Int × Int := part (a.1 * b.2 - b.1 * a.2) (a.2 * b.2)
structure Can (a : Int × Int) : Prop where
  pos : 0 < a.2
  nn : 0 ≤ a.1
  lt : a.1 < a.2
  cop : Int.gcd a.1 a.2 = 1
theorem gcd_pos {t u : Int} (hu : 0 < u) : (0 : Int) < (Int.gcd t u : Int) := by
  have : 0 < Int.gcd t u := Int.gcd_pos_of_ne_zero_right _ (by omega)
  omega
theorem low_fst {t u : Int} : (low t u).1 * (Int.gcd t u : Int) = t := Int.ediv_mul_cancel (Int.gcd_dvd_left ..)
theorem low_snd {t u : Int} : (low t u).2 * (Int.gcd t u : Int) = u := Int.ediv_mul_cancel (Int.gcd_dvd_right ..)
theorem low_can {t u : Int} (h0 : 0 ≤ t) (h1 : t < u) : Can (low t u) := by
  have hu : 0 < u := by omega
  have g := gcd_pos (t := t) hu
  have e1 := low_fst (t := t) (u := u)
  have e2 := low_snd (t := t) (u := u)
  refine ⟨?_, ?_, ?_, ?_⟩
  · exact Int.ediv_pos_of_pos_of_dvd hu (by omega) (Int.gcd_dvd_right ..)
  · exact Int.ediv_nonneg h0 (by omega)
  · refine Int.lt_of_mul_lt_mul_right (a := (Int.gcd t u : Int)) ?_ (by omega)
    rw [e1, e2]
    exact h1
  · show Int.gcd (t / (Int.gcd t u : Int)) (u / (Int.gcd t u : Int)) = 1
    exact Int.gcd_ediv_gcd_ediv_gcd_of_ne_zero_right (by omega)
theorem part_can {t u : Int} (hu : 0 < u) : Can (part t u) := low_can (Int.emod_nonneg _ (by omega)) (Int.emod_lt_of_pos _ hu)
theorem low_le {t u : Int} (hu : 0 < u) : (low t u).2 ≤ u := Int.ediv_le_self _ (by omega)
theorem part_le {t u : Int} (hu : 0 < u) : (part t u).2 ≤ u := low_le hu
theorem part_rel {t u : Int} (hu : 0 < u) : ∃ k, t * (part t u).2 - (part t u).1 * u = k * (u * (part t u).2) := by
  have e1 : (part t u).1 * (Int.gcd (t % u) u : Int) = t % u := low_fst
  have e2 : (part t u).2 * (Int.gcd (t % u) u : Int) = u := low_snd
  have e3 := Int.emod_add_mul_ediv t u
  refine ⟨t / u, ?_⟩
  generalize part t u = p at *
  obtain ⟨x, y⟩ := p
  dsimp only at *
  generalize (Int.gcd (t % u) u : Int) = g at *
  generalize t % u = r at *
  generalize t / u = q at *
  subst e1
  grind
theorem can_uniq {a b : Int × Int} (ha : Can a) (hb : Can b) {k : Int} (h : a.1 * b.2 - b.1 * a.2 = k * (a.2 * b.2)) : a = b := by
  obtain ⟨x, y⟩ := a
  obtain ⟨z, w⟩ := b
  have a1 : 0 < y := ha.pos
  have a2 : 0 ≤ x := ha.nn
  have a3 : x < y := ha.lt
  have b1 : 0 < w := hb.pos
  have b2 : 0 ≤ z := hb.nn
  have b3 : z < w := hb.lt
  have ca : Int.gcd x y = 1 := ha.cop
  have cb : Int.gcd z w = 1 := hb.cop
  have h : x * w - z * y = k * (y * w) := h
  have p1 : 0 ≤ x * w := Int.mul_nonneg a2 (by omega)
  have p2 : 0 ≤ z * y := Int.mul_nonneg b2 (by omega)
  have p3 : x * w < y * w := Int.mul_lt_mul_of_pos_right a3 b1
  have p4 : z * y < w * y := Int.mul_lt_mul_of_pos_right b3 a1
  have p5 : 0 < y * w := Int.mul_pos a1 b1
  rw [Int.mul_comm w y] at p4
  have k0 : k = 0 := by
    generalize y * w = m at *
    by_cases q : 1 ≤ k
    · have : m ≤ k * m := by
        have := Int.mul_le_mul_of_nonneg_right q (show 0 ≤ m by omega)
        omega
      omega
    · by_cases q2 : k ≤ -1
      · have : k * m ≤ -m := by
          have := Int.mul_le_mul_of_nonneg_right q2 (show 0 ≤ m by omega)
          omega
        omega
      · omega
  subst k0
  have e : x * w = z * y := by omega
  have d1 : y ∣ w := by
    have q : y ∣ x * w := ⟨z, by grind⟩
    have q2 := Int.dvd_gcd_mul_iff_dvd_mul.mpr q
    rw [Int.gcd_comm, ca] at q2
    simpa using q2
  have d2 : w ∣ y := by
    have q : w ∣ z * y := ⟨x, by grind⟩
    have q2 := Int.dvd_gcd_mul_iff_dvd_mul.mpr q
    rw [Int.gcd_comm, cb] at q2
    simpa using q2
  have e2 : y = w := Int.le_antisymm (Int.le_of_dvd b1 d1) (Int.le_of_dvd a1 d2)
  subst e2
  have : x = z := Int.eq_of_mul_eq_mul_right (by omega) e
  rw [this]
theorem part_eq {t u : Int} {b : Int × Int} (hu : 0 < u) (hb : Can b) {k : Int} (h : t * b.2 - b.1 * u = k * (u * b.2)) : part t u = b := by
  obtain ⟨j, e⟩ := part_rel (t := t) hu
  refine can_uniq (k := k - j) (part_can hu) hb ?_
  generalize part t u = p at *
  refine Int.eq_of_mul_eq_mul_left (a := u) (by omega) ?_
  grind
theorem part_self {a : Int × Int} (ha : Can a) : part a.1 a.2 = a := part_eq (k := 0) ha.pos ha (by grind)
theorem can01 : Can (0, 1) := ⟨by decide, by decide, by decide, by decide⟩
theorem on_can {a b : Int × Int} (ha : Can a) (hb : Can b) : Can (on a b) := part_can (Int.mul_pos ha.pos hb.pos)
theorem off_can {a b : Int × Int} (ha : Can a) (hb : Can b) : Can (off a b) := part_can (Int.mul_pos ha.pos hb.pos)
theorem sgn_can {t u : Int} (hu : u ≠ 0) : Can (sgn t u) := by
  unfold sgn
  by_cases h : u < 0
  · rw [if_pos h]
    exact part_can (by omega)
  · rw [if_neg h]
    exact part_can (by omega)
theorem sgn_pos {t u : Int} (hu : 0 < u) : sgn t u = part t u := if_neg (by omega)
theorem sgn_le {t u : Int} (hu : u ≠ 0) : (sgn t u).2 ≤ (u.natAbs : Int) := by
  unfold sgn
  by_cases h : u < 0
  · rw [if_pos h]
    have := part_le (t := -t) (u := -u) (by omega)
    omega
  · rw [if_neg h]
    have := part_le (t := t) (u := u) (by omega)
    omega
/-- added and taken off again -/
theorem on_off {a b : Int × Int} (ha : Can a) (hb : Can b) : off (on a b) b = a := by
  obtain ⟨j, e⟩ := part_rel (t := a.1 * b.2 + b.1 * a.2) (u := a.2 * b.2) (Int.mul_pos ha.pos hb.pos)
  have c := on_can ha hb
  have e : (a.1 * b.2 + b.1 * a.2) * (on a b).2 - (on a b).1 * (a.2 * b.2) = j * (a.2 * b.2 * (on a b).2) := e
  generalize on a b = p at *
  refine part_eq (k := -j) (Int.mul_pos c.pos hb.pos) ha ?_
  have := ha.pos
  have := hb.pos
  refine Int.eq_of_mul_eq_mul_left (a := b.2) (by omega) ?_
  grind
theorem on_comm {a b : Int × Int} : on a b = on b a := by
  unfold on
  rw [Int.add_comm, Int.mul_comm a.2 b.2]
theorem on_off' {a b : Int × Int} (ha : Can a) (hb : Can b) : off (on a b) a = b := by
  rw [on_comm]
  exact on_off hb ha
theorem off_self {a : Int × Int} (ha : Can a) : off a a = (0, 1) := part_eq (k := 0) (Int.mul_pos ha.pos ha.pos) can01 (by grind)
def half : Int × Int := (1, 2)
theorem half_can : Can half := ⟨by decide, by decide, by decide, by decide⟩
theorem on_half2 {a : Int × Int} (ha : Can a) : on (on a half) half = a := by
  obtain ⟨j, e⟩ := part_rel (t := a.1 * 2 + 1 * a.2) (u := a.2 * 2) (by have := ha.pos; omega)
  have c := on_can ha half_can
  have e : (a.1 * 2 + 1 * a.2) * (on a half).2 - (on a half).1 * (a.2 * 2) = j * (a.2 * 2 * (on a half).2) := e
  generalize on a half = p at *
  have h1 := ha.pos
  have h2 := c.pos
  refine part_eq (t := p.1 * 2 + 1 * p.2) (u := p.2 * 2) (k := 1 - j) (by omega) ha ?_
  grind
theorem part_whole (t : Int) : part t 1 = (0, 1) := part_eq (k := t) (by decide) can01 (by grind)
theorem sgn_whole (t : Int) : sgn t 1 = (0, 1) := by
  rw [sgn_pos (by decide)]
  exact part_whole t
theorem part_zero {u : Int} (hu : 0 < u) : part 0 u = (0, 1) := part_eq (k := 0) hu can01 (by grind)
theorem gcd_step (x y : Int) (hx : 0 ≤ x) (hy : 0 < y) : Int.gcd y (x % y) = Int.gcd x y := by
  have h : Int.gcd (x % y) y = Int.gcd x y := by
    unfold Int.gcd
    obtain ⟨a, rfl⟩ := Int.eq_ofNat_of_zero_le hx
    obtain ⟨b, rfl⟩ := Int.eq_ofNat_of_zero_le (Int.le_of_lt hy)
    show Nat.gcd (((a : Int) % (b : Int)).natAbs) b = Nat.gcd a b
    have : ((a : Int) % (b : Int)).natAbs = a % b := by omega
    rw [this, Nat.gcd_comm a b, Nat.gcd_rec b a]
  rw [Int.gcd_comm, h]
/-- how far apart, the shorter way -/
def apart (a b : Int × Int) : Int × Int := if (off a b).2 < 2 * (off a b).1 then off b a else off a b
/-- taken off the other way about -/
theorem off_back {a b : Int × Int} (ha : Can a) (hb : Can b) : off b a = if (off a b).1 = 0 then (0, 1) else ((off a b).2 - (off a b).1, (off a b).2) := by
  obtain ⟨j, e⟩ := part_rel (t := a.1 * b.2 - b.1 * a.2) (u := a.2 * b.2) (Int.mul_pos ha.pos hb.pos)
  have c := off_can ha hb
  have e : (a.1 * b.2 - b.1 * a.2) * (off a b).2 - (off a b).1 * (a.2 * b.2) = j * (a.2 * b.2 * (off a b).2) := e
  have up : 0 < b.2 * a.2 := Int.mul_pos hb.pos ha.pos
  generalize off a b = w at *
  obtain ⟨w1, w2⟩ := w
  have c1 : 0 < w2 := c.pos
  have c2 : 0 ≤ w1 := c.nn
  have c3 : w1 < w2 := c.lt
  have c4 : Int.gcd w1 w2 = 1 := c.cop
  dsimp only at e ⊢
  by_cases h : w1 = 0
  · subst h
    rw [if_pos rfl]
    have h2 : w2 = 1 := by
      rw [Int.gcd_zero_left] at c4
      omega
    subst h2
    refine part_eq (k := -j) up can01 ?_
    dsimp only
    grind
  · rw [if_neg h]
    refine part_eq (k := -j - 1) up ⟨c1, by show 0 ≤ w2 - w1; omega, by show w2 - w1 < w2; omega, ?_⟩ ?_
    · show Int.gcd (w2 - w1) w2 = 1
      rw [← c4, Int.gcd_comm, Int.gcd_comm w1 w2, ← Int.gcd_neg (a := w2) (b := w1), ← Int.gcd_add_self_right (m := w2) (n := -w1)]
      congr 1
      omega
    · dsimp only
      grind
theorem apart_law {a b : Int × Int} (ha : Can a) (hb : Can b) : (if (off b a).1 * (off a b).2 < (off a b).1 * (off b a).2 then off b a else off a b) = apart a b := by
  have c := off_can ha hb
  have e := off_back ha hb
  unfold apart
  by_cases h : (off a b).1 = 0
  · rw [if_pos h] at e
    have c1 := c.pos
    rw [e, h, if_neg (by show ¬ (0 * (off a b).2 < 0 * 1); rw [Int.zero_mul, Int.zero_mul]; omega), if_neg (by omega)]
  · rw [if_neg h] at e
    have c1 := c.pos
    have q : ((off b a).1 * (off a b).2 < (off a b).1 * (off b a).2) ↔ (off a b).2 < 2 * (off a b).1 := by
      rw [e]
      show (((off a b).2 - (off a b).1) * (off a b).2 < (off a b).1 * (off a b).2) ↔ _
      constructor
      · intro h
        have := Int.lt_of_mul_lt_mul_right h (by omega)
        omega
      · intro h
        exact Int.mul_lt_mul_of_pos_right (by omega) c1
    by_cases h2 : (off a b).2 < 2 * (off a b).1
    · rw [if_pos h2, if_pos (q.mpr h2)]
    · rw [if_neg h2, if_neg (fun z => h2 (q.mp z))]
end Tn
/-! Figures: a number's low figures apart. -/
namespace Dg
open PySem L2 TL
def lo : Nat → Nat → List Nat
  | 0, _ => []
  | w + 1, m => lo w (m / 10) ++ [48 + m % 10]
theorem split_lo : ∀ (w n : Nat), 10 ^ w ≤ n → numL n = numL (n / 10 ^ w) ++ lo w n
  | 0, n, _ => by
    show numL n = numL (n / 1) ++ []
    rw [Nat.div_one, List.append_nil]
  | w + 1, n, h => by
    have hp : 0 < 10 ^ w := Nat.pow_pos (by decide)
    have h : 10 ^ w * 10 ≤ n := by
      rw [← Nat.pow_succ]
      exact h
    have h10 : 10 ≤ n := by omega
    have h2 : 10 ^ w ≤ n / 10 := (Nat.le_div_iff_mul_le (by decide)).mpr h
    rw [numL_step h10, split_lo w (n / 10) h2, Nat.div_div_eq_div_mul, List.append_assoc, Nat.pow_succ, Nat.mul_comm 10]
    rfl
theorem lo_mod : ∀ (w n : Nat), lo w n = lo w (n % 10 ^ w)
  | 0, _ => rfl
  | w + 1, n => by
    show lo w (n / 10) ++ [48 + n % 10] = lo w (n % 10 ^ (w + 1) / 10) ++ [48 + n % 10 ^ (w + 1) % 10]
    have e1 : n % 10 ^ (w + 1) / 10 = n / 10 % 10 ^ w := by
      rw [Nat.pow_succ, Nat.mul_comm, Nat.mod_mul_right_div_self]
    have e2 : n % 10 ^ (w + 1) % 10 = n % 10 := by
      rw [Nat.pow_succ, Nat.mul_comm, Nat.mod_mul_right_mod]
    rw [e1, e2, lo_mod w (n / 10)]
theorem lo_zero : ∀ w : Nat, lo w 0 = List.replicate w 48
  | 0 => rfl
  | w + 1 => by
    show lo w 0 ++ [48] = _
    rw [lo_zero w, ← List.replicate_succ']
theorem lo_pad : ∀ (w m : Nat), m < 10 ^ (w + 1) → lo (w + 1) m = List.replicate (w + 1 - (numL m).length) 48 ++ numL m
  | 0, m, h => by
    have h : m < 10 := h
    show [] ++ [48 + m % 10] = _
    rw [numL_lt h, Nat.mod_eq_of_lt h]
    rfl
  | w + 1, m, h => by
    show lo (w + 1) (m / 10) ++ [48 + m % 10] = _
    by_cases hm : m < 10
    · have e : m / 10 = 0 := by omega
      rw [e, lo_zero, numL_lt hm, Nat.mod_eq_of_lt hm]
      rfl
    · have h2 : m / 10 < 10 ^ (w + 1) := by
        rw [Nat.div_lt_iff_lt_mul (by decide), ← Nat.pow_succ]
        exact h
      rw [lo_pad w (m / 10) h2, numL_step (by omega : 10 ≤ m), List.length_append, List.append_assoc]
      have e : w + 1 + 1 - ((numL (m / 10)).length + 1) = w + 1 - (numL (m / 10)).length := by omega
      show _ = List.replicate (w + 1 + 1 - ((numL (m / 10)).length + 1)) 48 ++ _
      rw [e]
/-- the text of a number from 0 on -/
def num (n : Nat) : Str := Str.ofString (toString ((n : Nat) : Int))
theorem tl_zpad (w n : Nat) : tl (zpad w (n : Int)) = List.replicate (w - (numL n).length) 48 ++ numL n := by
  unfold zpad
  rw [tl_append, tl_mk, tl_num, Int.natAbs_natCast]
  unfold numL
  rw [List.length_map]
theorem num_split {n : Nat} (h : 10 ^ 18 ≤ n) : num n = num (n / 10 ^ 18) ++ zpad 18 ((n % 10 ^ 18 : Nat) : Int) := by
  refine ext_tl ?_
  unfold num
  rw [tl_append, tl_num, tl_num, tl_zpad, split_lo 18 n h, lo_mod, lo_pad 17 _ (Nat.mod_lt _ (by decide))]
theorem zpad_len {n : Nat} (h : n < 10 ^ 18) : (zpad 18 (n : Int)).length = 18 := by
  show (tl (zpad 18 (n : Int))).length = 18
  have q := numL_len (k := 18) (by decide) h
  rw [tl_zpad, List.length_append, List.length_replicate]
  omega
theorem joinL_nil : ∀ L : List (List Nat), joinL [] L = L.flatten
  | [] => rfl
  | [p] => by
    show p = p ++ []
    rw [List.append_nil]
  | p :: q :: r => by
    show p ++ ([] ++ joinL [] (q :: r)) = p ++ (q :: r).flatten
    rw [List.nil_append, joinL_nil (q :: r)]
theorem tl_join0 (ys : List Str) : tl (Txt.join "" ys) = (ys.map tl).flatten := by
  rw [join_eq, tl_join]
  exact joinL_nil _
/-- the pieces, the lowest first, behind what is left -/
def Behind (n l : Nat) (ps : List Str) : Prop := tl (num n) = tl (num l) ++ (ps.reverse.map tl).flatten
theorem behind0 {n : Nat} : Behind n n [] := by
  unfold Behind
  rw [List.reverse_nil, List.map_nil, List.flatten_nil, List.append_nil]
theorem behind1 {n l : Nat} {ps : List Str} (h : Behind n l ps) (hl : 10 ^ 18 ≤ l) : Behind n (l / 10 ^ 18) (ps ++ [zpad 18 ((l % 10 ^ 18 : Nat) : Int)]) := by
  unfold Behind at *
  rw [h, num_split hl, tl_append, List.reverse_append, List.reverse_singleton, List.singleton_append, List.map_cons, List.flatten_cons, List.append_assoc]
theorem behind_end {n l : Nat} {ps : List Str} (h : Behind n l ps) : Txt.join "" (ps ++ [num l]).reverse = num n := by
  refine ext_tl ?_
  rw [tl_join0, List.reverse_append, List.reverse_singleton, List.singleton_append, List.map_cons, List.flatten_cons]
  exact h.symm
theorem sum18 : ∀ ps : List Str, (∀ p ∈ ps, p.length = 18) → (ps.map (·.length)).sum = 18 * ps.length
  | [], _ => rfl
  | p :: r, h => by
    rw [List.map_cons, List.sum_cons, h p (List.mem_cons_self ..), sum18 r fun q hq => h q (List.mem_cons_of_mem _ hq), List.length_cons]
    omega
theorem num_len {n k : Nat} (hk : 0 < k) (h : n < 10 ^ k) : (num n).length ≤ k := by
  show (tl (num n)).length ≤ k
  unfold num
  rw [tl_num]
  exact numL_len hk h
theorem big_le : 2 ^ 4000 ≤ 10 ^ (18 * 70) := by
  have h : (2 ^ 100) ^ 40 ≤ (10 ^ 31) ^ 40 := Nat.pow_le_pow_left (by decide) 40
  rw [← Nat.pow_mul, ← Nat.pow_mul] at h
  exact Nat.le_trans h (Nat.pow_le_pow_right (by decide) (by decide))
end Dg
namespace K02
open PySem PySem.Spec PyProof.Rows L2
def topS (i : Nat) : Stmt := PySem.Challenge.pw_rosenames_k02_turns_compared_and_shown.main.body.getD i (.Pass ⟨0, 0, 0, 0⟩)
abbrev s_is_whole : Stmt := topS 6
theorem sc_is_whole : FnScope ["thing"] ["thing"] (defScope s_is_whole) := ⟨rfl, rfl, rfl, by decide +kernel, rfl, by decide +kernel, by decide +kernel⟩
abbrev s_common : Stmt := topS 7
theorem sc_common : FnScope ["one", "other"] ["one", "other"] (defScope s_common) := ⟨rfl, rfl, rfl, by decide +kernel, rfl, by decide +kernel, by decide +kernel⟩
abbrev s_figures_of : Stmt := topS 8
theorem sc_figures_of : FnScope ["number", "pieces", "left", "low"] ["number"] (defScope s_figures_of) := ⟨rfl, rfl, rfl, by decide +kernel, rfl, by decide +kernel, by decide +kernel⟩
abbrev s_must_be_turn : Stmt := topS 11
theorem sc_must_be_turn : FnScope ["thing"] ["thing"] (defScope s_must_be_turn) := ⟨rfl, rfl, rfl, by decide +kernel, rfl, by decide +kernel, by decide +kernel⟩
abbrev s_Turn_init : Stmt := inClass (topS 10) 0
theorem sc_Turn_init : FnScope ["self", "top", "bottom", "signed", "size", "part", "shared"] ["self", "top", "bottom"] (defScope s_Turn_init) := ⟨rfl, rfl, rfl, by decide +kernel, rfl, by decide +kernel, by decide +kernel⟩
abbrev s_Turn___eq__ : Stmt := inClass (topS 10) 1
theorem sc_Turn___eq__ : FnScope ["self", "other"] ["self", "other"] (defScope s_Turn___eq__) := ⟨rfl, rfl, rfl, by decide +kernel, rfl, by decide +kernel, by decide +kernel⟩
abbrev s_Turn___str__ : Stmt := inClass (topS 10) 2
theorem sc_Turn___str__ : FnScope ["self"] ["self"] (defScope s_Turn___str__) := ⟨rfl, rfl, rfl, by decide +kernel, rfl, by decide +kernel, by decide +kernel⟩
abbrev s_Turn___repr__ : Stmt := inClass (topS 10) 3
theorem sc_Turn___repr__ : FnScope ["self"] ["self"] (defScope s_Turn___repr__) := ⟨rfl, rfl, rfl, by decide +kernel, rfl, by decide +kernel, by decide +kernel⟩
abbrev s_Turn_minus : Stmt := inClass (topS 10) 5
theorem sc_Turn_minus : FnScope ["self", "other"] ["self", "other"] (defScope s_Turn_minus) := ⟨rfl, rfl, rfl, by decide +kernel, rfl, by decide +kernel, by decide +kernel⟩
abbrev s_Turn_below : Stmt := inClass (topS 10) 8
theorem sc_Turn_below : FnScope ["self", "other"] ["self", "other"] (defScope s_Turn_below) := ⟨rfl, rfl, rfl, by decide +kernel, rfl, by decide +kernel, by decide +kernel⟩
abbrev s_Turn_apart : Stmt := inClass (topS 10) 9
theorem sc_Turn_apart : FnScope ["self", "other", "on"] ["self", "other"] (defScope s_Turn_apart) := ⟨rfl, rfl, rfl, by decide +kernel, rfl, by decide +kernel, by decide +kernel⟩
abbrev s_l_cell : Stmt := topS 13
theorem sc_l_cell : FnScope ["_law_script", "_law_k", "_law_state", "_law_cell_here"] ["_law_script", "_law_k"] (defScope s_l_cell) := ⟨rfl, rfl, rfl, by decide +kernel, rfl, by decide +kernel, by decide +kernel⟩
abbrev s_l_pool : Stmt := topS 14
theorem sc_l_pool : FnScope ["_law_cell_here", "_law_digits"] ["_law_cell_here"] (defScope s_l_pool) := ⟨rfl, rfl, rfl, by decide +kernel, rfl, by decide +kernel, by decide +kernel⟩
abbrev s_l_take : Stmt := topS 15
theorem sc_l_take : FnScope ["_law_pool_here", "_law_many", "_law_state", "_law_digit"] ["_law_pool_here", "_law_many"] (defScope s_l_take) := ⟨rfl, rfl, rfl, by decide +kernel, rfl, by decide +kernel, by decide +kernel⟩
abbrev s_l_low : Stmt := topS 16
theorem sc_l_low : FnScope ["_law_top", "_law_bottom", "_law_a", "_law_b"] ["_law_top", "_law_bottom"] (defScope s_l_low) := ⟨rfl, rfl, rfl, by decide +kernel, rfl, by decide +kernel, by decide +kernel⟩
abbrev s_l_part : Stmt := topS 17
theorem sc_l_part : FnScope ["_law_top", "_law_bottom"] ["_law_top", "_law_bottom"] (defScope s_l_part) := ⟨rfl, rfl, rfl, by decide +kernel, rfl, by decide +kernel, by decide +kernel⟩
abbrev s_l_on : Stmt := topS 18
theorem sc_l_on : FnScope ["_law_one", "_law_other_here"] ["_law_one", "_law_other_here"] (defScope s_l_on) := ⟨rfl, rfl, rfl, by decide +kernel, rfl, by decide +kernel, by decide +kernel⟩
abbrev s_l_off : Stmt := topS 19
theorem sc_l_off : FnScope ["_law_one", "_law_other_here"] ["_law_one", "_law_other_here"] (defScope s_l_off) := ⟨rfl, rfl, rfl, by decide +kernel, rfl, by decide +kernel, by decide +kernel⟩
abbrev s_l_less : Stmt := topS 20
theorem sc_l_less : FnScope ["_law_one", "_law_other_here"] ["_law_one", "_law_other_here"] (defScope s_l_less) := ⟨rfl, rfl, rfl, by decide +kernel, rfl, by decide +kernel, by decide +kernel⟩
abbrev s_l_apart : Stmt := topS 21
theorem sc_l_apart : FnScope ["_law_one", "_law_other_here", "_law_way", "_law_back"] ["_law_one", "_law_other_here"] (defScope s_l_apart) := ⟨rfl, rfl, rfl, by decide +kernel, rfl, by decide +kernel, by decide +kernel⟩
abbrev s_l_number : Stmt := topS 22
theorem sc_l_number : FnScope ["_law_pool_here", "_law_way", "_law_found", "_law_turn"] ["_law_pool_here"] (defScope s_l_number) := ⟨rfl, rfl, rfl, by decide +kernel, rfl, by decide +kernel, by decide +kernel⟩
abbrev s_l_is : Stmt := topS 23
theorem sc_l_is : FnScope ["_law_found", "_law_due"] ["_law_found", "_law_due"] (defScope s_l_is) := ⟨rfl, rfl, rfl, by decide +kernel, rfl, by decide +kernel, by decide +kernel⟩
abbrev s_l_pair : Stmt := topS 24
theorem sc_l_pair : FnScope ["_law_turn"] ["_law_turn"] (defScope s_l_pair) := ⟨rfl, rfl, rfl, by decide +kernel, rfl, by decide +kernel, by decide +kernel⟩
abbrev s_l_drawn : Stmt := topS 25
theorem sc_l_drawn : FnScope ["_law_pool_here", "_law_bottom"] ["_law_pool_here"] (defScope s_l_drawn) := ⟨rfl, rfl, rfl, by decide +kernel, rfl, by decide +kernel, by decide +kernel⟩
abbrev s_l_other : Stmt := topS 26
theorem sc_l_other : FnScope ["_law_pool_here", "_law_one", "_law_way"] ["_law_pool_here", "_law_one"] (defScope s_l_other) := ⟨rfl, rfl, rfl, by decide +kernel, rfl, by decide +kernel, by decide +kernel⟩
abbrev s_l_alike_right : Stmt := topS 27
theorem sc_l_alike_right : FnScope ["_law_first", "_law_second", "_law_due"] ["_law_first", "_law_second", "_law_due"] (defScope s_l_alike_right) := ⟨rfl, rfl, rfl, by decide +kernel, rfl, by decide +kernel, by decide +kernel⟩
abbrev s_l_things_right : Stmt := topS 28
theorem sc_l_things_right : FnScope ["_law_turn", "_law_pair_here", "_law_things", "_law_thing"] ["_law_turn"] (defScope s_l_things_right) := ⟨rfl, rfl, rfl, by decide +kernel, rfl, by decide +kernel, by decide +kernel⟩
abbrev s_l_texts_right : Stmt := topS 29
theorem sc_l_texts_right : FnScope ["_law_turn", "_law_pair_here", "_law_text"] ["_law_turn", "_law_pair_here"] (defScope s_l_texts_right) := ⟨rfl, rfl, rfl, by decide +kernel, rfl, by decide +kernel, by decide +kernel⟩
abbrev s_law : Stmt := topS 30
theorem sc_law : FnScope ["_law_script", "_law_k", "_law_pool_here", "_law_one", "_law_other_here", "_law_often", "_law_first", "_law_second", "_law_same", "_law_a", "_law_b", "_law_far"] ["_law_script"] (defScope s_law) := ⟨rfl, rfl, rfl, by decide +kernel, rfl, by decide +kernel, by decide +kernel⟩
def d_is_whole : He.DefD := ⟨("is_whole", none), "is_whole", "is_whole", defArgs s_is_whole, defBody s_is_whole, defScope s_is_whole, [], []⟩
def d_common : He.DefD := ⟨("common", none), "common", "common", defArgs s_common, defBody s_common, defScope s_common, [], []⟩
def d_figures_of : He.DefD := ⟨("figures_of", none), "figures_of", "figures_of", defArgs s_figures_of, defBody s_figures_of, defScope s_figures_of, [], []⟩
def d_must_be_turn : He.DefD := ⟨("must_be_turn", none), "must_be_turn", "must_be_turn", defArgs s_must_be_turn, defBody s_must_be_turn, defScope s_must_be_turn, [], []⟩
def d_Turn_init : He.DefD := ⟨("Turn", some "__init__"), "__init__", "Turn.__init__", defArgs s_Turn_init, defBody s_Turn_init, defScope s_Turn_init, [.int 1], []⟩
def d_Turn___eq__ : He.DefD := ⟨("Turn", some "__eq__"), "__eq__", "Turn.__eq__", defArgs s_Turn___eq__, defBody s_Turn___eq__, defScope s_Turn___eq__, [], []⟩
def d_Turn___str__ : He.DefD := ⟨("Turn", some "__str__"), "__str__", "Turn.__str__", defArgs s_Turn___str__, defBody s_Turn___str__, defScope s_Turn___str__, [], []⟩
def d_Turn___repr__ : He.DefD := ⟨("Turn", some "__repr__"), "__repr__", "Turn.__repr__", defArgs s_Turn___repr__, defBody s_Turn___repr__, defScope s_Turn___repr__, [], []⟩
def d_Turn_minus : He.DefD := ⟨("Turn", some "minus"), "minus", "Turn.minus", defArgs s_Turn_minus, defBody s_Turn_minus, defScope s_Turn_minus, [], []⟩
def d_Turn_below : He.DefD := ⟨("Turn", some "below"), "below", "Turn.below", defArgs s_Turn_below, defBody s_Turn_below, defScope s_Turn_below, [], []⟩
def d_Turn_apart : He.DefD := ⟨("Turn", some "apart"), "apart", "Turn.apart", defArgs s_Turn_apart, defBody s_Turn_apart, defScope s_Turn_apart, [], []⟩
def d_l_cell : He.DefD := ⟨("_law_cell", none), "_law_cell", "_law_cell", defArgs s_l_cell, defBody s_l_cell, defScope s_l_cell, [], []⟩
def d_l_pool : He.DefD := ⟨("_law_pool", none), "_law_pool", "_law_pool", defArgs s_l_pool, defBody s_l_pool, defScope s_l_pool, [], []⟩
def d_l_take : He.DefD := ⟨("_law_take", none), "_law_take", "_law_take", defArgs s_l_take, defBody s_l_take, defScope s_l_take, [], []⟩
def d_l_low : He.DefD := ⟨("_law_low", none), "_law_low", "_law_low", defArgs s_l_low, defBody s_l_low, defScope s_l_low, [], []⟩
def d_l_part : He.DefD := ⟨("_law_part", none), "_law_part", "_law_part", defArgs s_l_part, defBody s_l_part, defScope s_l_part, [], []⟩
def d_l_on : He.DefD := ⟨("_law_on", none), "_law_on", "_law_on", defArgs s_l_on, defBody s_l_on, defScope s_l_on, [], []⟩
def d_l_off : He.DefD := ⟨("_law_off", none), "_law_off", "_law_off", defArgs s_l_off, defBody s_l_off, defScope s_l_off, [], []⟩
def d_l_less : He.DefD := ⟨("_law_less", none), "_law_less", "_law_less", defArgs s_l_less, defBody s_l_less, defScope s_l_less, [], []⟩
def d_l_apart : He.DefD := ⟨("_law_apart", none), "_law_apart", "_law_apart", defArgs s_l_apart, defBody s_l_apart, defScope s_l_apart, [], []⟩
def d_l_number : He.DefD := ⟨("_law_number", none), "_law_number", "_law_number", defArgs s_l_number, defBody s_l_number, defScope s_l_number, [], []⟩
def d_l_is : He.DefD := ⟨("_law_is", none), "_law_is", "_law_is", defArgs s_l_is, defBody s_l_is, defScope s_l_is, [], []⟩
def d_l_pair : He.DefD := ⟨("_law_pair", none), "_law_pair", "_law_pair", defArgs s_l_pair, defBody s_l_pair, defScope s_l_pair, [], []⟩
def d_l_drawn : He.DefD := ⟨("_law_drawn", none), "_law_drawn", "_law_drawn", defArgs s_l_drawn, defBody s_l_drawn, defScope s_l_drawn, [], []⟩
def d_l_other : He.DefD := ⟨("_law_other", none), "_law_other", "_law_other", defArgs s_l_other, defBody s_l_other, defScope s_l_other, [], []⟩
def d_l_alike_right : He.DefD := ⟨("_law_alike_right", none), "_law_alike_right", "_law_alike_right", defArgs s_l_alike_right, defBody s_l_alike_right, defScope s_l_alike_right, [], []⟩
def d_l_things_right : He.DefD := ⟨("_law_things_right", none), "_law_things_right", "_law_things_right", defArgs s_l_things_right, defBody s_l_things_right, defScope s_l_things_right, [], []⟩
def d_l_texts_right : He.DefD := ⟨("_law_texts_right", none), "_law_texts_right", "_law_texts_right", defArgs s_l_texts_right, defBody s_l_texts_right, defScope s_l_texts_right, [], []⟩
def d_law : He.DefD := ⟨("law", none), "law", "law", defArgs s_law, defBody s_law, defScope s_law, [], []⟩
def fn : List He.DefD := [d_is_whole, d_common, d_figures_of, d_must_be_turn, d_Turn_init, d_Turn___eq__, d_Turn___str__, d_Turn___repr__, d_Turn_minus, d_Turn_below, d_Turn_apart, d_l_cell, d_l_pool, d_l_take, d_l_low, d_l_part, d_l_on, d_l_off, d_l_less, d_l_apart, d_l_number, d_l_is, d_l_pair, d_l_drawn, d_l_other, d_l_alike_right, d_l_things_right, d_l_texts_right, d_law]
def fa0 : List He.Fa := [.glo "is_whole", .glo "common", .glo "figures_of", .glo "must_be_turn", .glo "_law_cell", .glo "_law_pool", .glo "_law_take", .glo "_law_low", .glo "_law_part", .glo "_law_on", .glo "_law_off", .glo "_law_less", .glo "_law_apart", .glo "_law_number", .glo "_law_is", .glo "_law_pair", .glo "_law_drawn", .glo "_law_other", .glo "_law_alike_right", .glo "_law_things_right", .glo "_law_texts_right", .glo "law", .free "isinstance", .free "int", .free "bool", .free "abs", .free "len", .free "divmod", .free "range", .free "max"]
def fa1 : List He.Fa := [.free "min", .free "str", .free "repr", .free "list", .free "any", .glo "Turn", .cls "Turn", .mkr "Turn", .noat "Turn" "top", .noat "Turn" "bottom", .meth "Turn" "__eq__", .meth "Turn" "__str__", .meth "Turn" "__repr__", .meth "Turn" "minus", .meth "Turn" "below", .meth "Turn" "apart", .int "PIECE" 1000000000000000000]
def fa : List He.Fa := fa0 ++ fa1
def ex (K : PySem.W.Frag) : Bool := ownB K "Turn" && (digB K)
def ns0 : List PySem.Str := ["_wall", "RoseError", "NoTurn", "PIECE", "is_whole", "common", "figures_of", "Turn", "must_be_turn", "_law_cell", "_law_pool", "_law_take", "_law_low", "_law_part", "_law_on", "_law_off", "_law_less", "_law_apart", "_law_number", "_law_is", "_law_pair", "_law_drawn", "_law_other", "_law_alike_right", "_law_things_right", "_law_texts_right"]
def names : List PySem.Str := ns0
abbrev R : PySem.W.OpenRow := PySem.W.OpenLaw.row PySem.Challenge.rw_rosenames_k02_turns_compared_and_shown
def hk : PySem.W.Hook := hookM 5 fa fn ex
def ob (s : PySem.W.SharedT) : He.AlD × Bool := (He.obsD fa fn (He.frG (HandSHeadRun.getT s) (asN (HandSHeadRun.getT s) 5)), ex (He.frG (HandSHeadRun.getT s) (asN (HandSHeadRun.getT s) 5)))
theorem ob_eq (s : PySem.W.SharedT) : ob s = hk.obs s.abs := by
  have e : HandSHeadRun.getT s = s.abs.heap.get? := funext fun a => HandSHeadRun.getT_eq s a
  unfold ob
  rw [e]
  rfl
theorem run (w : World) : HandSHeadRun.RunEq R (PySem.W.view R.prog [30]) hk ob 6000 names w := by
  intro os
  kernel_rfl
end K02
namespace K02
open PySem PySem.Spec PyProof.Rows L2 Evl
structure Txt (K : PySem.W.Frag) (mg : Str → Option Value) : Prop where
  g_Turn : mg "Turn" = some (.ref (He.ga K "Turn"))
  cl_Turn : Cls K (He.ga K "Turn")
  mk_Turn : Mk K (He.ga K "Turn") (He.ma K (He.ga K "Turn") "__init__")
  no_Turn_top : NoAttr K (He.ga K "Turn") "top"
  no_Turn_bottom : NoAttr K (He.ga K "Turn") "bottom"
  m_Turn___eq__ : Meth K (He.ga K "Turn") "__eq__" (He.ma K (He.ga K "Turn") "__eq__")
  m_Turn___str__ : Meth K (He.ga K "Turn") "__str__" (He.ma K (He.ga K "Turn") "__str__")
  m_Turn___repr__ : Meth K (He.ga K "Turn") "__repr__" (He.ma K (He.ga K "Turn") "__repr__")
  m_Turn_minus : Meth K (He.ga K "Turn") "minus" (He.ma K (He.ga K "Turn") "minus")
  m_Turn_below : Meth K (He.ga K "Turn") "below" (He.ma K (He.ga K "Turn") "below")
  m_Turn_apart : Meth K (He.ga K "Turn") "apart" (He.ma K (He.ga K "Turn") "apart")
  b_isinstance : mg "isinstance" = none
  b_int : mg "int" = none
  b_bool : mg "bool" = none
  b_abs : mg "abs" = none
  b_len : mg "len" = none
  b_divmod : mg "divmod" = none
  b_range : mg "range" = none
  b_max : mg "max" = none
  b_min : mg "min" = none
  b_str : mg "str" = none
  b_repr : mg "repr" = none
  b_list : mg "list" = none
  b_any : mg "any" = none
  g_PIECE : ∃ t, mg "PIECE" = some (.int 1000000000000000000 t)
  own_Turn : OwnC K (He.ga K "Turn")
  dig : digB K = true
abbrev FnP (K : PySem.W.Frag) (x : Str) (st : Stmt) (f : Addr) (fd : FuncData) : Prop := FunD K x x (defArgs st) (defBody st) (defScope st) [] [] f fd
abbrev FnM (K : PySem.W.Frag) (x qual : Str) (st : Stmt) (f : Addr) (fd : FuncData) : Prop := FunD K x qual (defArgs st) (defBody st) (defScope st) [] [] f fd
end K02
namespace K02
open PySem PySem.Spec PyProof.Rows L2 Evl
/-! ### a turn in the heap -/
def tf (a : Int × Int) : List (Str × V) := [("top", .int a.1), ("bottom", .int a.2)]
theorem nTB : ¬ (("top" : Str) = "bottom") := by decide +kernel
theorem nBT : ¬ (("bottom" : Str) = "top") := by decide +kernel
theorem tf_put (x y : Int) : putF "bottom" (.int y) (putF "top" (.int x) []) = tf (x, y) := by
  show (if ("top" : Str) = "bottom" then _ else (("top" : Str), V.int x) :: putF "bottom" (V.int y) []) = _
  rw [if_neg nTB]
  rfl
theorem tf_top (a : Int × Int) : (tf a).lookup ("top" : Str) = some (.int a.1) := by
  simp [tf, List.lookup]
theorem tf_bottom (a : Int × Int) : (tf a).lookup ("bottom" : Str) = some (.int a.2) := by
  have h : (("bottom" : Str) == "top") = false := beq_eq_false_iff_ne.mpr nBT
  simp [tf, List.lookup, h]
theorem tf_no (a : Int × Int) {m : Str} (h1 : ¬ m = "top") (h2 : ¬ m = "bottom") : (tf a).lookup m = none := by
  have e1 : (m == ("top" : Str)) = false := beq_eq_false_iff_ne.mpr h1
  have e2 : (m == ("bottom" : Str)) = false := beq_eq_false_iff_ne.mpr h2
  simp [tf, List.lookup, e1, e2]
/-- at p a turn of these values -/
def TurnAt (C : Addr) (H : Hp) (p : Addr) (a : Int × Int) : Prop := ∃ dx, H p = some (.ins C dx (tf a))
theorem TurnAt.ex {C : Addr} {H H' : Hp} {p : Addr} {a : Int × Int} (h : TurnAt C H p a) (e : Ex H H') : TurnAt C H' p a := by
  obtain ⟨dx, h⟩ := h
  exact ⟨dx, e _ _ h⟩
/-- a pair as a tuple -/
def tv (a : Int × Int) : List V := [.int a.1, .int a.2]
/-! ### the promises of the program -/
def sp_is_whole : Sp := fun vs H Q _ => ∃ i : Int, vs = [.int i] ∧ ∀ H2, Ex H H2 → Q (.bl true) H2
def sp_common : Sp := fun vs H Q _ => ∃ a b : Int, vs = [.int a, .int b] ∧ 0 ≤ a ∧ 0 ≤ b ∧ ∀ H2, Ex H H2 → Q (.int (Int.gcd a b : Int)) H2
def sp_must (C : Addr) : Sp := fun vs H Q _ => ∃ (x dx : Addr) (fs : List (Str × V)), vs = [.ref x] ∧ H x = some (.ins C dx fs) ∧ ∀ H2, Ex H H2 → Q .non H2
def sp_init (C : Addr) : Sp := fun vs H Q _ => ∃ (x dx : Addr) (t u : Int), vs = [.ref x, .int t, .int u] ∧ u ≠ 0 ∧ u.natAbs < 2 ^ 4000 ∧ H x = some (.ins C dx []) ∧
  ∀ H2, But x H H2 → H2 x = some (.ins C dx (tf (Tn.sgn t u))) → Q .non H2
/-- a new turn is told -/
def NewT (C : Addr) (H : Hp) (Q : VK) (a : Int × Int) : Prop := ∀ p H2, H p = none → Ex H H2 → TurnAt C H2 p a → Q (.ref p) H2
def Sm (a : Int × Int) : Prop := Tn.Can a ∧ a.2 < 2 ^ 400
def sp_two (C : Addr) (g : Int × Int → Int × Int → Int × Int) : Sp := fun vs H Q _ => ∃ (x y : Addr) (a b : Int × Int), vs = [.ref x, .ref y] ∧ TurnAt C H x a ∧ TurnAt C H y b ∧ Sm a ∧ Sm b ∧ NewT C H Q (g a b)
def sp_times (C : Addr) : Sp := fun vs H Q _ => ∃ (x : Addr) (a : Int × Int) (m : Int), vs = [.ref x, .int m] ∧ TurnAt C H x a ∧ Sm a ∧ m.natAbs < 2 ^ 400 ∧ NewT C H Q (Tn.part (a.1 * m) a.2)
def sp_opposite (C : Addr) : Sp := fun vs H Q _ => ∃ (x : Addr) (a : Int × Int), vs = [.ref x] ∧ TurnAt C H x a ∧ Sm a ∧ NewT C H Q (Tn.on a Tn.half)
theorem Sm.b2 {a : Int × Int} (h : Sm a) : a.2.natAbs < 2 ^ 400 := by
  have := h.1.pos
  have := h.2
  omega
theorem Sm.b1 {a : Int × Int} (h : Sm a) : a.1.natAbs < 2 ^ 400 := by
  have := h.1.nn
  have := h.1.lt
  have := h.2
  omega
section
variable {P : Program} {w : World} {K : PySem.W.Frag} {mg : Str → Option Value} {base : Heap} {f : Addr} {fd : FuncData}
theorem ok_is_whole (F : FnP K "is_whole" s_is_whole f fd) (T : Txt K mg) : FnOk P w K mg base CX0 1 f fd ["thing"] sp_is_whole := by
  refine F.ok sc_is_whole (fun vs H Q E h => ?_) (fun cdv A outer s H vs Q E hr h => ?_)
  · obtain ⟨i, rfl, _⟩ := h
    rfl
  · obtain ⟨i, rfl, k⟩ := h
    refine ⟨_, PSs.nox (pss_one (ps_ret (pe_and (pe_callB call_isi (by rfl) T.b_isinstance (by decide +kernel) (pa_cons (pv 0) (pa_cons (pe_bltn (v := .ty "int") (by rfl) T.b_int (by decide +kernel) rfl) pa_nil))) (pe_one (pe_not (pe_callB call_isi (by rfl) T.b_isinstance (by decide +kernel) (pa_cons (pv 0) (pa_cons (pe_bltn (v := .ty "bool") (by rfl) T.b_bool (by decide +kernel) rfl) pa_nil)))))))), ?_⟩
    exact s_ret (v := .bl true) (ev_andV (ev_cb (ea_cons (ev_var rfl) (ea_cons ev_c ea_nil)) rc_isiI) fun _ => ev_notV (ev_cb (ea_cons (ev_var rfl) (ea_cons ev_c ea_nil)) rc_isiB)) k
theorem ok_common (F : FnP K "common" s_common f fd) (T : Txt K mg) : FnOk P w K mg base CX0 1 f fd ["one", "other"] sp_common := by
  refine F.ok sc_common (fun vs H Q E h => ?_) (fun cdv A outer s H vs Q E hr h => ?_)
  · obtain ⟨a, b, rfl, _⟩ := h
    rfl
  · obtain ⟨a, b, rfl, ha, hb, k⟩ := h
    refine ⟨_, PSs.nox (pss_cons (ps_while PassesOwn.never (pt_cmpR op_ne (pv 1) pe_int (nomark _)) (pss_one (ps_par (i := 0) (j := 1) (by rfl) sc_common.nd rfl rfl (by decide) rfl rfl (pa_cons (pv 1) (pa_cons (pe_op op_mod (pv 0) (pv 1)) pa_nil)) (by rfl))))
      (pss_one (ps_ret (pv 0)))), ?_⟩
    refine q_while (fun m σ' H' => Ex H H' ∧ ∃ x y : Int, σ' = [some (.int x), some (.int y)] ∧ 0 ≤ x ∧ 0 ≤ y ∧ Int.gcd x y = Int.gcd a b ∧ m = y.toNat) b.toNat ⟨Ex.refl _, a, b, rfl, ha, hb, rfl, rfl⟩ ?_
    rintro m σ' H' ⟨e, x, y, rfl, hx, hy, hg, rfl⟩
    refine ⟨_, et_test (ev_neI (ev_var rfl) ev_c), fun hb2 H1 e1 => ?_, fun hb2 H1 e1 => ?_⟩
    · have hy0 : y ≠ 0 := by simpa using hb2
      have hyp : 0 < y := by omega
      refine ⟨fun σ2 H2 => Ex H H2 ∧ σ2 = [some (.int y), some (.int (x % y))], fun σ2 H2 ⟨e2, h2⟩ => ?_, ?_⟩
      · have l1 := Int.emod_lt_of_pos x hyp
        have l2 := Int.emod_nonneg x hy0
        refine ⟨(x % y).toNat, by omega, e2, y, x % y, h2, by omega, l2, ?_, rfl⟩
        rw [← hg]
        exact Tn.gcd_step x y hx hyp
      · exact (ea_cons (ev_var rfl) (ea_cons (ev_mod (ev_var rfl) (ev_var rfl) hyp) ea_nil)) H1 (Ex.refl _) _ fun H2 e2 => ⟨_, _, rfl, (e.trans e1).trans e2, rfl⟩
    · have hy0 : y = 0 := by simpa using hb2
      subst hy0
      refine s_ret (ev_var rfl) fun H2 e2 => ?_
      have hz : (Int.gcd a b : Int) = x := by
        rw [← hg, Int.gcd_zero_right]
        omega
      have := k H2 ((e.trans e1).trans e2)
      rw [hz] at this
      exact this
theorem ok_must (F : FnP K "must_be_turn" s_must_be_turn f fd) (T : Txt K mg) : FnOk P w K mg base CX0 1 f fd ["thing"] (sp_must (He.ga K "Turn")) := by
  refine F.ok sc_must_be_turn (fun vs H Q E h => ?_) (fun cdv A outer s H vs Q E hr h => ?_)
  · obtain ⟨x, dx, fs, rfl, _⟩ := h
    rfl
  · obtain ⟨x, dx, fs, rfl, hx, k⟩ := h
    refine ⟨_, PSs.nox (pss_one (ps_if (pt_not (pt_val (pe_callB call_isi (by rfl) T.b_isinstance (by decide +kernel) (pa_cons (pv 0) (pa_cons (pe_glob (v := .ref (He.ga K "Turn")) (by rfl) T.g_Turn rfl) pa_nil))))) (pss_one ps_never) pss_nil)), ?_⟩
    refine s_when (et_not (et_B (ev_cb (ea_cons (ev_var rfl) (ea_cons ev_c ea_nil)) (rc_isiC hx T.cl_Turn T.own_Turn.is)))) (fun hb => nomatch hb) fun _ H1 e1 => k H1 e1
abbrev Cn (P : Program) (w : World) (K : PySem.W.Frag) (mg : Str → Option Value) (base : Heap) : Prop := Dn P w K mg base 1 "is_whole" ["thing"] sp_is_whole
abbrev Cc (P : Program) (w : World) (K : PySem.W.Frag) (mg : Str → Option Value) (base : Heap) : Prop := Dn P w K mg base 1 "common" ["one", "other"] sp_common
theorem ok_init {dvs : List V} {kws : List (Str × V)} (F : FunD K "__init__" "Turn.__init__" (defArgs s_Turn_init) (defBody s_Turn_init) (defScope s_Turn_init) dvs kws f fd) (T : Txt K mg) (D_is_whole : Cn P w K mg base) (D_common : Cc P w K mg base) :
    FnOk P w K mg base CX0 2 f fd ["self", "top", "bottom"] (sp_init (He.ga K "Turn")) := by
  refine F.ok sc_Turn_init (fun vs H Q E h => ?_) (fun cdv A outer s H vs Q E hr h => ?_)
  · obtain ⟨x, dx, t, u, rfl, _⟩ := h
    rfl
  · obtain ⟨x, dx, t, u, rfl, hu, hz, hx, k⟩ := h
    refine ⟨_, PSs.nox (pss_cons (ps_if (pt_not (pt_val (pe_cd D_is_whole (hr.mono (by decide)) (by rfl) (pa_cons (pv 1) pa_nil)))) (pss_one ps_never) pss_nil)
      (pss_cons (ps_if (PW.pt (pw_or (pt_not (pt_val (pe_cd D_is_whole (hr.mono (by decide)) (by rfl) (pa_cons (pv 2) pa_nil)))) (pw_or1 (pt_cmpR op_eq (pv 2) pe_int (nomark _))))) (pss_one ps_never) pss_nil)
      (pss_cons (ps_set (i := 3) sc_Turn_init.nd rfl (Or.inl rfl) (pe_ifExp (pt_cmpR op_gt (pv 2) pe_int (nomark _)) (pv 1) (pe_un un_neg (pv 1))))
      (pss_cons (ps_set (i := 4) sc_Turn_init.nd rfl (Or.inl rfl) (pe_callB call_abs (by rfl) T.b_abs (by decide +kernel) (pa_cons (pv 2) pa_nil)))
      (pss_cons (ps_set (i := 5) sc_Turn_init.nd rfl (Or.inl rfl) (pe_op op_mod (pv 3) (pv 4)))
      (pss_cons (ps_set (i := 6) sc_Turn_init.nd rfl (Or.inl rfl) (pe_cd D_common (hr.mono (by decide)) (by rfl) (pa_cons (pv 5) (pa_cons (pv 4) pa_nil))))
      (pss_cons (ps_fld (pv 0) (pe_op op_fdivW (pv 5) (pv 6)) rfl)
      (pss_one (ps_fld (pv 0) (pe_op op_fdivW (pv 4) (pv 6)) rfl))))))))), ?_⟩
    have wh : ∀ {i : Int} {H0 : Hp}, SpV sp_is_whole [.int i] H0 (.bl true) := fun {i H0} H1 e Q' q E' => ⟨i, rfl, q⟩
    refine q_when (et_not (et_B (ev_call (ea_cons (ev_var rfl) ea_nil) wh))) (fun hb => nomatch hb) fun _ H1 e1 => ?_
    refine q_when (b := false) (et_is (et_or (et_not (et_B (ev_call (ea_cons (ev_var rfl) ea_nil) wh))) fun _ => et_test (ev_eqI (ev_var rfl) ev_c)) (by simpa using hu)) (fun hb => nomatch hb) fun _ H2 e2 => ?_
    -- signed, size, part, shared
    let sg : Int := if u < 0 then -t else t
    have hsg : sg = if u < 0 then -t else t := rfl
    clear_value sg
    have un : (u.natAbs : Int) ≠ 0 := by omega
    have up : (0 : Int) < (u.natAbs : Int) := by omega
    refine q_asg (v := .int sg) (ev_if (et_test (ev_gt (ev_var rfl) ev_c)) (fun hb => ?_) (fun hb => ?_)) fun H3 e3 => ?_
    · have : 0 < u := of_decide_eq_true hb
      rw [hsg, if_neg (by omega)]
      exact ev_var rfl
    · have : ¬ 0 < u := of_decide_eq_false hb
      rw [hsg, if_pos (by omega)]
      exact ev_neg (ev_var rfl)
    refine q_asg (ev_cb (ea_cons (ev_var rfl) ea_nil) rc_abs) fun H4 e4 => ?_
    refine q_asg (ev_mod (ev_var rfl) (ev_var rfl) up) fun H5 e5 => ?_
    have pn := Int.emod_nonneg sg un
    have cm : SpV sp_common [.int (sg % (u.natAbs : Int)), .int (u.natAbs : Int)] H5 (.int (Int.gcd (sg % (u.natAbs : Int)) (u.natAbs : Int) : Int)) := fun H1 e Q' q E' => ⟨_, _, rfl, pn, by omega, q⟩
    refine q_asg (ev_call (ea_cons (ev_var rfl) (ea_cons (ev_var rfl) ea_nil)) cm) fun H6 e6 => ?_
    have gp : (0 : Int) < (Int.gcd (sg % (u.natAbs : Int)) (u.natAbs : Int) : Int) := Tn.gcd_pos up
    have gl : (Int.gcd (sg % (u.natAbs : Int)) (u.natAbs : Int) : Int) ≤ (u.natAbs : Int) := Int.le_of_dvd up (Int.gcd_dvd_right ..)
    have gz : (Int.gcd (sg % (u.natAbs : Int)) (u.natAbs : Int) : Int).natAbs < 2 ^ 4000 := by omega
    have hx6 : H6 x = some (.ins (He.ga K "Turn") dx []) := (((((e1.trans e2).trans e3).trans e4).trans e5).trans e6) _ _ hx
    have e16 : Ex H H6 := ((((e1.trans e2).trans e3).trans e4).trans e5).trans e6
    refine (ev_fdivW (ev_var rfl) (ev_var rfl) gp gz) H6 (Ex.refl _) _ fun H7 e7 => ?_
    refine ⟨_, rfl, x, He.ga K "Turn", dx, [], rfl, e7 _ _ hx6, T.cl_Turn, T.no_Turn_top, (by show 0 < 1000; decide), ?_⟩
    refine (ev_fdivW (ev_var rfl) (ev_var rfl) gp gz) _ (Ex.refl _) _ fun H8 e8 => ?_
    refine ⟨_, rfl, x, He.ga K "Turn", dx, _, rfl, e8 _ _ upd_same, T.cl_Turn, T.no_Turn_bottom, (by show 1 < 1000; decide), ?_⟩
    have es : Tn.sgn t u = Tn.low (sg % (u.natAbs : Int)) (u.natAbs : Int) := by
      unfold Tn.sgn Tn.part
      by_cases h : u < 0
      · rw [if_pos h, hsg, if_pos h]
        have : -u = (u.natAbs : Int) := by omega
        rw [this]
      · rw [if_neg h, hsg, if_neg h]
        have : u = (u.natAbs : Int) := by omega
        rw [← this]
    refine k _ (((But.ex (e16.trans e7)).trans But.upd).trans ((But.ex e8).trans But.upd)) ?_
    rw [upd_same, tf_put, es]
    rfl
/-- Turn(t, u) -/
theorem make_turn {C : Addr} {H : Hp} {t u : Int} {Q : VK} (hu : u ≠ 0) (hz : u.natAbs < 2 ^ 4000) (k : NewT C H Q (Tn.sgn t u)) :
    ∀ x dx, H x = none → H dx = none → dx ≠ x → sp_init C [.ref x, .int t, .int u] (upd (upd H dx (.own x)) x (.ins C dx [])) (fun v H2 => v = .non ∧ Q (.ref x) H2) E0 := fun x dx hx hdx ne => by
  refine ⟨x, dx, t, u, rfl, hu, hz, upd_same, fun H2 b hb => ⟨rfl, k x H2 hx (fun a o h => ?_) ⟨dx, hb⟩⟩⟩
  have n1 : a ≠ x := ne_of_none h hx
  refine b a o n1 ?_
  rw [upd_ne n1, upd_ne (ne_of_none h hdx)]
  exact h
end
/-- Turn's maker, by place, by keyword, by its default -/
def Tc (P : Program) (w : World) (K : PySem.W.Frag) (mg : Str → Option Value) (base : Heap) : Prop := ∃ fd, FnOk P w K mg base CX0 2 (He.ma K (He.ga K "Turn") "__init__") fd ["self", "top", "bottom"] (sp_init (He.ga K "Turn")) ∧
  Binds K fd ["self", "top", "bottom"] [] ∧ (∃ ds, Vals [.int 1] ds ∧ Binds K fd ["self", "top", "bottom"] ds) ∧ ∃ its : List Value, KBn K fd ["self", "top", "bottom"] 2 ["bottom"] (fun us ws => us ++ ws) (fun vs zs => vs ++ zs)
abbrev Cm (P : Program) (w : World) (K : PySem.W.Frag) (mg : Str → Option Value) (base : Heap) : Prop := Dn P w K mg base 1 "must_be_turn" ["thing"] (sp_must (He.ga K "Turn"))
/-- a new turn comes of an expression -/
def EvTn (C : Addr) (te : TE) (σ : L2.St) (H : Hp) (a : Int × Int) : Prop := ∀ H1, Ex H H1 → ∀ Q : VK, NewT C H1 Q a → te σ H1 Q
section
variable {C : Addr} {σ : L2.St} {H : Hp} {ta : TA} {to te : TE} {t u : Int} {a b : Int × Int} {D : Ends} {vs dvs : List V}
theorem tn_make (h : EvA ta σ H vs) (hu : u ≠ 0) (hz : u.natAbs < 2 ^ 4000) (e : vs ++ dvs = [.int t, .int u] := by rfl) : EvTn C (tMake C (sp_init C) dvs E0 ta) σ H (Tn.sgn t u) := fun H1 e1 Q q =>
  h H1 e1 _ fun H2 e2 => by
    rw [e]
    exact make_turn hu hz fun p H3 hp e3 ht => q p H3 (fresh_back e2 hp) (e2.trans e3) ht
theorem s_retTn (h : EvTn C te σ H a) (k : NewT C H D.rt a) : tRet te D σ H := h H (Ex.refl _) _ k
theorem EvTn.is (h : EvTn C te σ H a) (e : a = b) : EvTn C te σ H b := e ▸ h
theorem NewT.ex {H1 : Hp} {Q : VK} (k : NewT C H Q a) (e : Ex H H1) : NewT C H1 Q a := fun p H2 hp e2 ht => k p H2 (fresh_back e hp) (e.trans e2) ht
end
theorem pow_mul {i j : Int} {n m : Nat} (hi : i.natAbs < 2 ^ n) (hj : j.natAbs < 2 ^ m) : (i * j).natAbs < 2 ^ (n + m) := wide_lt hi hj
theorem pow_up {i : Int} {n m : Nat} (hi : i.natAbs < 2 ^ n) (h : n ≤ m) : i.natAbs < 2 ^ m := pow_big hi h
end K02
namespace K02
open PySem PySem.Spec PyProof.Rows L2 Evl
section
variable {P : Program} {w : World} {K : PySem.W.Frag} {mg : Str → Option Value} {base : Heap} {f : Addr} {fd : FuncData}
theorem ok_minus (F : FnM K "minus" "Turn.minus" s_Turn_minus f fd) (T : Txt K mg) (D_must_be_turn : Cm P w K mg base) (TC : Tc P w K mg base) : FnOk P w K mg base CX0 4 f fd ["self", "other"] (sp_two (He.ga K "Turn") Tn.off) := by
  obtain ⟨fdI, G_Turn_init, b_Turn_init, _, _⟩ := TC
  refine F.ok sc_Turn_minus (fun vs H Q E h => ?_) (fun cdv A outer s H vs Q E hr h => ?_)
  · obtain ⟨x, y, a, b, rfl, _⟩ := h
    rfl
  · obtain ⟨x, y, a, b, rfl, ⟨dx, hx⟩, ⟨dy, hy⟩, ha, hb, k⟩ := h
    refine ⟨_, PSs.nox (pss_cons (ps_expr (pe_cd D_must_be_turn (hr.mono (by decide)) (by rfl) (pa_cons (pv 1) pa_nil)))
      (pss_one (ps_ret (pe_make T.mk_Turn G_Turn_init (hr.mono (by decide)) (by rfl) T.g_Turn b_Turn_init .nil pass0 (pa_cons (pe_op op_sub (pe_op op_mulW (pe_fld (pv 0) rfl) (pe_fld (pv 1) rfl)) (pe_op op_mulW (pe_fld (pv 1) rfl) (pe_fld (pv 0) rfl))) (pa_cons (pe_op op_mulW (pe_fld (pv 0) rfl) (pe_fld (pv 1) rfl)) pa_nil)))))), ?_⟩
    have mu : SpV (sp_must (He.ga K "Turn")) [.ref y] H .non := fun H1 e Q' q E' => ⟨y, dy, _, rfl, e _ _ hy, q⟩
    refine q_drop (ev_call (ea_cons (ev_var rfl) ea_nil) mu) fun H1 e1 => ?_
    have hx1 := e1 _ _ hx
    have hy1 := e1 _ _ hy
    have s1 : Ev (tFld K (tVar 0) "top") _ H1 (.int a.1) := ev_fld (σ := [some (.ref x), some (.ref y)]) (ev_var rfl) hx1 T.cl_Turn T.no_Turn_top (tf_top a)
    have s2 : Ev (tFld K (tVar 0) "bottom") _ H1 (.int a.2) := ev_fld (σ := [some (.ref x), some (.ref y)]) (ev_var rfl) hx1 T.cl_Turn T.no_Turn_bottom (tf_bottom a)
    have o1 : Ev (tFld K (tVar 1) "top") _ H1 (.int b.1) := ev_fld (σ := [some (.ref x), some (.ref y)]) (ev_var rfl) hy1 T.cl_Turn T.no_Turn_top (tf_top b)
    have o2 : Ev (tFld K (tVar 1) "bottom") _ H1 (.int b.2) := ev_fld (σ := [some (.ref x), some (.ref y)]) (ev_var rfl) hy1 T.cl_Turn T.no_Turn_bottom (tf_bottom b)
    have up : 0 < a.2 * b.2 := Int.mul_pos ha.1.pos hb.1.pos
    exact s_retTn ((tn_make (ea_cons (ev_sub (ev_mulW s1 o2 ha.b1 hb.b2) (ev_mulW o1 s2 hb.b1 ha.b2)) (ea_cons (ev_mulW s2 o2 ha.b2 hb.b2) ea_nil)) (by omega) (pow_up (pow_mul ha.b2 hb.b2) (by decide))).is (Tn.sgn_pos up)) (k.ex e1)
end
end K02
namespace K02
open PySem PySem.Spec PyProof.Rows L2 Evl
/-- a new pair is told -/
def NewP (H : Hp) (Q : VK) (a : Int × Int) : Prop := ∀ p H2, H p = none → Ex H H2 → H2 p = some (.tup (tv a)) → Q (.ref p) H2
def sp_low : Sp := fun vs H Q _ => ∃ t u : Int, vs = [.int t, .int u] ∧ 0 ≤ t ∧ 0 < u ∧ u.natAbs < 2 ^ 4000 ∧ NewP H Q (Tn.low t u)
def sp_part : Sp := fun vs H Q _ => ∃ t u : Int, vs = [.int t, .int u] ∧ 0 < u ∧ u.natAbs < 2 ^ 4000 ∧ NewP H Q (Tn.part t u)
def sp_pair (g : Int × Int → Int × Int → Int × Int) : Sp := fun vs H Q _ => ∃ (p q : Addr) (a b : Int × Int), vs = [.ref p, .ref q] ∧ H p = some (.tup (tv a)) ∧ H q = some (.tup (tv b)) ∧ Sm a ∧ Sm b ∧ NewP H Q (g a b)
section
variable {P : Program} {w : World} {K : PySem.W.Frag} {mg : Str → Option Value} {base : Heap} {f : Addr} {fd : FuncData}
theorem ok_low (F : FnP K "_law_low" s_l_low f fd) (T : Txt K mg) : FnOk P w K mg base CX0 1 f fd ["_law_top", "_law_bottom"] sp_low := by
  refine F.ok sc_l_low (fun vs H Q E h => ?_) (fun cdv A outer s H vs Q E hr h => ?_)
  · obtain ⟨t, u, rfl, _⟩ := h
    rfl
  · obtain ⟨t, u, rfl, t0, u0, uz, k⟩ := h
    refine ⟨_, PSs.nox (pss_cons (ps_par (i := 2) (j := 3) (by rfl) sc_l_low.nd rfl rfl (by decide) rfl rfl (pa_cons (pe_callB call_abs (by rfl) T.b_abs (by decide +kernel) (pa_cons (pv 0) pa_nil)) (pa_cons (pv 1) pa_nil)) (by rfl))
      (pss_cons (ps_while PassesOwn.never (pt_cmpR op_gt (pv 3) pe_int (nomark _)) (pss_one (ps_par (i := 2) (j := 3) (by rfl) sc_l_low.nd rfl rfl (by decide) rfl rfl (pa_cons (pv 3) (pa_cons (pe_op op_mod (pv 2) (pv 3)) pa_nil)) (by rfl))))
      (pss_one (ps_ret (pe_tup (pa_cons (pe_op op_fdivW (pv 0) (pv 2)) (pa_cons (pe_op op_fdivW (pv 1) (pv 2)) pa_nil))))))), ?_⟩
    refine q_par (Evl.EvA.go (ea_cons (ev_cb (ea_cons (ev_var rfl) ea_nil) rc_abs) (ea_cons (ev_var rfl) ea_nil)) fun H1 e1 => ⟨_, _, rfl, ?_⟩)
    have ta : (t.natAbs : Int) = t := by omega
    rw [ta]
    refine q_while (fun m σ' H' => Ex H H' ∧ ∃ x y : Int, σ' = [some (.int t), some (.int u), some (.int x), some (.int y)] ∧ 0 ≤ x ∧ 0 ≤ y ∧ Int.gcd x y = Int.gcd t u ∧ m = y.toNat) u.toNat ⟨e1, t, u, rfl, t0, by omega, rfl, rfl⟩ ?_
    rintro m σ' H' ⟨e, x, y, rfl, hx, hy, hg, rfl⟩
    refine ⟨_, et_test (ev_gt (ev_var rfl) ev_c), fun hb2 H1 e1 => ?_, fun hb2 H1 e1 => ?_⟩
    · have hyp : 0 < y := of_decide_eq_true hb2
      refine ⟨fun σ2 H2 => Ex H H2 ∧ σ2 = [some (.int t), some (.int u), some (.int y), some (.int (x % y))], fun σ2 H2 ⟨e2, h2⟩ => ?_, ?_⟩
      · have l1 := Int.emod_lt_of_pos x hyp
        have l2 := Int.emod_nonneg x (show y ≠ 0 by omega)
        refine ⟨(x % y).toNat, by omega, e2, y, x % y, h2, by omega, l2, ?_, rfl⟩
        rw [← hg]
        exact Tn.gcd_step x y hx hyp
      · exact (ea_cons (ev_var rfl) (ea_cons (ev_mod (ev_var rfl) (ev_var rfl) hyp) ea_nil)) H1 (Ex.refl _) _ fun H2 e2 => ⟨_, _, rfl, (e.trans e1).trans e2, rfl⟩
    · have hy0 : y = 0 := by
        have : ¬ 0 < y := of_decide_eq_false hb2
        omega
      subst hy0
      have hz : x = (Int.gcd t u : Int) := by
        rw [← hg, Int.gcd_zero_right]
        omega
      have gp : (0 : Int) < (Int.gcd t u : Int) := Tn.gcd_pos u0
      have gl : (Int.gcd t u : Int) ≤ u := Int.le_of_dvd u0 (Int.gcd_dvd_right ..)
      subst hz
      have gz : (Int.gcd t u : Int).natAbs < 2 ^ 4000 := by omega
      exact s_retU (eu_tup (ea_cons (ev_fdivW (ev_var rfl) (ev_var rfl) gp gz) (ea_cons (ev_fdivW (ev_var rfl) (ev_var rfl) gp gz) ea_nil)) (by show 2 ≤ 100000; decide)) fun p H2 hp e2 h2 => k p H2 (fresh_back (e.trans e1) hp) ((e.trans e1).trans e2) h2
end
/-! a new pair comes of an expression -/
section
variable {C : Addr} {σ : L2.St} {H : Hp} {ta : TA} {to te : TE} {t u : Int} {a b : Int × Int} {D : Ends} {vs dvs : List V}
theorem NewP.ex {H1 : Hp} {Q : VK} (k : NewP H Q a) (e : Ex H H1) : NewP H1 Q a := fun p H2 hp e2 ht => k p H2 (fresh_back e hp) (e.trans e2) ht
theorem eu_call {sp : Sp} {xs : List V} {E : XK} (h : EvA ta σ H vs) (hs : ∀ H1, Ex H H1 → ∀ Q : VK, (∀ p H2, H1 p = none → Ex H1 H2 → H2 p = some (.tup xs) → Q (.ref p) H2) → sp (vs ++ dvs) H1 Q E) : EvU (tCall sp dvs E ta) σ H xs := fun H1 e Q q =>
  h H1 e _ fun H2 e2 => hs H2 (e.trans e2) Q fun p H3 hp e3 h3 => q p H3 (fresh_back e2 hp) (e2.trans e3) h3
end
section
variable {P : Program} {w : World} {K : PySem.W.Frag} {mg : Str → Option Value} {base : Heap} {f : Addr} {fd : FuncData}
abbrev L_low (P : Program) (w : World) (K : PySem.W.Frag) (mg : Str → Option Value) (base : Heap) : Prop := Dn P w K mg base 1 "_law_low" ["_law_top", "_law_bottom"] sp_low
abbrev L_part (P : Program) (w : World) (K : PySem.W.Frag) (mg : Str → Option Value) (base : Heap) : Prop := Dn P w K mg base 2 "_law_part" ["_law_top", "_law_bottom"] sp_part
theorem ok_part (F : FnP K "_law_part" s_l_part f fd) (T : Txt K mg) (D_l_low : L_low P w K mg base) : FnOk P w K mg base CX0 2 f fd ["_law_top", "_law_bottom"] sp_part := by
  refine F.ok sc_l_part (fun vs H Q E h => ?_) (fun cdv A outer s H vs Q E hr h => ?_)
  · obtain ⟨t, u, rfl, _⟩ := h
    rfl
  · obtain ⟨t, u, rfl, u0, uz, k⟩ := h
    refine ⟨_, PSs.nox (pss_one (ps_ret (pe_cd D_l_low (hr.mono (by decide)) (by rfl) (pa_cons (pe_op op_mod (pv 0) (pv 1)) (pa_cons (pv 1) pa_nil))))), ?_⟩
    exact s_retU (eu_call (ea_cons (ev_mod (ev_var rfl) (ev_var rfl) u0) (ea_cons (ev_var rfl) ea_nil)) fun H1 e1 Q' q => ⟨_, _, rfl, Int.emod_nonneg _ (by omega), u0, uz, q⟩) k
theorem part_call {H : Hp} {t u : Int} {E : XK} (u0 : 0 < u) (uz : u.natAbs < 2 ^ 4000) : ∀ H1, Ex H H1 → ∀ Q : VK, (∀ p H2, H1 p = none → Ex H1 H2 → H2 p = some (.tup (tv (Tn.part t u))) → Q (.ref p) H2) → sp_part ([.int t, .int u] ++ []) H1 Q E := fun H1 e1 Q' q => ⟨t, u, rfl, u0, uz, q⟩
end
end K02
namespace K02
open PySem PySem.Spec PyProof.Rows L2 Evl
/-! what comes of an expression: an object of which P holds, whatever is added to the heap -/
def EvR (te : TE) (σ : L2.St) (H : Hp) (P : Addr → Hp → Prop) : Prop := ∀ H1, Ex H H1 → ∀ Q : VK, (∀ p H2, Ex H1 H2 → P p H2 → Q (.ref p) H2) → te σ H1 Q
abbrev PT (C : Addr) (a : Int × Int) : Addr → Hp → Prop := fun p H => TurnAt C H p a
abbrev PP (a : Int × Int) : Addr → Hp → Prop := fun p H => H p = some (.tup (tv a))
section
variable {C : Addr} {K : PySem.W.Frag} {σ : L2.St} {H H' : Hp} {ta : TA} {to te ty tu : TE} {t u m : Int} {a b : Int × Int} {D : Ends} {vs dvs : List V} {p : Addr} {i : Nat} {P : Addr → Hp → Prop} {Q : VK}
theorem er_var (h : σ[i]? = some (some (.ref p))) (hp : ∀ H1, Ex H H1 → P p H1) : EvR (tVar i) σ H P := fun H1 e _ q => ⟨.ref p, h, q p H1 (Ex.refl _) (hp H1 e)⟩
theorem er_turn (h : σ[i]? = some (some (.ref p))) (hp : TurnAt C H p a) : EvR (tVar i) σ H (PT C a) := er_var h fun _ e => hp.ex e
theorem er_pair (h : σ[i]? = some (some (.ref p))) (hp : H p = some (.tup (tv a))) : EvR (tVar i) σ H (PP a) := er_var h fun _ e => e _ _ hp
theorem er_tn (h : EvTn C te σ H a) : EvR te σ H (PT C a) := fun H1 e Q q => h H1 e Q fun p H2 _ e2 ht => q p H2 e2 ht
theorem er_u (h : EvU te σ H (tv a)) : EvR te σ H (PP a) := fun H1 e Q q => h H1 e Q fun p H2 _ e2 ht => q p H2 e2 ht
theorem EvR.mono (e : Ex H H') (h : EvR te σ H P) : EvR te σ H' P := fun H1 e1 Q q => h H1 (e.trans e1) Q q
theorem EvR.is (h : EvR te σ H (PT C a)) (e : a = b) : EvR te σ H (PT C b) := e ▸ h
theorem EvR.go (h : EvR te σ H P) (k : ∀ p H1, Ex H H1 → P p H1 → Q (.ref p) H1) : te σ H Q := h H (Ex.refl _) _ k
/-- the same of a new object -/
def EvN (te : TE) (σ : L2.St) (H : Hp) (P : Addr → Hp → Prop) : Prop := ∀ H1, Ex H H1 → ∀ Q : VK, (∀ p H2, H1 p = none → Ex H1 H2 → P p H2 → Q (.ref p) H2) → te σ H1 Q
theorem EvN.r (h : EvN te σ H P) : EvR te σ H P := fun H1 e Q q => h H1 e Q fun p H2 _ e2 hp => q p H2 e2 hp
theorem er_new (h : EvN te σ H P) (k : ∀ p H1, H p = none → Ex H H1 → P p H1 → Q (.ref p) H1) : te σ H Q := h H (Ex.refl _) _ k
theorem er_m2n {mn : Str} {g : Int × Int → Int × Int → Int × Int} (h1 : EvR to σ H (PT C a)) (h2 : EvR ty σ H (PT C b)) (ha : Sm a) (hb : Sm b) (n1 : ¬ mn = "top" := by decide +kernel) (n2 : ¬ mn = "bottom" := by decide +kernel) :
    EvN (tMeth C mn (sp_two C g) [] E0 to (tCons ty tNil)) σ H (PT C (g a b)) := fun H1 e Q q =>
  h1 H1 e _ fun p H2 e2 hp => by
    obtain ⟨dx, hx⟩ := id hp
    exact ⟨p, dx, _, rfl, hx, tf_no a n1 n2, h2 H2 (e.trans e2) _ fun r H3 e3 hr => ⟨p, r, a, b, rfl, TurnAt.ex hp e3, hr, ha, hb, fun x H4 hx4 e4 ht => q x H4 (fresh_back (e2.trans e3) hx4) ((e2.trans e3).trans e4) ht⟩⟩
theorem er_m2 {mn : Str} {g : Int × Int → Int × Int → Int × Int} (h1 : EvR to σ H (PT C a)) (h2 : EvR ty σ H (PT C b)) (ha : Sm a) (hb : Sm b) (n1 : ¬ mn = "top" := by decide +kernel) (n2 : ¬ mn = "bottom" := by decide +kernel) :
    EvR (tMeth C mn (sp_two C g) [] E0 to (tCons ty tNil)) σ H (PT C (g a b)) := fun H1 e Q q =>
  h1 H1 e _ fun p H2 e2 hp => by
    obtain ⟨dx, hx⟩ := id hp
    exact ⟨p, dx, _, rfl, hx, tf_no a n1 n2, h2 H2 (e.trans e2) _ fun r H3 e3 hr => ⟨p, r, a, b, rfl, TurnAt.ex hp e3, hr, ha, hb, fun x H4 _ e4 ht => q x H4 ((e2.trans e3).trans e4) ht⟩⟩
theorem er_pairs {g : Int × Int → Int × Int → Int × Int} (h1 : EvR to σ H (PP a)) (h2 : EvR ty σ H (PP b)) (ha : Sm a) (hb : Sm b) : EvR (tCall (sp_pair g) [] E0 (tCons to (tCons ty tNil))) σ H (PP (g a b)) := fun H1 e Q q =>
  h1 H1 e _ fun p H2 e2 hp => h2 H2 (e.trans e2) _ fun r H3 e3 hr => ⟨p, r, a, b, rfl, e3 _ _ hp, hr, ha, hb, fun x H4 _ e4 ht => q x H4 ((e2.trans e3).trans e4) ht⟩
theorem er_part (h1 : Ev to σ H (.int t)) (h2 : Ev ty σ H (.int u)) (u0 : 0 < u) (uz : u.natAbs < 2 ^ 4000) : EvR (tCall sp_part [] E0 (tCons to (tCons ty tNil))) σ H (PP (Tn.part t u)) := fun H1 e Q q =>
  h1 H1 e _ fun H2 e2 => h2 H2 (e.trans e2) _ fun H3 e3 => ⟨t, u, rfl, u0, uz, fun x H4 _ e4 ht => q x H4 ((e2.trans e3).trans e4) ht⟩
theorem er_tup2 {x y : Int} : EvR (tTup (tCons (tC (.int x)) (tCons (tC (.int y)) tNil))) σ H (PP (x, y)) := er_u (eu_tup (ea_cons ev_c (ea_cons ev_c ea_nil)) (by show 2 ≤ 100000; decide))
end
/-- so small that two of them together are small -/
def Sn (n : Nat) (a : Int × Int) : Prop := Tn.Can a ∧ a.2.natAbs < 2 ^ n
theorem Sn.sm {n : Nat} {a : Int × Int} (h : Sn n a) (hn : n ≤ 400 := by decide) : Sm a := ⟨h.1, by
  have h1 := pow_big h.2 hn
  have h2 := h.1.pos
  have h3 : ((2 ^ 400 : Nat) : Int) = 2 ^ 400 := Int.natCast_pow 2 400
  rw [← h3]
  omega⟩
theorem sn_le {t u : Int} {n : Nat} (hu : 0 < u) (hz : u.natAbs < 2 ^ n) : Sn n (Tn.part t u) := ⟨Tn.part_can hu, by
  have h1 := Tn.part_le (t := t) hu
  have h2 := (Tn.part_can (t := t) hu).pos
  omega⟩
theorem sn_on {a b : Int × Int} {n m : Nat} (ha : Sn n a) (hb : Sn m b) : Sn (n + m) (Tn.on a b) := sn_le (Int.mul_pos ha.1.pos hb.1.pos) (pow_mul ha.2 hb.2)
theorem sn_half : Sn 2 Tn.half := ⟨Tn.half_can, by decide⟩
end K02
namespace K02
open PySem PySem.Spec PyProof.Rows L2 Evl
def sp_below (C : Addr) : Sp := fun vs H Q _ => ∃ (x y : Addr) (a b : Int × Int), vs = [.ref x, .ref y] ∧ TurnAt C H x a ∧ TurnAt C H y b ∧ Sm a ∧ Sm b ∧ ∀ H2, Ex H H2 → Q (.bl (decide (a.1 * b.2 < b.1 * a.2))) H2
section
variable {P : Program} {w : World} {K : PySem.W.Frag} {mg : Str → Option Value} {base : Heap} {f : Addr} {fd : FuncData}
theorem ok_below (F : FnM K "below" "Turn.below" s_Turn_below f fd) (T : Txt K mg) (D_must_be_turn : Cm P w K mg base) : FnOk P w K mg base CX0 2 f fd ["self", "other"] (sp_below (He.ga K "Turn")) := by
  refine F.ok sc_Turn_below (fun vs H Q E h => ?_) (fun cdv A outer s H vs Q E hr h => ?_)
  · obtain ⟨x, y, a, b, rfl, _⟩ := h
    rfl
  · obtain ⟨x, y, a, b, rfl, ⟨dx, hx⟩, ⟨dy, hy⟩, ha, hb, k⟩ := h
    refine ⟨_, PSs.nox (pss_cons (ps_expr (pe_cd D_must_be_turn (hr.mono (by decide)) (by rfl) (pa_cons (pv 1) pa_nil)))
      (pss_one (ps_ret (pe_cmpR op_lt (pe_op op_mulW (pe_fld (pv 0) rfl) (pe_fld (pv 1) rfl)) (pe_op op_mulW (pe_fld (pv 1) rfl) (pe_fld (pv 0) rfl)) (nomark _))))), ?_⟩
    have mu : SpV (sp_must (He.ga K "Turn")) [.ref y] H .non := fun H1 e Q' q E' => ⟨y, dy, _, rfl, e _ _ hy, q⟩
    refine q_drop (ev_call (ea_cons (ev_var rfl) ea_nil) mu) fun H1 e1 => ?_
    have s1 : Ev (tFld K (tVar 0) "top") _ H1 (.int a.1) := ev_fld (σ := [some (.ref x), some (.ref y)]) (ev_var rfl) (e1 _ _ hx) T.cl_Turn T.no_Turn_top (tf_top a)
    have s2 : Ev (tFld K (tVar 0) "bottom") _ H1 (.int a.2) := ev_fld (σ := [some (.ref x), some (.ref y)]) (ev_var rfl) (e1 _ _ hx) T.cl_Turn T.no_Turn_bottom (tf_bottom a)
    have o1 : Ev (tFld K (tVar 1) "top") _ H1 (.int b.1) := ev_fld (σ := [some (.ref x), some (.ref y)]) (ev_var rfl) (e1 _ _ hy) T.cl_Turn T.no_Turn_top (tf_top b)
    have o2 : Ev (tFld K (tVar 1) "bottom") _ H1 (.int b.2) := ev_fld (σ := [some (.ref x), some (.ref y)]) (ev_var rfl) (e1 _ _ hy) T.cl_Turn T.no_Turn_bottom (tf_bottom b)
    exact s_ret (ev_lt (ev_mulW s1 o2 ha.b1 hb.b2) (ev_mulW o1 s2 hb.b1 ha.b2)) fun H2 e2 => k H2 (e1.trans e2)
end
end K02
namespace K02
open PySem PySem.Spec PyProof.Rows L2 Evl
section
variable {P : Program} {w : World} {K : PySem.W.Frag} {mg : Str → Option Value} {base : Heap} {f : Addr} {fd : FuncData}
theorem ok_apart {fd2 : FuncData} (F : FnM K "apart" "Turn.apart" s_Turn_apart f fd) (T : Txt K mg) (G_Turn_minus : FnOk P w K mg base CX0 4 (He.ma K (He.ga K "Turn") "minus") fd2 ["self", "other"] (sp_two (He.ga K "Turn") Tn.off)) (b_Turn_minus : Binds K fd2 ["self", "other"] []) :
    FnOk P w K mg base CX0 5 f fd ["self", "other"] (sp_two (He.ga K "Turn") Tn.apart) := by
  refine F.ok sc_Turn_apart (fun vs H Q E h => ?_) (fun cdv A outer s H vs Q E hr h => ?_)
  · obtain ⟨x, y, a, b, rfl, _⟩ := h
    rfl
  · obtain ⟨x, y, a, b, rfl, hx, hy, ha, hb, k⟩ := h
    refine ⟨_, PSs.nox (pss_cons (ps_set (i := 2) sc_Turn_apart.nd rfl (Or.inl rfl) (pe_meth (pv 0) T.cl_Turn T.m_Turn_minus G_Turn_minus (hr.mono (by decide)) b_Turn_minus .nil pass0 (pa_cons (pv 1) pa_nil)))
      (pss_cons (ps_if (pt_cmpR op_gt (pe_op op_mulW pe_int (pe_fld (pv 2) rfl)) (pe_fld (pv 2) rfl) (nomark _)) (pss_one (ps_ret (pe_meth (pv 1) T.cl_Turn T.m_Turn_minus G_Turn_minus (hr.mono (by decide)) b_Turn_minus .nil pass0 (pa_cons (pv 0) pa_nil)))) pss_nil)
      (pss_one (ps_ret (pv 2))))), ?_⟩
    refine q_set (er_new (er_m2n (g := Tn.off) (er_turn rfl hx) (er_turn rfl hy) ha hb) fun p H1 hp e1 ht => ?_)
    obtain ⟨dp, hp1⟩ := id ht
    have hx1 := TurnAt.ex hx e1
    have hy1 := TurnAt.ex hy e1
    have c := Tn.off_can ha.1 hb.1
    have up : 0 < a.2 * b.2 := Int.mul_pos ha.1.pos hb.1.pos
    have le := Tn.part_le (t := a.1 * b.2 - b.1 * a.2) up
    have bz : (Tn.off a b).2.natAbs < 2 ^ 800 := by
      have h1 := pow_mul ha.b2 hb.b2
      have h2 := c.pos
      have le : (Tn.off a b).2 ≤ a.2 * b.2 := le
      have h1 : (a.2 * b.2).natAbs < 2 ^ 800 := h1
      omega
    have tz : (Tn.off a b).1.natAbs < 2 ^ 800 := by
      have h2 := c.nn
      have h3 := c.lt
      omega
    have s1 : Ev (tFld K (tVar 2) "top") [some (.ref x), some (.ref y), some (.ref p)] H1 (.int (Tn.off a b).1) := ev_fld (ev_var rfl) hp1 T.cl_Turn T.no_Turn_top (tf_top _)
    have s2 : Ev (tFld K (tVar 2) "bottom") [some (.ref x), some (.ref y), some (.ref p)] H1 (.int (Tn.off a b).2) := ev_fld (ev_var rfl) hp1 T.cl_Turn T.no_Turn_bottom (tf_bottom _)
    refine q_when (et_test (ev_gt (ev_mulW (n := 2) ev_c s1 (by decide) tz) s2)) (fun hb2 H2 e2 => ?_) fun hb2 H2 e2 => ?_
    · have e : Tn.apart a b = Tn.off b a := if_pos (of_decide_eq_true hb2)
      rw [e] at k
      refine x_ret (er_new (er_m2n (g := Tn.off) (er_turn rfl (hy1.ex e2)) (er_turn rfl (hx1.ex e2)) hb ha) fun r H3 hr3 e3 ht3 => ?_)
      exact k r H3 (fresh_back (e1.trans e2) hr3) ((e1.trans e2).trans e3) ht3
    · have e : Tn.apart a b = Tn.off a b := if_neg (of_decide_eq_false hb2)
      rw [e] at k
      exact s_ret (ev_var rfl) fun H3 e3 => k p H3 hp ((e1.trans e2).trans e3) (ht.ex (e2.trans e3))
end
end K02
namespace K02
open PySem PySem.Spec PyProof.Rows L2 Evl
/-- whether a turn is alike with a thing -/
def RT (C : Addr) (x : Addr) (y : V) (H : Hp) (b : Bool) : Prop := ∃ p, TurnAt C H x p ∧ ((∃ z q, y = .ref z ∧ TurnAt C H z q ∧ b = decide (p = q)) ∨ (b = false ∧ ∃ t, Kd H y t))
theorem RT.ex {C x : Addr} {y : V} {H H' : Hp} {b : Bool} (h : RT C x y H b) (e : Ex H H') : RT C x y H' b := by
  obtain ⟨p, hp, h⟩ := h
  refine ⟨p, hp.ex e, ?_⟩
  rcases h with ⟨z, q, rfl, hz, hb⟩ | ⟨hb, t, ht⟩
  · exact .inl ⟨z, q, rfl, hz.ex e, hb⟩
  · exact .inr ⟨hb, t, ht.ex e⟩
theorem tf_inj {a b : Int × Int} (h : tf a = tf b) : a = b := by
  unfold tf at h
  simp only [List.cons.injEq, Prod.mk.injEq, V.int.injEq, true_and, and_true] at h
  exact Prod.ext h.1 h.2
theorem RT.self {C x : Addr} {H : Hp} {b : Bool} (h : RT C x (.ref x) H b) : b = true := by
  obtain ⟨p, ⟨dx, hp⟩, h⟩ := h
  rcases h with ⟨z, q, e, ⟨dz, hz⟩, hb⟩ | ⟨hb, t, ht⟩
  · cases e
    rw [hp] at hz
    injection hz with hz
    injection hz with h1 h2 h3
    rw [hb, tf_inj h3]
    exact decide_eq_true rfl
  · cases ht with
    | lst h => rw [hp] at h; cases h
    | tup h => rw [hp] at h; cases h
    | dK h => rw [hp] at h; cases h
/-- two things, a turn among them, or flat ones -/
abbrev DT (K : PySem.W.Frag) (C : Addr) : EqR := fun x y H b => DOwn K C (RT C) x y H b ∨ (DOff C (RT C) x y H b ∨ DFl x y H b)
theorem mon_own {K : PySem.W.Frag} {C : Addr} : MonE (DOwn K C (RT C)) := fun x y H H' b e d => by
  obtain ⟨a, dx, fs, t, hx, ha, ty, hn, r⟩ := d
  exact ⟨a, dx, fs, t, hx, e _ _ ha, fun H1 e1 => ty H1 (e.trans e1), hn, r.ex e⟩
theorem mon_DT {K : PySem.W.Frag} {C : Addr} : MonE (DT K C) := fun x y H H' b e d => by
  rcases d with d | d | d
  · exact .inl (mon_own x y H H' b e d)
  · obtain ⟨a, dx, fs, t, hx, ha, kd, r⟩ := d
    exact .inr (.inl ⟨a, dx, fs, t, hx, e _ _ ha, kd.ex e, r.ex e⟩)
  · exact .inr (.inr d)
section
variable {K : PySem.W.Frag} {mg : Str → Option Value} {H : Hp} {x y : Addr} {a b : Int × Int} {v : V} {t : String}
theorem dt_own (T : Txt K mg) (hx : TurnAt (He.ga K "Turn") H x a) (hy : TurnAt (He.ga K "Turn") H y b) : ∀ H1, Ex H H1 → DOwn K (He.ga K "Turn") (RT (He.ga K "Turn")) (.ref x) (.ref y) H1 (decide (a = b)) := fun H1 e => by
  obtain ⟨dx, hx1⟩ := id hx
  obtain ⟨dy, hy1⟩ := id hy
  have i := T.own_Turn.is
  exact ⟨x, dx, _, _, rfl, e _ _ hx1, fun H2 e2 => .base (.ins ((e.trans e2) _ _ hy1) T.cl_Turn i.ha i.hn i.htk i.hm), T.own_Turn.nf, a, hx.ex e, .inl ⟨y, b, rfl, hy.ex e, rfl⟩⟩
theorem dt_kd (T : Txt K mg) (hx : TurnAt (He.ga K "Turn") H x a) (hy : Kd H v t) : ∀ H1, Ex H H1 → DOwn K (He.ga K "Turn") (RT (He.ga K "Turn")) (.ref x) v H1 false := fun H1 e => by
  obtain ⟨dx, hx1⟩ := id hx
  exact ⟨x, dx, _, _, rfl, e _ _ hx1, fun H2 e2 => (hy.ex (e.trans e2)).tyx, T.own_Turn.first hy.mem, a, hx.ex e, .inr ⟨rfl, t, hy.ex e⟩⟩
theorem dt_off (hx : TurnAt (He.ga K "Turn") H x a) (hy : Kd H v t) : ∀ H1, Ex H H1 → DOff (He.ga K "Turn") (RT (He.ga K "Turn")) v (.ref x) H1 false := fun H1 e => by
  obtain ⟨dx, hx1⟩ := id hx
  exact ⟨x, dx, _, t, rfl, e _ _ hx1, hy.ex e, a, hx.ex e, .inr ⟨rfl, t, hy.ex e⟩⟩
end
section
variable {P : Program} {w : World} {K : PySem.W.Frag} {mg : Str → Option Value} {base : Heap} {f : Addr} {fd : FuncData}
abbrev Req (P : Program) (w : World) (K : PySem.W.Frag) (mg : Str → Option Value) (base : Heap) : Prop := FnR P w K mg base CX0 1 (He.ma K (He.ga K "Turn") "__eq__") (spEqE (RT (He.ga K "Turn")))
theorem eqE_turn {X : Cx} {mg' : Str → Option Value} (T : Txt X.K mg') (R : Req X.prog X.w X.K X.mg X.base) : EqE X 1 (DT X.K (He.ga X.K "Turn")) := (eqE_own T.m_Turn___eq__ R fun _ _ _ h => h.self).or ((eqE_off T.own_Turn T.m_Turn___eq__ R).or eqE_flat)
theorem eqE_turnK {X : Cx} {mg' : Str → Option Value} (hP : X.prog = P) (hw : X.w = w) (hK : X.K = K) (hm : X.mg = mg) (hb : X.base = base) (T : Txt K mg') (R : Req P w K mg base) : EqE X 1 (DT K (He.ga K "Turn")) := by
  subst hP hw hK hm hb
  exact eqE_turn T R
theorem ok_eq (F : FnM K "__eq__" "Turn.__eq__" s_Turn___eq__ f fd) (T : Txt K mg) : FnOk P w K mg base CX0 1 f fd ["self", "other"] (spEqE (RT (He.ga K "Turn"))) := by
  refine F.ok sc_Turn___eq__ (fun vs H Q E h => ?_) (fun cdv A outer s H vs Q E hr h => ?_)
  · obtain ⟨x, y, b, rfl, _⟩ := h
    rfl
  · obtain ⟨x, y, b, rfl, ⟨p, ⟨dx, hx⟩, h⟩, k⟩ := h
    refine ⟨_, PSs.nox (pss_one (ps_ret (pe_and (pe_callB call_isi (by rfl) T.b_isinstance (by decide +kernel) (pa_cons (pv 1) (pa_cons (pe_glob (v := .ref (He.ga K "Turn")) (by rfl) T.g_Turn rfl) pa_nil))) (pe_and (pe_cmpR op_eq (pe_fld (pv 0) rfl) (pe_fld (pv 1) rfl) (nomark _)) (pe_one (pe_cmpR op_eq (pe_fld (pv 0) rfl) (pe_fld (pv 1) rfl) (nomark _))))))), ?_⟩
    have s1 : Ev (tFld K (tVar 0) "top") [some (.ref x), some y] H (.int p.1) := ev_fld (ev_var rfl) hx T.cl_Turn T.no_Turn_top (tf_top p)
    have s2 : Ev (tFld K (tVar 0) "bottom") [some (.ref x), some y] H (.int p.2) := ev_fld (ev_var rfl) hx T.cl_Turn T.no_Turn_bottom (tf_bottom p)
    rcases h with ⟨z, q, rfl, ⟨dz, hz⟩, rfl⟩ | ⟨rfl, t, ht⟩
    · have o1 : Ev (tFld K (tVar 1) "top") [some (.ref x), some (.ref z)] H (.int q.1) := ev_fld (ev_var rfl) hz T.cl_Turn T.no_Turn_top (tf_top q)
      have o2 : Ev (tFld K (tVar 1) "bottom") [some (.ref x), some (.ref z)] H (.int q.2) := ev_fld (ev_var rfl) hz T.cl_Turn T.no_Turn_bottom (tf_bottom q)
      refine s_ret (ev_is (ev_andV (ev_cb (ea_cons (ev_var rfl) (ea_cons ev_c ea_nil)) (rc_isiC hz T.cl_Turn T.own_Turn.is)) fun _ => ev_andV (ev_eqI s1 o1) fun _ => ev_eqI s2 o2) ?_) k
      obtain ⟨p1, p2⟩ := p
      obtain ⟨q1, q2⟩ := q
      show V.bl (true && (decide (p1 = q1) && decide (p2 = q2))) = .bl (decide ((p1, p2) = (q1, q2)))
      rw [Bool.true_and, ← Bool.decide_and]
      simp
    · refine s_ret (v := .bl false) (ev_andV (a := false) (b := false) (ev_cb (ea_cons (ev_var rfl) (ea_cons ev_c ea_nil)) (rc_isiK T.own_Turn fun H1 e => ht.ex e)) fun h => nomatch h) k
end
end K02
namespace K02
open PySem PySem.Spec PyProof.Rows L2 Evl
def sp_fig : Sp := fun vs H Q _ => ∃ n : Nat, vs = [.int (n : Int)] ∧ n < 2 ^ 4000 ∧ ∀ H2, Ex H H2 → Q (.str (Dg.num n)) H2
/-- the text of a turn, as str writes it, as repr does -/
def strT (a : Int × Int) : Str := if a.1 = 0 then "0" else catS Str.empty [Dg.num a.1.toNat, "/", Dg.num a.2.toNat]
def reprT (a : Int × Int) : Str := catS Str.empty ["Turn(", Dg.num a.1.toNat, ", ", Dg.num a.2.toNat, ")"]
def sp_text (C : Addr) (g : Int × Int → Str) : Sp := fun vs H Q _ => ∃ (x : Addr) (a : Int × Int), vs = [.ref x] ∧ TurnAt C H x a ∧ Sm a ∧ ∀ H2, Ex H H2 → Q (.str (g a)) H2
section
variable {P : Program} {w : World} {K : PySem.W.Frag} {mg : Str → Option Value} {base : Heap} {f : Addr} {fd : FuncData}
theorem ok_fig (F : FnP K "figures_of" s_figures_of f fd) (T : Txt K mg) : FnOk P w K mg base CX0 1 f fd ["number"] sp_fig := by
  refine F.ok sc_figures_of (fun vs H Q E h => ?_) (fun cdv A outer s H vs Q E hr h => ?_)
  · obtain ⟨n, rfl, _⟩ := h
    rfl
  · obtain ⟨n, rfl, hn, k⟩ := h
    refine ⟨_, PSs.nox (pss_cons (ps_set (i := 1) sc_figures_of.nd rfl (Or.inl rfl) (pe_lst pa_nil))
      (pss_cons (ps_set (i := 2) sc_figures_of.nd rfl (Or.inl rfl) (pv 0))
      (pss_cons (ps_while PassesOwn.never (pt_cmpR op_ge (pv 2) (pe_gi (by rfl) T.g_PIECE) (nomark _)) (pss_cons (ps_asg (pe_callB call_divmodW (by rfl) T.b_divmod (by decide +kernel) (pa_cons (pv 2) (pa_cons (pe_gi (by rfl) T.g_PIECE) pa_nil))) (pg_tup rfl (pgs_cons (pg_name (i := 2) sc_figures_of.nd rfl (Or.inl rfl)) (pgs_cons (pg_name (i := 3) sc_figures_of.nd rfl (Or.inl rfl)) pgs_nil))))
        (pss_one (ps_expr (pe_bm PySem.F.plainAttrs_list PySem.F.slot_list_append PySem.F.type_list_append mt_append (pv 1) (pa_cons (pe_joined1 (pe_fmt18 T.dig (pv 3))) pa_nil))))))
      (pss_cons (ps_expr (pe_bm PySem.F.plainAttrs_list PySem.F.slot_list_append PySem.F.type_list_append mt_append (pv 1) (pa_cons (pe_callTy call_str_int (by rfl) T.b_str (by decide +kernel) (pa_cons (pv 2) pa_nil)) pa_nil)))
      (pss_one (ps_ret (pe_join pe_str (pe_revL (pv 1))))))))), ?_⟩
    refine q_asgL (el_lst ea_nil (by show 0 ≤ 100000; decide)) fun q H1 hq e1 h1 => ?_
    refine q_asg (ev_var rfl) fun H2 e2 => ?_
    have nb : n < 10 ^ (18 * 70) := Nat.lt_of_lt_of_le hn Dg.big_le
    refine q_while (fun m σ' H' => Ex H H' ∧ ∃ (l j : Nat) (ps : List Str) (lw : Option V), σ' = [some (.int (n : Int)), some (.ref q), some (.int (l : Int)), lw] ∧ H' q = some (.lst (ps.map V.str)) ∧ Dg.Behind n l ps ∧ (∀ p ∈ ps, p.length = 18) ∧ ps.length + j = 70 ∧ l < 10 ^ (18 * j) ∧ l ≤ n ∧ l = m) n ⟨e1.trans e2, n, 70, [], none, rfl, e2 _ _ h1, Dg.behind0, (fun p h => nomatch h), rfl, nb, Nat.le_refl _, rfl⟩ ?_
    rintro m σ' H' ⟨e, l, j, ps, lw, rfl, hps, hB, h18, hj, hl, hln, rfl⟩
    refine ⟨_, et_test (ev_ge (ev_var rfl) ev_c), fun hb H3 e3 => ?_, fun hb H3 e3 => ?_⟩
    · have hb : (1000000000000000000 : Int) ≤ (l : Int) := of_decide_eq_true hb
      have hb : 10 ^ 18 ≤ l := by omega
      have hj1 : 1 < j := by
        rcases Nat.lt_or_ge 1 j with h | h
        · exact h
        · have : 10 ^ (18 * j) ≤ 10 ^ 18 := Nat.pow_le_pow_right (by decide) (by omega)
          omega
      have hl2 : l / 10 ^ 18 < 10 ^ (18 * (j - 1)) := by
        rw [Nat.div_lt_iff_lt_mul (by decide), ← Nat.pow_add]
        have : 18 * (j - 1) + 18 = 18 * j := by omega
        rw [this]
        exact hl
      have lz : ((l : Nat) : Int).natAbs < 2 ^ 4000 := by
        rw [Int.natAbs_natCast]
        exact Nat.lt_of_le_of_lt hln hn
      refine ⟨fun σ2 H4 => Ex H H4 ∧ ∃ lw, σ2 = [some (.int (n : Int)), some (.ref q), some (.int ((l / 10 ^ 18 : Nat) : Int)), lw] ∧ H4 q = some (.lst ((ps ++ [zpad 18 ((l % 10 ^ 18 : Nat) : Int)]).map V.str)), fun σ2 H4 ⟨e4, lw2, hσ, h4⟩ => ?_, ?_⟩
      · refine ⟨l / 10 ^ 18, Nat.div_lt_self (by omega) (by decide), e4, _, j - 1, _, lw2, hσ, h4, Dg.behind1 hB hb, fun p hp => ?_, ?_, hl2, Nat.le_trans (Nat.div_le_self _ _) hln, rfl⟩
        · rcases List.mem_append.mp hp with hp | hp
          · exact h18 p hp
          · rw [List.mem_singleton.mp hp]
            exact Dg.zpad_len (Nat.mod_lt _ (by decide))
        · rw [List.length_append, List.length_singleton]
          omega
      · refine q_asgX (x_cb (Evl.EvA.go (ea_cons (ev_var rfl) (ea_cons ev_c ea_nil)) fun H4 e4 => ?_))
        refine ⟨_, _, rfl, divp_ok (by decide) (Nat.le_trans (bits_le lz) (Nat.le_add_left _ _)), fun r hr4 => ?_⟩
        have d1 : (l : Int) / 1000000000000000000 = ((l / 10 ^ 18 : Nat) : Int) := by omega
        have d2 : (l : Int) % 1000000000000000000 = ((l % 10 ^ 18 : Nat) : Int) := by omega
        rw [d1, d2]
        have e34 : Ex H' (upd H4 r (.tup [.int ((l / 10 ^ 18 : Nat) : Int), .int ((l % 10 ^ 18 : Nat) : Int)])) := (e3.trans e4).trans (Ex.new hr4)
        refine ⟨r, _, rfl, st_of upd_same, rfl, _, _, rfl, ?_⟩
        refine ⟨_, _, rfl, ?_⟩
        refine ⟨rfl, ?_⟩
        have h4 := e34 _ _ hps
        have e04 := e.trans e34
        generalize upd H4 r (.tup [.int ((l / 10 ^ 18 : Nat) : Int), .int ((l % 10 ^ 18 : Nat) : Int)]) = G at *
        have lt18 : l % 10 ^ 18 < 10 ^ 18 := Nat.mod_lt _ (by decide)
        refine s_app (v := .str (zpad 18 ((l % 10 ^ 18 : Nat) : Int))) h4 (ev_var rfl) (ev_fmtZ (ev_var rfl) (by omega) ?_) (by rw [List.length_map]; omega) fun H5 e5 => ⟨(e04.trans e5).mut (fresh_back (Ex.refl _) hq), _, rfl, ?_⟩
        · rw [Int.natAbs_natCast]
          exact Nat.lt_of_lt_of_le lt18 (Nat.pow_le_pow_right (by decide) (by decide))
        · rw [upd_same, List.map_append]
          rfl
    · have hb : ¬ ((1000000000000000000 : Int) ≤ (l : Int)) := of_decide_eq_false hb
      have hb : l < 10 ^ 18 := by omega
      have h3 := e3 _ _ hps
      have e03 := e.trans e3
      have lg : ((l : Nat) : Int).natAbs.log2 < 1920 := by
        rw [Int.natAbs_natCast]
        rcases Nat.eq_zero_or_pos l with h | h
        · subst h
          decide
        · exact (Nat.log2_lt (by omega)).mpr (Nat.lt_of_lt_of_le hb (Nat.le_trans (by decide : 10 ^ 18 ≤ 2 ^ 60) (Nat.pow_le_pow_right (by decide) (by decide))))
      refine q_app (v := .str (Dg.num l)) h3 (ev_var rfl) (ev_cb (ea_cons (ev_var rfl) ea_nil) fun H4 _ Q' q' => ⟨_, rfl, lg, q' H4 (Ex.refl _)⟩) (by rw [List.length_map]; omega) fun H4 e4 => ?_
      have h5 : upd H4 q (.lst (ps.map V.str ++ [.str (Dg.num l)])) q = some (.lst ((ps ++ [Dg.num l]).map V.str)) := by
        rw [upd_same, List.map_append]
        rfl
      have e05 : Ex H (upd H4 q (.lst (ps.map V.str ++ [.str (Dg.num l)]))) := (e03.trans e4).mut hq
      generalize upd H4 q (.lst (ps.map V.str ++ [.str (Dg.num l)])) = G at *
      refine ⟨⟨_, rfl⟩, _, rfl, q, _, rfl, sq_of h5, fun r hr => ?_⟩
      refine ⟨_, r, (ps ++ [Dg.num l]).reverse, rfl, rfl, .inl (sq_of (by rw [upd_same, List.map_reverse])), ?_, ?_⟩
      · have hs : ((ps ++ [Dg.num l]).map (·.length)).sum = 18 * ps.length + (Dg.num l).length := by
          rw [List.map_append, List.sum_append, Dg.sum18 ps h18]
          simp
        have hnl := Dg.num_len (k := 18) (by decide) hb
        rw [List.map_reverse, List.sum_reverse, hs]
        show _ + _ * 0 ≤ _
        omega
      · rw [Dg.behind_end hB]
        exact k _ (e05.trans (Ex.new hr))
theorem Sm.n1 {a : Int × Int} (h : Sm a) : ∃ n : Nat, a.1 = (n : Int) ∧ n < 2 ^ 400 := ⟨a.1.toNat, by have := h.1.nn; omega, by have := h.b1; have := h.1.nn; omega⟩
theorem Sm.n2 {a : Int × Int} (h : Sm a) : ∃ n : Nat, a.2 = (n : Int) ∧ n < 2 ^ 400 := ⟨a.2.toNat, by have := h.1.pos; omega, by have := h.b2; have := h.1.pos; omega⟩
theorem fig_call {H : Hp} {z : Int} {n : Nat} (e : z = (n : Int)) (h : n < 2 ^ 400) : SpV sp_fig [.int z] H (.str (Dg.num n)) := fun H1 _ Q' q E' => ⟨n, by rw [e], Nat.lt_of_lt_of_le h (Nat.pow_le_pow_right (by decide) (by decide)), q⟩
theorem num400 {n : Nat} (h : n < 2 ^ 400) : (Dg.num n).length ≤ 400 := Dg.num_len (by decide) (Nat.lt_of_lt_of_le h (Nat.pow_le_pow_left (by decide) 400))
abbrev Cf (P : Program) (w : World) (K : PySem.W.Frag) (mg : Str → Option Value) (base : Heap) : Prop := Dn P w K mg base 1 "figures_of" ["number"] sp_fig
theorem ok_str (F : FnM K "__str__" "Turn.__str__" s_Turn___str__ f fd) (T : Txt K mg) (D_figures_of : Cf P w K mg base) : FnOk P w K mg base CX0 2 f fd ["self"] (sp_text (He.ga K "Turn") strT) := by
  refine F.ok sc_Turn___str__ (fun vs H Q E h => ?_) (fun cdv A outer s H vs Q E hr h => ?_)
  · obtain ⟨x, a, rfl, _⟩ := h
    rfl
  · obtain ⟨x, a, rfl, ⟨dx, hx⟩, ha, k⟩ := h
    refine ⟨_, PSs.nox (pss_cons (ps_if (pt_cmpR op_eq (pe_fld (pv 0) rfl) pe_int (nomark _)) (pss_one (ps_ret pe_str)) pss_nil)
      (pss_one (ps_ret (pe_joined (PJ.cons (pe_fmt (pe_cd D_figures_of (hr.mono (by decide)) (by rfl) (pa_cons (pe_fld (pv 0) rfl) pa_nil))) (PJ.cons pe_str (PJ.cons (pe_fmt (pe_cd D_figures_of (hr.mono (by decide)) (by rfl) (pa_cons (pe_fld (pv 0) rfl) pa_nil))) PJ.nil))))))), ?_⟩
    have s1 : ∀ H1, Ex H H1 → Ev (tFld K (tVar 0) "top") [some (.ref x)] H1 (.int a.1) := fun H1 e => ev_fld (ev_var rfl) (e _ _ hx) T.cl_Turn T.no_Turn_top (tf_top a)
    have s2 : ∀ H1, Ex H H1 → Ev (tFld K (tVar 0) "bottom") [some (.ref x)] H1 (.int a.2) := fun H1 e => ev_fld (ev_var rfl) (e _ _ hx) T.cl_Turn T.no_Turn_bottom (tf_bottom a)
    obtain ⟨n1, e1, b1⟩ := ha.n1
    obtain ⟨n2, e2, b2⟩ := ha.n2
    have l1 := num400 b1
    have l2 := num400 b2
    refine q_when (et_test (ev_eqI (s1 H (Ex.refl _)) ev_c)) (fun hb H1 e => ?_) fun hb H1 e => ?_
    · have z : a.1 = 0 := of_decide_eq_true hb
      have q : strT a = "0" := if_pos z
      rw [q] at k
      exact s_ret ev_c fun H2 e2 => k H2 (e.trans e2)
    · have z : ¬ a.1 = 0 := of_decide_eq_false hb
      have q : strT a = catS Str.empty [Dg.num n1, "/", Dg.num n2] := by
        unfold strT
        rw [if_neg z, e1, e2, Int.toNat_natCast, Int.toNat_natCast]
      rw [q] at k
      refine s_ret (ev_joined (.cons (ev_fmtS (ev_call (ea_cons (s1 H1 e) ea_nil) (fig_call e1 b1)) (by omega)) (.cons ev_c (.cons (ev_fmtS (ev_call (ea_cons (s2 H1 e) ea_nil) (fig_call e2 b2)) (by omega)) .nil))) ?_) fun H2 e2 => k H2 (e.trans e2)
      show ((Str.empty ++ _ ++ _ ++ _ : Str)).length ≤ _
      rw [len_app, len_app, len_app]
      have : (Str.empty : Str).length = 0 := rfl
      have : (Str.ofString "/").length = 1 := by decide +kernel
      omega
theorem ok_repr (F : FnM K "__repr__" "Turn.__repr__" s_Turn___repr__ f fd) (T : Txt K mg) (D_figures_of : Cf P w K mg base) : FnOk P w K mg base CX0 2 f fd ["self"] (sp_text (He.ga K "Turn") reprT) := by
  refine F.ok sc_Turn___repr__ (fun vs H Q E h => ?_) (fun cdv A outer s H vs Q E hr h => ?_)
  · obtain ⟨x, a, rfl, _⟩ := h
    rfl
  · obtain ⟨x, a, rfl, ⟨dx, hx⟩, ha, k⟩ := h
    refine ⟨_, PSs.nox (pss_one (ps_ret (pe_joined (PJ.cons pe_str (PJ.cons (pe_fmt (pe_cd D_figures_of (hr.mono (by decide)) (by rfl) (pa_cons (pe_fld (pv 0) rfl) pa_nil))) (PJ.cons pe_str (PJ.cons (pe_fmt (pe_cd D_figures_of (hr.mono (by decide)) (by rfl) (pa_cons (pe_fld (pv 0) rfl) pa_nil))) (PJ.cons pe_str PJ.nil)))))))), ?_⟩
    have s1 : ∀ H1, Ex H H1 → Ev (tFld K (tVar 0) "top") [some (.ref x)] H1 (.int a.1) := fun H1 e => ev_fld (ev_var rfl) (e _ _ hx) T.cl_Turn T.no_Turn_top (tf_top a)
    have s2 : ∀ H1, Ex H H1 → Ev (tFld K (tVar 0) "bottom") [some (.ref x)] H1 (.int a.2) := fun H1 e => ev_fld (ev_var rfl) (e _ _ hx) T.cl_Turn T.no_Turn_bottom (tf_bottom a)
    obtain ⟨n1, e1, b1⟩ := ha.n1
    obtain ⟨n2, e2, b2⟩ := ha.n2
    have l1 := num400 b1
    have l2 := num400 b2
    have q : reprT a = catS Str.empty ["Turn(", Dg.num n1, ", ", Dg.num n2, ")"] := by
      unfold reprT
      rw [e1, e2, Int.toNat_natCast, Int.toNat_natCast]
    rw [q] at k
    refine s_ret (ev_joined (.cons ev_c (.cons (ev_fmtS (ev_call (ea_cons (s1 H (Ex.refl _)) ea_nil) (fig_call e1 b1)) (by omega)) (.cons ev_c (.cons (ev_fmtS (ev_call (ea_cons (s2 H (Ex.refl _)) ea_nil) (fig_call e2 b2)) (by omega)) (.cons ev_c .nil))))) ?_) k
    show ((Str.empty ++ _ ++ _ ++ _ ++ _ ++ _ : Str)).length ≤ _
    rw [len_app, len_app, len_app, len_app, len_app]
    have : (Str.empty : Str).length = 0 := rfl
    have : (Str.ofString "Turn(").length = 5 := by decide +kernel
    have : (Str.ofString ", ").length = 2 := by decide +kernel
    have : (Str.ofString ")").length = 1 := by decide +kernel
    omega
end
end K02

namespace K02
open PySem PySem.Spec PyProof.Rows L2 Evl
/-- the law's pool: three ints -/
def Pool (H : Hp) (p : Addr) : Prop := ∃ a b c : Int, H p = some (.lst [.int a, .int b, .int c]) ∧ 0 ≤ a ∧ a < 2147483549 ∧ 0 ≤ b
def sp_cell (K : PySem.W.Frag) : Sp := fun vs H Q _ => ∃ (l : Addr) (ns : List Int) (k : Nat), vs = [.ref l, .int (k : Int)] ∧ SqL K H l (ns.map V.int) ∧ k < 100 ∧ ∀ (i : Int) H2, Ex H H2 → Q (.int i) H2
def sp_pool : Sp := fun vs H Q _ => ∃ c : Int, vs = [.int c] ∧ ∀ p H2, H p = none → Ex H H2 → Pool H2 p → Q (.ref p) H2
def sp_take : Sp := fun vs H Q _ => ∃ (p : Addr) (m : Int), vs = [.ref p, .int m] ∧ 0 < m ∧ m < 1073741824 ∧ Pool H p ∧ ∀ (d : Int) H2, 0 ≤ d → d < m → But p H H2 → Pool H2 p → Q (.int d) H2
def sp_number : Sp := fun vs H Q _ => ∃ p : Addr, vs = [.ref p] ∧ Pool H p ∧ ∀ (n : Int) H2, n.natAbs < 2 ^ 90 → But p H H2 → Pool H2 p → Q (.int n) H2
abbrev L_take (P : Program) (w : World) (K : PySem.W.Frag) (mg : Str → Option Value) (base : Heap) : Prop := Dn P w K mg base 1 "_law_take" ["_law_pool_here", "_law_many"] sp_take
abbrev L_number (P : Program) (w : World) (K : PySem.W.Frag) (mg : Str → Option Value) (base : Heap) : Prop := Dn P w K mg base 2 "_law_number" ["_law_pool_here"] sp_number
theorem at0 {a b c : V} : atI [a, b, c] 0 = some a := rfl
theorem at1 {a b c : V} : atI [a, b, c] 1 = some b := rfl
theorem at2 {a b c : V} : atI [a, b, c] 2 = some c := rfl
section
variable {K : PySem.W.Frag} {σ : L2.St} {H H' : Hp} {te : TE} {m : Int} {p : Addr} {i : Nat} {Q : VK}
theorem pool_ex (h : Pool H p) (e : Ex H H') : Pool H' p := by
  obtain ⟨a, b, c, hp, q⟩ := h
  exact ⟨a, b, c, e _ _ hp, q⟩
theorem pool_ne {r : Addr} (h : Pool H p) (hr : H r = none) : r ≠ p := by
  obtain ⟨a, b, c, hp, q⟩ := h
  exact (ne_of_none hp hr).symm
theorem take_go {E : XK} {tm : TE} (hσ : σ[i]? = some (some (.ref p))) (hm : Ev tm σ H (.int m)) (hp : Pool H p) (m0 : 0 < m) (m1 : m < 1073741824) (k : ∀ (d : Int) H2, 0 ≤ d → d < m → But p H H2 → Pool H2 p → Q (.int d) H2) : tCall sp_take [] E (tCons (tVar i) (tCons tm tNil)) σ H Q :=
  ⟨.ref p, hσ, hm H (Ex.refl _) _ fun H1 e1 => ⟨p, m, rfl, m0, m1, pool_ex hp e1, fun d H2 h1 h2 b pl => k d H2 h1 h2 ((But.ex e1).trans b) pl⟩⟩
theorem number_go {E : XK} (hσ : σ[i]? = some (some (.ref p))) (hp : Pool H p) (k : ∀ (n : Int) H2, n.natAbs < 2 ^ 90 → But p H H2 → Pool H2 p → Q (.int n) H2) : tCall sp_number [] E (tCons (tVar i) tNil) σ H Q :=
  ⟨.ref p, hσ, p, rfl, hp, k⟩
theorem at_ints {L : List Int} {j : Int} (h0 : 0 ≤ j) (h1 : j < L.length) : ∃ v ∈ L, atI (L.map V.int) j = some (.int v) := by
  obtain ⟨n, rfl⟩ := Int.eq_ofNat_of_zero_le h0
  have hn : n < L.length := by omega
  exact ⟨L[n], List.getElem_mem hn, atI_nat (by rw [List.getElem?_map, List.getElem?_eq_getElem hn]; rfl)⟩
end
section
variable {P : Program} {w : World} {K : PySem.W.Frag} {mg : Str → Option Value} {base : Heap} {f : Addr} {fd : FuncData}
theorem ok_cell (F : FnP K "_law_cell" s_l_cell f fd) (T : Txt K mg) : FnOk P w K mg base CX0 1 f fd ["_law_script", "_law_k"] (sp_cell K) := by
  refine F.ok sc_l_cell (fun vs H Q E h => ?_) (fun cdv A outer s H vs Q E hr h => ?_)
  · obtain ⟨l, ns, k, rfl, _⟩ := h
    rfl
  · obtain ⟨l, ns, k, rfl, hs, hk, q⟩ := h
    refine ⟨_, PSs.nox (pss_cons (ps_if (pt_cmpR op_lt (pv 1) (pe_callB call_len_seq (by rfl) T.b_len (by decide +kernel) (pa_cons (pv 0) pa_nil)) (nomark _)) (pss_one (ps_ret (pe_ix ix_list (pv 0) (pv 1) (fun _ _ => rfl)))) pss_nil)
      (pss_cons (ps_set (i := 2) sc_l_cell.nd rfl (Or.inl rfl) (pe_op op_mod (pe_op op_mulW pe_int (pe_op op_add (pe_op op_add (pe_op op_mulW (pv 1) (pv 1)) (pe_op op_mulW pe_int (pv 1))) pe_int)) pe_int))
      (pss_cons (ps_for PassesOwn.never rfl (pi_list (pe_slice sl_list (pv 0) po_none (po_some pe_int))) (pg_name (i := 3) sc_l_cell.nd rfl (Or.inl rfl)) (pss_one (ps_set (i := 2) sc_l_cell.nd rfl (Or.inl rfl) (pe_op op_mod (pe_op op_add (pe_op op_mulW (pv 2) pe_int) (pv 3)) pe_int))))
      (pss_one (ps_ret (pv 2)))))), ?_⟩
    refine q_when (et_test (ev_lt (ev_var rfl) (ev_cb (ea_cons (ev_var rfl) ea_nil) (z := .int ((ns.map V.int).length : Nat)) (fun H1 e Q' k' => ⟨l, _, rfl, .inl (ex_l e hs), k' H1 (Ex.refl _)⟩)))) (fun hb H1 e1 => ?_) fun hb H1 e1 => ?_
    · have hlt : (k : Int) < ((ns.map V.int).length : Nat) := of_decide_eq_true hb
      rw [List.length_map] at hlt
      have hk2 : k < ns.length := by omega
      refine s_ret (ev_op (ev_var rfl) (ev_var rfl) (rv_ixL (ex_l e1 hs) (atI_nat (j := k) (v := .int ns[k]) (by rw [List.getElem?_map, List.getElem?_eq_getElem hk2]; rfl)))) fun H2 e2 => q _ H2 (e1.trans e2)
    · have hk9 : (k : Int).natAbs < 2 ^ 7 := by omega
      refine q_asg (ev_mod (ev_mulW (n := 16) (m := 20) ev_c (ev_add (ev_add (ev_mulW (ev_var rfl) (ev_var rfl) hk9 hk9) (ev_mulW (n := 3) ev_c (ev_var rfl) (by decide) hk9)) ev_c) (by decide) ?_) ev_c (by decide)) fun H2 e2 => ?_
      · have h1 : (k : Int) * (k : Int) = ((k * k : Nat) : Int) := by simp
        have h2 : k * k ≤ 100 * 100 := Nat.mul_le_mul (by omega) (by omega)
        rw [h1]
        omega
      · refine q_forNLn (K := K) (el_sl (ev_var rfl) eo_none (eo_some ev_c) (ex_l (e1.trans e2) hs)) (fun p i σ' H' => Ex H H' ∧ H' p = some (.lst (cutV (ns.map V.int) none (some 3))) ∧ ∃ (z : Int) (v : Option V), σ' = [some (.ref l), some (.int (k : Int)), some (.int z), v] ∧ 0 ≤ z ∧ z < 2147483549) (fun p H3 hp e3 h3 => ?_) (fun p i σ' H' _ ⟨_, h, _⟩ => sq_of h) (fun p i x σ' H' hi ⟨e, hp, z, v, hσ, z0, z1⟩ => ?_) fun p σ' H' ⟨e, hp, z, v, hσ, z0, z1⟩ => ?_
        · exact ⟨(e1.trans e2).trans e3, h3, _, _, rfl, Int.emod_nonneg _ (by decide), Int.emod_lt_of_pos _ (by decide)⟩
        · subst hσ
          obtain ⟨u, rfl⟩ : ∃ u, x = V.int u := by
            have hm := List.mem_of_getElem? hi
            unfold cutV at hm
            obtain ⟨u, _, e⟩ := List.mem_map.mp (List.mem_of_mem_drop (List.mem_of_mem_take hm))
            exact ⟨u, e.symm⟩
          exact s_asg (ev_mod (ev_add (ev_mulW (n := 40) (m := 20) (ev_var rfl) ev_c (by omega) (by decide)) (ev_var rfl)) ev_c (by decide)) fun H4 e4 => ⟨e.trans e4, e4 _ _ hp, _, _, rfl, Int.emod_nonneg _ (by decide), Int.emod_lt_of_pos _ (by decide)⟩
        · subst hσ
          exact s_ret (ev_var rfl) fun H4 e4 => q _ H4 (e.trans e4)
theorem ok_pool (F : FnP K "_law_pool" s_l_pool f fd) (T : Txt K mg) : FnOk P w K mg base CX0 1 f fd ["_law_cell_here"] sp_pool := by
  refine F.ok sc_l_pool (fun vs H Q E h => ?_) (fun cdv A outer s H vs Q E hr h => ?_)
  · obtain ⟨c, rfl, _⟩ := h
    rfl
  · obtain ⟨c, rfl, q⟩ := h
    refine ⟨_, PSs.nox (pss_cons (ps_set (i := 1) sc_l_pool.nd rfl (Or.inl rfl) pe_int)
      (pss_cons (ps_if (PW.pt (pw_or (pt_cmpR op_lt (pv 0) pe_int (nomark _)) (pw_or1 (pt_cmpR op_ge (pv 0) (pe_op op_pow pe_int pe_int) (nomark _))))) (pss_one (ps_set (i := 1) sc_l_pool.nd rfl (Or.inl rfl) (pe_callB call_abs (by rfl) T.b_abs (by decide +kernel) (pa_cons (pv 0) pa_nil)))) pss_nil)
      (pss_one (ps_ret (pe_lst (pa_cons (pe_op op_mod (pv 0) pe_int) (pa_cons (pv 1) (pa_cons pe_int pa_nil)))))))), ?_⟩
    refine q_asg ev_c fun H1 e1 => ?_
    have fin : ∀ (b : Int) H2, 0 ≤ b → Ex H1 H2 → tRet (tLst (tCons (tOp (rI (fun _ j => 0 < j) fun i j => .int (i % j)) (tVar 0) (tC (.int 2147483549))) (tCons (tVar 1) (tCons (tC (.int 0)) tNil)))) { nx := fun _ H' => Q .non H', rt := Q } [some (.int c), some (.int b)] H2 := fun b H2 hb e2 => by
      refine s_retL (el_lst (ea_cons (ev_mod (ev_var rfl) ev_c (by decide)) (ea_cons (ev_var rfl) (ea_cons ev_c ea_nil))) (by show 3 ≤ 100000; decide)) fun p H3 hp e3 h3 => ?_
      exact q p H3 (fresh_back (e1.trans e2) hp) ((e1.trans e2).trans e3) ⟨_, _, _, h3, Int.emod_nonneg _ (by decide), Int.emod_lt_of_pos _ (by decide), hb⟩
    refine q_when (et_or (et_test (ev_lt (ev_var rfl) ev_c)) fun _ => et_test (ev_ge (ev_var rfl) (ev_op ev_c ev_c (rv_I (show CPow 10 18 from ⟨by decide, by decide, by decide⟩))))) (fun hb H2 e2 => ?_) fun hb H2 e2 => ?_
    · refine s_asg (ev_cb (ea_cons (ev_var rfl) ea_nil) rc_abs) fun H3 e3 => fin _ H3 (by omega) (e2.trans e3)
    · exact fin 0 H2 (by decide) e2
theorem ok_take (F : FnP K "_law_take" s_l_take f fd) (T : Txt K mg) : FnOk P w K mg base CX0 1 f fd ["_law_pool_here", "_law_many"] sp_take := by
  refine F.ok sc_l_take (fun vs H Q E h => ?_) (fun cdv A outer s H vs Q E hr h => ?_)
  · obtain ⟨p, m, rfl, _⟩ := h
    rfl
  · obtain ⟨p, m, rfl, m0, m1, ⟨a, b, c, hp, a0, a1, b0⟩, k⟩ := h
    refine ⟨_, PSs.nox (pss_cons (ps_asg (pe_op op_add (pe_ix ix_list (pv 0) pe_int (fun _ _ => rfl)) pe_int) (pg_sub (pv 0) pe_int set_list))
      (pss_cons (ps_set (i := 2) sc_l_take.nd rfl (Or.inl rfl) (pe_ix ix_list (pv 0) pe_int (fun _ _ => rfl)))
      (pss_cons (ps_asg (pe_op op_mod (pe_op op_add (pe_op op_mulW (pv 2) (pe_op op_add (pe_op op_mod (pv 2) pe_int) pe_int)) (pe_op op_mul pe_int (pe_ix ix_list (pv 0) pe_int (fun _ _ => rfl)))) pe_int) (pg_sub (pv 0) pe_int set_list))
      (pss_cons (ps_if (pt_cmpR op_gt (pe_ix ix_list (pv 0) pe_int (fun _ _ => rfl)) pe_int (nomark _)) (pss_cons (ps_asg (pe_callB call_divmod (by rfl) T.b_divmod (by decide +kernel) (pa_cons (pe_ix ix_list (pv 0) pe_int (fun _ _ => rfl)) (pa_cons (pv 1) pa_nil))) (pg_tup rfl (pgs_cons (pg_sub (pv 0) pe_int set_list) (pgs_cons (pg_name (i := 3) sc_l_take.nd rfl (Or.inl rfl)) pgs_nil))))
        (pss_one (ps_ret (pv 3)))) pss_nil)
      (pss_one (ps_ret (pe_op op_mod (pe_op op_fdivW (pe_ix ix_list (pv 0) pe_int (fun _ _ => rfl)) pe_int) (pv 1)))))))), ?_⟩
    -- pool[2] = pool[2] + 1
    refine q_setL (j := 2) hp (ev_add (ev_op (ev_var rfl) ev_c (rv_ixL (sq_of hp) at2)) ev_c) (ev_var rfl) ev_c (by show 2 < 3; decide) fun H1 e1 => ?_
    have hp1 : upd H1 p (.lst [.int a, .int b, .int (c + 1)]) p = some (.lst [.int a, .int b, .int (c + 1)]) := upd_same
    have bt1 : But p H (upd H1 p (.lst [.int a, .int b, .int (c + 1)])) := (But.ex e1).trans But.upd
    show tSeq _ _ _ _ (upd H1 p (.lst [.int a, .int b, .int (c + 1)]))
    generalize upd H1 p (.lst [.int a, .int b, .int (c + 1)]) = G at *
    -- state = pool[0]
    refine q_asg (ev_op (ev_var rfl) ev_c (rv_ixL (sq_of hp1) at0)) fun H2 e2 => ?_
    have hp2 := e2 _ _ hp1
    have bt2 := bt1.trans (But.ex e2)
    have n0 : 0 ≤ a % 47017 := Int.emod_nonneg _ (by decide)
    have n1 : a % 47017 < 47017 := Int.emod_lt_of_pos _ (by decide)
    refine q_setL (j := 0) hp2 (ev_mod (ev_add (ev_mulW (n := 40) (m := 40) (ev_var rfl) (ev_add (ev_mod (ev_var rfl) ev_c (by decide)) ev_c) (by omega) (by omega)) (ev_mul ev_c (ev_op (ev_var rfl) ev_c (rv_ixL (sq_of hp2) at2)) (.inl ⟨by decide, by decide⟩))) ev_c (by decide)) (ev_var rfl) ev_c (by show 0 < 3; decide) fun H3 e3 => ?_
    have z0 := Int.emod_nonneg (a * (a % 47017 + 31013) + 90001 * (c + 1)) (show (2147483549 : Int) ≠ 0 by decide)
    have z1 := Int.emod_lt_of_pos (a * (a % 47017 + 31013) + 90001 * (c + 1)) (show (0 : Int) < 2147483549 by decide)
    show tSeq _ _ _ _ (upd H3 p (.lst [.int ((a * (a % 47017 + 31013) + 90001 * (c + 1)) % 2147483549), .int b, .int (c + 1)]))
    generalize (a * (a % 47017 + 31013) + 90001 * (c + 1)) % 2147483549 = z at *
    have hp3 : upd H3 p (.lst [.int z, .int b, .int (c + 1)]) p = some (.lst [.int z, .int b, .int (c + 1)]) := upd_same
    have bt3 : But p H (upd H3 p (.lst [.int z, .int b, .int (c + 1)])) := (bt2.trans (But.ex e3)).trans But.upd
    generalize upd H3 p (.lst [.int z, .int b, .int (c + 1)]) = G3 at *
    refine q_when (et_test (ev_gt (ev_op (ev_var rfl) ev_c (rv_ixL (sq_of hp3) at1)) ev_c)) (fun hb H4 e4 => ?_) fun hb H4 e4 => ?_
    · have hp4 := e4 _ _ hp3
      have bt4 := bt3.trans (But.ex e4)
      have hb0 : 0 < b := of_decide_eq_true hb
      refine q_asgX (x_cb (Evl.EvA.go (ea_cons (ev_op (ev_var rfl) ev_c (rv_ixL (sq_of hp4) at1)) (ea_cons (ev_var rfl) ea_nil)) fun H5 e5 => ?_))
      have hp5 := e5 _ _ hp4
      have bt5 := bt4.trans (But.ex e5)
      refine ⟨_, _, rfl, ⟨m0, m1⟩, fun r hr5 => ?_⟩
      have npr : p ≠ r := ne_of_none hp5 hr5
      have h6 : upd H5 r (.tup [.int (b / m), .int (b % m)]) p = some (.lst [.int z, .int b, .int (c + 1)]) := by
        rw [upd_ne npr]
        exact hp5
      refine ⟨r, _, rfl, st_of upd_same, rfl, _, _, rfl, ?_⟩
      refine ⟨_, rfl, p, _, 1, 1, rfl, rfl, h6, rfl, ?_⟩
      refine ⟨_, _, rfl, ?_⟩
      refine ⟨rfl, ?_⟩
      refine s_ret (ev_var rfl) fun H7 e7 => ?_
      refine k _ H7 (Int.emod_nonneg _ (by omega)) (Int.emod_lt_of_pos _ m0) ?_ ⟨_, _, _, e7 _ _ upd_same, z0, z1, Int.ediv_nonneg b0 (by omega)⟩
      exact ((bt5.trans (But.ex (Ex.new hr5))).trans But.upd).trans (But.ex e7)
    · have hp4 := e4 _ _ hp3
      have bt4 := bt3.trans (But.ex e4)
      refine s_ret (ev_mod (ev_fdivW (n := 7) (ev_op (ev_var rfl) ev_c (rv_ixL (sq_of hp4) at0)) ev_c (by decide) (by decide)) (ev_var rfl) m0) fun H5 e5 => ?_
      exact k _ H5 (Int.emod_nonneg _ (by omega)) (Int.emod_lt_of_pos _ m0) (bt4.trans (But.ex e5)) ⟨_, _, _, e5 _ _ hp4, z0, z1, b0⟩
theorem ok_number (F : FnP K "_law_number" s_l_number f fd) (T : Txt K mg) (D_l_take : L_take P w K mg base) : FnOk P w K mg base CX0 2 f fd ["_law_pool_here"] sp_number := by
  refine F.ok sc_l_number (fun vs H Q E h => ?_) (fun cdv A outer s H vs Q E hr h => ?_)
  · obtain ⟨p, rfl, _⟩ := h
    rfl
  · obtain ⟨p, rfl, hp, k⟩ := h
    refine ⟨_, PSs.nox (pss_cons (ps_set (i := 1) sc_l_number.nd rfl (Or.inl rfl) (pe_cd D_l_take (hr.mono (by decide)) (by rfl) (pa_cons (pv 0) (pa_cons pe_int pa_nil))))
      (pss_cons (ps_set (i := 2) sc_l_number.nd rfl (Or.inl rfl) (pe_ix ix_list (pe_lst (pa_cons pe_int (pa_cons pe_int (pa_cons (pe_cd D_l_take (hr.mono (by decide)) (by rfl) (pa_cons (pv 0) (pa_cons pe_int pa_nil))) (pa_cons (pe_cd D_l_take (hr.mono (by decide)) (by rfl) (pa_cons (pv 0) (pa_cons pe_int pa_nil))) pa_nil))))) (pe_op op_mod (pv 1) pe_int) (fun _ _ => rfl)))
      (pss_cut (ps_if (pt_cmpR op_gt (pv 1) pe_int (nomark _)) (pss_cons (ps_set (i := 2) sc_l_number.nd rfl (Or.inl rfl) pe_int)
        (pss_one (ps_for PassesOwn.never rfl (pi_range1 (by rfl) T.b_range (pa_cons (pe_ix ix_list (pe_lst (pa_cons pe_int (pa_cons pe_int (pa_cons pe_int pa_nil)))) (pe_op op_sub (pv 1) pe_int) (fun _ _ => rfl)) pa_nil)) (pg_name (i := 3) sc_l_number.nd rfl (Or.inl rfl)) (pss_one (ps_set (i := 2) sc_l_number.nd rfl (Or.inl rfl) (pe_op op_add (pe_op op_mulW (pv 2) pe_int) (pe_cd D_l_take (hr.mono (by decide)) (by rfl) (pa_cons (pv 0) (pa_cons pe_int pa_nil))))))))) pss_nil)
      (pss_one (ps_ret (pe_op op_mulW (pv 2) (pe_ix ix_list (pe_lst (pa_cons pe_int (pa_cons (pe_un un_neg pe_int) pa_nil))) (pe_cd D_l_take (hr.mono (by decide)) (by rfl) (pa_cons (pv 0) (pa_cons pe_int pa_nil))) (fun _ _ => rfl)))))))), ?_⟩
    refine q_set (take_go rfl ev_c hp (by decide) (by decide) fun way H1 w0 w1 b1 p1 => ?_)
    refine q_set (x_op (x_lst (x_cons (x_c (x_cons (x_c (x_cons (take_go rfl ev_c p1 (by decide) (by decide) fun d2 H2 c0 c1 b2 p2 => ?_))))))))
    refine x_cons (take_go rfl ev_c p2 (by decide) (by decide) fun d3 H3 g0 g1 b3 p3 => x_nil ⟨by show 4 ≤ sizeLine; decide, fun r hr3 => ?_⟩)
    have wm0 : 0 ≤ way % 4 := Int.emod_nonneg _ (by decide)
    have wm1 : way % 4 < 4 := Int.emod_lt_of_pos _ (by decide)
    refine Evl.Ev.go (ev_mod (ev_var rfl) ev_c (by decide)) fun H4 e4 => ?_
    obtain ⟨v, hv, ha⟩ := at_ints (L := [0, 1, d2, d3]) wm0 wm1
    have b4 : But p H H4 := (((b1.trans b2).trans b3).trans (But.ex (Ex.new hr3))).trans (But.ex e4)
    have p4 : Pool H4 p := pool_ex p3 ((Ex.new hr3).trans e4)
    have v0 : 0 ≤ v ∧ v < 100 := by
      simp only [List.mem_cons, List.mem_nil_iff, or_false] at hv
      rcases hv with rfl | rfl | rfl | rfl <;> constructor <;> omega
    refine ⟨r, _, _, _, rfl, rfl, sq_of (e4 _ _ upd_same), ha, ?_⟩
    refine q_cut (M := fun σ' H' => ∃ (n : Int) (tn : Option V), σ' = [some (.ref p), some (.int way), some (.int n), tn] ∧ 0 ≤ n ∧ n < 1000003 ^ 4 ∧ But p H H' ∧ Pool H' p) ?_ ?_
    · refine s_when (et_test (ev_gt (ev_var rfl) ev_c)) (fun hb H5 e5 => ?_) fun hb H5 e5 => ?_
      · have hw : 3 < way := of_decide_eq_true hb
        refine q_asg ev_c fun H6 e6 => ?_
        have e56 := e5.trans e6
        have r0 : 0 ≤ way - 4 := by omega
        have r1 : way - 4 < 3 := by omega
        obtain ⟨n, hn, hat⟩ := at_ints (L := [1, 3, 4]) r0 r1
        have n0 : 1 ≤ n ∧ n ≤ 4 := by
          simp only [List.mem_cons, List.mem_nil_iff, or_false] at hn
          omega
        have ent : Ev (tOp (rIxL K) (tLst (tCons (tC (.int 1)) (tCons (tC (.int 3)) (tCons (tC (.int 4)) tNil)))) (tOp (rI0 fun i j => .int (i - j)) (tVar 1) (tC (.int 4)))) [some (.ref p), some (.int way), some (.int 0), none] H6 (.int n) :=
          ev_opL1 (el_lst (ea_cons ev_c (ea_cons ev_c (ea_cons ev_c ea_nil))) (by show 3 ≤ 100000; decide)) (fun H7 _ => ev_sub (ev_var rfl) ev_c) fun l H7 hl _ => rv_ixL (sq_of hl) hat
        refine s_forR1 (D := { nx := _, rt := _ }) (n := n) (ea_cons ent ea_nil) (by omega) (fun i σ' H' => ∃ (z : Int) (tn : Option V), σ' = [some (.ref p), some (.int way), some (.int z), tn] ∧ 0 ≤ z ∧ z < 1000003 ^ i ∧ But p H H' ∧ Pool H' p) (fun H7 e7 => ⟨0, none, rfl, by decide, by decide, b4.trans (But.ex (e56.trans e7)), pool_ex p4 (e56.trans e7)⟩) ?_ ?_
        · rintro i σ' H' hi ⟨z, tn, rfl, z0, z1, bz, pz⟩
          have zb : (1000003 : Int) ^ i ≤ 1000003 ^ 3 := by
            have : i = 0 ∨ i = 1 ∨ i = 2 ∨ i = 3 := by omega
            rcases this with rfl | rfl | rfl | rfl <;> decide
          have zs : z.natAbs < 2 ^ 80 := by
            have : (1000003 : Int) ^ 3 < 2 ^ 80 := by decide
            omega
          refine x_set (x_op (Evl.Ev.go (ev_mulW (m := 20) (ev_var rfl) ev_c zs (by decide)) fun H7 e7 => ?_))
          refine take_go rfl ev_c (pool_ex pz e7) (by decide) (by decide) fun d H8 d0 d1 b8 p8 => ⟨_, _, rfl, rfl, ?_⟩
          refine ⟨z * 1000003 + d, _, rfl, by omega, ?_, (bz.trans (But.ex e7)).trans b8, p8⟩
          rw [Int.pow_succ]
          have := Int.mul_le_mul_of_nonneg_right (show z + 1 ≤ 1000003 ^ i by omega) (show (0 : Int) ≤ 1000003 by decide)
          omega
        · rintro σ' H' ⟨z, tn, rfl, z0, z1, bz, pz⟩
          refine ⟨z, tn, rfl, z0, ?_, bz, pz⟩
          have : n.toNat = 1 ∨ n.toNat = 2 ∨ n.toNat = 3 ∨ n.toNat = 4 := by omega
          have q : (1000003 : Int) ^ n.toNat ≤ 1000003 ^ 4 := by
            rcases this with e | e | e | e <;> rw [e] <;> decide
          omega
      · refine ⟨v, none, rfl, v0.1, ?_, b4.trans (But.ex e5), pool_ex p4 e5⟩
        have : (100 : Int) < 1000003 ^ 4 := by decide
        omega
    · rintro σ' H' ⟨n, tn, rfl, n0, n1, bn, pn⟩
      have nz : n.natAbs < 2 ^ 80 := by
        have : (1000003 : Int) ^ 4 < 2 ^ 80 := by decide
        omega
      refine x_ret (x_op (x_var rfl (x_op (Evl.EvL.go (el_lst (ea_cons ev_c (ea_cons (ev_neg ev_c) ea_nil)) (by show 2 ≤ 100000; decide)) fun l H5 hl e5 h5 => ?_))))
      refine take_go rfl ev_c (pool_ex pn e5) (by decide) (by decide) fun d H6 d0 d1 b6 p6 => ?_
      obtain ⟨v2, hv2, hat⟩ := at_ints (L := [1, -1]) d0 d1
      refine ⟨l, _, d, _, rfl, rfl, sq_of (b6 _ _ (pool_ne pn hl) h5), hat, ?_⟩
      have vz : v2 = 1 ∨ v2 = -1 := by
        simp only [List.mem_cons, List.mem_nil_iff, or_false] at hv2
        exact hv2
      have vb : v2.natAbs < 2 ^ 1 := by omega
      refine ⟨n, v2, rfl, rfl, wide_mul nz vb (by decide) (by decide) (by decide), ?_⟩
      refine k _ H6 (pow_big (wide_lt nz vb) (by decide)) ((bn.trans (But.ex e5)).trans b6) p6
end
end K02
namespace K02
open PySem PySem.Spec PyProof.Rows L2 Evl
section
variable {P : Program} {w : World} {K : PySem.W.Frag} {mg : Str → Option Value} {base : Heap} {f : Addr} {fd : FuncData}
abbrev L_on (P : Program) (w : World) (K : PySem.W.Frag) (mg : Str → Option Value) (base : Heap) : Prop := Dn P w K mg base 3 "_law_on" ["_law_one", "_law_other_here"] (sp_pair Tn.on)
theorem ok_on (F : FnP K "_law_on" s_l_on f fd) (T : Txt K mg) (D_l_part : L_part P w K mg base) : FnOk P w K mg base CX0 3 f fd ["_law_one", "_law_other_here"] (sp_pair Tn.on) := by
  refine F.ok sc_l_on (fun vs H Q E h => ?_) (fun cdv A outer s H vs Q E hr h => ?_)
  · obtain ⟨p, q, a, b, rfl, _⟩ := h
    rfl
  · obtain ⟨p, q, a, b, rfl, hp, hq, ha, hb, k⟩ := h
    refine ⟨_, PSs.nox (pss_one (ps_ret (pe_cd D_l_part (hr.mono (by decide)) (by rfl) (pa_cons (pe_op op_add (pe_op op_mulW (pe_ix ix_tup (pv 0) pe_int (fun _ _ => rfl)) (pe_ix ix_tup (pv 1) pe_int (fun _ _ => rfl))) (pe_op op_mulW (pe_ix ix_tup (pv 1) pe_int (fun _ _ => rfl)) (pe_ix ix_tup (pv 0) pe_int (fun _ _ => rfl)))) (pa_cons (pe_op op_mulW (pe_ix ix_tup (pv 0) pe_int (fun _ _ => rfl)) (pe_ix ix_tup (pv 1) pe_int (fun _ _ => rfl))) pa_nil))))), ?_⟩
    have s1 : Ev (tOp (rIxT K) (tVar 0) (tC (.int 0))) [some (.ref p), some (.ref q)] H (.int a.1) := ev_ixT (j := 0) (ev_var rfl) hp rfl
    have s2 : Ev (tOp (rIxT K) (tVar 0) (tC (.int 1))) [some (.ref p), some (.ref q)] H (.int a.2) := ev_ixT (j := 1) (ev_var rfl) hp rfl
    have o1 : Ev (tOp (rIxT K) (tVar 1) (tC (.int 0))) [some (.ref p), some (.ref q)] H (.int b.1) := ev_ixT (j := 0) (ev_var rfl) hq rfl
    have o2 : Ev (tOp (rIxT K) (tVar 1) (tC (.int 1))) [some (.ref p), some (.ref q)] H (.int b.2) := ev_ixT (j := 1) (ev_var rfl) hq rfl
    exact s_retU (eu_call (ea_cons (ev_add (ev_mulW s1 o2 ha.b1 hb.b2) (ev_mulW o1 s2 hb.b1 ha.b2)) (ea_cons (ev_mulW s2 o2 ha.b2 hb.b2) ea_nil)) (part_call (Int.mul_pos ha.1.pos hb.1.pos) (pow_up (pow_mul ha.b2 hb.b2) (by decide)))) k
end
end K02
namespace K02
open PySem PySem.Spec PyProof.Rows L2 Evl
section
variable {P : Program} {w : World} {K : PySem.W.Frag} {mg : Str → Option Value} {base : Heap} {f : Addr} {fd : FuncData}
abbrev L_off (P : Program) (w : World) (K : PySem.W.Frag) (mg : Str → Option Value) (base : Heap) : Prop := Dn P w K mg base 3 "_law_off" ["_law_one", "_law_other_here"] (sp_pair Tn.off)
theorem ok_off (F : FnP K "_law_off" s_l_off f fd) (T : Txt K mg) (D_l_part : L_part P w K mg base) : FnOk P w K mg base CX0 3 f fd ["_law_one", "_law_other_here"] (sp_pair Tn.off) := by
  refine F.ok sc_l_off (fun vs H Q E h => ?_) (fun cdv A outer s H vs Q E hr h => ?_)
  · obtain ⟨p, q, a, b, rfl, _⟩ := h
    rfl
  · obtain ⟨p, q, a, b, rfl, hp, hq, ha, hb, k⟩ := h
    refine ⟨_, PSs.nox (pss_one (ps_ret (pe_cd D_l_part (hr.mono (by decide)) (by rfl) (pa_cons (pe_op op_sub (pe_op op_mulW (pe_ix ix_tup (pv 0) pe_int (fun _ _ => rfl)) (pe_ix ix_tup (pv 1) pe_int (fun _ _ => rfl))) (pe_op op_mulW (pe_ix ix_tup (pv 1) pe_int (fun _ _ => rfl)) (pe_ix ix_tup (pv 0) pe_int (fun _ _ => rfl)))) (pa_cons (pe_op op_mulW (pe_ix ix_tup (pv 0) pe_int (fun _ _ => rfl)) (pe_ix ix_tup (pv 1) pe_int (fun _ _ => rfl))) pa_nil))))), ?_⟩
    have s1 : Ev (tOp (rIxT K) (tVar 0) (tC (.int 0))) [some (.ref p), some (.ref q)] H (.int a.1) := ev_ixT (j := 0) (ev_var rfl) hp rfl
    have s2 : Ev (tOp (rIxT K) (tVar 0) (tC (.int 1))) [some (.ref p), some (.ref q)] H (.int a.2) := ev_ixT (j := 1) (ev_var rfl) hp rfl
    have o1 : Ev (tOp (rIxT K) (tVar 1) (tC (.int 0))) [some (.ref p), some (.ref q)] H (.int b.1) := ev_ixT (j := 0) (ev_var rfl) hq rfl
    have o2 : Ev (tOp (rIxT K) (tVar 1) (tC (.int 1))) [some (.ref p), some (.ref q)] H (.int b.2) := ev_ixT (j := 1) (ev_var rfl) hq rfl
    exact s_retU (eu_call (ea_cons (ev_sub (ev_mulW s1 o2 ha.b1 hb.b2) (ev_mulW o1 s2 hb.b1 ha.b2)) (ea_cons (ev_mulW s2 o2 ha.b2 hb.b2) ea_nil)) (part_call (Int.mul_pos ha.1.pos hb.1.pos) (pow_up (pow_mul ha.b2 hb.b2) (by decide)))) k
end
end K02
namespace K02
open PySem PySem.Spec PyProof.Rows L2 Evl
def lessP (a b : Int × Int) : Bool := decide (a.1 * b.2 < b.1 * a.2)
def sp_less : Sp := fun vs H Q _ => ∃ (p q : Addr) (a b : Int × Int), vs = [.ref p, .ref q] ∧ H p = some (.tup (tv a)) ∧ H q = some (.tup (tv b)) ∧ (∃ n m : Nat, n ≤ 1000 ∧ m ≤ 1000 ∧ Sn n a ∧ Sn m b) ∧ ∀ H2, Ex H H2 → Q (.bl (lessP a b)) H2
theorem Sn.b2 {n : Nat} {a : Int × Int} (h : Sn n a) : a.2.natAbs < 2 ^ n := h.2
theorem Sn.b1 {n : Nat} {a : Int × Int} (h : Sn n a) : a.1.natAbs < 2 ^ n := by
  have h1 := h.1.nn
  have h2 := h.1.lt
  have h3 := h.2
  omega
theorem Sn.mono {n m : Nat} {a : Int × Int} (h : Sn n a) (e : n ≤ m) : Sn m a := ⟨h.1, pow_big h.2 e⟩
theorem Sn.n0 {n : Nat} {a : Int × Int} (h : Sn n a) : 0 < n := by
  rcases Nat.eq_zero_or_pos n with e | e
  · have h1 := h.2
    have h2 := h.1.pos
    rw [e] at h1
    omega
  · exact e
theorem sn_off {a b : Int × Int} {n m : Nat} (ha : Sn n a) (hb : Sn m b) : Sn (n + m) (Tn.off a b) := sn_le (Int.mul_pos ha.1.pos hb.1.pos) (pow_mul ha.2 hb.2)
/-- the law's own way to tell how far apart -/
def sp_lapart : Sp := fun vs H Q _ => ∃ (p q : Addr) (a b : Int × Int), vs = [.ref p, .ref q] ∧ H p = some (.tup (tv a)) ∧ H q = some (.tup (tv b)) ∧ Sn 110 a ∧ Sn 110 b ∧ NewP H Q (Tn.apart a b)
def sp_isb : Sp := fun vs H Q _ => ∃ b c : Bool, vs = [.bl b, .bl c] ∧ ∀ H2, Ex H H2 → Q (.bl (decide (b = c))) H2
def sp_pairof (C : Addr) : Sp := fun vs H Q _ => ∃ (x : Addr) (a : Int × Int), vs = [.ref x] ∧ TurnAt C H x a ∧ NewP H Q a
/-- a pair that is drawn -/
def DrawP (p : Addr) (H : Hp) (Q : VK) : Prop := ∀ (r : Addr) (a : Int × Int) H2, H r = none → Sn 91 a → But p H H2 → Pool H2 p → H2 r = some (.tup (tv a)) → Q (.ref r) H2
def sp_drawn : Sp := fun vs H Q _ => ∃ p : Addr, vs = [.ref p] ∧ Pool H p ∧ DrawP p H Q
def sp_other : Sp := fun vs H Q _ => ∃ (p q : Addr) (a : Int × Int), vs = [.ref p, .ref q] ∧ Pool H p ∧ H q = some (.tup (tv a)) ∧ Sn 91 a ∧ ∀ (r : Addr) (b : Int × Int) H2, r ≠ p → Sn 93 b → But p H H2 → Pool H2 p → H2 r = some (.tup (tv b)) → Q (.ref r) H2
section
variable {P : Program} {w : World} {K : PySem.W.Frag} {mg : Str → Option Value} {base : Heap} {f : Addr} {fd : FuncData}
theorem ok_less (F : FnP K "_law_less" s_l_less f fd) (T : Txt K mg) : FnOk P w K mg base CX0 1 f fd ["_law_one", "_law_other_here"] sp_less := by
  refine F.ok sc_l_less (fun vs H Q E h => ?_) (fun cdv A outer s H vs Q E hr h => ?_)
  · obtain ⟨p, q, a, b, rfl, _⟩ := h
    rfl
  · obtain ⟨p, q, a, b, rfl, hp, hq, ⟨n, m, hn, hm, ha, hb⟩, k⟩ := h
    refine ⟨_, PSs.nox (pss_one (ps_ret (pe_cmpR op_lt (pe_op op_mulW (pe_ix ix_tup (pv 0) pe_int (fun _ _ => rfl)) (pe_ix ix_tup (pv 1) pe_int (fun _ _ => rfl))) (pe_op op_mulW (pe_ix ix_tup (pv 1) pe_int (fun _ _ => rfl)) (pe_ix ix_tup (pv 0) pe_int (fun _ _ => rfl))) (nomark _)))), ?_⟩
    have s1 : Ev (tOp (rIxT K) (tVar 0) (tC (.int 0))) [some (.ref p), some (.ref q)] H (.int a.1) := ev_ixT (j := 0) (ev_var rfl) hp rfl
    have s2 : Ev (tOp (rIxT K) (tVar 0) (tC (.int 1))) [some (.ref p), some (.ref q)] H (.int a.2) := ev_ixT (j := 1) (ev_var rfl) hp rfl
    have o1 : Ev (tOp (rIxT K) (tVar 1) (tC (.int 0))) [some (.ref p), some (.ref q)] H (.int b.1) := ev_ixT (j := 0) (ev_var rfl) hq rfl
    have o2 : Ev (tOp (rIxT K) (tVar 1) (tC (.int 1))) [some (.ref p), some (.ref q)] H (.int b.2) := ev_ixT (j := 1) (ev_var rfl) hq rfl
    exact s_ret (ev_lt (ev_mulW s1 o2 ha.b1 hb.b2 ha.n0 hb.n0 (by omega)) (ev_mulW o1 s2 hb.b1 ha.b2 hb.n0 ha.n0 (by omega))) k
theorem ok_lapart (F : FnP K "_law_apart" s_l_apart f fd) (T : Txt K mg) (D_l_off : L_off P w K mg base) (D_l_less : Dn P w K mg base 1 "_law_less" ["_law_one", "_law_other_here"] sp_less) : FnOk P w K mg base CX0 4 f fd ["_law_one", "_law_other_here"] sp_lapart := by
  refine F.ok sc_l_apart (fun vs H Q E h => ?_) (fun cdv A outer s H vs Q E hr h => ?_)
  · obtain ⟨p, q, a, b, rfl, _⟩ := h
    rfl
  · obtain ⟨p, q, a, b, rfl, hp, hq, ha, hb, k⟩ := h
    refine ⟨_, PSs.nox (pss_cons (ps_par (i := 2) (j := 3) (by rfl) sc_l_apart.nd rfl rfl (by decide) rfl rfl (pa_cons (pe_cd D_l_off (hr.mono (by decide)) (by rfl) (pa_cons (pv 0) (pa_cons (pv 1) pa_nil))) (pa_cons (pe_cd D_l_off (hr.mono (by decide)) (by rfl) (pa_cons (pv 1) (pa_cons (pv 0) pa_nil))) pa_nil)) (by rfl))
      (pss_one (ps_ret (pe_ifExp (pt_val (pe_cd D_l_less (hr.mono (by decide)) (by rfl) (pa_cons (pv 3) (pa_cons (pv 2) pa_nil)))) (pv 3) (pv 2))))), ?_⟩
    have np : ∀ {x y : Addr} {c d : Int × Int} {H0 : Hp}, H0 x = some (.tup (tv c)) → H0 y = some (.tup (tv d)) → Sm c → Sm d → ∀ Q' : VK, NewP H0 Q' (Tn.off c d) → sp_pair Tn.off [.ref x, .ref y] H0 Q' E0 := fun h1 h2 h3 h4 Q' k' => ⟨_, _, _, _, rfl, h1, h2, h3, h4, k'⟩
    refine q_par (x_cons (x_call (x_cons (x_var rfl (x_cons (x_var rfl (x_nil (np hp hq ha.sm hb.sm _ fun r H1 hr1 e1 h1 => ?_))))))))
    refine x_cons (x_call (x_cons (x_var rfl (x_cons (x_var rfl (x_nil (np (e1 _ _ hq) (e1 _ _ hp) hb.sm ha.sm _ fun t H2 ht2 e2 h2 => x_nil ⟨_, _, rfl, ?_⟩)))))))
    have s1 := sn_off ha hb
    have s2 := sn_off hb ha
    have h1' := e2 _ _ h1
    have e := Tn.apart_law ha.1 hb.1
    refine x_ret (EvT.go (et_B (ev_call (z := .bl (lessP (Tn.off b a) (Tn.off a b))) (ea_cons (ev_var rfl) (ea_cons (ev_var rfl) ea_nil)) fun H3 e3 Q' q' E' => ⟨_, _, _, _, rfl, e3 _ _ h2, e3 _ _ h1', ⟨_, _, by decide, by decide, s2, s1⟩, q'⟩)) fun H3 e3 => ?_)
    by_cases hl : (Tn.off b a).1 * (Tn.off a b).2 < (Tn.off a b).1 * (Tn.off b a).2
    · rw [if_pos hl] at e
      rw [if_pos (show lessP (Tn.off b a) (Tn.off a b) = true from decide_eq_true hl)]
      rw [← e] at k
      exact x_var rfl (k t H3 (fresh_back e1 ht2) ((e1.trans e2).trans e3) (e3 _ _ h2))
    · rw [if_neg hl] at e
      rw [if_neg (by rw [show lessP (Tn.off b a) (Tn.off a b) = false from decide_eq_false hl]; exact fun z => nomatch z)]
      rw [← e] at k
      exact x_var rfl (k r H3 hr1 ((e1.trans e2).trans e3) (e3 _ _ h1'))
theorem ok_isb (F : FnP K "_law_is" s_l_is f fd) (T : Txt K mg) : FnOk P w K mg base CX0 1 f fd ["_law_found", "_law_due"] sp_isb := by
  refine F.ok sc_l_is (fun vs H Q E h => ?_) (fun cdv A outer s H vs Q E hr h => ?_)
  · obtain ⟨b, c, rfl, _⟩ := h
    rfl
  · obtain ⟨b, c, rfl, k⟩ := h
    refine ⟨_, PSs.nox (pss_one (ps_ret (pe_and (pe_callB call_isi (by rfl) T.b_isinstance (by decide +kernel) (pa_cons (pv 0) (pa_cons (pe_bltn (v := .ty "bool") (by rfl) T.b_bool (by decide +kernel) rfl) pa_nil))) (pe_one (pe_cmpR op_eq (pv 0) (pv 1) (nomark _)))))), ?_⟩
    have e : decide (V.bl b = V.bl c) = decide (b = c) := by
      rw [Bool.eq_iff_iff]
      simp
    refine s_ret (ev_is (ev_andV (a := true) (ev_cb (ea_cons (ev_var rfl) (ea_cons ev_c ea_nil)) (rc_isi (.ty "bool") (fun _ _ => .base (.bl b)) (kit_ty (by decide +kernel)))) fun _ => ev_op (ev_var rfl) (ev_var rfl) (rv_eq (x := .bl b) (y := .bl c) rfl)) ?_) k
    rw [Bool.true_and, e]
theorem ok_pairof (F : FnP K "_law_pair" s_l_pair f fd) (T : Txt K mg) : FnOk P w K mg base CX0 1 f fd ["_law_turn"] (sp_pairof (He.ga K "Turn")) := by
  refine F.ok sc_l_pair (fun vs H Q E h => ?_) (fun cdv A outer s H vs Q E hr h => ?_)
  · obtain ⟨x, a, rfl, _⟩ := h
    rfl
  · obtain ⟨x, a, rfl, ⟨dx, hx⟩, k⟩ := h
    refine ⟨_, PSs.nox (pss_one (ps_ret (pe_tup (pa_cons (pe_fld (pv 0) rfl) (pa_cons (pe_fld (pv 0) rfl) pa_nil))))), ?_⟩
    exact s_retU (eu_tup (ea_cons (ev_fld (ev_var rfl) hx T.cl_Turn T.no_Turn_top (tf_top a)) (ea_cons (ev_fld (ev_var rfl) hx T.cl_Turn T.no_Turn_bottom (tf_bottom a)) ea_nil)) (by show 2 ≤ 100000; decide)) k
theorem ok_drawn (F : FnP K "_law_drawn" s_l_drawn f fd) (T : Txt K mg) (D_l_number : L_number P w K mg base) (D_l_part : L_part P w K mg base) : FnOk P w K mg base CX0 3 f fd ["_law_pool_here"] sp_drawn := by
  refine F.ok sc_l_drawn (fun vs H Q E h => ?_) (fun cdv A outer s H vs Q E hr h => ?_)
  · obtain ⟨p, rfl, _⟩ := h
    rfl
  · obtain ⟨p, rfl, hp, k⟩ := h
    refine ⟨_, PSs.nox (pss_cons (ps_set (i := 1) sc_l_drawn.nd rfl (Or.inl rfl) (pe_callB call_abs (by rfl) T.b_abs (by decide +kernel) (pa_cons (pe_cd D_l_number (hr.mono (by decide)) (by rfl) (pa_cons (pv 0) pa_nil)) pa_nil)))
      (pss_one (ps_ret (pe_cd D_l_part (hr.mono (by decide)) (by rfl) (pa_cons (pe_cd D_l_number (hr.mono (by decide)) (by rfl) (pa_cons (pv 0) pa_nil)) (pa_cons (pe_op op_add (pv 1) (pe_callTy call_int1 (by rfl) T.b_int (by decide +kernel) (pa_cons (pe_cmpR op_eq (pv 1) pe_int (nomark _)) pa_nil))) pa_nil)))))), ?_⟩
    refine q_set (x_cb (x_cons (number_go rfl hp fun u H1 uz b1 p1 => x_nil ?_)))
    have ea : (if u < 0 then -u else u) = (u.natAbs : Int) := by
      split <;> omega
    refine ⟨u, rfl, ?_⟩
    rw [ea]
    refine x_ret (x_call (x_cons (number_go rfl p1 fun t H3 tz b3 p3 => ?_)))
    have hu : ∃ m : Int, 0 < m ∧ m.natAbs < 2 ^ 91 ∧ Ev (tOp (rI0 fun i j => .int (i + j)) (tVar 1) (tCB (fun xs H Q => (∃ i, xs = [V.int i] ∧ Q (.int i) H) ∨ ∃ k, xs = [V.bl k] ∧ Q (.int (if k then 1 else 0)) H) (tCons (tOp rEq (tVar 1) (tC (.int 0))) tNil))) [some (.ref p), some (.int (u.natAbs : Int))] H3 (.int m) := by
      refine ⟨_, ?_, ?_, ev_add (ev_var rfl) (ev_cb (ea_cons (ev_eqI (ev_var rfl) ev_c) ea_nil) rc_intB)⟩
      · by_cases h : (u.natAbs : Int) = 0
        · rw [h]
          decide
        · rw [decide_eq_false h]
          show 0 < (u.natAbs : Int) + 0
          omega
      · by_cases h : (u.natAbs : Int) = 0
        · rw [h]
          decide
        · rw [decide_eq_false h]
          show ((u.natAbs : Int) + 0).natAbs < 2 ^ 91
          have := pow_big uz (show 90 ≤ 91 by decide)
          omega
    obtain ⟨m, m0, mz, em⟩ := hu
    refine Evl.Ev.go em fun H4 e4 => x_nil ⟨t, m, rfl, m0, pow_big mz (by decide), fun r H5 hr5 e5 h5 => ?_⟩
    have B : But p H H4 := (b1.trans b3).trans (But.ex e4)
    refine k r _ H5 ?_ (sn_le m0 mz) (B.trans (But.ex e5)) (pool_ex p3 (e4.trans e5)) h5
    cases q : H r with
    | none => rfl
    | some o =>
      have : H4 r = some o := B r o (pool_ne (pool_ex p3 e4) hr5) q
      rw [hr5] at this
      cases this
theorem ok_other (F : FnP K "_law_other" s_l_other f fd) (T : Txt K mg) (D_l_take : L_take P w K mg base) (D_l_on : L_on P w K mg base) (D_l_off : L_off P w K mg base) (D_l_drawn : Dn P w K mg base 3 "_law_drawn" ["_law_pool_here"] sp_drawn) : FnOk P w K mg base CX0 4 f fd ["_law_pool_here", "_law_one"] sp_other := by
  refine F.ok sc_l_other (fun vs H Q E h => ?_) (fun cdv A outer s H vs Q E hr h => ?_)
  · obtain ⟨p, q, a, rfl, _⟩ := h
    rfl
  · obtain ⟨p, q, a, rfl, hp, hq, ha, k⟩ := h
    refine ⟨_, PSs.nox (pss_cons (ps_set (i := 2) sc_l_other.nd rfl (Or.inl rfl) (pe_cd D_l_take (hr.mono (by decide)) (by rfl) (pa_cons (pv 0) (pa_cons pe_int pa_nil))))
      (pss_cons (ps_if (pt_cmpR op_eq (pv 2) pe_int (nomark _)) (pss_one (ps_ret (pv 1))) pss_nil)
      (pss_cons (ps_if (pt_cmpR op_eq (pv 2) pe_int (nomark _)) (pss_one (ps_ret (pe_cd D_l_on (hr.mono (by decide)) (by rfl) (pa_cons (pv 1) (pa_cons (pe_tup (pa_cons pe_int (pa_cons pe_int pa_nil))) pa_nil))))) pss_nil)
      (pss_cons (ps_if (pt_cmpR op_eq (pv 2) pe_int (nomark _)) (pss_one (ps_ret (pe_cd D_l_off (hr.mono (by decide)) (by rfl) (pa_cons (pe_tup (pa_cons pe_int (pa_cons pe_int pa_nil))) (pa_cons (pv 1) pa_nil))))) pss_nil)
      (pss_one (ps_ret (pe_cd D_l_drawn (hr.mono (by decide)) (by rfl) (pa_cons (pv 0) pa_nil)))))))), ?_⟩
    have nqp : q ≠ p := by
      obtain ⟨x, y, z, hz, _⟩ := id hp
      intro e
      rw [e, hz] at hq
      cases hq
    refine q_set (take_go rfl ev_c hp (by decide) (by decide) fun d H1 d0 d1 b1 p1 => ?_)
    have hq1 := b1 _ _ nqp hq
    refine q_when (et_test (ev_eqI (ev_var rfl) ev_c)) (fun _ H2 e2 => s_ret (ev_var rfl) fun H3 e3 => k q a H3 nqp (ha.mono (by decide)) ((b1.trans (But.ex e2)).trans (But.ex e3)) (pool_ex p1 (e2.trans e3)) ((e2.trans e3) _ _ hq1)) fun _ H2 e2 => ?_
    have p2 := pool_ex p1 e2
    refine q_when (et_test (ev_eqI (ev_var rfl) ev_c)) (fun _ H3 e3 => ?_) fun _ H3 e3 => ?_
    · refine x_ret (EvR.go (er_pairs (g := Tn.on) (er_pair rfl ((e2.trans e3) _ _ hq1)) er_tup2 ha.sm sn_half.sm) fun r H4 e4 h4 => ?_)
      have hr4 : r ≠ p := by
        obtain ⟨x, y, z, hz, _⟩ := pool_ex p1 ((e2.trans e3).trans e4)
        intro e
        have h4 : H4 r = some (.tup (tv (Tn.on a (1, 2)))) := h4
        rw [e, hz] at h4
        cases h4
      exact k r _ H4 hr4 (sn_on ha sn_half) ((b1.trans (But.ex e2)).trans (But.ex (e3.trans e4))) (pool_ex p1 ((e2.trans e3).trans e4)) h4
    · refine q_when (et_test (ev_eqI (ev_var rfl) ev_c)) (fun _ H4 e4 => ?_) fun _ H4 e4 => ?_
      · have c01 : Sn 1 (0, 1) := ⟨Tn.can01, by decide⟩
        refine x_ret (EvR.go (er_pairs (g := Tn.off) (a := (0, 1)) er_tup2 (er_pair rfl (((e2.trans e3).trans e4) _ _ hq1)) c01.sm ha.sm) fun r H5 e5 h5 => ?_)
        have hr4 : r ≠ p := by
          obtain ⟨x, y, z, hz, _⟩ := pool_ex p1 (((e2.trans e3).trans e4).trans e5)
          intro e
          have h5 : H5 r = some (.tup (tv (Tn.off (0, 1) a))) := h5
          rw [e, hz] at h5
          cases h5
        exact k r _ H5 hr4 ((sn_off c01 ha).mono (by decide)) ((b1.trans (But.ex e2)).trans (But.ex ((e3.trans e4).trans e5))) (pool_ex p1 (((e2.trans e3).trans e4).trans e5)) h5
      · have B := (b1.trans (But.ex e2)).trans (But.ex (e3.trans e4))
        refine x_ret (x_call (x_cons (x_var rfl (x_nil ⟨p, rfl, pool_ex p1 ((e2.trans e3).trans e4), fun r b H5 hr5 hb b5 p5 h5 => ?_⟩))))
        exact k r b H5 (pool_ne (pool_ex p1 ((e2.trans e3).trans e4)) hr5) (hb.mono (by decide)) (B.trans b5) p5 h5
end
end K02

namespace K02
open PySem PySem.Spec PyProof.Rows L2 Evl
def sp_alike (C : Addr) : Sp := fun vs H Q _ => ∃ (x y : Addr) (a b : Int × Int), vs = [.ref x, .ref y, .bl (decide (a = b))] ∧ TurnAt C H x a ∧ TurnAt C H y b ∧ ∀ H2, Ex H H2 → Q (.bl true) H2
def sp_things (C : Addr) : Sp := fun vs H Q _ => ∃ (x : Addr) (a : Int × Int), vs = [.ref x] ∧ TurnAt C H x a ∧ Sm a ∧ ∀ H2, Ex H H2 → Q (.bl true) H2
def sp_texts (C : Addr) : Sp := fun vs H Q _ => ∃ (x q : Addr) (a : Int × Int), vs = [.ref x, .ref q] ∧ TurnAt C H x a ∧ H q = some (.tup (tv a)) ∧ Sm a ∧ ∀ H2, Ex H H2 → Q (.bl true) H2
abbrev L_isb (P : Program) (w : World) (K : PySem.W.Frag) (mg : Str → Option Value) (base : Heap) : Prop := Dn P w K mg base 1 "_law_is" ["_law_found", "_law_due"] sp_isb
abbrev L_pairof (P : Program) (w : World) (K : PySem.W.Frag) (mg : Str → Option Value) (base : Heap) : Prop := Dn P w K mg base 1 "_law_pair" ["_law_turn"] (sp_pairof (He.ga K "Turn"))
section
variable {P : Program} {w : World} {K : PySem.W.Frag} {mg : Str → Option Value} {base : Heap} {f : Addr} {fd : FuncData}
theorem ev_isb {σ : L2.St} {H : Hp} {ta tb : TE} {b c : Bool} (h1 : Ev ta σ H (.bl b)) (h2 : Ev tb σ H (.bl c)) (e : b = c) : Ev (tCall sp_isb [] E0 (tCons ta (tCons tb tNil))) σ H (.bl true) :=
  ev_call (ea_cons h1 (ea_cons h2 ea_nil)) fun H1 _ Q' q E' => ⟨b, c, rfl, by
    rw [decide_eq_true e]
    exact q⟩
theorem ok_alike (F : FnP K "_law_alike_right" s_l_alike_right f fd) (T : Txt K mg) (D_l_is : L_isb P w K mg base) (Rq : Req P w K mg base) : FnOk P w K mg base CX0 4 f fd ["_law_first", "_law_second", "_law_due"] (sp_alike (He.ga K "Turn")) := by
  refine F.ok sc_l_alike_right (fun vs H Q E h => ?_) (fun cdv A outer s H vs Q E hr h => ?_)
  · obtain ⟨x, y, a, b, rfl, _⟩ := h
    rfl
  · obtain ⟨x, y, a, b, rfl, hx, hy, k⟩ := h
    refine ⟨_, PSs.nox (pss_cons (ps_if (PW.pt (pw_or (pt_not (pt_val (pe_cd D_l_is (hr.mono (by decide)) (by rfl) (pa_cons (pe_cmpR (op_eqE (rcE_own T.m_Turn___eq__ Rq) (hr.mono (by decide))) (pv 0) (pv 1) (nomark _)) (pa_cons (pv 2) pa_nil))))) (pw_or1 (pt_not (pt_val (pe_cd D_l_is (hr.mono (by decide)) (by rfl) (pa_cons (pe_cmpR (op_neE (neE_own T.own_Turn T.m_Turn___eq__ Rq) (hr.mono (by decide))) (pv 0) (pv 1) (nomark _)) (pa_cons (pe_not (pv 2)) pa_nil)))))))) (pss_one (ps_ret pe_bl)) pss_nil)
      (pss_cons (ps_if (PW.pt (pw_or (pt_not (pt_val (pe_cd D_l_is (hr.mono (by decide)) (by rfl) (pa_cons (pe_cmpR (op_inE mon_DT (eqE_turn T Rq) (hr.mono (by decide))) (pv 0) (pe_lst (pa_cons (pv 1) (pa_cons pe_int pa_nil))) (by rfl)) (pa_cons (pv 2) pa_nil))))) (pw_or1 (pt_not (pt_val (pe_cd D_l_is (hr.mono (by decide)) (by rfl) (pa_cons (pe_cmpR (op_inTE mon_DT (eqE_turn T Rq) (hr.mono (by decide))) (pv 1) (pe_tup (pa_cons pe_non (pa_cons (pv 0) pa_nil))) (by rfl)) (pa_cons (pv 2) pa_nil)))))))) (pss_one (ps_ret pe_bl)) pss_nil)
      (pss_one (ps_ret (pe_and (pe_cd D_l_is (hr.mono (by decide)) (by rfl) (pa_cons (pe_cmpR (op_eqE (rcE_list mon_DT (eqE_turn T Rq)) (hr.mono (by decide))) (pe_lst (pa_cons (pv 0) pa_nil)) (pe_lst (pa_cons (pv 1) pa_nil)) (nomark _)) (pa_cons (pv 2) pa_nil))) (pe_one (pe_cd D_l_is (hr.mono (by decide)) (by rfl) (pa_cons (pe_cmpR (op_neE (neE_tup mon_DT (eqE_turn T Rq)) (hr.mono (by decide))) (pe_tup (pa_cons (pv 0) (pa_cons pe_int pa_nil))) (pe_tup (pa_cons (pv 1) (pa_cons pe_int pa_nil))) (nomark _)) (pa_cons (pe_not (pv 2)) pa_nil))))))))), ?_⟩
    have dxy := dt_own T hx hy
    have dyx := dt_own T hy hx
    have eyx : decide (b = a) = decide (a = b) := by
      rw [Bool.eq_iff_iff]
      simp only [decide_eq_true_eq]
      exact eq_comm
    rw [eyx] at dyx
    generalize decide (a = b) = d at *
    let σ0 : L2.St := [some (.ref x), some (.ref y), some (.bl d)]
    have v0 : Ev (tVar 0) σ0 H (.ref x) := ev_var rfl
    have v1 : Ev (tVar 1) σ0 H (.ref y) := ev_var rfl
    have v2 : Ev (tVar 2) σ0 H (.bl d) := ev_var rfl
    have t1 : EvT (tNot (tB (tCall sp_isb [] E0 (tCons (tOp (rCmpE (DOwn K (He.ga K "Turn") (RT (He.ga K "Turn")))) (tVar 0) (tVar 1)) (tCons (tVar 2) tNil))))) σ0 H false := et_not (et_B (ev_isb (ev_op v0 v1 (rv_cmpE dxy)) v2 rfl))
    have t2 : EvT (tNot (tB (tCall sp_isb [] E0 (tCons (tOp (rCmpE (fun x y H b => DOwn K (He.ga K "Turn") (RT (He.ga K "Turn")) x y H (!b))) (tVar 0) (tVar 1)) (tCons (tNotV (tVar 2)) tNil))))) σ0 H false := et_not (et_B (ev_isb (b := !d) (ev_op v0 v1 (rv_cmpE fun H1 e => by rw [Bool.not_not]; exact dxy H1 e)) (ev_notV v2) rfl))
    refine q_when (b := false) (et_or t1 fun _ => t2) (fun hb => nomatch hb) fun _ H1 e1 => ?_
    have t3 : EvT (tNot (tB (tCall sp_isb [] E0 (tCons (tOp (rInE (DT K (He.ga K "Turn"))) (tVar 0) (tLst (tCons (tVar 1) (tCons (tC (.int 7)) tNil)))) (tCons (tVar 2) tNil))))) σ0 H false := by
      refine et_not (et_B (ev_isb (b := [d, false].any id) (ev_opL v0 (el_lst (ea_cons v1 (ea_cons ev_c ea_nil)) (by show 2 ≤ 100000; decide)) fun p H2 hp e2 => rv_inE hp fun H3 e3 => ?_) v2 (by cases d <;> rfl)))
      exact .cons (.inl (dyx H3 (e2.trans e3))) (.cons (.inr (.inl (dt_off hx (.int 7) H3 (e2.trans e3)))) .nil)
    have t4 : EvT (tNot (tB (tCall sp_isb [] E0 (tCons (tOp (rInTE K (DT K (He.ga K "Turn"))) (tVar 1) (tTup (tCons (tC .non) (tCons (tVar 0) tNil)))) (tCons (tVar 2) tNil))))) σ0 H false := by
      refine et_not (et_B (ev_isb (b := [false, d].any id) (ev_opU v1 (eu_tup (ea_cons ev_c (ea_cons v0 ea_nil)) (by show 2 ≤ 100000; decide)) fun p H2 hp e2 => rv_inTE hp fun H3 e3 => ?_) v2 (by cases d <;> rfl)))
      exact .cons (.inr (.inl (dt_off hy .non H3 (e2.trans e3)))) (.cons (.inl (dxy H3 (e2.trans e3))) .nil)
    refine q_when (b := false) (EvT.mono e1 (et_or t3 fun _ => t4)) (fun hb => nomatch hb) fun _ H2 e2 => ?_
    have t5 : Ev (tCall sp_isb [] E0 (tCons (tOp (rCmpE (DLs (DT K (He.ga K "Turn")))) (tLst (tCons (tVar 0) tNil)) (tLst (tCons (tVar 1) tNil))) (tCons (tVar 2) tNil))) σ0 H (.bl true) := by
      refine ev_isb (b := [d].all id) (ev_opLL (el_lst (ea_cons v0 ea_nil) (by show 1 ≤ 100000; decide)) (el_lst (ea_cons v1 ea_nil) (by show 1 ≤ 100000; decide)) fun p q H3 hp hq e3 => rv_cmpE fun H4 e4 => ?_) v2 (by cases d <;> rfl)
      exact ⟨p, q, _, _, [d], rfl, rfl, e4 _ _ hp, e4 _ _ hq, .cons (.inl (dxy H4 (e3.trans e4))) .nil, rfl⟩
    have t6 : Ev (tCall sp_isb [] E0 (tCons (tOp (rCmpE (DTp K (DT K (He.ga K "Turn")))) (tTup (tCons (tVar 0) (tCons (tC (.int 1)) tNil))) (tTup (tCons (tVar 1) (tCons (tC (.int 1)) tNil)))) (tCons (tNotV (tVar 2)) tNil))) σ0 H (.bl true) := by
      refine ev_isb (b := ![d, true].all id) (ev_opUU (eu_tup (ea_cons v0 (ea_cons ev_c ea_nil)) (by show 2 ≤ 100000; decide)) (eu_tup (ea_cons v1 (ea_cons ev_c ea_nil)) (by show 2 ≤ 100000; decide)) fun p q H3 hp hq e3 => rv_cmpE fun H4 e4 => ?_) (ev_notV v2) (by cases d <;> rfl)
      exact ⟨p, q, _, _, [d, true], rfl, rfl, st_of (e4 _ _ hp), st_of (e4 _ _ hq), .cons (.inl (dxy H4 (e3.trans e4))) (.cons (.inr (.inr ⟨rfl, rfl, rfl⟩)) .nil), rfl⟩
    exact s_ret (v := .bl true) (Ev.mono (e1.trans e2) (ev_andV t5 fun _ => t6)) fun H3 e3 => k H3 ((e1.trans e2).trans e3)
theorem ok_things {fd1 fd2 : FuncData} (F : FnP K "_law_things_right" s_l_things_right f fd) (T : Txt K mg) (D_l_is : L_isb P w K mg base) (D_l_pair : L_pairof P w K mg base) (Rq : Req P w K mg base)
    (G_Turn___str__ : FnOk P w K mg base CX0 2 (He.ma K (He.ga K "Turn") "__str__") fd1 ["self"] (sp_text (He.ga K "Turn") strT)) (b_Turn___str__ : Binds K fd1 ["self"] [])
    (G_Turn___repr__ : FnOk P w K mg base CX0 2 (He.ma K (He.ga K "Turn") "__repr__") fd2 ["self"] (sp_text (He.ga K "Turn") reprT)) (b_Turn___repr__ : Binds K fd2 ["self"] []) :
    FnOk P w K mg base CX0 6 f fd ["_law_turn"] (sp_things (He.ga K "Turn")) := by
  refine F.ok sc_l_things_right (fun vs H Q E h => ?_) (fun cdv A outer s H vs Q E hr h => ?_)
  · obtain ⟨x, a, rfl, _⟩ := h
    rfl
  · obtain ⟨x, a, rfl, hx, ha, k⟩ := h
    refine ⟨_, PSs.nox (pss_cons (ps_set (i := 1) sc_l_things_right.nd rfl (Or.inl rfl) (pe_cd D_l_pair (hr.mono (by decide)) (by rfl) (pa_cons (pv 0) pa_nil)))
      (pss_cons (ps_set (i := 2) sc_l_things_right.nd rfl (Or.inl rfl) (pe_lst (pa_cons (pv 1) (pa_cons (pe_callTy call_list_of (by rfl) T.b_list (by decide +kernel) (pa_cons (pv 1) pa_nil)) (pa_cons (pe_callTy (call_strO T.m_Turn___str__ (FnOk.raw0 G_Turn___str__ b_Turn___str__) (hr.mono (by decide))) (by rfl) T.b_str (by decide +kernel) (pa_cons (pv 0) pa_nil)) (pa_cons (pe_callB (call_reprO T.m_Turn___repr__ (FnOk.raw0 G_Turn___repr__ b_Turn___repr__) (hr.mono (by decide))) (by rfl) T.b_repr (by decide +kernel) (pa_cons (pv 0) pa_nil)) (pa_cons (pe_fld (pv 0) rfl) (pa_cons pe_non (pa_cons (pe_tup pa_nil) (pa_cons pe_bl (pa_cons pe_dnewK (pa_cons (pe_lst (pa_cons (pv 0) pa_nil)) (pa_cons (pe_tup (pa_cons (pv 0) pa_nil)) pa_nil)))))))))))))
      (pss_cons (ps_for PassesOwn.never rfl (pi_list (pv 2)) (pg_name (i := 3) sc_l_things_right.nd rfl (Or.inl rfl)) (pss_cons (ps_if (PW.pt (pw_or (pt_not (pt_val (pe_cd D_l_is (hr.mono (by decide)) (by rfl) (pa_cons (pe_cmpR (op_eqE (rcE_own T.m_Turn___eq__ Rq) (hr.mono (by decide))) (pv 0) (pv 3) (nomark _)) (pa_cons pe_bl pa_nil))))) (pw_or1 (pt_not (pt_val (pe_cd D_l_is (hr.mono (by decide)) (by rfl) (pa_cons (pe_cmpR (op_neE (neE_own T.own_Turn T.m_Turn___eq__ Rq) (hr.mono (by decide))) (pv 0) (pv 3) (nomark _)) (pa_cons pe_bl pa_nil)))))))) (pss_one (ps_ret pe_bl)) pss_nil)
        (pss_one (ps_if (pt_not (pt_val (pe_cd D_l_is (hr.mono (by decide)) (by rfl) (pa_cons (pe_cmpR (op_eqE (rcE_off T.own_Turn T.m_Turn___eq__ Rq) (hr.mono (by decide))) (pv 3) (pv 0) (nomark _)) (pa_cons pe_bl pa_nil))))) (pss_one (ps_ret pe_bl)) pss_nil))))
      (pss_one (ps_ret (pe_not (pe_callB (cr_any rfl) (by rfl) T.b_any (by decide +kernel) (pa_cons (pe_lc (own := [("_law_thing", 3)]) (g := (gName 3)) (tt := tYes) rfl sc_l_things_right.nd (pi_list (pv 2)) (blkOk_by (own := [("_law_thing", 3)]) (N := ["_law_turn", "_law_pair_here", "_law_things", "_law_thing"]) (sc := defScope s_l_things_right) (by decide +kernel)) (fun _ _ _ _ _ => (pg_name (i := 3) sc_l_things_right.nd rfl (Or.inl rfl))) (fun _ _ _ _ _ => pts_nil) (fun _ _ _ _ _ => (pe_cmpR (op_inE (D := DT K (He.ga K "Turn")) (n := 1) mon_DT (eqE_turnK rfl rfl rfl rfl rfl T Rq) (hr.mono (by decide))) (pv 0) (pe_lst (pa_cons (pv 3) pa_nil)) (by rfl)))) pa_nil)))))))), ?_⟩
    refine q_set (x_call (x_cons (x_var rfl (x_nil ⟨x, a, rfl, hx, fun q H1 hq e1 h1 => ?_⟩))))
    have hx1 := hx.ex e1
    obtain ⟨dx, hd⟩ := id hx1
    have st : ∀ g : Int × Int → Str, SpV (sp_text (He.ga K "Turn") g) [.ref x] H1 (.str (g a)) := fun g H2 e2 Q' q' E' => ⟨x, a, rfl, hx1.ex e2, ha, q'⟩
    refine q_set (x_lst (EvKA.go (n := 11) (ek_cons (ek_v (ev_var rfl) fun H2 e2 => .tup (e2 _ _ h1)) (ek_cons (ek_L (xs := tv a) (el_cb (ea_cons (ev_var rfl) ea_nil) fun H2 e2 Q' q' => ⟨q, _, rfl, .inr (st_of (e2 _ _ h1)), fun l hl => q' l _ hl (Ex.new hl) upd_same⟩)) (ek_cons (ek_v (ev_strO (ev_var rfl) hd (st strT)) fun H2 _ => .str _) (ek_cons (ek_v (ev_strO (ev_var rfl) hd (st reprT)) fun H2 _ => .str _)
      (ek_cons (ek_v (ev_fld (ev_var rfl) hd T.cl_Turn T.no_Turn_top (tf_top a)) fun H2 _ => .int _) (ek_cons (ek_c fun _ => .non) (ek_cons (ek_U (eu_tup ea_nil (by show 0 ≤ 100000; decide))) (ek_cons (ek_c fun _ => .bl true) (ek_cons ek_dict (ek_cons (ek_L (el_lst (ea_cons (ev_var rfl) ea_nil) (by show 1 ≤ 100000; decide))) (ek_cons (ek_U (eu_tup (ea_cons (ev_var rfl) ea_nil) (by show 1 ≤ 100000; decide))) ek_nil))))))))))) fun vs H2 e2 hl hk => ⟨by rw [hl]; decide, fun t ht => ?_⟩))
    have h3 : upd H2 t (.lst vs) t = some (.lst vs) := upd_same
    have e3 : Ex H (upd H2 t (.lst vs)) := (e1.trans e2).trans (Ex.new ht)
    have hk3 : ∀ v ∈ vs, ∃ T, Kd (upd H2 t (.lst vs)) v T := fun v hv => (hk v hv).imp fun T h => h.ex (Ex.new ht)
    generalize upd H2 t (.lst vs) = G at *
    have hxG := hx.ex e3
    refine q_forLn (K := K) (xs := vs) (ev_var rfl) (sq_of h3) (fun i σ' H' => Ex G H' ∧ ∃ v, σ' = [some (.ref x), some (.ref q), some (.ref t), v]) (fun H4 e4 => ⟨e4, _, rfl⟩) (fun i σ' H' _ ⟨e4, _⟩ => sq_of (e4 _ _ h3)) ?_ ?_
    · rintro i v σ' H4 hi ⟨e4, v0, rfl⟩
      obtain ⟨kn, hkn⟩ := hk3 v (List.mem_of_getElem? hi)
      have hv := hkn.ex e4
      have hx4 := hxG.ex e4
      have w0 : Ev (tVar 0) [some (.ref x), some (.ref q), some (.ref t), some v] H4 (.ref x) := ev_var rfl
      have w3 : Ev (tVar 3) [some (.ref x), some (.ref q), some (.ref t), some v] H4 v := ev_var rfl
      refine q_when (b := false) (et_or (a := false) (b := false) (et_not (et_B (ev_isb (b := false) (ev_op w0 w3 (rv_cmpE (dt_kd T hx4 hv))) ev_c rfl))) fun _ => et_not (et_B (ev_isb (b := true) (ev_op w0 w3 (rv_cmpE (dt_kd T hx4 hv))) ev_c rfl))) (fun hb => nomatch hb) fun _ H5 e5 => ?_
      exact s_when (b := false) (et_not (et_B (ev_isb (b := false) (ev_op (ev_var rfl) (ev_var rfl) (rv_cmpE (dt_off (hx4.ex e5) (hv.ex e5)))) ev_c rfl))) (fun hb => nomatch hb) fun _ H6 e6 => ⟨(e4.trans e5).trans e6, _, rfl⟩
    · rintro σ' H4 ⟨e4, v0, rfl⟩
      have hx4 := hxG.ex e4
      refine s_ret (v := .bl true) (ev_notV (a := false) (fun H5 e5 Q' q' => x_cb (x_cons (el_lcL (K := K) (xs := vs) (fun _ => true) (fun _ => .bl false) (ev_var rfl) (sq_of ((e4.trans e5) _ _ h3)) (by rw [hl]; decide) (fun _ => rfl) (fun i v H6 e6 hi H7 e7 Q2 q2 => q2 H7 (Ex.refl _)) (fun i v H6 e6 hi _ => ?_) H5 (Ex.refl _) _ fun p H6 hp e6 h6 => x_nil ?_)))) fun H5 e5 => k H5 ((e3.trans e4).trans e5)
      · obtain ⟨kn, hkn⟩ := hk3 v (List.mem_of_getElem? hi)
        have hv := hkn.ex ((e4.trans e5).trans e6)
        refine ev_is (ev_opL (ev_var rfl) (el_lst (ea_cons (ev_var rfl) ea_nil) (by show 1 ≤ 100000; decide)) fun p H7 hp e7 => rv_inE (bs := [false]) hp fun H8 e8 => ?_) rfl
        exact .cons (.inr (.inl (dt_off (hx4.ex (e5.trans e6)) hv H8 (e7.trans e8)))) .nil
      · refine ⟨p, List.replicate 11 false, rfl, sq_of ?_, ?_⟩
        · rw [h6, hl]
          rfl
        · exact q' H6 e6
theorem ok_texts {fd1 fd2 : FuncData} (F : FnP K "_law_texts_right" s_l_texts_right f fd) (T : Txt K mg)
    (G_Turn___str__ : FnOk P w K mg base CX0 2 (He.ma K (He.ga K "Turn") "__str__") fd1 ["self"] (sp_text (He.ga K "Turn") strT)) (b_Turn___str__ : Binds K fd1 ["self"] [])
    (G_Turn___repr__ : FnOk P w K mg base CX0 2 (He.ma K (He.ga K "Turn") "__repr__") fd2 ["self"] (sp_text (He.ga K "Turn") reprT)) (b_Turn___repr__ : Binds K fd2 ["self"] []) :
    FnOk P w K mg base CX0 5 f fd ["_law_turn", "_law_pair_here"] (sp_texts (He.ga K "Turn")) := by
  refine F.ok sc_l_texts_right (fun vs H Q E h => ?_) (fun cdv A outer s H vs Q E hr h => ?_)
  · obtain ⟨x, q, a, rfl, _⟩ := h
    rfl
  · obtain ⟨x, q, a, rfl, hx, hq, ha, k⟩ := h
    refine ⟨_, PSs.nox (pss_cons (ps_set (i := 2) sc_l_texts_right.nd rfl (Or.inl rfl) (pe_op op_add_str (pe_op op_add_str (pe_callTy call_str_int (by rfl) T.b_str (by decide +kernel) (pa_cons (pe_ix ix_tup (pv 1) pe_int (fun _ _ => rfl)) pa_nil)) pe_str) (pe_callTy call_str_int (by rfl) T.b_str (by decide +kernel) (pa_cons (pe_ix ix_tup (pv 1) pe_int (fun _ _ => rfl)) pa_nil))))
      (pss_cons (ps_if (pt_cmpR op_eq (pe_ix ix_tup (pv 1) pe_int (fun _ _ => rfl)) pe_int (nomark _)) (pss_one (ps_set (i := 2) sc_l_texts_right.nd rfl (Or.inl rfl) pe_str)) pss_nil)
      (pss_cons (ps_if (PW.pt (pw_or (pt_cmpR op_ne (pe_callTy (call_strO T.m_Turn___str__ (FnOk.raw0 G_Turn___str__ b_Turn___str__) (hr.mono (by decide))) (by rfl) T.b_str (by decide +kernel) (pa_cons (pv 0) pa_nil)) (pv 2) (nomark _)) (pw_or1 (pt_cmpR op_ne (pe_joined1 (pe_fmtO T.own_Turn T.m_Turn___str__ (FnOk.raw0 G_Turn___str__ b_Turn___str__) (hr.mono (by decide)) (pv 0))) (pv 2) (nomark _))))) (pss_one (ps_ret pe_bl)) pss_nil)
      (pss_one (ps_ret (pe_cmpR op_eq (pe_callB (call_reprO T.m_Turn___repr__ (FnOk.raw0 G_Turn___repr__ b_Turn___repr__) (hr.mono (by decide))) (by rfl) T.b_repr (by decide +kernel) (pa_cons (pv 0) pa_nil)) (pe_op op_add_str (pe_op op_add_str (pe_op op_add_str (pe_op op_add_str pe_str (pe_callTy call_str_int (by rfl) T.b_str (by decide +kernel) (pa_cons (pe_ix ix_tup (pv 1) pe_int (fun _ _ => rfl)) pa_nil))) pe_str) (pe_callTy call_str_int (by rfl) T.b_str (by decide +kernel) (pa_cons (pe_ix ix_tup (pv 1) pe_int (fun _ _ => rfl)) pa_nil))) pe_str) (nomark _))))))), ?_⟩
    obtain ⟨n1, e1, b1⟩ := ha.n1
    obtain ⟨n2, e2, b2⟩ := ha.n2
    have l1 := num400 b1
    have l2 := num400 b2
    have g1 : ∀ {σ0 : L2.St} {H0 : Hp}, σ0[1]? = some (some (.ref q)) → H0 q = some (.tup (tv a)) → Ev (tCB (fun xs H Q => ∃ i : Int, xs = [V.int i] ∧ i.natAbs.log2 < 1920 ∧ Q (.str (Str.ofString (toString i))) H) (tCons (tOp (rIxT K) (tVar 1) (tC (.int 0))) tNil)) σ0 H0 (.str (Dg.num n1)) := fun hσ h0 => by
      have h := ev_cb (ea_cons (ev_ixT (K := K) (j := 0) (ev_var hσ) h0 (v := .int a.1) rfl) ea_nil) (rc_strI (log_lt ha.b1 (by decide) (by decide)))
      rw [e1] at h
      exact h
    have g2 : ∀ {σ0 : L2.St} {H0 : Hp}, σ0[1]? = some (some (.ref q)) → H0 q = some (.tup (tv a)) → Ev (tCB (fun xs H Q => ∃ i : Int, xs = [V.int i] ∧ i.natAbs.log2 < 1920 ∧ Q (.str (Str.ofString (toString i))) H) (tCons (tOp (rIxT K) (tVar 1) (tC (.int 1))) tNil)) σ0 H0 (.str (Dg.num n2)) := fun hσ h0 => by
      have h := ev_cb (ea_cons (ev_ixT (K := K) (j := 1) (ev_var hσ) h0 (v := .int a.2) rfl) ea_nil) (rc_strI (log_lt ha.b2 (by decide) (by decide)))
      rw [e2] at h
      exact h
    have s1 : (Str.ofString "/").length = 1 := by decide +kernel
    have s2 : (Str.ofString "Turn(").length = 5 := by decide +kernel
    have s3 : (Str.ofString ", ").length = 2 := by decide +kernel
    have s4 : (Str.ofString ")").length = 1 := by decide +kernel
    have z0 : ∀ y : Str, Str.empty ++ y = y := Str.empty_append
    refine q_asg (ev_addStr (ev_addStr (g1 rfl hq) ev_c (by omega)) (g2 rfl hq) (by rw [len_app]; omega)) fun H1 h1 => ?_
    have hq1 := h1 _ _ hq
    refine q_ifAsg (v := .str (strT a)) (et_test (ev_eqI (ev_ixT (j := 0) (ev_var rfl) hq1 (v := .int a.1) rfl) ev_c)) (fun hb => ?_) (fun hb => ?_) fun H2 h2 => ?_
    · have z : a.1 = 0 := of_decide_eq_true hb
      rw [show strT a = "0" from if_pos z]
      exact ev_c
    · have z : ¬ a.1 = 0 := of_decide_eq_false hb
      have e : strT a = Dg.num n1 ++ "/" ++ Dg.num n2 := by
        unfold strT
        rw [if_neg z, e1, e2, Int.toNat_natCast, Int.toNat_natCast]
        show Str.empty ++ _ ++ _ ++ _ = _
        rw [z0]
      rw [e]
      rfl
    have hx2 := hx.ex (h1.trans h2)
    have hq2 := h2 _ _ hq1
    obtain ⟨dx, hd⟩ := id hx2
    have st : ∀ g : Int × Int → Str, SpV (sp_text (He.ga K "Turn") g) [.ref x] H2 (.str (g a)) := fun g H3 e3 Q' q' E' => ⟨x, a, rfl, hx2.ex e3, ha, q'⟩
    refine q_when (b := false) (et_is (et_or (et_test (ev_neS2 (ev_strO (ev_var rfl) hd (st strT)) (ev_var rfl))) fun _ => et_test (ev_neS2 (ev_fmtO (ev_var rfl) hd (st strT)) (ev_var rfl))) (by simp)) (fun hb => nomatch hb) fun _ H3 e3 => ?_
    refine s_ret (ev_is (ev_eqS2 (Ev.mono e3 (ev_strO (ev_var rfl) hd (st reprT))) (ev_addStr (ev_addStr (ev_addStr (ev_addStr ev_c (g1 rfl (e3 _ _ hq2)) (by omega)) ev_c (by rw [len_app]; omega)) (g2 rfl (e3 _ _ hq2)) (by rw [len_app, len_app]; omega)) ev_c (by rw [len_app, len_app, len_app]; omega))) ?_) fun H4 e4 => k H4 (((h1.trans h2).trans e3).trans e4)
    have e : reprT a = "Turn(" ++ Dg.num n1 ++ ", " ++ Dg.num n2 ++ ")" := by
      unfold reprT
      rw [e1, e2, Int.toNat_natCast, Int.toNat_natCast]
      show Str.empty ++ _ ++ _ ++ _ ++ _ ++ _ = _
      rw [z0]
    rw [e, decide_eq_true rfl]
end
end K02

namespace K02
open PySem PySem.Spec PyProof.Rows L2 Evl
def sp_law (K : PySem.W.Frag) : Sp := fun vs H Q _ => ∃ (a : Addr) (ns : List Int), vs = [.ref a] ∧ SqL K H a (ns.map V.int) ∧ ns.length ≤ 63 ∧ ∀ H', Q (.bl true) H'
section
variable {C : Addr} {K : PySem.W.Frag} {σ : L2.St} {H H' : Hp} {ta : TA} {to te ty tu : TE} {a b : Int × Int} {p : Addr} {i : Nat}
theorem er_pairof (h : EvR te σ H (PT C a)) : EvR (tCall (sp_pairof C) [] E0 (tCons te tNil)) σ H (PP a) := fun H1 e Q q => h H1 e _ fun p H2 e2 hp => ⟨p, a, rfl, hp, fun r H3 _ e3 h3 => q r H3 (e2.trans e3) h3⟩
theorem er_lapart (h1 : EvR to σ H (PP a)) (h2 : EvR ty σ H (PP b)) (ha : Sn 110 a) (hb : Sn 110 b) : EvR (tCall sp_lapart [] E0 (tCons to (tCons ty tNil))) σ H (PP (Tn.apart a b)) := fun H1 e Q q =>
  h1 H1 e _ fun p H2 e2 hp => h2 H2 (e.trans e2) _ fun r H3 e3 hr => ⟨p, r, a, b, rfl, e3 _ _ hp, hr, ha, hb, fun x H4 _ e4 ht => q x H4 ((e2.trans e3).trans e4) ht⟩
theorem ev_neP (h1 : EvR to σ H (PP a)) (h2 : EvR ty σ H (PP b)) : Ev (tOp (rNeD K) to ty) σ H (.bl (!decide (a = b))) := fun H1 e Q q =>
  h1 H1 e _ fun p H2 e2 hp => h2 H2 (e.trans e2) _ fun r H3 e3 hr => rv_neP (K := K) (e3 _ _ hp) hr H3 (Ex.refl _) Q fun H4 e4 => q H4 ((e2.trans e3).trans e4)
theorem et_neP (h1 : EvR to σ H (PP a)) (h2 : EvR ty σ H (PP b)) (e : a = b) : EvT (tTest (tOp (rNeD K) to ty)) σ H false := by
  have h := et_test (ev_neP (K := K) h1 h2)
  rw [decide_eq_true e] at h
  exact h
theorem ev_below (h1 : EvR to σ H (PT C a)) (h2 : EvR ty σ H (PT C b)) (ha : Sm a) (hb : Sm b) : Ev (tMeth C "below" (sp_below C) [] E0 to (tCons ty tNil)) σ H (.bl (lessP a b)) := fun H1 e Q q =>
  h1 H1 e _ fun p H2 e2 hp => by
    obtain ⟨dx, hx⟩ := id hp
    exact ⟨p, dx, _, rfl, hx, tf_no a (by decide +kernel) (by decide +kernel), h2 H2 (e.trans e2) _ fun r H3 e3 hr => ⟨p, r, a, b, rfl, TurnAt.ex hp e3, hr, ha, hb, fun H4 e4 => q H4 ((e2.trans e3).trans e4)⟩⟩
theorem ev_less (h1 : EvR to σ H (PP a)) (h2 : EvR ty σ H (PP b)) (ha : Sn 110 a) (hb : Sn 110 b) : Ev (tCall sp_less [] E0 (tCons to (tCons ty tNil))) σ H (.bl (lessP a b)) := fun H1 e Q q =>
  h1 H1 e _ fun p H2 e2 hp => h2 H2 (e.trans e2) _ fun r H3 e3 hr => ⟨p, r, a, b, rfl, e3 _ _ hp, hr, ⟨_, _, by decide, by decide, ha, hb⟩, fun H4 e4 => q H4 ((e2.trans e3).trans e4)⟩
end
theorem part_more {a : Int × Int} (ha : Tn.Can a) (m : Int) : Tn.sgn (a.1 + m * a.2) a.2 = a := by
  rw [Tn.sgn_pos ha.pos]
  exact Tn.part_eq (k := m) ha.pos ha (by grind)
theorem part_times {a : Int × Int} (ha : Tn.Can a) {m : Int} (hm : 0 < m) : Tn.sgn (a.1 * m) (a.2 * m) = a := by
  have h : 0 < a.2 * m := Int.mul_pos ha.pos hm
  rw [Tn.sgn_pos h]
  exact Tn.part_eq (k := 0) h ha (by grind)
section
variable {P : Program} {w : World} {K : PySem.W.Frag} {mg : Str → Option Value} {base : Heap} {f : Addr} {fd : FuncData}
theorem ok_law {fd1 fd2 : FuncData} (F : FnP K "law" s_law f fd) (T : Txt K mg) (TC : Tc P w K mg base) (D_l_cell : Dn P w K mg base 1 "_law_cell" ["_law_script", "_law_k"] (sp_cell K)) (D_l_pool : Dn P w K mg base 1 "_law_pool" ["_law_cell_here"] sp_pool) (D_l_take : L_take P w K mg base)
    (D_l_drawn : Dn P w K mg base 3 "_law_drawn" ["_law_pool_here"] sp_drawn) (D_l_other : Dn P w K mg base 4 "_law_other" ["_law_pool_here", "_law_one"] sp_other) (D_l_is : L_isb P w K mg base) (D_l_pair : L_pairof P w K mg base) (D_l_less : Dn P w K mg base 1 "_law_less" ["_law_one", "_law_other_here"] sp_less) (D_l_apart : Dn P w K mg base 4 "_law_apart" ["_law_one", "_law_other_here"] sp_lapart)
    (D_l_alike_right : Dn P w K mg base 4 "_law_alike_right" ["_law_first", "_law_second", "_law_due"] (sp_alike (He.ga K "Turn"))) (D_l_things_right : Dn P w K mg base 6 "_law_things_right" ["_law_turn"] (sp_things (He.ga K "Turn"))) (D_l_texts_right : Dn P w K mg base 5 "_law_texts_right" ["_law_turn", "_law_pair_here"] (sp_texts (He.ga K "Turn")))
    (G_Turn_below : FnOk P w K mg base CX0 2 (He.ma K (He.ga K "Turn") "below") fd1 ["self", "other"] (sp_below (He.ga K "Turn"))) (b_Turn_below : Binds K fd1 ["self", "other"] [])
    (G_Turn_apart : FnOk P w K mg base CX0 5 (He.ma K (He.ga K "Turn") "apart") fd2 ["self", "other"] (sp_two (He.ga K "Turn") Tn.apart)) (b_Turn_apart : Binds K fd2 ["self", "other"] []) :
    FnOk P w K mg base CX0 7 f fd ["_law_script"] (sp_law K) := by
  obtain ⟨fdI, G_Turn_init, b_Turn_init, _, _⟩ := TC
  refine F.ok sc_law (fun vs H Q E h => ?_) (fun cdv A outer s H vs Q E hr h => ?_)
  · obtain ⟨a, ns, rfl, _⟩ := h
    rfl
  · obtain ⟨l, ns, rfl, hs, hlen, k⟩ := h
    refine ⟨_, PSs.nox (pss_cons (ps_for PassesOwn.never rfl (pi_range1 (by rfl) T.b_range (pa_cons (pe_callB (call_max2 rfl) (by rfl) T.b_max (by decide +kernel) (pa_cons pe_int (pa_cons (pe_callB (call_min2 rfl) (by rfl) T.b_min (by decide +kernel) (pa_cons (pe_callB call_len_seq (by rfl) T.b_len (by decide +kernel) (pa_cons (pv 0) pa_nil)) (pa_cons pe_int pa_nil))) pa_nil))) pa_nil)) (pg_name (i := 1) sc_law.nd rfl (Or.inl rfl)) (pss_cons (ps_set (i := 2) sc_law.nd rfl (Or.inl rfl) (pe_cd D_l_pool (hr.mono (by decide)) (by rfl) (pa_cons (pe_cd D_l_cell (hr.mono (by decide)) (by rfl) (pa_cons (pv 0) (pa_cons (pv 1) pa_nil))) pa_nil)))
        (pss_cons (ps_set (i := 3) sc_law.nd rfl (Or.inl rfl) (pe_cd D_l_drawn (hr.mono (by decide)) (by rfl) (pa_cons (pv 2) pa_nil)))
        (pss_cons (ps_set (i := 4) sc_law.nd rfl (Or.inl rfl) (pe_cd D_l_other (hr.mono (by decide)) (by rfl) (pa_cons (pv 2) (pa_cons (pv 3) pa_nil))))
        (pss_cons (ps_set (i := 5) sc_law.nd rfl (Or.inl rfl) (pe_op op_add pe_int (pe_cd D_l_take (hr.mono (by decide)) (by rfl) (pa_cons (pv 2) (pa_cons pe_int pa_nil)))))
        (pss_cons (ps_par (i := 6) (j := 7) (by rfl) sc_law.nd rfl rfl (by decide) rfl rfl (pa_cons (pe_make T.mk_Turn G_Turn_init (hr.mono (by decide)) (by rfl) T.g_Turn b_Turn_init .nil pass0 (pa_cons (pe_op op_add (pe_ix ix_tup (pv 3) pe_int (fun _ _ => rfl)) (pe_op op_mulW (pv 5) (pe_ix ix_tup (pv 3) pe_int (fun _ _ => rfl)))) (pa_cons (pe_ix ix_tup (pv 3) pe_int (fun _ _ => rfl)) pa_nil))) (pa_cons (pe_make T.mk_Turn G_Turn_init (hr.mono (by decide)) (by rfl) T.g_Turn b_Turn_init .nil pass0 (pa_cons (pe_op op_mulW (pe_ix ix_tup (pv 4) pe_int (fun _ _ => rfl)) (pv 5)) (pa_cons (pe_op op_mulW (pe_ix ix_tup (pv 4) pe_int (fun _ _ => rfl)) (pv 5)) pa_nil))) pa_nil)) (by rfl))
        (pss_cons (ps_set (i := 8) sc_law.nd rfl (Or.inl rfl) (pe_make T.mk_Turn G_Turn_init (hr.mono (by decide)) (by rfl) T.g_Turn b_Turn_init .nil pass0 (pa_cons (pe_ix ix_tup (pv 3) pe_int (fun _ _ => rfl)) (pa_cons (pe_ix ix_tup (pv 3) pe_int (fun _ _ => rfl)) pa_nil))))
        (pss_cons (ps_if (PW.pt (pw_or (pt_not (pt_val (pe_cd D_l_alike_right (hr.mono (by decide)) (by rfl) (pa_cons (pv 6) (pa_cons (pv 7) (pa_cons (pe_cmpR (op_eqD hr.units) (pv 3) (pv 4) (nomark _)) pa_nil)))))) (pw_or1 (pt_not (pt_val (pe_cd D_l_alike_right (hr.mono (by decide)) (by rfl) (pa_cons (pv 6) (pa_cons (pv 8) (pa_cons pe_bl pa_nil))))))))) (pss_one (ps_ret pe_bl)) pss_nil)
        (pss_cons (ps_if (PW.pt (pw_or (pt_not (pt_val (pe_cd D_l_things_right (hr.mono (by decide)) (by rfl) (pa_cons (pv 6) pa_nil)))) (pw_or (pt_not (pt_val (pe_cd D_l_texts_right (hr.mono (by decide)) (by rfl) (pa_cons (pv 6) (pa_cons (pv 3) pa_nil))))) (pw_or1 (pt_not (pt_val (pe_cd D_l_texts_right (hr.mono (by decide)) (by rfl) (pa_cons (pv 7) (pa_cons (pv 4) pa_nil))))))))) (pss_one (ps_ret pe_bl)) pss_nil)
        (pss_cons (ps_if (PW.pt (pw_or (pt_not (pt_val (pe_cd D_l_is (hr.mono (by decide)) (by rfl) (pa_cons (pe_meth (pv 6) T.cl_Turn T.m_Turn_below G_Turn_below (hr.mono (by decide)) b_Turn_below .nil pass0 (pa_cons (pv 7) pa_nil)) (pa_cons (pe_cd D_l_less (hr.mono (by decide)) (by rfl) (pa_cons (pv 3) (pa_cons (pv 4) pa_nil))) pa_nil))))) (pw_or1 (pt_not (pt_val (pe_cd D_l_is (hr.mono (by decide)) (by rfl) (pa_cons (pe_meth (pv 6) T.cl_Turn T.m_Turn_below G_Turn_below (hr.mono (by decide)) b_Turn_below .nil pass0 (pa_cons (pv 6) pa_nil)) (pa_cons pe_bl pa_nil)))))))) (pss_one (ps_ret pe_bl)) pss_nil)
        (pss_cons (ps_for PassesOwn.never rfl (pi_list (pe_lst (pa_cons (pe_tup (pa_cons (pv 6) (pa_cons (pv 7) pa_nil))) (pa_cons (pe_tup (pa_cons (pv 7) (pa_cons (pv 6) pa_nil))) (pa_cons (pe_tup (pa_cons (pv 6) (pa_cons (pv 6) pa_nil))) (pa_cons (pe_tup (pa_cons (pv 6) (pa_cons (pv 7) pa_nil))) pa_nil)))))) (pg_tup rfl (pgs_cons (pg_name (i := 9) sc_law.nd rfl (Or.inl rfl)) (pgs_cons (pg_name (i := 10) sc_law.nd rfl (Or.inl rfl)) pgs_nil))) (pss_cons (ps_set (i := 11) sc_law.nd rfl (Or.inl rfl) (pe_meth (pv 9) T.cl_Turn T.m_Turn_apart G_Turn_apart (hr.mono (by decide)) b_Turn_apart .nil pass0 (pa_cons (pv 10) pa_nil)))
          (pss_one (ps_if (PW.pt (pw_or (pt_not (pt_val (pe_callB call_isi (by rfl) T.b_isinstance (by decide +kernel) (pa_cons (pv 11) (pa_cons (pe_glob (v := .ref (He.ga K "Turn")) (by rfl) T.g_Turn rfl) pa_nil))))) (pw_or1 (pt_cmpR (op_neD hr.units) (pe_cd D_l_pair (hr.mono (by decide)) (by rfl) (pa_cons (pv 11) pa_nil)) (pe_cd D_l_apart (hr.mono (by decide)) (by rfl) (pa_cons (pe_cd D_l_pair (hr.mono (by decide)) (by rfl) (pa_cons (pv 9) pa_nil)) (pa_cons (pe_cd D_l_pair (hr.mono (by decide)) (by rfl) (pa_cons (pv 10) pa_nil)) pa_nil))) (nomark _))))) (pss_one (ps_ret pe_bl)) pss_nil))))
        (pss_cons (ps_if (PW.pt (pw_or (pt_cmpR (op_neD hr.units) (pe_cd D_l_pair (hr.mono (by decide)) (by rfl) (pa_cons (pe_meth (pv 6) T.cl_Turn T.m_Turn_apart G_Turn_apart (hr.mono (by decide)) b_Turn_apart .nil pass0 (pa_cons (pv 6) pa_nil)) pa_nil)) (pe_tup (pa_cons pe_int (pa_cons pe_int pa_nil))) (nomark _)) (pw_or1 (pt_cmpR (op_neD hr.units) (pe_cd D_l_pair (hr.mono (by decide)) (by rfl) (pa_cons (pe_meth (pv 6) T.cl_Turn T.m_Turn_apart G_Turn_apart (hr.mono (by decide)) b_Turn_apart .nil pass0 (pa_cons (pv 7) pa_nil)) pa_nil)) (pe_cd D_l_apart (hr.mono (by decide)) (by rfl) (pa_cons (pv 3) (pa_cons (pv 4) pa_nil))) (nomark _))))) (pss_one (ps_ret pe_bl)) pss_nil)
        (pss_cons (ps_if (pt_not (pt_val (pe_cd D_l_is (hr.mono (by decide)) (by rfl) (pa_cons (pe_meth (pv 6) T.cl_Turn T.m_Turn_below G_Turn_below (hr.mono (by decide)) b_Turn_below .nil pass0 (pa_cons (pv 7) pa_nil)) (pa_cons (pe_cd D_l_less (hr.mono (by decide)) (by rfl) (pa_cons (pv 3) (pa_cons (pv 4) pa_nil))) pa_nil))))) (pss_one (ps_ret pe_bl)) pss_nil)
        (pss_one (ps_if (PW.pt (pw_or (pt_cmpR (op_neD hr.units) (pe_cd D_l_pair (hr.mono (by decide)) (by rfl) (pa_cons (pv 6) pa_nil)) (pv 3) (nomark _)) (pw_or1 (pt_cmpR (op_neD hr.units) (pe_cd D_l_pair (hr.mono (by decide)) (by rfl) (pa_cons (pv 7) pa_nil)) (pv 4) (nomark _))))) (pss_one (ps_ret pe_bl)) pss_nil)))))))))))))))
      (pss_one (ps_ret pe_bl))), ?_⟩
    have nlen : ((ns.map V.int).length : Int) ≤ 63 := by
      rw [List.length_map]
      omega
    obtain ⟨turns, tn, tb⟩ : ∃ turns : Int, Ev (tCB (fun xs H Q => ∃ i j, xs = [.int i, .int j] ∧ Q (.int (if j > i then j else i)) H) (tCons (tC (.int 1)) (tCons (tCB (fun xs H Q => ∃ i j, xs = [.int i, .int j] ∧ Q (.int (if j < i then j else i)) H) (tCons (tCB (fun xs H Q => ∃ p ys, xs = [.ref p] ∧ (SqL K H p ys ∨ SqT K H p ys) ∧ Q (.int (ys.length : Nat)) H) (tCons (tVar 0) tNil)) (tCons (tC (.int 20)) tNil))) tNil))) [some (.ref l), none, none, none, none, none, none, none, none, none, none, none] H (.int turns) ∧ 0 ≤ turns ∧ turns ≤ 20 := by
      refine ⟨_, ev_cb (ea_cons ev_c (ea_cons (ev_cb (ea_cons (ev_cb (ea_cons (ev_var rfl) ea_nil) (fun H1 e Q' q => ⟨l, _, rfl, .inl (ex_l e hs), q H1 (Ex.refl _)⟩)) (ea_cons ev_c ea_nil)) fun H1 _ Q' q => ⟨_, _, rfl, q H1 (Ex.refl _)⟩) ea_nil)) fun H1 _ Q' q => ⟨_, _, rfl, q H1 (Ex.refl _)⟩, ?_⟩
      generalize ((ns.map V.int).length : Int) = n at nlen
      split <;> split <;> omega
    refine q_forR1 (n := turns) (ea_cons tn ea_nil) ⟨tb.1, by omega⟩ (fun i σ' H' => Ex H H' ∧ ∃ v1 v2 v3 v4 v5 v6 v7 v8 v9 v10 v11, σ' = [some (.ref l), v1, v2, v3, v4, v5, v6, v7, v8, v9, v10, v11]) (fun H1 e1 => ⟨e1, _, _, _, _, _, _, _, _, _, _, _, rfl⟩) ?_ ?_
    · rintro i σ' H' hi ⟨e, v1, v2, v3, v4, v5, v6, v7, v8, v9, v10, v11, rfl⟩
      refine q_set (x_call (x_cons (x_call (x_cons (x_var rfl (x_cons (x_var rfl (x_nil ⟨l, ns, i, rfl, ex_l e hs, by omega, fun c H1 e1 => ?_⟩))))))))
      refine x_nil ⟨c, rfl, fun p H2 hp2 e2 pp => ?_⟩
      have f2 : Ex H H2 := (e.trans e1).trans e2
      have np : H p = none := fresh_back (e.trans e1) hp2
      refine q_set (x_call (x_cons (x_var rfl (x_nil ⟨p, rfl, pp, fun r a H3 hr3 ha b3 p3 h3 => ?_⟩))))
      refine q_set (x_call (x_cons (x_var rfl (x_cons (x_var rfl (x_nil ⟨p, r, a, rfl, p3, h3, ha, fun q b H4 hqp hb b4 p4 h4 => ?_⟩))))))
      have nrp : r ≠ p := pool_ne pp hr3
      have h34 : H4 r = some (.tup (tv a)) := b4 _ _ nrp h3
      refine q_set (x_op (x_c (take_go rfl ev_c p4 (by decide) (by decide) fun d H5 d0 d1 b5 p5 => ⟨_, _, rfl, rfl, ?_⟩)))
      have e05 : Ex H H5 := ((((But.ex f2).trans b3).trans b4).trans b5).new np
      have ha5 : H5 r = some (.tup (tv a)) := b5 _ _ nrp h34
      have hb5 : H5 q = some (.tup (tv b)) := b5 _ _ hqp h4
      clear b5 p5 h4 h34 p4 b4 h3 p3 b3 pp hp2 e1 e2 f2
      have o0 : 0 < 1 + d := by omega
      have oz : (1 + d).natAbs < 2 ^ 5 := by omega
      have hA : Sn 110 a := ha.mono (by decide)
      have hB : Sn 110 b := hb.mono (by decide)
      have sA := hA.sm
      have sB := hB.sm
      have i0 : ∀ {i : Nat} {pr : Addr} {c : Int × Int} {σ0 : L2.St} {H0 : Hp}, σ0[i]? = some (some (.ref pr)) → H0 pr = some (.tup (tv c)) → Ev (tOp (rIxT K) (tVar i) (tC (.int 0))) σ0 H0 (.int c.1) := fun hσ hpr => ev_ixT (j := 0) (ev_var hσ) hpr rfl
      have i1 : ∀ {i : Nat} {pr : Addr} {c : Int × Int} {σ0 : L2.St} {H0 : Hp}, σ0[i]? = some (some (.ref pr)) → H0 pr = some (.tup (tv c)) → Ev (tOp (rIxT K) (tVar i) (tC (.int 1))) σ0 H0 (.int c.2) := fun hσ hpr => ev_ixT (j := 1) (ev_var hσ) hpr rfl
      have ap := ha.1.pos
      have bp := hb.1.pos
      have ob : 0 < b.2 * (1 + d) := Int.mul_pos bp o0
      refine q_par (x_cons (EvR.go ((er_tn (tn_make (C := He.ga K "Turn") (ea_cons (ev_add (i0 rfl ha5) (ev_mulW (ev_var rfl) (i1 rfl ha5) oz sA.b2)) (ea_cons (i1 rfl ha5) ea_nil)) (by omega) (pow_up sA.b2 (by decide)))).is (part_more ha.1 _)) fun x H6 e6 hx => ?_))
      refine x_cons (EvR.go ((er_tn (tn_make (C := He.ga K "Turn") (ea_cons (ev_mulW (i0 rfl (e6 _ _ hb5)) (ev_var rfl) sB.b1 oz) (ea_cons (ev_mulW (i1 rfl (e6 _ _ hb5)) (ev_var rfl) sB.b2 oz) ea_nil)) (by omega) (pow_up (pow_mul sB.b2 oz) (by decide)))).is (part_times hb.1 o0)) fun y H7 e7 hy => x_nil ⟨_, _, rfl, ?_⟩)
      have ha7 := (e6.trans e7) _ _ ha5
      refine q_set (EvR.go ((er_tn (tn_make (C := He.ga K "Turn") (ea_cons (i0 rfl ha7) (ea_cons (i1 rfl ha7) ea_nil)) (by omega) (pow_up sA.b2 (by decide)))).is ((Tn.sgn_pos ap).trans (Tn.part_self ha.1))) fun z H8 e8 hz => ?_)
      have e08 : Ex H H8 := ((e05.trans e6).trans e7).trans e8
      have ha8 : H8 r = some (.tup (tv a)) := e8 _ _ ha7
      have hb8 : H8 q = some (.tup (tv b)) := ((e6.trans e7).trans e8) _ _ hb5
      have hx8 : TurnAt (He.ga K "Turn") H8 x a := TurnAt.ex hx (e7.trans e8)
      have hy8 : TurnAt (He.ga K "Turn") H8 y b := TurnAt.ex hy e8
      have hz8 : TurnAt (He.ga K "Turn") H8 z a := hz
      clear hx hy hz ha7 ha5 hb5 e05 e6 e7 e8
      let σ0 : L2.St := [some (.ref l), some (.int (i : Int)), some (.ref p), some (.ref r), some (.ref q), some (.int (1 + d)), some (.ref x), some (.ref y), some (.ref z), v9, v10, v11]
      have al : ∀ {i j : Nat} {u v : Addr} {c d : Int × Int} {t : TE} {σ0 : L2.St} {bb : Bool}, σ0[i]? = some (some (.ref u)) → σ0[j]? = some (some (.ref v)) → TurnAt (He.ga K "Turn") H8 u c → TurnAt (He.ga K "Turn") H8 v d → Ev t σ0 H8 (.bl bb) → bb = decide (c = d) → EvT (tNot (tB (tCall (sp_alike (He.ga K "Turn")) [] E0 (tCons (tVar i) (tCons (tVar j) (tCons t tNil)))))) σ0 H8 false := fun h1 h2 h3 h4 h5 h6 => et_not (a := true) (et_B (ev_call (z := .bl true) (ea_cons (ev_var h1) (ea_cons (ev_var h2) (ea_cons h5 ea_nil))) fun H9 e9 Q' q' E' => ⟨_, _, _, _, by rw [h6]; rfl, TurnAt.ex h3 e9, TurnAt.ex h4 e9, q'⟩))
      refine q_when (b := false) (et_or (al rfl rfl hx8 hy8 (ev_op (ev_var rfl) (ev_var rfl) (rv_eqP (K := K) ha8 hb8)) rfl) fun _ => al rfl rfl hx8 hz8 ev_c (decide_eq_true rfl).symm) (fun hb => nomatch hb) fun _ H9 e9 => ?_
      have th : EvT (tNot (tB (tCall (sp_things (He.ga K "Turn")) [] E0 (tCons (tVar 6) tNil)))) σ0 H8 false := et_not (a := true) (et_B (ev_call (z := .bl true) (ea_cons (ev_var rfl) ea_nil) fun H9 e9 Q' q' E' => ⟨x, a, rfl, hx8.ex e9, sA, q'⟩))
      have tx : ∀ {i j : Nat} {u v : Addr} {c : Int × Int}, σ0[i]? = some (some (.ref u)) → σ0[j]? = some (some (.ref v)) → TurnAt (He.ga K "Turn") H8 u c → H8 v = some (.tup (tv c)) → Sm c → EvT (tNot (tB (tCall (sp_texts (He.ga K "Turn")) [] E0 (tCons (tVar i) (tCons (tVar j) tNil))))) σ0 H8 false := fun h1 h2 h3 h4 h5 => et_not (a := true) (et_B (ev_call (z := .bl true) (ea_cons (ev_var h1) (ea_cons (ev_var h2) ea_nil)) fun H9 e9 Q' q' E' => ⟨_, _, _, rfl, TurnAt.ex h3 e9, e9 _ _ h4, h5, q'⟩))
      refine q_when (b := false) (EvT.mono e9 (et_or th fun _ => et_or (tx rfl rfl hx8 ha8 sA) fun _ => tx rfl rfl hy8 hb8 sB)) (fun hb => nomatch hb) fun _ H10 e10 => ?_
      have rx : EvR (tVar 6) σ0 H8 (PT (He.ga K "Turn") a) := er_turn rfl hx8
      have ry : EvR (tVar 7) σ0 H8 (PT (He.ga K "Turn") b) := er_turn rfl hy8
      have ra : EvR (tVar 3) σ0 H8 (PP a) := er_pair rfl ha8
      have rb : EvR (tVar 4) σ0 H8 (PP b) := er_pair rfl hb8
      have lf : lessP a a = false := decide_eq_false (by rw [Int.mul_comm]; omega)
      have b1 : EvT _ σ0 H8 false := et_not (et_B (ev_isb (ev_below rx ry sA sB) (ev_less ra rb hA hB) rfl))
      have b2 : EvT _ σ0 H8 false := et_not (et_B (ev_isb (ev_below rx rx sA sA) (ev_c (v := .bl false)) lf))
      refine q_when (b := false) (EvT.mono (e9.trans e10) (et_or b1 fun _ => b2)) (fun hb => nomatch hb) fun _ H11 e11 => ?_
      have e811 := (e9.trans e10).trans e11
      have hx11 := hx8.ex e811
      have hy11 := hy8.ex e811
      have ha11 := e811 _ _ ha8
      have hb11 := e811 _ _ hb8
      -- the four pairs
      refine q_forO (K := K) (x_lst ?_)
      refine x_cons (Evl.EvU.go (eu_tup (ea_cons (ev_var rfl) (ea_cons (ev_var rfl) ea_nil)) (by show 2 ≤ 100000; decide)) fun t1 G1 _ g1 k1 => ?_)
      refine x_cons (Evl.EvU.go (eu_tup (ea_cons (ev_var rfl) (ea_cons (ev_var rfl) ea_nil)) (by show 2 ≤ 100000; decide)) fun t2 G2 _ g2 k2 => ?_)
      refine x_cons (Evl.EvU.go (eu_tup (ea_cons (ev_var rfl) (ea_cons (ev_var rfl) ea_nil)) (by show 2 ≤ 100000; decide)) fun t3 G3 _ g3 k3 => ?_)
      refine x_cons (Evl.EvU.go (eu_tup (ea_cons (ev_var rfl) (ea_cons (ev_var rfl) ea_nil)) (by show 2 ≤ 100000; decide)) fun t4 G4 _ g4 k4 => ?_)
      refine x_nil ⟨by show 4 ≤ sizeLine; decide, fun lt hlt => ?_⟩
      have kl : upd G4 lt (.lst [.ref t1, .ref t2, .ref t3, .ref t4]) lt = some (.lst [.ref t1, .ref t2, .ref t3, .ref t4]) := upd_same
      have gl : Ex G4 (upd G4 lt (.lst [.ref t1, .ref t2, .ref t3, .ref t4])) := Ex.new hlt
      have j1 := (((g2.trans g3).trans g4).trans gl) _ _ k1
      have j2 := ((g3.trans g4).trans gl) _ _ k2
      have j3 := (g4.trans gl) _ _ k3
      have j4 := gl _ _ k4
      have e11G : Ex H11 (upd G4 lt (.lst [.ref t1, .ref t2, .ref t3, .ref t4])) := (((g1.trans g2).trans g3).trans g4).trans gl
      generalize upd G4 lt (.lst [.ref t1, .ref t2, .ref t3, .ref t4]) = G at *
      have items : ∀ (j : Nat) (v : V), [V.ref t1, .ref t2, .ref t3, .ref t4][j]? = some v → ∃ (t u v' : Addr) (c d : Int × Int), v = .ref t ∧ G t = some (.tup [.ref u, .ref v']) ∧ TurnAt (He.ga K "Turn") G u c ∧ TurnAt (He.ga K "Turn") G v' d ∧ Sn 110 c ∧ Sn 110 d := fun j v hj => by
        have X := hx11.ex e11G
        have Y := hy11.ex e11G
        match j, hj with
        | 0, hj => cases hj; exact ⟨t1, x, y, a, b, rfl, j1, X, Y, hA, hB⟩
        | 1, hj => cases hj; exact ⟨t2, y, x, b, a, rfl, j2, Y, X, hB, hA⟩
        | 2, hj => cases hj; exact ⟨t3, x, x, a, a, rfl, j3, X, X, hA, hA⟩
        | 3, hj => cases hj; exact ⟨t4, x, y, a, b, rfl, j4, X, Y, hA, hB⟩
        | n + 4, hj => simp at hj
      refine ⟨lt, rfl, ⟨_, sq_of kl⟩, for_list (K := K) (xs := [V.ref t1, .ref t2, .ref t3, .ref t4]) (fun _ σ' H' => Ex G H' ∧ ∃ v9 v10 v11, σ' = [some (.ref l), some (.int (i : Int)), some (.ref p), some (.ref r), some (.ref q), some (.int (1 + d)), some (.ref x), some (.ref y), some (.ref z), v9, v10, v11]) ⟨Ex.refl _, _, _, _, rfl⟩ (fun _ σ' H' _ ⟨eG, _⟩ => sq_of (eG _ _ kl)) ?_ ?_⟩
      · rintro j v σ' J hj ⟨eG, w9, w10, w11, rfl⟩
        obtain ⟨t, u, v', c, dd, rfl, ht, hu, hv, sc, sd⟩ := items j v hj
        refine ⟨t, _, rfl, st_of (eG _ _ ht), rfl, _, _, rfl, ?_⟩
        refine ⟨_, _, rfl, ?_⟩
        refine ⟨rfl, ?_⟩
        have hu := hu.ex eG
        have hv := hv.ex eG
        refine q_set (EvR.go (er_m2 (g := Tn.apart) (er_turn rfl hu) (er_turn rfl hv) sc.sm sd.sm) fun fa J1 ej hfa => ?_)
        obtain ⟨df, hdf⟩ := id hfa
        refine s_when (b := false) (et_or (et_not (et_B (ev_cb (ea_cons (ev_var rfl) (ea_cons ev_c ea_nil)) (rc_isiC hdf T.cl_Turn T.own_Turn.is)))) fun _ => et_neP (K := K) (er_pairof (er_turn rfl hfa)) (er_lapart (er_pairof (er_turn rfl (hu.ex ej))) (er_pairof (er_turn rfl (hv.ex ej))) sc sd) rfl) (fun hb => nomatch hb) fun _ J2 ej2 => ⟨(eG.trans ej).trans ej2, _, _, _, rfl⟩
      · rintro σ' J ⟨eG, w9, w10, w11, rfl⟩
        have e8J : Ex H8 J := (e811.trans e11G).trans eG
        have hxJ := hx8.ex e8J
        have hyJ := hy8.ex e8J
        have haJ := e8J _ _ ha8
        have hbJ := e8J _ _ hb8
        let σ2 : L2.St := [some (.ref l), some (.int (i : Int)), some (.ref p), some (.ref r), some (.ref q), some (.int (1 + d)), some (.ref x), some (.ref y), some (.ref z), w9, w10, w11]
        have rx : EvR (tVar 6) σ2 J (PT (He.ga K "Turn") a) := er_turn rfl hxJ
        have ry : EvR (tVar 7) σ2 J (PT (He.ga K "Turn") b) := er_turn rfl hyJ
        have ra : EvR (tVar 3) σ2 J (PP a) := er_pair rfl haJ
        have rb : EvR (tVar 4) σ2 J (PP b) := er_pair rfl hbJ
        have aa : Tn.apart a a = (0, 1) := by
          have z := Tn.off_self ha.1
          unfold Tn.apart
          rw [z]
          rfl
        have c1 : EvT _ σ2 J false := et_neP (K := K) (er_pairof (er_m2 (C := He.ga K "Turn") (mn := "apart") (g := Tn.apart) rx rx sA sA)) (er_tup2 (x := 0) (y := 1)) aa
        have c2 : EvT _ σ2 J false := et_neP (K := K) (er_pairof (er_m2 (C := He.ga K "Turn") (mn := "apart") (g := Tn.apart) rx ry sA sB)) (er_lapart ra rb hA hB) rfl
        refine q_when (b := false) (et_or c1 fun _ => c2) (fun hb => nomatch hb) fun _ J1 j1' => ?_
        have c3 : EvT _ σ2 J false := et_not (et_B (ev_isb (ev_below rx ry sA sB) (ev_less ra rb hA hB) rfl))
        refine q_when (b := false) (EvT.mono j1' c3) (fun hb => nomatch hb) fun _ J2 j2' => ?_
        have c4 : EvT _ σ2 J false := et_neP (K := K) (er_pairof rx) ra rfl
        have c5 : EvT _ σ2 J false := et_neP (K := K) (er_pairof ry) rb rfl
        exact s_when (b := false) (EvT.mono (j1'.trans j2') (et_or c4 fun _ => c5)) (fun hb => nomatch hb) fun _ J3 j3' => ⟨((e08.trans e8J).trans (j1'.trans j2')).trans j3', _, _, _, _, _, _, _, _, _, _, _, rfl⟩
    · rintro σ' H' ⟨e, v1, v2, v3, v4, v5, v6, v7, v8, v9, v10, v11, rfl⟩
      exact s_ret ev_c fun H1 e1 => k H1
end
end K02

namespace K02
open PySem PySem.Spec PyProof.Rows L2 Evl
theorem facts {P : Program} {w : World} {K : PySem.W.Frag} {h : Heap} {mg : Str → Option Value} {f : Addr} (X : K.In h) (G : h.Ns mainGlobals mg) (hfa : mg ("law" : Str) = some (.ref f)) (c : He.SaysD fa fn K) (cx : ex K = true) :
    ∃ fd : FuncData, (∀ (s : Shared) (v : Value), BindsTo s fd ⟨[v], []⟩ [("_law_script", v)]) ∧ ∀ base : Heap, K.In base → base.Ns mainGlobals mg → FnOk P w K mg base CX0 7 f fd ["_law_script"] (sp_law K) := by
  obtain ⟨cx0, cx1⟩ := He.ba cx
  have T : Txt K mg := { g_Turn := He.glo_ok X G (c.fact 35 (f := .glo "Turn") rfl), cl_Turn := He.cls_ok (c.fact 36 (f := .cls "Turn") rfl), mk_Turn := He.mkr_ok (c.fact 37 (f := .mkr "Turn") rfl), no_Turn_top := He.noat_ok (c.fact 38 (f := .noat "Turn" "top") rfl), no_Turn_bottom := He.noat_ok (c.fact 39 (f := .noat "Turn" "bottom") rfl), m_Turn___eq__ := He.meth_ok (c.fact 40 (f := .meth "Turn" "__eq__") rfl), m_Turn___str__ := He.meth_ok (c.fact 41 (f := .meth "Turn" "__str__") rfl), m_Turn___repr__ := He.meth_ok (c.fact 42 (f := .meth "Turn" "__repr__") rfl), m_Turn_minus := He.meth_ok (c.fact 43 (f := .meth "Turn" "minus") rfl), m_Turn_below := He.meth_ok (c.fact 44 (f := .meth "Turn" "below") rfl), m_Turn_apart := He.meth_ok (c.fact 45 (f := .meth "Turn" "apart") rfl), b_isinstance := He.free_ok X G (c.fact 22 (f := .free "isinstance") rfl), b_int := He.free_ok X G (c.fact 23 (f := .free "int") rfl), b_bool := He.free_ok X G (c.fact 24 (f := .free "bool") rfl), b_abs := He.free_ok X G (c.fact 25 (f := .free "abs") rfl), b_len := He.free_ok X G (c.fact 26 (f := .free "len") rfl), b_divmod := He.free_ok X G (c.fact 27 (f := .free "divmod") rfl), b_range := He.free_ok X G (c.fact 28 (f := .free "range") rfl), b_max := He.free_ok X G (c.fact 29 (f := .free "max") rfl), b_min := He.free_ok X G (c.fact 30 (f := .free "min") rfl), b_str := He.free_ok X G (c.fact 31 (f := .free "str") rfl), b_repr := He.free_ok X G (c.fact 32 (f := .free "repr") rfl), b_list := He.free_ok X G (c.fact 33 (f := .free "list") rfl), b_any := He.free_ok X G (c.fact 34 (f := .free "any") rfl), g_PIECE := He.int_ok X G (c.fact 46 (f := .int "PIECE" 1000000000000000000) rfl), own_Turn := ownB_ok cx0, dig := cx1 }
  obtain ⟨fd_is_whole, F0_is_whole⟩ := c.def_ 0 (d := d_is_whole) rfl
  have F_is_whole : FnP K "is_whole" s_is_whole (He.ga K "is_whole") fd_is_whole := F0_is_whole
  have g_is_whole := He.glo_ok X G (c.fact 0 (f := .glo "is_whole") rfl)
  have b_is_whole : Binds K fd_is_whole ["thing"] [] := F_is_whole.bindsN fun _ _ _ _ _ _ us hl => match us, hl with | [_], _ => rfl
  obtain ⟨fd_common, F0_common⟩ := c.def_ 1 (d := d_common) rfl
  have F_common : FnP K "common" s_common (He.ga K "common") fd_common := F0_common
  have g_common := He.glo_ok X G (c.fact 1 (f := .glo "common") rfl)
  have b_common : Binds K fd_common ["one", "other"] [] := F_common.bindsN fun _ _ _ _ _ _ us hl => match us, hl with | [_, _], _ => rfl
  obtain ⟨fd_figures_of, F0_figures_of⟩ := c.def_ 2 (d := d_figures_of) rfl
  have F_figures_of : FnP K "figures_of" s_figures_of (He.ga K "figures_of") fd_figures_of := F0_figures_of
  have g_figures_of := He.glo_ok X G (c.fact 2 (f := .glo "figures_of") rfl)
  have b_figures_of : Binds K fd_figures_of ["number"] [] := F_figures_of.bindsN fun _ _ _ _ _ _ us hl => match us, hl with | [_], _ => rfl
  obtain ⟨fd_must_be_turn, F0_must_be_turn⟩ := c.def_ 3 (d := d_must_be_turn) rfl
  have F_must_be_turn : FnP K "must_be_turn" s_must_be_turn (He.ga K "must_be_turn") fd_must_be_turn := F0_must_be_turn
  have g_must_be_turn := He.glo_ok X G (c.fact 3 (f := .glo "must_be_turn") rfl)
  have b_must_be_turn : Binds K fd_must_be_turn ["thing"] [] := F_must_be_turn.bindsN fun _ _ _ _ _ _ us hl => match us, hl with | [_], _ => rfl
  obtain ⟨fd_Turn_init, F0_Turn_init⟩ := c.def_ 4 (d := d_Turn_init) rfl
  have F_Turn_init : FunD K "__init__" "Turn.__init__" (defArgs s_Turn_init) (defBody s_Turn_init) (defScope s_Turn_init) [.int 1] [] (He.ma K (He.ga K "Turn") "__init__") fd_Turn_init := F0_Turn_init
  obtain ⟨fd_Turn___eq__, F0_Turn___eq__⟩ := c.def_ 5 (d := d_Turn___eq__) rfl
  have F_Turn___eq__ : FnM K "__eq__" "Turn.__eq__" s_Turn___eq__ (He.ma K (He.ga K "Turn") "__eq__") fd_Turn___eq__ := F0_Turn___eq__
  have b_Turn___eq__ : Binds K fd_Turn___eq__ ["self", "other"] [] := F_Turn___eq__.bindsN fun _ _ _ _ _ _ us hl => match us, hl with | [_, _], _ => rfl
  obtain ⟨fd_Turn___str__, F0_Turn___str__⟩ := c.def_ 6 (d := d_Turn___str__) rfl
  have F_Turn___str__ : FnM K "__str__" "Turn.__str__" s_Turn___str__ (He.ma K (He.ga K "Turn") "__str__") fd_Turn___str__ := F0_Turn___str__
  have b_Turn___str__ : Binds K fd_Turn___str__ ["self"] [] := F_Turn___str__.bindsN fun _ _ _ _ _ _ us hl => match us, hl with | [_], _ => rfl
  obtain ⟨fd_Turn___repr__, F0_Turn___repr__⟩ := c.def_ 7 (d := d_Turn___repr__) rfl
  have F_Turn___repr__ : FnM K "__repr__" "Turn.__repr__" s_Turn___repr__ (He.ma K (He.ga K "Turn") "__repr__") fd_Turn___repr__ := F0_Turn___repr__
  have b_Turn___repr__ : Binds K fd_Turn___repr__ ["self"] [] := F_Turn___repr__.bindsN fun _ _ _ _ _ _ us hl => match us, hl with | [_], _ => rfl
  obtain ⟨fd_Turn_minus, F0_Turn_minus⟩ := c.def_ 8 (d := d_Turn_minus) rfl
  have F_Turn_minus : FnM K "minus" "Turn.minus" s_Turn_minus (He.ma K (He.ga K "Turn") "minus") fd_Turn_minus := F0_Turn_minus
  have b_Turn_minus : Binds K fd_Turn_minus ["self", "other"] [] := F_Turn_minus.bindsN fun _ _ _ _ _ _ us hl => match us, hl with | [_, _], _ => rfl
  obtain ⟨fd_Turn_below, F0_Turn_below⟩ := c.def_ 9 (d := d_Turn_below) rfl
  have F_Turn_below : FnM K "below" "Turn.below" s_Turn_below (He.ma K (He.ga K "Turn") "below") fd_Turn_below := F0_Turn_below
  have b_Turn_below : Binds K fd_Turn_below ["self", "other"] [] := F_Turn_below.bindsN fun _ _ _ _ _ _ us hl => match us, hl with | [_, _], _ => rfl
  obtain ⟨fd_Turn_apart, F0_Turn_apart⟩ := c.def_ 10 (d := d_Turn_apart) rfl
  have F_Turn_apart : FnM K "apart" "Turn.apart" s_Turn_apart (He.ma K (He.ga K "Turn") "apart") fd_Turn_apart := F0_Turn_apart
  have b_Turn_apart : Binds K fd_Turn_apart ["self", "other"] [] := F_Turn_apart.bindsN fun _ _ _ _ _ _ us hl => match us, hl with | [_, _], _ => rfl
  obtain ⟨fd_l_cell, F0_l_cell⟩ := c.def_ 11 (d := d_l_cell) rfl
  have F_l_cell : FnP K "_law_cell" s_l_cell (He.ga K "_law_cell") fd_l_cell := F0_l_cell
  have g_l_cell := He.glo_ok X G (c.fact 4 (f := .glo "_law_cell") rfl)
  have b_l_cell : Binds K fd_l_cell ["_law_script", "_law_k"] [] := F_l_cell.bindsN fun _ _ _ _ _ _ us hl => match us, hl with | [_, _], _ => rfl
  obtain ⟨fd_l_pool, F0_l_pool⟩ := c.def_ 12 (d := d_l_pool) rfl
  have F_l_pool : FnP K "_law_pool" s_l_pool (He.ga K "_law_pool") fd_l_pool := F0_l_pool
  have g_l_pool := He.glo_ok X G (c.fact 5 (f := .glo "_law_pool") rfl)
  have b_l_pool : Binds K fd_l_pool ["_law_cell_here"] [] := F_l_pool.bindsN fun _ _ _ _ _ _ us hl => match us, hl with | [_], _ => rfl
  obtain ⟨fd_l_take, F0_l_take⟩ := c.def_ 13 (d := d_l_take) rfl
  have F_l_take : FnP K "_law_take" s_l_take (He.ga K "_law_take") fd_l_take := F0_l_take
  have g_l_take := He.glo_ok X G (c.fact 6 (f := .glo "_law_take") rfl)
  have b_l_take : Binds K fd_l_take ["_law_pool_here", "_law_many"] [] := F_l_take.bindsN fun _ _ _ _ _ _ us hl => match us, hl with | [_, _], _ => rfl
  obtain ⟨fd_l_low, F0_l_low⟩ := c.def_ 14 (d := d_l_low) rfl
  have F_l_low : FnP K "_law_low" s_l_low (He.ga K "_law_low") fd_l_low := F0_l_low
  have g_l_low := He.glo_ok X G (c.fact 7 (f := .glo "_law_low") rfl)
  have b_l_low : Binds K fd_l_low ["_law_top", "_law_bottom"] [] := F_l_low.bindsN fun _ _ _ _ _ _ us hl => match us, hl with | [_, _], _ => rfl
  obtain ⟨fd_l_part, F0_l_part⟩ := c.def_ 15 (d := d_l_part) rfl
  have F_l_part : FnP K "_law_part" s_l_part (He.ga K "_law_part") fd_l_part := F0_l_part
  have g_l_part := He.glo_ok X G (c.fact 8 (f := .glo "_law_part") rfl)
  have b_l_part : Binds K fd_l_part ["_law_top", "_law_bottom"] [] := F_l_part.bindsN fun _ _ _ _ _ _ us hl => match us, hl with | [_, _], _ => rfl
  obtain ⟨fd_l_on, F0_l_on⟩ := c.def_ 16 (d := d_l_on) rfl
  have F_l_on : FnP K "_law_on" s_l_on (He.ga K "_law_on") fd_l_on := F0_l_on
  have g_l_on := He.glo_ok X G (c.fact 9 (f := .glo "_law_on") rfl)
  have b_l_on : Binds K fd_l_on ["_law_one", "_law_other_here"] [] := F_l_on.bindsN fun _ _ _ _ _ _ us hl => match us, hl with | [_, _], _ => rfl
  obtain ⟨fd_l_off, F0_l_off⟩ := c.def_ 17 (d := d_l_off) rfl
  have F_l_off : FnP K "_law_off" s_l_off (He.ga K "_law_off") fd_l_off := F0_l_off
  have g_l_off := He.glo_ok X G (c.fact 10 (f := .glo "_law_off") rfl)
  have b_l_off : Binds K fd_l_off ["_law_one", "_law_other_here"] [] := F_l_off.bindsN fun _ _ _ _ _ _ us hl => match us, hl with | [_, _], _ => rfl
  obtain ⟨fd_l_less, F0_l_less⟩ := c.def_ 18 (d := d_l_less) rfl
  have F_l_less : FnP K "_law_less" s_l_less (He.ga K "_law_less") fd_l_less := F0_l_less
  have g_l_less := He.glo_ok X G (c.fact 11 (f := .glo "_law_less") rfl)
  have b_l_less : Binds K fd_l_less ["_law_one", "_law_other_here"] [] := F_l_less.bindsN fun _ _ _ _ _ _ us hl => match us, hl with | [_, _], _ => rfl
  obtain ⟨fd_l_apart, F0_l_apart⟩ := c.def_ 19 (d := d_l_apart) rfl
  have F_l_apart : FnP K "_law_apart" s_l_apart (He.ga K "_law_apart") fd_l_apart := F0_l_apart
  have g_l_apart := He.glo_ok X G (c.fact 12 (f := .glo "_law_apart") rfl)
  have b_l_apart : Binds K fd_l_apart ["_law_one", "_law_other_here"] [] := F_l_apart.bindsN fun _ _ _ _ _ _ us hl => match us, hl with | [_, _], _ => rfl
  obtain ⟨fd_l_number, F0_l_number⟩ := c.def_ 20 (d := d_l_number) rfl
  have F_l_number : FnP K "_law_number" s_l_number (He.ga K "_law_number") fd_l_number := F0_l_number
  have g_l_number := He.glo_ok X G (c.fact 13 (f := .glo "_law_number") rfl)
  have b_l_number : Binds K fd_l_number ["_law_pool_here"] [] := F_l_number.bindsN fun _ _ _ _ _ _ us hl => match us, hl with | [_], _ => rfl
  obtain ⟨fd_l_is, F0_l_is⟩ := c.def_ 21 (d := d_l_is) rfl
  have F_l_is : FnP K "_law_is" s_l_is (He.ga K "_law_is") fd_l_is := F0_l_is
  have g_l_is := He.glo_ok X G (c.fact 14 (f := .glo "_law_is") rfl)
  have b_l_is : Binds K fd_l_is ["_law_found", "_law_due"] [] := F_l_is.bindsN fun _ _ _ _ _ _ us hl => match us, hl with | [_, _], _ => rfl
  obtain ⟨fd_l_pair, F0_l_pair⟩ := c.def_ 22 (d := d_l_pair) rfl
  have F_l_pair : FnP K "_law_pair" s_l_pair (He.ga K "_law_pair") fd_l_pair := F0_l_pair
  have g_l_pair := He.glo_ok X G (c.fact 15 (f := .glo "_law_pair") rfl)
  have b_l_pair : Binds K fd_l_pair ["_law_turn"] [] := F_l_pair.bindsN fun _ _ _ _ _ _ us hl => match us, hl with | [_], _ => rfl
  obtain ⟨fd_l_drawn, F0_l_drawn⟩ := c.def_ 23 (d := d_l_drawn) rfl
  have F_l_drawn : FnP K "_law_drawn" s_l_drawn (He.ga K "_law_drawn") fd_l_drawn := F0_l_drawn
  have g_l_drawn := He.glo_ok X G (c.fact 16 (f := .glo "_law_drawn") rfl)
  have b_l_drawn : Binds K fd_l_drawn ["_law_pool_here"] [] := F_l_drawn.bindsN fun _ _ _ _ _ _ us hl => match us, hl with | [_], _ => rfl
  obtain ⟨fd_l_other, F0_l_other⟩ := c.def_ 24 (d := d_l_other) rfl
  have F_l_other : FnP K "_law_other" s_l_other (He.ga K "_law_other") fd_l_other := F0_l_other
  have g_l_other := He.glo_ok X G (c.fact 17 (f := .glo "_law_other") rfl)
  have b_l_other : Binds K fd_l_other ["_law_pool_here", "_law_one"] [] := F_l_other.bindsN fun _ _ _ _ _ _ us hl => match us, hl with | [_, _], _ => rfl
  obtain ⟨fd_l_alike_right, F0_l_alike_right⟩ := c.def_ 25 (d := d_l_alike_right) rfl
  have F_l_alike_right : FnP K "_law_alike_right" s_l_alike_right (He.ga K "_law_alike_right") fd_l_alike_right := F0_l_alike_right
  have g_l_alike_right := He.glo_ok X G (c.fact 18 (f := .glo "_law_alike_right") rfl)
  have b_l_alike_right : Binds K fd_l_alike_right ["_law_first", "_law_second", "_law_due"] [] := F_l_alike_right.bindsN fun _ _ _ _ _ _ us hl => match us, hl with | [_, _, _], _ => rfl
  obtain ⟨fd_l_things_right, F0_l_things_right⟩ := c.def_ 26 (d := d_l_things_right) rfl
  have F_l_things_right : FnP K "_law_things_right" s_l_things_right (He.ga K "_law_things_right") fd_l_things_right := F0_l_things_right
  have g_l_things_right := He.glo_ok X G (c.fact 19 (f := .glo "_law_things_right") rfl)
  have b_l_things_right : Binds K fd_l_things_right ["_law_turn"] [] := F_l_things_right.bindsN fun _ _ _ _ _ _ us hl => match us, hl with | [_], _ => rfl
  obtain ⟨fd_l_texts_right, F0_l_texts_right⟩ := c.def_ 27 (d := d_l_texts_right) rfl
  have F_l_texts_right : FnP K "_law_texts_right" s_l_texts_right (He.ga K "_law_texts_right") fd_l_texts_right := F0_l_texts_right
  have g_l_texts_right := He.glo_ok X G (c.fact 20 (f := .glo "_law_texts_right") rfl)
  have b_l_texts_right : Binds K fd_l_texts_right ["_law_turn", "_law_pair_here"] [] := F_l_texts_right.bindsN fun _ _ _ _ _ _ us hl => match us, hl with | [_, _], _ => rfl
  obtain ⟨fd_law, F0_law⟩ := c.def_ 28 (d := d_law) rfl
  have F_law : FnP K "law" s_law (He.ga K "law") fd_law := F0_law
  have g_law := He.glo_ok X G (c.fact 21 (f := .glo "law") rfl)
  have e := hfa.symm.trans g_law
  cases e
  have bl := FunD.bindsA (ps := ["_law_script"]) F_law fun _ _ _ _ _ _ us hl => match us, hl with | [_], _ => rfl
  refine ⟨fd_law, fun s v => bl s [v] rfl, fun base _ _ => ?_⟩
  obtain ⟨d3, v3, b3⟩ := F_Turn_init.binds1 (ps := ["self", "top", "bottom"]) 3 1 (by simp) rfl fun T kV doc pm an cdv ct us its h1 h2 => match us, its, h1, h2 with | [_, _, _], [_], _, _ => ⟨_, rfl, rfl⟩
  obtain ⟨d2, v2, b2⟩ := F_Turn_init.binds1 (ps := ["self", "top", "bottom"]) 2 0 (by simp) rfl fun T kV doc pm an cdv ct us its h1 h2 => match us, its, h1, h2 with | [_, _], [_], _, _ => ⟨_, rfl, rfl⟩
  obtain ⟨its, kb⟩ := F_Turn_init.kbindsD (ps := ["self", "top", "bottom"]) 2 ["bottom"] (fun us _ ws => us ++ ws) (by simp) (fun a _ b => a.append b) fun T kV doc pm an cdv ct us its ws h1 h2 h3 => match us, its, ws, h1, h2, h3 with | [_, _], [_], [_], _, _, _ => ⟨_, rfl, rfl⟩
  have e3 : d3 = [] := by
    cases v3
    rfl
  subst e3
  have D1 : Dn P w K mg base 1 "is_whole" ["thing"] sp_is_whole := ⟨_, _, ok_is_whole F_is_whole T, g_is_whole, F_is_whole.kp, b_is_whole⟩
  have D2 : Dn P w K mg base 1 "common" ["one", "other"] sp_common := ⟨_, _, ok_common F_common T, g_common, F_common.kp, b_common⟩
  have D3 : Dn P w K mg base 1 "must_be_turn" ["thing"] (sp_must (He.ga K "Turn")) := ⟨_, _, ok_must F_must_be_turn T, g_must_be_turn, F_must_be_turn.kp, b_must_be_turn⟩
  have D4 : Dn P w K mg base 1 "figures_of" ["number"] sp_fig := ⟨_, _, ok_fig F_figures_of T, g_figures_of, F_figures_of.kp, b_figures_of⟩
  have TC : Tc P w K mg base := ⟨_, ok_init F_Turn_init T D1 D2, b3, ⟨d2, v2, b2⟩, its, kb⟩
  have Gm := ok_minus (base := base) F_Turn_minus T D3 TC
  have Gb := ok_below (P := P) (w := w) (base := base) F_Turn_below T D3
  have Ga := ok_apart F_Turn_apart T Gm b_Turn_minus
  have Rq : Req P w K mg base := FnOk.raw0 (ok_eq F_Turn___eq__ T) b_Turn___eq__
  have Gs := ok_str (P := P) (w := w) (base := base) F_Turn___str__ T D4
  have Gr := ok_repr (P := P) (w := w) (base := base) F_Turn___repr__ T D4
  have Dc : Dn P w K mg base 1 "_law_cell" ["_law_script", "_law_k"] (sp_cell K) := ⟨_, _, ok_cell F_l_cell T, g_l_cell, F_l_cell.kp, b_l_cell⟩
  have Dp' : Dn P w K mg base 1 "_law_pool" ["_law_cell_here"] sp_pool := ⟨_, _, ok_pool F_l_pool T, g_l_pool, F_l_pool.kp, b_l_pool⟩
  have Dt : Dn P w K mg base 1 "_law_take" ["_law_pool_here", "_law_many"] sp_take := ⟨_, _, ok_take F_l_take T, g_l_take, F_l_take.kp, b_l_take⟩
  have Dl : Dn P w K mg base 1 "_law_low" ["_law_top", "_law_bottom"] sp_low := ⟨_, _, ok_low F_l_low T, g_l_low, F_l_low.kp, b_l_low⟩
  have Dq : Dn P w K mg base 2 "_law_part" ["_law_top", "_law_bottom"] sp_part := ⟨_, _, ok_part F_l_part T Dl, g_l_part, F_l_part.kp, b_l_part⟩
  have Don : Dn P w K mg base 3 "_law_on" ["_law_one", "_law_other_here"] (sp_pair Tn.on) := ⟨_, _, ok_on F_l_on T Dq, g_l_on, F_l_on.kp, b_l_on⟩
  have Dof : Dn P w K mg base 3 "_law_off" ["_law_one", "_law_other_here"] (sp_pair Tn.off) := ⟨_, _, ok_off F_l_off T Dq, g_l_off, F_l_off.kp, b_l_off⟩
  have Dle : Dn P w K mg base 1 "_law_less" ["_law_one", "_law_other_here"] sp_less := ⟨_, _, ok_less F_l_less T, g_l_less, F_l_less.kp, b_l_less⟩
  have Dap : Dn P w K mg base 4 "_law_apart" ["_law_one", "_law_other_here"] sp_lapart := ⟨_, _, ok_lapart F_l_apart T Dof Dle, g_l_apart, F_l_apart.kp, b_l_apart⟩
  have Dn' : Dn P w K mg base 2 "_law_number" ["_law_pool_here"] sp_number := ⟨_, _, ok_number F_l_number T Dt, g_l_number, F_l_number.kp, b_l_number⟩
  have Di : Dn P w K mg base 1 "_law_is" ["_law_found", "_law_due"] sp_isb := ⟨_, _, ok_isb F_l_is T, g_l_is, F_l_is.kp, b_l_is⟩
  have Dpr : Dn P w K mg base 1 "_law_pair" ["_law_turn"] (sp_pairof (He.ga K "Turn")) := ⟨_, _, ok_pairof F_l_pair T, g_l_pair, F_l_pair.kp, b_l_pair⟩
  have Ddr : Dn P w K mg base 3 "_law_drawn" ["_law_pool_here"] sp_drawn := ⟨_, _, ok_drawn F_l_drawn T Dn' Dq, g_l_drawn, F_l_drawn.kp, b_l_drawn⟩
  have Dot : Dn P w K mg base 4 "_law_other" ["_law_pool_here", "_law_one"] sp_other := ⟨_, _, ok_other F_l_other T Dt Don Dof Ddr, g_l_other, F_l_other.kp, b_l_other⟩
  have Dal : Dn P w K mg base 4 "_law_alike_right" ["_law_first", "_law_second", "_law_due"] (sp_alike (He.ga K "Turn")) := ⟨_, _, ok_alike F_l_alike_right T Di Rq, g_l_alike_right, F_l_alike_right.kp, b_l_alike_right⟩
  have Dth : Dn P w K mg base 6 "_law_things_right" ["_law_turn"] (sp_things (He.ga K "Turn")) := ⟨_, _, ok_things F_l_things_right T Di Dpr Rq Gs b_Turn___str__ Gr b_Turn___repr__, g_l_things_right, F_l_things_right.kp, b_l_things_right⟩
  have Dtx : Dn P w K mg base 5 "_law_texts_right" ["_law_turn", "_law_pair_here"] (sp_texts (He.ga K "Turn")) := ⟨_, _, ok_texts F_l_texts_right T Gs b_Turn___str__ Gr b_Turn___repr__, g_l_texts_right, F_l_texts_right.kp, b_l_texts_right⟩
  exact ok_law F_law T TC Dc Dp' Dt Ddr Dot Di Dpr Dle Dap Dal Dth Dtx Gb b_Turn_below Ga b_Turn_apart
end K02
open PySem PySem.W PySem.Calls PyProof.Rows
set_option maxRecDepth 100000 in
set_option maxHeartbeats 0 in
theorem PySem.Challenge.cw_rosenames_k02_turns_compared_and_shown_holds : PySem.Challenge.rw_rosenames_k02_turns_compared_and_shown.Holds := by
  w_on; o_law
  refine HandSHeadRun.head_any (r := OpenLaw.row PySem.Challenge.rw_rosenames_k02_turns_compared_and_shown) (q := view (OpenLaw.row PySem.Challenge.rw_rosenames_k02_turns_compared_and_shown).prog [30]) (H := K02.hk) (ob := K02.ob) (M := 6000) (loose := K02.names) (d := HandSHeadRun.topDef (OpenLaw.row PySem.Challenge.rw_rosenames_k02_turns_compared_and_shown).prog 30) (kwd := []) K02.ob_eq
    (by kernel_rfl) (fun s => by kernel_rfl) K02.run (by kernel_rfl) (by kernel_rfl) (by kernel_rfl) (by rfl) (by first | assumption | decide +kernel) (by decide +kernel) ⟨rfl, rfl, rfl, rfl, rfl, by decide +kernel⟩ ?hw ?hc
  case hw => w_witness2
  case hc =>
    refine L2.walk_ofE (l := PySem.Challenge.rw_rosenames_k02_turns_compared_and_shown) (n := 63) (k := 7) (x := "_law_script") (CX := L2.CX0) rfl (by decide) (by kernel_rfl) ⟨rfl, by decide, by decide⟩ ?F (fun _ _ _ _ z => z)
    intro w mg fa h Y G hmg0
    obtain ⟨K, KX, c, cx⟩ := Y
    have hmg : mg ("law" : PySem.Str) = some (.ref fa) := by
      have e : (HandSHeadRun.topDef (OpenLaw.row PySem.Challenge.rw_rosenames_k02_turns_compared_and_shown).prog 30).name = ("law" : PySem.Str) := by kernel_rfl
      rw [← e]
      exact hmg0
    obtain ⟨fd, hb, hF⟩ := K02.facts (P := (PySem.Challenge.rw_rosenames_k02_turns_compared_and_shown).prog) (w := w) KX G hmg c cx
    exact ⟨K, fd, K02.sp_law K, KX, hb, fun H a ns hl _ hS => ⟨a, ns, rfl, hS, hl, fun _ => rfl⟩, hF⟩

