import PyProof.Rows.All
import Wide.All
import OpenK.AllK
import Wide.FinOn
import KE.KStateDown
import HandS.ForMost
import HandS.Exc
import HandS.Defaults
import HandS.MakeKw
import HandS.IsInst
import HandS.Wide
import HandS.WideBits
import HandS.Evl
import HandS.WordsExc
import HandS.Head0
import HandS.Head1
import HandS.Head2
import HandS.HeadEnd
import HandS.HeadHook1
import HandS.HeadHook2
import KE.KExcIs
import HandS.ExcInit
import HandS.Iter
import PyProof.EnumMake
import PyProof.Draws
import PyProof.StrOps2
import HandS.Zip
import HandS.SetFor
import HandS.WideMore
import HandS.DictComp
import PyProof.Rows.CountFlat
import HandS.EndBits
import KE.KFmtOwn
import PyProof.InstNe
import HandS.OwnEq
import HandS.More
import HandS.SlotsOwn
import HandS.FStr
import HandS.Style
import PyProof.FString3
import PyProof.Rows.StrIntSpec
import HandS.Text
import HandS.Strs
import HandS.Sort
import HandS.StrMore
import HandS.RaiseMore
import HandS.TupAny
import HandS.TupMul
import HandS.TryOnly
import HandS.CallSlots
import HandS.DictSub
import HandS.Lambda
import KE.GoesMore
import HandS.SortInts
import KE.KExcInit
import HandS.Deep
import PyProof.Rows.RegReprOcc
import HandS.HotCalls
import PySem.Challenge.RW_rosenames_k41_walks_as_logs
set_option Elab.async false
set_option linter.all false
set_option maxRecDepth 100000
set_option maxHeartbeats 0
/-! The head's Hook with one Bool more; a def by its name; what an own class needs for isinstance. -/
namespace L2
open PySem PySem.Spec PyProof.Rows
/-- what the module's names reach, and the cell of the statics -/
def asN (g : Addr → Option Obj) (n : Nat) : List Addr := cStatics :: He.asD g n
def hookM (n : Nat) (fa : List He.Fa) (fn : List He.DefD) (ex : PySem.W.Frag → Bool) : PySem.W.Hook where
  α := He.AlD × Bool
  obs := fun s => (He.obsD fa fn (He.frG s.heap.get? (asN s.heap.get? n)), ex (He.frG s.heap.get? (asN s.heap.get? n)))
  val := fun _ => (He.valD fn, true)
  says := fun _ h => ∃ K : PySem.W.Frag, K.In h ∧ He.SaysD fa fn K ∧ ex K = true
  of := fun _ _ e => ⟨_, He.frG_in, congrArg (fun z : He.AlD × Bool => z.1) e, congrArg (fun z : He.AlD × Bool => z.2) e⟩
  keeps := fun _ _ _ ⟨K, hK, c⟩ k => ⟨K, PySem.W.Frag.In.keeps hK k, c⟩
/-- isinstance of an own class's instances -/
structure IsC (K : PySem.W.Frag) (C : Addr) : Prop where
  ha : PySem.W.findIn K (.ref C) "__class__" = some (some (.builtin "object.__class__"))
  hn : PySem.W.specialIn K (.builtin "object.__class__") "__get__" = some (some (.builtin "getset_descriptor.__get__"))
  htk : PySem.W.takesIn K (.builtin "object.__class__") = some true
  hm : PySem.W.mroIn K C (.type "object") = some true
def tyB (K : PySem.W.Frag) (x : Str) : Bool :=
  He.eqO (PySem.W.findIn K (.ref (He.ga K x)) "__class__") (some (some (.builtin "object.__class__"))) &&
  (He.eqO (PySem.W.specialIn K (.builtin "object.__class__") "__get__") (some (some (.builtin "getset_descriptor.__get__"))) &&
  (decide (PySem.W.takesIn K (.builtin "object.__class__") = some true) && decide (PySem.W.mroIn K (He.ga K x) (.type "object") = some true)))
theorem tyB_ok {K : PySem.W.Frag} {x : Str} (h : tyB K x = true) : IsC K (He.ga K x) := by
  obtain ⟨h1, h⟩ := He.ba h
  obtain ⟨h2, h⟩ := He.ba h
  obtain ⟨h3, h4⟩ := He.ba h
  exact ⟨He.eqO_ok h1, He.eqO_ok h2, of_decide_eq_true h3, of_decide_eq_true h4⟩
/-- a def of the module by its name: where it stands, what it promises, how it binds -/
structure Dn (P : Program) (w : World) (K : PySem.W.Frag) (mg : Str → Option Value) (base : Heap) (k : Nat) (x : Str) (ps : List Str) (sp : Sp) : Prop where
  ex : ∃ (f : Addr) (fd : FuncData), FnOk P w K mg base CX0 k f fd ps sp ∧ mg x = some (.ref f) ∧ PySem.W.keepIn K (.ref f) = true ∧ Binds K fd ps []
section
variable {X : Cx} {k : Nat} {x : Str} {ps : List Str} {sp : Sp} {e : Expr} {es : List Expr} {t : TA} {p pos : Pos}
theorem pe_cd (D : Dn X.prog X.w X.K X.mg X.base k x ps sp) (hr : Room k X.A) (hg : Gl X x) (ha : PA X (e :: es) t) (hdb : (x == ("__debug__" : Str)) = false := by decide)
    (he : starEach (e :: es) X.env = (false, eval e X.env) :: starEach es X.env := by rfl) (hpl : (backTo pos (starEach es X.env)).any (·.1) = false := by rfl) :
    PE X (.Call (.Name x p) (e :: es) [] pos) (tCall sp [] E0 t) := by
  obtain ⟨f, fd, F, m, kp, b⟩ := D.ex
  exact pe_call F hr hg m kp b .nil pass0 ha hdb he hpl
theorem pe_cd0 (D : Dn X.prog X.w X.K X.mg X.base k x ps sp) (hr : Room k X.A) (hg : Gl X x) (hdb : (x == ("__debug__" : Str)) = false := by decide) :
    PE X (.Call (.Name x p) [] [] pos) (tCall sp [] E0 tNil) := by
  obtain ⟨f, fd, F, m, kp, b⟩ := D.ex
  exact pe_call0 F hr hg m kp b .nil pass0 hdb
end
end L2
/-! More of what evaluates to what (heaps that only grow), and heaps that change at one place. -/
namespace L2
open PySem PySem.Spec PyProof.Rows Evl
/-- all but what stands at p is as it was -/
def But (p : Addr) (H H' : Hp) : Prop := ∀ b o, b ≠ p → H b = some o → H' b = some o
theorem But.refl {p : Addr} (H : Hp) : But p H H := fun _ _ _ h => h
theorem But.trans {p : Addr} {H H1 H2 : Hp} (a : But p H H1) (b : But p H1 H2) : But p H H2 := fun c o n h => b c o n (a c o n h)
theorem But.ex {p : Addr} {H H' : Hp} (e : Ex H H') : But p H H' := fun b o _ h => e b o h
theorem But.upd {p : Addr} {H : Hp} {o : HO} : But p H (upd H p o) := fun b u n h => by
  rw [upd_ne n]
  exact h
/-- what p is not known to H: then it is an extension -/
theorem But.new {p : Addr} {H H' : Hp} (e : But p H H') (h : H p = none) : Ex H H' := fun b o q => e b o (ne_of_none q h) q
section
variable {K : PySem.W.Frag} {σ : L2.St} {H H' : Hp} {ta tb te : TE} {x y z v : V}
theorem ev_fld {a C dx : Addr} {fs : List (Str × V)} {f : Str} (h : Ev ta σ H (.ref a)) (ho : H a = some (.ins C dx fs)) (hc : Cls K C) (hn : NoAttr K C f) (hl : fs.lookup f = some v) : Ev (tFld K ta f) σ H v :=
  fun H1 e Q q => h H1 e _ fun H2 e2 => ⟨a, C, dx, fs, v, rfl, (e.trans e2) _ _ ho, hc, hn, hl, q H2 e2⟩
theorem rc_isi {x c : V} {t u : Value} {b : Bool} (hc : ClsV c u) (hx : ∀ H1, Ex H H1 → TyX K H1 x t) (hk : PySem.W.kitOne K t u = some b) : RC (rIsi K) [x, c] H (.bl b) :=
  fun H1 e Q q => ⟨x, c, t, u, b, rfl, hc, hx H1 e, hk, q H1 (Ex.refl _)⟩
theorem rc_isiI {i : Int} : RC (rIsi K) [.int i, .ty "int"] H (.bl true) := rc_isi (.ty "int") (fun _ _ => .base (.int i)) (kit_ty (by decide +kernel))
theorem rc_isiB {i : Int} : RC (rIsi K) [.int i, .ty "bool"] H (.bl false) := rc_isi (.ty "bool") (fun _ _ => .base (.int i)) (kit_ty (by decide +kernel))
theorem kit_self {t : Value} : PySem.W.kitOne K t t = some true := by
  unfold PySem.W.kitOne
  rw [if_pos (beq_self_eq_true t)]
theorem rc_isiC {a C dx : Addr} {fs : List (Str × V)} (ho : H a = some (.ins C dx fs)) (hc : Cls K C) (hi : IsC K C) : RC (rIsi K) [.ref a, .ref C] H (.bl true) :=
  rc_isi (.own C) (fun _ e => .base (.ins (e _ _ ho) hc hi.ha hi.hn hi.htk hi.hm)) kit_self
def rAbs : List V → Hp → VK → Prop := fun xs H Q => ∃ i, xs = [.int i] ∧ Q (.int (if i < 0 then -i else i)) H
theorem rc_abs {i : Int} : RC (fun xs H Q => ∃ i, xs = [.int i] ∧ Q (.int (if i < 0 then -i else i)) H) [.int i] H (.int (i.natAbs : Int)) := fun H1 _ Q q => ⟨i, rfl, by
  have e : (if i < 0 then -i else i) = (i.natAbs : Int) := by
    by_cases h : i < 0
    · rw [if_pos h]
      omega
    · rw [if_neg h]
      omega
  rw [e]
  exact q H1 (Ex.refl _)⟩
/-- tuples' items by a written place -/
theorem ev_ixT {p : Addr} {xs : List V} {j : Nat} (h : Ev ta σ H (.ref p)) (hs : H p = some (.tup xs)) (hj : xs[j]? = some v) : Ev (tOp (rIxT K) ta (tC (.int (j : Int)))) σ H v :=
  ev_op h ev_c (rv_ixT (st_of hs) (atI_nat hj))
theorem ev_mulW {i j : Int} {n m : Nat} (ha : Ev ta σ H (.int i)) (hb : Ev tb σ H (.int j)) (hi : i.natAbs < 2 ^ n) (hj : j.natAbs < 2 ^ m) (h0 : 0 < n := by decide) (h1 : 0 < m := by decide) (h : n + m ≤ 1000000 := by decide) :
    Ev (tOp (rI CMulW fun i j => .int (i * j)) ta tb) σ H (.int (i * j)) := ev_op ha hb (rv_I (wide_mul hi hj h0 h1 h))
theorem ev_mul {i j : Int} (ha : Ev ta σ H (.int i)) (hb : Ev tb σ H (.int j)) (h : CMul i j) : Ev (tOp (rI CMul fun i j => .int (i * j)) ta tb) σ H (.int (i * j)) := ev_op ha hb (rv_I h)
theorem ev_add {i j : Int} (ha : Ev ta σ H (.int i)) (hb : Ev tb σ H (.int j)) : Ev (tOp (rI0 fun i j => .int (i + j)) ta tb) σ H (.int (i + j)) := ev_op ha hb rv_I0
theorem ev_sub {i j : Int} (ha : Ev ta σ H (.int i)) (hb : Ev tb σ H (.int j)) : Ev (tOp (rI0 fun i j => .int (i - j)) ta tb) σ H (.int (i - j)) := ev_op ha hb rv_I0
theorem ev_mod {i j : Int} (ha : Ev ta σ H (.int i)) (hb : Ev tb σ H (.int j)) (h : 0 < j) : Ev (tOp (rI (fun _ j => 0 < j) fun i j => .int (i % j)) ta tb) σ H (.int (i % j)) := ev_op ha hb (rv_I h)
theorem ev_fdivW {i j : Int} {n : Nat} (ha : Ev ta σ H (.int i)) (hb : Ev tb σ H (.int j)) (h : 0 < j) (hj : j.natAbs < 2 ^ n) (h0 : 0 < n := by decide) (h1 : n ≤ 9000 := by decide) : Ev (tOp (rI CDivW fun i j => .int (i / j)) ta tb) σ H (.int (i / j)) :=
  ev_op ha hb (rv_I (wide_div h hj h0 h1))
theorem ev_lt {i j : Int} (ha : Ev ta σ H (.int i)) (hb : Ev tb σ H (.int j)) : Ev (tOp (rI0 fun i j => .bl (decide (i < j))) ta tb) σ H (.bl (decide (i < j))) := ev_op ha hb rv_I0
theorem ev_gt {i j : Int} (ha : Ev ta σ H (.int i)) (hb : Ev tb σ H (.int j)) : Ev (tOp (rI0 fun i j => .bl (decide (j < i))) ta tb) σ H (.bl (decide (j < i))) := ev_op ha hb rv_I0
theorem ev_ge {i j : Int} (ha : Ev ta σ H (.int i)) (hb : Ev tb σ H (.int j)) : Ev (tOp (rI0 fun i j => .bl (decide (j ≤ i))) ta tb) σ H (.bl (decide (j ≤ i))) := ev_op ha hb rv_I0
theorem ev_eqI {i j : Int} (ha : Ev ta σ H (.int i)) (hb : Ev tb σ H (.int j)) : Ev (tOp rEq ta tb) σ H (.bl (decide (i = j))) := by
  have h := ev_op ha hb (rv_eq (x := .int i) (y := .int j) rfl)
  have e : decide (V.int i = V.int j) = decide (i = j) := by
    rw [Bool.eq_iff_iff]
    simp
  rw [e] at h
  exact h
theorem ev_neI {i j : Int} (ha : Ev ta σ H (.int i)) (hb : Ev tb σ H (.int j)) : Ev (tOp rNe ta tb) σ H (.bl (!decide (i = j))) := by
  have h := ev_op ha hb (rv_ne (x := .int i) (y := .int j) rfl)
  have e : decide (V.int i = V.int j) = decide (i = j) := by
    rw [Bool.eq_iff_iff]
    simp
  rw [e] at h
  exact h
theorem pow_big {n : Nat} {i : Int} {m : Nat} (h : i.natAbs < 2 ^ n) (hm : n ≤ m) : i.natAbs < 2 ^ m := Nat.lt_of_lt_of_le h (Nat.pow_le_pow_right (by decide) hm)
theorem ev_neg {i : Int} (ha : Ev ta σ H (.int i)) : Ev (tUn (rU fun i => .int (-i)) ta) σ H (.int (-i)) := ev_un ha ru_neg
end
end L2
/-! Readings opened one step. -/
namespace L2
open PySem PySem.Spec PyProof.Rows Evl
section
variable {σ : L2.St} {H : Hp} {D : Ends} {te ta tb : TE} {tA : TA} {t u : TS} {tt tu : TT} {Q : VK} {QT : Bool → Hp → Prop} {QA : List V → Hp → Prop} {vs xs dvs : List V} {v : V} {b : Bool}
theorem x_ret (h : te σ H D.rt) : tRet te D σ H := h
theorem x_seq (h : t { D with nx := u D } σ H) : tSeq t u D σ H := h
theorem x_asg {g : TG} (h : te σ H fun x H1 => g x σ H1 D.nx) : tAsg te g D σ H := h
theorem x_set {i : Nat} (h : te σ H fun x H1 => D.nx (σ.set i (some x)) H1) : tAsg te (gName i) D σ H := h
theorem x_drop (h : te σ H fun _ H1 => D.nx σ H1) : tDrop te D σ H := h
theorem x_par {i j : Nat} (h : tA σ H fun vs H1 => ∃ v w, vs = [v, w] ∧ D.nx ((σ.set i (some v)).set j (some w)) H1) : tPar i j tA D σ H := h
theorem x_op {r : R2} (h : ta σ H fun x H1 => tb σ H1 fun y H2 => r x y H2 Q) : tOp r ta tb σ H Q := h
theorem x_cb {r : List V → Hp → VK → Prop} (h : tA σ H fun vs H1 => r vs H1 Q) : tCB r tA σ H Q := h
theorem x_call {sp : Sp} {E : XK} (h : tA σ H fun vs H1 => sp (vs ++ dvs) H1 Q E) : tCall sp dvs E tA σ H Q := h
theorem x_cons {tr : TA} (h : ta σ H fun x H1 => tr σ H1 fun xs H2 => QA (x :: xs) H2) : tCons ta tr σ H QA := h
theorem x_nil (h : QA [] H) : tNil σ H QA := h
theorem x_if (h : tt σ H fun b H1 => if b = true then t D σ H1 else u D σ H1) : tIfS tt t u D σ H := h
theorem x_B (h : te σ H fun x H1 => ∃ c, x = .bl c ∧ QT c H1) : tB te σ H QT := h
theorem x_test (h : te σ H fun x H1 => ∃ c, x = .bl c ∧ QT c H1) : tTest te σ H QT := h
theorem x_not (h : tt σ H fun c H1 => QT (!c) H1) : tNot tt σ H QT := h
theorem x_or (h : tt σ H fun c H1 => if c = true then QT true H1 else tu σ H1 QT) : tOr tt tu σ H QT := h
theorem x_and (h : tt σ H fun c H1 => if c = true then tu σ H1 QT else QT false H1) : tAnd tt tu σ H QT := h
theorem x_meth {C : Addr} {m : Str} {sp : Sp} {E : XK} (h : ta σ H fun x H1 => ∃ a dx fs, x = .ref a ∧ H1 a = some (.ins C dx fs) ∧ fs.lookup m = none ∧ tA σ H1 fun vs H2 => sp (x :: (vs ++ dvs)) H2 Q E) : tMeth C m sp dvs E ta tA σ H Q := h
theorem x_lst (h : tA σ H fun xs H1 => xs.length ≤ sizeLine ∧ ∀ p, H1 p = none → Q (.ref p) (upd H1 p (.lst xs))) : tLst tA σ H Q := h
theorem x_tup (h : tA σ H fun xs H1 => xs.length ≤ sizeLine ∧ ∀ p, H1 p = none → Q (.ref p) (upd H1 p (.tup xs))) : tTup tA σ H Q := h
theorem x_c (h : Q v H) : tC v σ H Q := h
theorem x_var {i : Nat} (e : σ[i]? = some (some v)) (h : Q v H) : tVar i σ H Q := ⟨v, e, h⟩
theorem x_while {W : Nat → St → Hp → Prop} (m : Nat) (w0 : W m σ H) (h : ∀ m σ H, W m σ H → tt σ H fun b H1 => if b = true then ∃ N : St → Hp → Prop, (∀ σ' H', N σ' H' → ∃ m', m' < m ∧ W m' σ' H') ∧ t { D with nx := N, ct := N, bk := D.nx } σ H1 else D.nx σ H1) : tWhile tt t D σ H := ⟨W, ⟨m, w0⟩, h⟩
theorem Evl.Ev.go (h : Ev te σ H v) (k : ∀ H1, Ex H H1 → Q v H1) : te σ H Q := h H (Ex.refl _) _ k
theorem Evl.EvT.go (h : EvT tt σ H b) (k : ∀ H1, Ex H H1 → QT b H1) : tt σ H QT := h H (Ex.refl _) _ k
theorem Evl.EvA.go (h : EvA tA σ H vs) (k : ∀ H1, Ex H H1 → QA vs H1) : tA σ H QA := h H (Ex.refl _) _ k
theorem Evl.EvU.go (h : EvU te σ H xs) (k : ∀ p H1, H p = none → Ex H H1 → H1 p = some (.tup xs) → Q (.ref p) H1) : te σ H Q := h H (Ex.refl _) _ k
theorem Evl.EvL.go (h : EvL te σ H xs) (k : ∀ p H1, H p = none → Ex H H1 → H1 p = some (.lst xs) → Q (.ref p) H1) : te σ H Q := h H (Ex.refl _) _ k
end
end L2
/-! The same with something behind. -/
namespace L2
open PySem PySem.Spec PyProof.Rows Evl
section
variable {σ : L2.St} {H : Hp} {D : Ends} {te : TE} {tA : TA} {t u tz : TS} {tt : TT}
theorem q_par {i j : Nat} (h : tA σ H fun vs H1 => ∃ v w, vs = [v, w] ∧ tz D ((σ.set i (some v)).set j (some w)) H1) : tSeq (tPar i j tA) tz D σ H := h
theorem q_set {i : Nat} (h : te σ H fun x H1 => tz D (σ.set i (some x)) H1) : tSeq (tAsg te (gName i)) tz D σ H := h
theorem q_asgX {g : TG} (h : te σ H fun x H1 => g x σ H1 (tz D)) : tSeq (tAsg te g) tz D σ H := h
theorem q_dropX (h : te σ H fun _ H1 => tz D σ H1) : tSeq (tDrop te) tz D σ H := h
theorem q_ifX (h : tt σ H fun b H1 => if b = true then t { D with nx := tz D } σ H1 else u { D with nx := tz D } σ H1) : tSeq (tIfS tt t u) tz D σ H := h
end
end L2
/-! An exception that a clause has caught and given to another name: it is tracked behind the suite; its fields are read, its class is asked. -/
namespace L2
open PySem PySem.Spec PyProof.Rows
/-- at a: a caught exception, by its class and its dict -/
def exk (a : Addr) (cls : Value) (d : Option Addr) : HO := .ext fun h => ∃ (oe : Obj) (vs : Array Value), h.get? a = some oe ∧ Zc cls d oe ∧ oe.data = .fields vs
section
variable {X : Cx} {pins : List (Addr × Obj)} {σ : St} {H : Hp} {s : Shared}
theorem exk_ok {P : Program} {w : World} {H : Hp} {h : Heap} {a : Addr} {cls : Value} {d : Option Addr} {oe : Obj} {vs : Array Value} (e : h.get? a = some oe) (z : Zc cls d oe) (q : oe.data = .fields vs) : ObjOk P w H h a (exk a cls d) :=
  ⟨⟨oe, vs, e, z, q⟩, ⟨oe, e⟩, fun _ _ ⟨o, v, e1, r⟩ k => ⟨o, v, k o e1, r⟩⟩
theorem exk_at {P : Program} {w : World} {h : Heap} {a : Addr} {cls : Value} {d : Option Addr} (ok : HOk P w H h) (e : H a = some (exk a cls d)) : ∃ (oe : Obj) (vs : Array Value), h.get? a = some oe ∧ Zc cls d oe ∧ oe.data = .fields vs := by
  have q : ObjOk P w H h a (.ext fun h => ∃ (oe : Obj) (vs : Array Value), h.get? a = some oe ∧ Zc cls d oe ∧ oe.data = .fields vs) := ok a _ e
  exact q.1
/-- an object that came up behind the entry, and isn't tracked, is tracked from now on -/
theorem Inv.taken {a : Addr} {o : HO} {oe : Obj} (I : Inv X pins σ H s) (ha : s.heap.get? a = some oe) (na : H a = none) (n0 : X.s_0.heap.get? a = none) (nL : a ≠ X.env.locals) (nC : ∀ v, oe.data ≠ .cell v) (nP : ∀ p ∈ X.pn ++ pins, p.1 ≠ a)
    (new : ObjOk X.prog X.w (upd H a o) s.heap a o) : Inv X pins σ (upd H a o) s := by
  have ne0 : ∀ {b : Addr} {u : Obj}, X.s_0.heap.get? b = some u → b ≠ a := fun {b u} q z => by
    rw [z, n0] at q
    cases q
  refine ⟨I.ok, I.os, I.bare, ⟨I.base.keep, I.base.slot, fun b u q n z => ?_, I.base.there, fun b xs q => ?_, fun b u v q => ?_, fun b ps q => ?_⟩, I.loc, I.cell, ?_, fun y c e => ?_, fun p hp => ?_, fun b u q => ?_, I.len⟩
  · rw [upd_ne (ne0 q)]
    exact I.base.free b u q n z
  · have z := I.base.tups b xs q
    rw [upd_ne (ne_of_none z na)]
    exact z
  · have z := I.base.frzs b u v q
    rw [upd_ne (ne_of_none z na)]
    exact z
  · obtain ⟨m, z⟩ := I.base.tbls b ps q
    exact ⟨m, by rw [upd_ne (ne_of_none z na)]; exact z⟩
  · rw [upd_ne (Ne.symm nL)]
    exact I.free
  · have n : c ≠ a := fun z => by
      obtain ⟨v, o', h1, h2⟩ := I.cell y c e
      rw [z, ha] at h1
      cases h1
      exact nC _ h2
    rw [upd_ne n]
    exact I.freeC y c e
  · obtain ⟨h1, h2, h3⟩ := I.pin p hp
    exact ⟨h1, by rw [upd_ne (nP p hp)]; exact h2, h3⟩
  · by_cases hb : b = a
    · subst hb
      rw [upd_same] at q
      cases q
      exact new
    · rw [upd_ne hb] at q
      exact (I.hok b u q).stay (fun _ _ _ r => r) (fun c r => by rw [upd_ne (ne_of_none r na)]; exact r) fun c xs r => by rw [upd_ne (ne_of_none r na)]; exact r
end
/-- what 'except x as n: suite' wishes of the body, the exception tracked behind the suite -/
def wHold (K : PySem.W.Frag) (c : Value) (i : Nat) (ts : Addr → Value → Option Addr → TS) (Wo : WX) (D : Ends) : WX := fun cls d σ H => ∃ b, PySem.W.exmOne K cls c = some b ∧
  (b = true → ∀ a, H a = none → ts a cls d ⟨fun σ' H' => D.nx (σ'.set i none) (upd H' a (exk a cls d)), D.rt, fun _ _ => False, fun _ _ => False⟩ (σ.set i (some (.ref a))) H) ∧ (b = false → Wo cls d σ H)
section
variable {X : Cx} {x n : Str} {c : Value} {i : Nat} {body rest : List Stmt} {st0 : Stmt} {np pos pos' : Pos} {tb : WX → TS} {ts : Addr → Value → Option Addr → TS} {Wo : WX}
theorem ps_try_hold (hs : X.stack = X.env :: X.outer) (hf : X.env.frame = some X.env.locals) (hex : X.ex = []) (hN : X.N.Nodup) (hi : X.N[i]? = some n) (hln : X.env.kindOf n = some .local) (hc : Names X x c) (tk : Takes X Wo)
    (hb : ∀ (W : WX) (pn : List (Addr × Obj)) (xe : Value → Shared → Prop), Takes (X.tr pn xe) W → PassesOwn (model X.prog X.w) X.A X.env xe → PSs (X.tr pn xe) body (tb W))
    (hu : ∀ (a : Addr) (oe : Obj) (cls : Value) (d : Option Addr) (pn : List (Addr × Obj)), Zc cls d oe → (∃ vs, oe.data = .fields vs) → PSs (X.suite a ((a, oe) :: pn)) (st0 :: rest) (ts a cls d)) :
    PS X (.Try body [.ExceptHandler (some (.Name x np)) (some n) (st0 :: rest) pos'] [] [] pos) (fun D σ H => tb (wHold X.K c i ts Wo D) D σ H) := by
  refine ⟨fun pins s σ H D I h => ?_⟩
  have ok := I.ok
  have frA : X.A.frames = some (X.env :: X.outer) := ok.frames.trans (congrArg some hs)
  refine wpAny_Try_except ?_
  let xe1 : Value → Shared → Prop := fun e s1 => wpAny (model X.prog X.w) X.A (noteFrame e X.env) (fun _ s2 => wpAny (model X.prog X.w) X.A (setFlight e none) (fun _ s3 =>
    wpAny (model X.prog X.w) X.A (handleBy e X.env [.ExceptHandler (some (.Name x np)) (some n) (st0 :: rest) pos']) (SP X pins D) X.xe s3) X.xe s2) X.xe s1
  have took : Takes (X.tr (X.pn ++ pins) xe1) (wHold X.K c i ts Wo D) := by
    rintro u s1 ⟨a, B, sI, pins', σ1, H1, cls, d, rfl, J0, below, up, sky, na, eos, gb, b, eb, yes, no⟩
    have J : Inv X pins σ1 H1 sI := J0.ofTry ok
    rw [show (X.tr (X.pn ++ pins) xe1).stack = X.env :: X.outer from hs] at sky
    show wpAny (model X.prog X.w) X.A (noteFrame (.ref a) X.env) _ _ _
    refine Sky.land Zc.steady frA hf sky fun h3 f3 up3 => ?_
    have J3 : Inv X pins σ1 H1 { s1 with heap := h3 } := J.landed below f3.1 (up.trans up3) eos gb
    obtain ⟨o3, v3, e3, z3, d3⟩ := f3.there
    have nfr : a ∉ frs (X.env :: X.outer) := fun hm => by
      obtain ⟨_, o', q, hno⟩ := f3.2.2.1.mem hm
      rw [e3] at q
      cases q
      exact hno _ d3
    have nL : a ≠ X.env.locals := fun z => nfr (List.mem_filterMap.mpr ⟨X.env, List.mem_cons_self, hf.trans (congrArg some z.symm)⟩)
    have nF : a ∉ X.fs := fun hm => by
      obtain ⟨en, he, q⟩ := List.mem_filterMap.mp hm
      exact nfr (List.mem_filterMap.mpr ⟨en, List.mem_cons_of_mem _ he, q⟩)
    -- it wasn't there at the entry, nor is it pinned
    have gone : ∀ {b : Addr} {o : Obj}, sI.heap.get? b = some o → b ≠ a := fun {b o} q z => by
      subst z
      have := below b o q (by rw [show (X.tr (X.pn ++ pins) xe1).stack = X.env :: X.outer from hs]; exact nfr)
      rw [f3.2.1] at this
      cases this
    have n0 : X.s_0.heap.get? a = none := by
      cases q : X.s_0.heap.get? a with
      | none => rfl
      | some o =>
        obtain ⟨o', q'⟩ := J.base.there a o q (by rw [hex]; exact fun z => nomatch z)
        exact absurd rfl (gone q')
    have nP : ∀ p ∈ X.pn ++ pins, p.1 ≠ a := fun p hp => gone (J.pin p hp).1
    have S3 := J3.suite e3 d3 na nL nF
    refine wpAny_handleBy_cons (codeAny_handlers_test ?_) (by intro q; cases q)
    have LT : PySem.W.Looks (model X.prog X.w) h3 (typeOf (.ref a)) cls := fun _ _ _ _ k q => wpAny_typeOf_ref (k _ _ e3) (by rw [z3.1]; exact q)
    have LM := PySem.W.exm_one (M := model X.prog X.w) J3.kIn LT eb
    have named : ∀ {Q E : Value → Shared → Prop}, Q c { s1 with heap := h3 } → wpAny (model X.prog X.w) (X.A.mark (some (.ref a))) (eval (.Name x np) X.env) Q E { s1 with heap := h3 } := fun {Q E} q => by
      obtain ⟨g1, g2, g3 | ⟨g3, g4, g5⟩⟩ := hc
      · exact ld_glob (X := X.suite a ((a, o3) :: (X.pn ++ pins))) S3 g1 g3 q g2
      · exact ld_blt (X := X.suite a ((a, o3) :: (X.pn ++ pins))) S3 g1 g3 g4 q g5 g2
    refine named (LM.here ?_)
    cases b with
    | true =>
      refine codeAny_handlers_suite_as (HandSPX.lands_againZ f3 fun h4 f4 up4 => ?_)
      have J4 : Inv X pins σ1 H1 { s1 with heap := h4 } := J.landed below f4.1 ((up.trans up3).trans up4) eos gb
      obtain ⟨o4, v4, e4, z4, d4⟩ := f4.there
      refine store_ok (X := X.suite a ((a, o4) :: (X.pn ++ pins))) (v := .ref a) (J4.suite e4 d4 na nL nF) hN hi (.inl hln) rfl (fun s5 S5 => ?_) (.inr hln)
      refine wpAny_mono ((hu a o4 cls d (X.pn ++ pins) z4 ⟨_, d4⟩).run [] s5 _ H1 _ S5 (yes rfl a na)) (fun fl s6 q6 => ?_) fun _ _ z => z.elim
      cases fl with
      | next =>
        obtain ⟨σ6, H6, S6, r6⟩ := q6
        refine gone_ok (X := X.suite a ((a, o4) :: (X.pn ++ pins))) S6 hN hi hln fun s7 S7 => ?_
        obtain ⟨e7, n7, _⟩ := S7.pin (a, o4) (List.mem_append_left _ List.mem_cons_self)
        exact ⟨_, _, (S7.unsuite ok).taken e7 n7 n0 nL (fun v z => by rw [d4] at z; cases z) nP (exk_ok e7 z4 d4), r6⟩
      | ret u =>
        obtain ⟨v6, σ6, H6, S6, rv, r6⟩ := q6
        exact gone_ok (S6.unsuite ok) hN hi hln fun s7 J7 => ⟨_, _, _, J7, rv, r6⟩
      | brk =>
        obtain ⟨_, _, _, r6⟩ := q6
        exact r6.elim
      | cont =>
        obtain ⟨_, _, _, r6⟩ := q6
        exact r6.elim
    | false =>
      refine wpAny_handleBy_nil ?_
      obtain ⟨_, _, _, oe, vs, T, oT, ts', he, hz, hd, h1, hr⟩ := id f3
      unfold PySem.passOn
      refine wpAny_bind (wpAny_field he hd h1 ?_)
      rw [if_neg (show ¬ ((Value.ref T == Value.none) = true) by simp)]
      have on : wpAny (model X.prog X.w) X.A (setFlight (.ref a) X.env.frame) (fun _ s4 => wpAny (model X.prog X.w) X.A (throw (.ref a) : Sem Flow) (SP X pins D) X.xe s4) X.xe { s1 with heap := h3 } := by
        rw [hf]
        refine HandSPX.setFlight_upZ f3 fun h4 g4 up4 => wpAny_throw (tk _ _ ?_)
        exact ⟨a, B, sI, pins, σ1, H1, cls, d, rfl, J, below, (up.trans up3).trans up4, .inr (.inr (by rw [hs]; exact g4)), na, eos, gb, no rfl⟩
      first
        | exact wpAny_bind (wpAny_pure (wpAny_bind on))
        | exact wpAny_bind on
  refine wpAny_mono ((hb _ (X.pn ++ pins) xe1 took PassesOwn.looking).run [] s σ H D (I.toTry _) h) (fun fl s1 q => ?_) fun _ _ z => z
  cases fl with
  | next =>
    obtain ⟨σ', H', J', r⟩ := q
    exact wpAny_execs_nil ⟨σ', H', J'.ofTry ok, r⟩
  | brk =>
    obtain ⟨σ', H', J', r⟩ := q
    exact ⟨σ', H', J'.ofTry ok, r⟩
  | cont =>
    obtain ⟨σ', H', J', r⟩ := q
    exact ⟨σ', H', J'.ofTry ok, r⟩
  | ret u =>
    obtain ⟨v, σ', H', J', rv, r⟩ := q
    exact ⟨v, σ', H', J'.ofTry ok, rv, r⟩
end
/-- what the class of a caught exception says of reading and asking it -/
structure XkC (K : PySem.W.Frag) (C : Addr) : Prop where
  ga : PySem.W.findIn K (.ref C) "__getattribute__" = some (some (.builtin "BaseException.__getattribute__"))
  gg : PySem.W.findIn K (.ref C) "__getattr__" = some none
  sub : PySem.W.subIn K (.ref C) (.type "BaseException") = some true
  hd : PySem.W.hasDictIn K C = true
  is : IsC K C
def xkB (K : PySem.W.Frag) (x : Str) : Bool :=
  He.eqO (PySem.W.findIn K (.ref (He.ga K x)) "__getattribute__") (some (some (.builtin "BaseException.__getattribute__"))) && (He.eqO (PySem.W.findIn K (.ref (He.ga K x)) "__getattr__") (some none) &&
  (decide (PySem.W.subIn K (.ref (He.ga K x)) (.type "BaseException") = some true) && (PySem.W.hasDictIn K (He.ga K x) && tyB K x)))
theorem xkB_ok {K : PySem.W.Frag} {x : Str} (h : xkB K x = true) : XkC K (He.ga K x) := by
  obtain ⟨h1, h⟩ := He.ba h
  obtain ⟨h2, h⟩ := He.ba h
  obtain ⟨h3, h⟩ := He.ba h
  obtain ⟨h4, h5⟩ := He.ba h
  exact ⟨He.eqO_ok h1, He.eqO_ok h2, of_decide_eq_true h3, h4, tyB_ok h5⟩
/-- an exception of the class at C, with these fields -/
structure ExcAt (H : Hp) (a C d : Addr) (fs : List (Str × V)) : Prop where
  at_ : H a = some (exk a (.ref C) (some d))
  dict : H d = some (.xd fs)
theorem ExcAt.ex {H H' : Hp} {a C d : Addr} {fs : List (Str × V)} (x : ExcAt H a C d fs) (e : Evl.Ex H H') : ExcAt H' a C d fs := ⟨e _ _ x.at_, e _ _ x.dict⟩
section
variable {X : Cx} {pins : List (Addr × Obj)} {σ : St} {H : Hp} {s : Shared} {a C d : Addr} {fs : List (Str × V)}
theorem ExcAt.inst (I : Inv X pins σ H s) (x : ExcAt H a C d fs) : ∃ (oe od : Obj) (mA : Str → Option Value), PySem.W.InstAt s.heap a oe C (some od) ∧ (∀ f, RelO (fs.lookup f) (mA f)) ∧ ∀ name, PySem.W.lookIn name od = some (mA name) := by
  obtain ⟨oe, vs, e1, z, e2⟩ := exk_at I.hok x.at_
  have q : ObjOk X.prog X.w H s.heap d (.xd fs) := I.hok d _ x.dict
  obtain ⟨mA, hn, r⟩ := q
  obtain ⟨od, ho, hl⟩ := lookIn_ns hn
  exact ⟨oe, od, mA, ⟨e1, z.1, by unfold PySem.W.notCls; rw [e2] <;> rfl, by rw [z.2]; exact ho⟩, r, hl⟩
/-- e.f of a caught exception -/
def tXk (K : PySem.W.Frag) (te : TE) (f : Str) : TE := fun σ H Q => te σ H fun x H1 => ∃ (a C d : Addr) (fs : List (Str × V)) (v : V), x = .ref a ∧ ExcAt H1 a C d fs ∧ XkC K C ∧ NoAttr K C f ∧ fs.lookup f = some v ∧ Q v H1
theorem pe_xk {e : Expr} {te : TE} {pos : Pos} {f : Str} (he : PE X e te) (hb : attributeBase e f X.env (eval e X.env) = eval e X.env := by rfl) : PE X (.Attribute e f pos) (tXk X.K te f) := by
  refine ⟨fun pins s σ H Q I h => ?_⟩
  refine attr_of hb (thn (he.run pins s σ H _ I h) fun u s1 ⟨x, H1, I1, rx, a, C, d, fs, v, ex, xa, T, hno, l, q⟩ => ?_)
  subst ex
  obtain rfl : u = Value.ref a := rx
  obtain ⟨oe, od, mA, J, r, hl⟩ := xa.inst I1
  obtain ⟨w', hw, rw'⟩ := RelO.some_of (v := v) (o := mA f) (by rw [← l]; exact r f)
  exact HandSPX.exc_get I1.kIn J T.ga T.gg T.sub (PySem.W.findObj_own T.hd hno rfl (by rw [hl, hw])) (handed_of rw') ⟨v, H1, I1.tok _, rw', q⟩
theorem xk_kit (I : Inv X pins σ H s) (x : ExcAt H a C d fs) (T : XkC X.K C) : ∃ P : Heap → Prop, PySem.W.KitX X.K (.ref a) (.ref C) P ∧ P s.heap := by
  obtain ⟨oe, od, mA, J, _, _⟩ := x.inst I
  obtain ⟨cd, hcd, _⟩ := PySem.W.any_some T.hd
  exact ⟨_, PySem.W.kitx_exc (by rw [hcd]; rfl) T.ga T.gg T.sub T.is.ha T.is.hn T.is.htk T.is.hm, J⟩
/-- isinstance(e, c), isinstance(e, (c1, ..)) of a caught exception -/
def rIsk (K : PySem.W.Frag) : List V → Hp → VK → Prop := fun xs H Q => ∃ (a C d : Addr) (fs : List (Str × V)) (c : V) (u : Value) (b : Bool), xs = [.ref a, c] ∧ ExcAt H a C d fs ∧ XkC K C ∧ ClsV c u ∧ PySem.W.kitOne K (.ref C) u = some b ∧ Q (.bl b) H
def rIskT (K : PySem.W.Frag) : List V → Hp → VK → Prop := fun xs H Q => ∃ (a C d tp : Addr) (fs : List (Str × V)) (cs : List V) (us : List Value) (b : Bool), xs = [.ref a, .ref tp] ∧ ExcAt H a C d fs ∧ XkC K C ∧ H tp = some (.tup cs) ∧ Paired ClsV cs us ∧
  PySem.W.kitAny K (.ref C) us = some b ∧ Q (.bl b) H
theorem call_isk : CallR X (.builtin "isinstance") (rIsk X.K) := by
  intro pins s σ H xs us Q I r h
  obtain ⟨a, C, d, fs, c, u, b, rfl, xa, T, k, e, q⟩ := h
  obtain ⟨u1, u2, rfl, r1, r2⟩ := vals2 r
  obtain rfl : u1 = Value.ref a := r1
  have e2 := k.eq r2
  subst e2
  obtain ⟨P, Z, p⟩ := xk_kit I xa T
  exact PySem.W.kia_one Z I.kIn p e (fun z => nomatch z) fun tk => ⟨.bl b, H, I.tok tk, rfl, q⟩
theorem call_iskT : CallR X (.builtin "isinstance") (rIskT X.K) := by
  intro pins s σ H xs us Q I r h
  obtain ⟨a, C, d, tp, fs, cs, ws, b, rfl, xa, T, hT, k, e, q⟩ := h
  obtain ⟨u1, u2, rfl, r1, r2⟩ := vals2 r
  obtain rfl : u1 = Value.ref a := r1
  obtain rfl : u2 = Value.ref tp := r2
  obtain ⟨P, Z, p⟩ := xk_kit I xa T
  have ot : ObjOk X.prog X.w H s.heap tp (.tup cs) := I.hok tp _ hT
  obtain ⟨_, its, rv, o, h1, h2, n, h3⟩ := ot
  have e3 := ClsV.all k rv
  subst e3
  obtain ⟨oc, od, dt, sl⟩ := o
  simp only at h2 h3
  subst h2 h3
  exact PySem.W.kia_tup Z I.kIn p h1 e (fun z => nomatch z) fun tk => ⟨.bl b, H, I.tok tk, rfl, q⟩
end
/-! R.__init__(self, ..), R an own class over ValueError that has no __init__ -/
structure BaseC (K : PySem.W.Frag) (R : Addr) : Prop where
  rd : PySem.W.readsIn K R (.type "type") = true
  ga : PySem.W.specialIn K (.ref R) "__getattribute__" = some (some (.builtin "type.__getattribute__"))
  at_ : PySem.W.findCls K (.ref R) (.type "type") "__init__" = some (.val (.builtin "ValueError.__init__"))
def baseB (K : PySem.W.Frag) (x : Str) : Bool := PySem.W.readsIn K (He.ga K x) (.type "type") && (He.eqO (PySem.W.specialIn K (.ref (He.ga K x)) "__getattribute__") (some (some (.builtin "type.__getattribute__"))) &&
  (match PySem.W.findCls K (.ref (He.ga K x)) (.type "type") "__init__" with
    | some (.val (.builtin m)) => decide (m = "ValueError.__init__")
    | _ => false))
theorem baseB_ok {K : PySem.W.Frag} {x : Str} (h : baseB K x = true) : BaseC K (He.ga K x) := by
  obtain ⟨h1, h⟩ := He.ba h
  obtain ⟨h2, h3⟩ := He.ba h
  refine ⟨h1, He.eqO_ok h2, ?_⟩
  split at h3
  · rename_i m q
    rw [q, of_decide_eq_true h3]
  · cases h3
section
variable {X : Cx} {e : Expr} {es : List Expr} {ta : TA} {p1 p2 pos : Pos} {R : Addr} {x : Str}
theorem pe_baseinit {pl : Sem Bool} (hg : Gl X x) (hm : X.mg x = some (.ref R)) (B : BaseC X.K R) (ha : PA X (e :: es) ta)
    (hc : eval (.Call (.Attribute (.Name x p1) "__init__" p2) (e :: es) [] pos) X.env = (do
      let ov ← eval (.Name x p1) X.env
      standAt p2.atName
      let (f, first) ← holding [ov] (getMethod ov "__init__" pl)
      callWith pos f first (backTo pos (starEach (e :: es) X.env)) (backToKw pos (keywordEach [] X.env))) := by rfl)
    (hd : (x == ("__debug__" : Str)) = false := by decide) (he : starEach (e :: es) X.env = (false, eval e X.env) :: starEach es X.env := by rfl) (hpl : (backTo pos (starEach es X.env)).any (·.1) = false := by rfl) :
    PE X (.Call (.Attribute (.Name x p1) "__init__" p2) (e :: es) [] pos) (tVeI X.K ta) := by
  refine ⟨fun pins s σ H Q I h => ?_⟩
  refine PySem.W.methodCall_KW (ld_glob I hg hm ?_ hd) hc
  refine PySem.W.method_cls I.kIn B.ga (PySem.W.cls_value I.kIn B.rd B.at_ (by decide +kernel) ?_)
  show wpAny _ _ (callWith pos (Value.builtin "ValueError.__init__") [] (backTo pos (starEach (e :: es) X.env)) []) _ _ _
  refine PyProof.Rows.callWith_method1 (thn (ha.run pos pins _ σ H _ (I.tok _) h) fun us s1 ⟨vs, H1, I1, r1, a, C, ws, ev, hl, T, ea, q⟩ => ?_) he hpl
  subst ev
  cases r1 with
  | @cons _ u0 _ ur r0 rr =>
    obtain rfl : u0 = Value.ref a := r0
    have hz : ur.length ≤ sizeLine := by
      rw [← Paired.length rr, sizeLine_eq]
      omega
    exact oinit_ok T I1 ea hz fun s' J => ⟨.non, H1, J, rfl, q⟩
end
end L2
/-! constants of the module; what an own exception class must say to be made -/
namespace L2
open PySem PySem.Spec PyProof.Rows
section
variable {X : Cx} {x : Str} {pos : Pos}
theorem pe_gi {i : Int} (hg : Gl X x) (h : ∃ t, X.mg x = some (.int i t)) (hd : (x == ("__debug__" : Str)) = false := by decide) : PE X (.Name x pos) (tC (.int i)) := by
  obtain ⟨t, h⟩ := h
  exact pe_glob hg h ⟨t, rfl⟩ hd
theorem pe_gs {z : Str} (hg : Gl X x) (h : ∃ t, X.mg x = some (.str z t)) (hd : (x == ("__debug__" : Str)) = false := by decide) : PE X (.Name x pos) (tC (.str z)) := by
  obtain ⟨t, h⟩ := h
  exact pe_glob hg h ⟨t, rfl⟩ hd
end
def oexL (K : PySem.W.Frag) (C : Addr) : Bool := match K.lookup C with
  | some ⟨.type "type", _, .cls cd, sl⟩ => (match cd.mro, sl.toList with
    | .ref B :: bm, [_, _, _, _, some (.builtin n), _] => decide (B = C) && (decide (n = "ValueError.__new__") && (!cd.hasDel && (cd.hasDict && PySem.HandSPX.refsVE bm)))
    | _, _ => false)
  | _ => false
theorem oexL_ok {K : PySem.W.Frag} {C : Addr} (h : oexL K C = true) : ∃ nm q N bs bm sn sub ab col dd k0 k1 k2 k3 k5, K.lookup C = some (excClassObj nm q C N bs bm true sn sub ab col dd k0 k1 k2 k3 k5 "ValueError.__new__") ∧ PySem.HandSPX.refsVE bm = true := by
  unfold oexL at h
  split at h
  · rename_i dd cd sl ho
    split at h
    · rename_i B bm k0 k1 k2 k3 n k5 hm hs
      obtain ⟨h1, h⟩ := He.ba h
      obtain ⟨h2, h⟩ := He.ba h
      obtain ⟨h3, h⟩ := He.ba h
      obtain ⟨h4, h5⟩ := He.ba h
      have e1 := of_decide_eq_true h1
      have e2 := of_decide_eq_true h2
      subst e1 e2
      obtain ⟨nm, bs, mro, ns, qn, hd, sn, sub, ab, col, del⟩ := cd
      have e3 : del = false := by
        cases del with
        | false => rfl
        | true => cases h3
      have e4 : hd = true := h4
      have e5 : mro = .ref B :: bm := hm
      subst e3 e4 e5
      have e6 : sl = #[k0, k1, k2, k3, some (.builtin "ValueError.__new__"), k5] := by
        obtain ⟨l⟩ := sl
        simp only at hs
        rw [hs]
      subst e6
      exact ⟨nm, qn, ns, bs, bm, sn, sub, ab, col, dd, k0, k1, k2, k3, k5, ho, h5⟩
    · cases h
  · cases h
def oexB (K : PySem.W.Frag) (x : Str) : Bool := oexL K (He.ga K x) && (He.eqO (PySem.W.findIn K (.ref (He.ga K x)) "__setattr__") (some (some (.builtin "object.__setattr__"))) &&
  (decide (PySem.W.subIn K (.ref (He.ga K x)) (.type "BaseException") = some true) && (decide (PySem.W.typeIn K (.ref (He.ga K x)) = some (.type "type")) && PySem.W.keepIn K (.ref (He.ga K x)))))
theorem oexB_ok {K : PySem.W.Frag} {x : Str} (h : oexB K x = true) : OexC K (He.ga K x) := by
  obtain ⟨h1, h⟩ := He.ba h
  obtain ⟨h2, h⟩ := He.ba h
  obtain ⟨h3, h⟩ := He.ba h
  obtain ⟨h4, h5⟩ := He.ba h
  exact ⟨oexL_ok h1, He.eqO_ok h2, of_decide_eq_true h3, of_decide_eq_true h4, h5⟩
/-- an exception's class asked of others -/
def kitsB (K : PySem.W.Frag) (x : Str) (ys : List (Str × Bool)) : Bool := ys.all fun y => decide (PySem.W.kitOne K (.ref (He.ga K x)) (.ref (He.ga K y.1)) = some y.2)
theorem kitsB_ok {K : PySem.W.Frag} {x : Str} {ys : List (Str × Bool)} (h : kitsB K x ys = true) {y : Str} {b : Bool} (m : (y, b) ∈ ys) : PySem.W.kitOne K (.ref (He.ga K x)) (.ref (He.ga K y)) = some b :=
  of_decide_eq_true (List.all_eq_true.mp h (y, b) m)
/-- the own __init__ of such a class: R.__init__(self, text); self.f = value -/
def sp_exi (C : Addr) (f : Str) : Sp := fun vs H Q _ => ∃ (a : Addr) (v : V), vs = [.ref a, v] ∧ H a = some (exo a C none) ∧ ∀ dx, H dx = none → dx ≠ a → Q .non (upd (upd H dx (exd dx [(f, v)])) a (exo a C (some dx)))
section
variable {X : Cx} {C : Addr} {f : Str}
/-- what raise C(e) asks, by that __init__ -/
theorem mk_exi {σ : St} {H : Hp} {Q : XK} {ta : TA} {v : V} (h : Evl.EvA ta σ H [v]) (k : ∀ H1 d, Evl.Ex H H1 → H1 d = none → Q (.ref C) (some d) (upd H1 d (.xd [(f, v)]))) : tMkO C (sp_exi C f) [] ta σ H Q :=
  h H (Evl.Ex.refl _) _ fun H1 e1 => ⟨by show 1 ≤ 1000; decide, fun a ha => by
    refine ⟨a, v, rfl, upd_same, fun dx hdx ne => ⟨rfl, dx, [(f, v)], upd_same, ?_, ?_, ?_⟩⟩
    · rw [upd_ne ne, upd_same]
    · rw [upd_ne ne] at hdx
      exact hdx
    · have hd1 : H1 dx = none := by
        rw [upd_ne ne] at hdx
        exact hdx
      have e : upd (del (upd (upd (upd H1 a (exo a C none)) dx (exd dx [(f, v)])) a (exo a C (some dx))) a) dx (.xd [(f, v)]) = upd H1 dx (.xd [(f, v)]) := by
        funext b
        by_cases hb : b = dx
        · rw [hb, upd_same, upd_same]
        · rw [upd_ne hb, upd_ne hb]
          by_cases hba : b = a
          · rw [hba, del_same, ha]
          · rw [del_ne hba, upd_ne hba, upd_ne hb, upd_ne hba]
      rw [e]
      exact k H1 dx e1 hd1⟩
end
end L2
/-! for i, c in enumerate(text); text * n. -/
namespace L2
open PySem PySem.Spec PyProof.Rows
/-- a text's signs, each with its number in a new pair -/
def Itse (z : Str) : It := ⟨fun i _ => i < z.cps.size, fun i H v H' => ∃ (T : Addr) (c : Nat), v = .ref T ∧ H T = none ∧ H' = upd H T (.tup [.int (i : Nat), .str ⟨#[c]⟩]) ∧ z.cps[i]? = some c, fun i _ => i = z.cps.size⟩
theorem draws_str {prog : Program} {w : World} {A : Around} (hh : A.handled = none) (it : Addr) (z : Str) (t : Tok) :
    Draws prog w A it [it] z.cps.size (fun i v => ∃ c u, z.cps[i]? = some c ∧ v = .str ⟨#[c]⟩ u) (fun i h => h.IsStrIter it (strIterType z) z t i) := by
  unfold strIterType
  by_cases ha : z.cps.all (· < 128) = true
  · rw [if_pos ha]
    exact Draws.strAscii hh it z t
  · rw [if_neg ha]
    exact Draws.strWide hh it z t
theorem turn_enumS {P : Program} {w : World} {K : PySem.W.Frag} {elts : List Expr} {kk : Nat} {tpos : Pos} (z : Str) (t : Tok) (e it : Addr) :
    Turn P w K (.Tuple elts kk tpos) (Itse z) [e, it] e (fun i h => (∃ old, IsEnum h e it ((i : Nat) : Int) old) ∧ h.IsStrIter it (strIterType z) z t i ∧ e ≠ it) where
  mem := by simp
  obj := fun i h st b hb => by
    obtain ⟨⟨old, he⟩, ⟨o, ho, hc, hd⟩, _⟩ := st
    have bb : b = e ∨ b = it := by simpa using hb
    rcases bb with q | q
    · subst q
      exact ⟨_, he, fun v y => nomatch y⟩
    · subst q
      exact ⟨o, ho, fun v y => by rw [hd] at y; cases y⟩
  keep := fun i h h' st k => by
    obtain ⟨⟨old, he⟩, ⟨o, ho, r⟩, ne⟩ := st
    exact ⟨⟨old, k e (by simp) _ he⟩, ⟨o, k it (by simp) _ ho, r⟩, ne⟩
  item := by
    intro X hP hw hK hc i pins s σ H E I hf st hg
    subst hP hw hK
    obtain ⟨⟨old, he⟩, hit, ne⟩ := st
    have le : e < s.heap.objs.size := Heap.lt_size he
    have li : it < s.heap.objs.size := by
      obtain ⟨_, q, _⟩ := hit
      exact Heap.lt_size q
    refine wpAny_pyNext_enum_itemD (draws_str (A := X.A.in1) (I.ok.hd hc) it z t) he hit hg ne (by simpa using ne) fun x h' tk px ho st' hT hz hk => ?_
    obtain ⟨c, u, ec, rfl⟩ := px
    refine ⟨_, rfl, wpAny_letOwnedTupleGo_enum (s := { s with heap := h', toks := tk + 1 }) ho fun h'' he' sb => ?_⟩
    have hT2 : h''.get? s.heap.objs.size = some { cls := .type "tuple", data := .seq #[.int i tk, .str ⟨#[c]⟩ u] } := (sb.2 _ (Nat.ne_of_gt le)).trans hT
    have new : ObjOk X.prog X.w (upd H s.heap.objs.size (.tup [.int (i : Nat), .str ⟨#[c]⟩])) h'' s.heap.objs.size (.tup [.int (i : Nat), .str ⟨#[c]⟩]) :=
      ⟨by show 2 ≤ sizeLine; decide, [.int i tk, .str ⟨#[c]⟩ u], .cons ⟨_, rfl⟩ (.cons ⟨_, rfl⟩ .nil), ⟨_, hT2, rfl, _, rfl⟩⟩
    have J : Inv X pins σ (upd H s.heap.objs.size (.tup [.int (i : Nat), .str ⟨#[c]⟩])) { s with heap := h'', toks := tk + 1 } :=
      I.turnedNew (ch := [e, it]) (fun b ob hb q => (sb.2 b (fun y => hb (by simp [y]))).trans (hk b ob (fun y => hb (by simp [y])) (fun y => hb (by simp [y])) q)) hf (Nat.le_refl _) new
    refine ⟨.ref s.heap.objs.size, _, J, rfl, ⟨_, c, rfl, I.hok.fresh (Nat.le_refl _), rfl, ec⟩, ⟨⟨.str ⟨#[c]⟩ u, ?_⟩, ?_, ne⟩, fun b hb => ?_⟩
    · have e1 : ((i + 1 : Nat) : Int) = (i : Int) + 1 := by omega
      rw [e1]
      exact he'
    · obtain ⟨o, q, r⟩ := st'
      exact ⟨o, (sb.2 it (Ne.symm ne)).trans q, r⟩
    · have lb : b < s.heap.objs.size := by
        have bb : b = e ∨ b = it := by simpa using hb
        rcases bb with q | q
        · rw [q]
          exact le
        · rw [q]
          exact li
      rw [upd_ne (Nat.ne_of_lt lb)]
      exact (hf b hb).1
  done := by
    intro X hP hw hK hc i pins s σ H E I hf st hg
    subst hP hw hK
    obtain ⟨⟨old, he⟩, hit, ne⟩ := st
    obtain ⟨f0, f1, f2, f3, f4, f5⟩ := hf it (by simp)
    have q : i = z.cps.size := hg
    subst q
    exact wpAny_pyNext_enum_endD (draws_str (A := X.A.in1) (I.ok.hd hc) it z t) he hit fun h' eb => ⟨rfl, I.turned (t' := s.toks) (fun b o hb y => eb b o hb y) f0 f1 f3 f4 f5⟩
  self := fun A i s Q E st h => by
    obtain ⟨⟨_, he⟩, _⟩ := st
    exact wpAny_pyIter_enum he h
def iEnumS (ta : TA) : TI := fun σ H R => ta σ H fun vs H1 => ∃ z : Str, vs = [.str z] ∧ R (Itse z) H1
theorem pi_enumS {X : Cx} {e : Expr} {ta : TA} {p pos tpos : Pos} {elts : List Expr} {kk : Nat} (hg : Gl X "enumerate") (hm : X.mg "enumerate" = none) (ha : PA X [e] ta) (hs : starEach [e] X.env = [(false, eval e X.env)] := by rfl) :
    PI X (.Tuple elts kk tpos) (.Call (.Name "enumerate" p) [e] [] pos) (iEnumS ta) := by
  refine ⟨fun pins s σ H R I h => ?_⟩
  refine Call_ (ld_blt I hg hm boot_enumerate (PyProof.Rows.callWith_type1 (thn (ha.run pos pins s σ H _ I h) fun us s1 ⟨vs, H1, I1, r1, z, ez, q⟩ => ?_) hs rfl))
  subst ez
  obtain ⟨u, rfl, t, rfl⟩ := vals1 r1
  refine call_enumerate_str fun h' he hit hsz hk => wpAny_pyIter_enum he ?_
  have J : Inv X pins σ H1 { s1 with heap := h' } := I1.kept (t' := s1.toks) hk
  refine ⟨s1.heap.objs.size + 1, [s1.heap.objs.size + 1, s1.heap.objs.size], _, _, H1, rfl, J, turn_enumS z t (s1.heap.objs.size + 1) s1.heap.objs.size, ⟨⟨.none, he⟩, hit, Nat.succ_ne_self _⟩, fun b hb => ?_, q⟩
  have bb : b = s1.heap.objs.size + 1 ∨ b = s1.heap.objs.size := by simpa using hb
  have lb : s1.heap.objs.size ≤ b := by
    rcases bb with q | q
    · rw [q]
      exact Nat.le_add_right _ _
    · rw [q]
      exact Nat.le_refl _
  exact I1.fpOk lb (I1.hok.fresh lb)
/-- the loop: Pv i holds ahead of the i-th sign -/
theorem for_enumS {z : Str} {g : TG} {tb : TS} {D : Ends} {σ : St} {H : Hp} (Pv : Nat → St → Hp → Prop) (h0 : Pv 0 σ H)
    (hs : ∀ i c σ H T, z.cps[i]? = some c → Pv i σ H → H T = none → g (.ref T) σ (upd H T (.tup [.int (i : Nat), .str ⟨#[c]⟩])) fun σ2 H2 => tb { D with nx := Pv (i + 1), ct := Pv (i + 1), bk := D.nx } σ2 H2) (hd : ∀ σ H, Pv z.cps.size σ H → D.nx σ H) :
    ∃ W : Nat → Nat → St → Hp → Prop, (∃ m, W 0 m σ H) ∧ ∀ i m σ H, W i m σ H →
      ((Itse z).stop i H ∧ D.nx σ H) ∨ ((Itse z).go i H ∧ ∃ N : St → Hp → Prop, (∀ σ' H', N σ' H' → ∃ m', m' < m ∧ W (i + 1) m' σ' H') ∧ ∀ x H', (Itse z).yld i H x H' → g x σ H' fun σ2 H2 => tb { D with nx := N, ct := N, bk := D.nx } σ2 H2) := by
  refine ⟨fun i m σ H => m = z.cps.size - i ∧ i ≤ z.cps.size ∧ Pv i σ H, ⟨z.cps.size, by simp, Nat.zero_le _, h0⟩, ?_⟩
  rintro i m σ H ⟨rfl, hi, p⟩
  by_cases lt : i < z.cps.size
  · refine .inr ⟨lt, Pv (i + 1), fun σ' H' p' => ⟨z.cps.size - (i + 1), by omega, rfl, lt, p'⟩, fun x H' y => ?_⟩
    obtain ⟨T, c, rfl, hT, rfl, ec⟩ := y
    exact hs i c σ H T ec p hT
  · have e : i = z.cps.size := by omega
    subst e
    exact .inl ⟨rfl, hd σ H p⟩
/-- text * n, n small -/
def rMulS : R2 := fun x y H Q => ∃ (z : Str) (n : Nat), x = .str z ∧ y = .int (n : Int) ∧ z.length ≤ 1000 ∧ n ≤ 1000 ∧ Q (.str ⟨(List.replicate n z.cps.toList).flatten.toArray⟩) H
theorem rep_fold (n : Nat) (a : Array Nat) (b : Array Nat) : ((List.replicate n a).foldl (· ++ ·) b).toList = b.toList ++ (List.replicate n a.toList).flatten := by
  induction n generalizing b with
  | zero => simp
  | succ n ih =>
    rw [List.replicate_succ, List.foldl_cons, ih, List.replicate_succ, List.flatten_cons]
    simp
theorem op_mulS {X : Cx} : OpR X (binaryOp .Mult) rMulS := by
  intro pins s σ H x y v u Q I rx ry h
  obtain ⟨z, n, rfl, rfl, hz, hn, q⟩ := h
  obtain ⟨t, rfl⟩ := rx
  obtain ⟨t', rfl⟩ := ry
  have zl : z.length = z.cps.size := rfl
  have big : z.length * n ≤ 1000 * 1000 := Nat.mul_le_mul hz hn
  refine PySem.P.mul_str (by rw [decide_eq_false (by omega), decide_eq_false (by omega)]; rfl) (fun h1 _ h2 => ?_) (fun h1 _ => ?_) ?_
  · have h3 : (n : Int) * ((2 ^ 63 - 1) / (n : Int)) > 2 ^ 63 - 1 - (n : Int) := by
      have := Int.lt_ediv_add_one_mul_self (2 ^ 63 - 1) (show (0 : Int) < n by omega)
      have e := Int.mul_comm ((2 ^ 63 - 1) / (n : Int)) n
      have e2 : ((2 ^ 63 - 1) / (n : Int) + 1) * (n : Int) = (2 ^ 63 - 1) / (n : Int) * n + n := by rw [Int.add_mul, Int.one_mul]
      omega
    have h4 : (n : Int) * ((2 ^ 63 - 1) / (n : Int)) ≤ (n : Int) * (z.length : Int) := Int.mul_le_mul_of_nonneg_left (by omega) (by omega)
    have h5 : (n : Int) * (z.length : Int) = ((z.length * n : Nat) : Int) := by rw [Int.natCast_mul, Int.mul_comm]
    omega
  · rw [Int.toNat_natCast]
    unfold PySem.Builtin.Str.tooLong
    exact decide_eq_false (by rw [sizeLine_eq]; omega)
  · by_cases h1 : (n : Int) < 1
    · rw [if_pos h1]
      have n0 : n = 0 := by omega
      subst n0
      exact ⟨by decide, ⟨.str _, H, I.tok _, ⟨_, rfl⟩, q⟩⟩
    · rw [if_neg h1]
      by_cases h2 : ((n : Int) == 1 || z.length == 0) = true
      · rw [if_pos h2]
        have e : (⟨(List.replicate n z.cps.toList).flatten.toArray⟩ : Str) = z := by
          rw [Bool.or_eq_true, beq_iff_eq, beq_iff_eq] at h2
          rcases h2 with h2 | h2
          · have : n = 1 := by omega
            subst this
            simp
          · have : z.cps = #[] := Array.eq_empty_of_size_eq_zero h2
            obtain ⟨cps⟩ := z
            dsimp only at this
            subst this
            simp
        rw [e] at q
        exact ⟨.str z, H, I, ⟨_, rfl⟩, q⟩
      · rw [if_neg h2]
        have e : (⟨(List.replicate (n : Int).toNat z.cps).foldl (· ++ ·) #[]⟩ : Str) = ⟨(List.replicate n z.cps.toList).flatten.toArray⟩ := by
          rw [Int.toNat_natCast]
          congr 1
          apply Array.ext'
          rw [rep_fold]
          simp
        rw [e]
        refine ⟨?_, ⟨.str _, H, I.tok _, ⟨_, rfl⟩, q⟩⟩
        show ((List.replicate n z.cps.toList).flatten.toArray).size ≤ sizeLine
        rw [List.size_toArray, List.length_flatten, List.map_replicate, List.sum_replicate_nat, sizeLine_eq]
        have zz : z.cps.toList.length = z.length := by simp [Str.length]
        rw [zz, Nat.mul_comm]
        omega
end L2
namespace L2
open PySem PySem.Spec PyProof.Rows _root_.Evl
section
variable {σ : L2.St} {H : Hp} {t u : TT} {b : Bool}
theorem et_and0 (h : EvT t σ H false) : EvT (tAnd t u) σ H false := fun H1 e Q q => h H1 e _ fun H2 e2 => iteF (q H2 e2)
theorem et_and1 (h : EvT t σ H true) (h2 : EvT u σ H b) : EvT (tAnd t u) σ H b := fun H1 e Q q => h H1 e _ fun H2 e2 => iteT (h2 H2 (e.trans e2) Q fun H3 e3 => q H3 (e2.trans e3))
theorem et_or1 (h : EvT t σ H true) : EvT (tOr t u) σ H true := fun H1 e Q q => h H1 e _ fun H2 e2 => iteT (q H2 e2)
theorem et_or0 (h : EvT t σ H false) (h2 : EvT u σ H b) : EvT (tOr t u) σ H b := fun H1 e Q q => h H1 e _ fun H2 e2 => iteF (h2 H2 (e.trans e2) Q fun H3 e3 => q H3 (e2.trans e3))
theorem q_forE {te : TE} {g : TG} {tu tz : TS} {D : Ends} {z : Str} (h : Ev te σ H (.str z)) (Pv : Nat → St → Hp → Prop) (h0 : ∀ H1, Ex H H1 → Pv 0 σ H1)
    (hs : ∀ i c σ' H' T, z.cps[i]? = some c → Pv i σ' H' → H' T = none → g (.ref T) σ' (upd H' T (.tup [.int (i : Nat), .str ⟨#[c]⟩])) fun σ2 H2 => tu { D with nx := Pv (i + 1), ct := Pv (i + 1), bk := tz D } σ2 H2) (hd : ∀ σ' H', Pv z.cps.size σ' H' → tz D σ' H') :
    tSeq (tFor (iEnumS (tCons te tNil)) g tu) tz D σ H := h H (Ex.refl _) _ fun H1 e1 => ⟨z, rfl, for_enumS (D := { D with nx := tz D }) Pv (h0 H1 e1) hs hd⟩
theorem q_two {K : PySem.W.Frag} {tA : TA} {i j : Nat} {tz : TS} {D : Ends} {v w : V} (h : EvA tA σ H [v, w]) (k : ∀ H1, Ex H H1 → tz D ((σ.set i (some v)).set j (some w)) H1) : tSeq (tAsg (tTup tA) (gTup K 2 (gCons (gName i) (gCons (gName j) gNil)))) tz D σ H :=
  h H (Ex.refl _) _ fun H1 e1 => ⟨by show 2 ≤ sizeLine; decide, fun p hp => ⟨p, _, rfl, st_of upd_same, rfl, _, _, rfl, _, _, rfl, rfl, k _ (e1.trans (Ex.new hp))⟩⟩
end
end L2
/-! for c in text; list.count of truths; comprehensions over zip and over rows. -/
namespace L2
open PySem PySem.Spec PyProof.Rows _root_.Evl
/-- for c in text, something behind -/
theorem q_forS {σ : L2.St} {H : Hp} {te : TE} {j : Nat} {tu tz : TS} {D : Ends} {z : Str} (h : Ev te σ H (.str z)) (Pv : Nat → St → Hp → Prop) (h0 : ∀ H1, Ex H H1 → Pv 0 σ H1)
    (hs : ∀ i c σ' H', z.cps[i]? = some c → Pv i σ' H' → tu { D with nx := Pv (i + 1), ct := Pv (i + 1), bk := tz D } (σ'.set j (some (.str ⟨#[c]⟩))) H') (hd : ∀ σ' H', Pv z.cps.size σ' H' → tz D σ' H') :
    tSeq (tFor (iStr te) (gName j) tu) tz D σ H := h H (Ex.refl _) _ fun H1 e1 => ⟨z, rfl, fun i m σ' H' => m = z.cps.size - i ∧ i ≤ z.cps.size ∧ Pv i σ' H', ⟨z.cps.size, by simp, Nat.zero_le _, h0 H1 e1⟩, by
      rintro i m σ' H' ⟨rfl, hi, p⟩
      by_cases lt : i < z.cps.size
      · refine .inr ⟨lt, Pv (i + 1), fun σ2 H2 p2 => ⟨z.cps.size - (i + 1), by omega, rfl, lt, p2⟩, fun x H2 y => ?_⟩
        obtain ⟨rfl, c, hc, rfl⟩ := y
        exact hs i c σ' _ hc p
      · have e : i = z.cps.size := by omega
        subst e
        exact .inl ⟨Nat.le_refl _, hd σ' H' p⟩⟩
/-- list.count of a truth, of truths -/
def rCntB (K : PySem.W.Frag) : V → List V → Hp → VK → Prop := fun x xs H Q => ∃ (p : Addr) (bs : List Bool) (k : Bool), x = .ref p ∧ xs = [.bl k] ∧ SqL K H p (bs.map V.bl) ∧ Q (.int (bs.count k : Nat)) H
theorem bools_vals : ∀ {bs : List Bool} {us : List Value}, Vals (bs.map V.bl) us → us = bs.map Value.bool
  | [], _, .nil => rfl
  | b :: r, _, .cons h t => by
    rw [bools_vals t]
    cases h
    rfl
theorem bools_reads (hp : Heap) : ∀ bs : List Bool, ∃ as, ReadsAll hp (bs.map Value.bool) (bs.map PyData.bool) as
  | [] => ⟨_, .nil⟩
  | b :: r => by
    obtain ⟨as, h⟩ := bools_reads hp r
    exact ⟨_, .cons (.bool b) h⟩
theorem bools_count (k : Bool) : ∀ bs : List Bool, countIn (.bool k) (bs.map PyData.bool) = ((bs.count k : Nat) : Int)
  | [] => rfl
  | b :: r => by
    rw [List.map_cons, countIn, bools_count k r, List.count_cons]
    cases b <;> cases k <;> simp [same] <;> omega
theorem mt_lcountB {X : Cx} : MtR X "list.count" (rCntB X.K) := by
  intro pins s σ H x xs v us Q I rx rxs h
  obtain ⟨p, bs, k, rfl, rfl, hs, q⟩ := h
  cases rx
  obtain ⟨u, rfl, ru⟩ := rxs.one
  cases ru
  obtain ⟨its, rv, ⟨⟨cls, dd, data, sl⟩, n, ho, hc, hdn, hd⟩, hlen⟩ := I.list hs
  simp only at hc hd
  have e := bools_vals rv
  obtain ⟨as, ra⟩ := bools_reads s.heap bs
  rw [← e] at ra
  refine count_list_bools (hp := s.heap) ⟨_, ho, hc, n, hd⟩ ra (by
    rw [List.all_eq_true]
    intro d hd
    obtain ⟨b, _, rfl⟩ := List.mem_map.mp hd
    rfl) ?_
  rw [bools_count]
  exact ⟨.int _, H, I.tok _, ⟨_, rfl⟩, q⟩
/-- what a comprehension that yields pairs wants of its iterator -/
theorem lc_pairs {K : PySem.W.Frag} {σ : L2.St} {H : Hp} {te : TE} {Q : VK} {J : It} {xs ys : List V} {j l : Nat} {vs : List Nat} (v : Nat → V) (hl : xs.length ≤ 1000)
    (hgo : ∀ i H', Ex H H' → i < xs.length → J.go i H') (hstop : ∀ H', Ex H H' → J.stop xs.length H')
    (hy : ∀ i x H' H'', Ex H H' → J.yld i H' x H'' → ∃ T a b, x = .ref T ∧ H' T = none ∧ H'' = upd H' T (.tup [a, b]) ∧ xs[i]? = some a ∧ ys[i]? = some b)
    (hw : ∀ x y, wipe (((wipe σ vs).set j (some x)).set l (some y)) vs = wipe σ vs)
    (he : ∀ (i : Nat) (x y : V) H1, Ex H H1 → xs[i]? = some x → ys[i]? = some y → Ev te (((wipe σ vs).set j (some x)).set l (some y)) H1 (v i))
    (k : ∀ p H1, H p = none → Ex H H1 → H1 p = some (.lst ((List.range xs.length).map v)) → Q (.ref p) H1) :
    tLc (fun _ H1 R => R J H1) (gTup K 2 (gCons (gName j) (gCons (gName l) gNil))) tYes te vs σ H Q := by
  intro D hD
  refine ⟨fun i m H' => m = xs.length - i ∧ i ≤ xs.length ∧ Ex H H' ∧ H' D = some (.lst ((List.range i).map v)), ⟨xs.length, rfl, Nat.zero_le _, Ex.new hD, upd_same⟩, ?_⟩
  rintro i m H' ⟨rfl, hi, e, h⟩
  by_cases lt : i < xs.length
  · refine .inr ⟨hgo i H' e lt, fun H2 => Ex H H2 ∧ H2 D = some (.lst ((List.range (i + 1)).map v)), fun H2 ⟨e2, h2⟩ => ⟨xs.length - (i + 1), by omega, rfl, lt, e2, h2⟩, fun x H2 y => ?_⟩
    obtain ⟨T, a, b, rfl, hT, rfl, hx, hyb⟩ := hy i x H' H2 e y
    refine ⟨T, _, rfl, st_of upd_same, rfl, _, _, rfl, _, _, rfl, rfl, hw a b, ?_⟩
    refine he i a b _ (e.trans (Ex.new hT)) hx hyb _ (Ex.refl _) _ fun H3 e3 => ?_
    have e03 : Ex H' H3 := (Ex.new hT).trans e3
    refine ⟨_, e03 _ _ h, ?_, ?_, ?_⟩
    · rw [List.length_map, List.length_range, sizeLine_eq]
      omega
    · exact Ex.mut (e.trans e03) hD
    · rw [upd_same, List.range_succ, List.map_append]
      rfl
  · have e2 : i = xs.length := by omega
    subst e2
    exact .inl ⟨hstop H' e, k D H' hD e h⟩
theorem el_lcZ {K : PySem.W.Frag} {σ : L2.St} {H : Hp} {ta tb te : TE} {a b : Addr} {xs ys : List V} {j l : Nat} {vs : List Nat} (v : Nat → V) (ha : Ev ta σ H (.ref a)) (hb : Ev tb σ H (.ref b)) (hxy : (SqL K H a xs ∧ SqL K H b ys) ∨ (SqT K H a xs ∧ SqT K H b ys)) (hl : xs.length ≤ 1000) (hll : xs.length = ys.length)
    (hw : ∀ x y, wipe (((wipe σ vs).set j (some x)).set l (some y)) vs = wipe σ vs)
    (he : ∀ (i : Nat) (x y : V) H1, Ex H H1 → xs[i]? = some x → ys[i]? = some y → Ev te (((wipe σ vs).set j (some x)).set l (some y)) H1 (v i)) :
    EvL (tLc (RZ.iZipA K (tCons ta (tCons tb tNil))) (gTup K 2 (gCons (gName j) (gCons (gName l) gNil))) tYes te vs) σ H ((List.range xs.length).map v) := fun H0 e Q q =>
  ha H0 e _ fun H1 e1 => hb H1 (e.trans e1) _ fun H2 e2 => by
    have eA : Ex H H2 := (e.trans e1).trans e2
    have lt2 : ∀ {i : Nat}, i < xs.length → ys[i]? = some (ys.getD i .non) := fun {i} hi => by
      rw [List.getD_eq_getElem?_getD, List.getElem?_eq_getElem (by omega)]
      rfl
    have lt1 : ∀ {i : Nat}, i < xs.length → xs[i]? = some (xs.getD i .non) := fun {i} hi => by
      rw [List.getD_eq_getElem?_getD, List.getElem?_eq_getElem hi]
      rfl
    rcases hxy with ⟨hx, hy⟩ | ⟨hx, hy⟩
    · refine ⟨a, b, xs, ys, rfl, .inl ⟨ex_l eA hx, ex_l eA hy, ?_⟩⟩
      exact lc_pairs (K := K) (H := H2) (J := Itz K a b) (xs := xs) (ys := ys) v hl (fun i H' e' hi => ⟨xs, ys, _, _, ex_l (eA.trans e') hx, ex_l (eA.trans e') hy, lt1 hi, lt2 hi⟩) (fun H' e' => ⟨xs, ys, ex_l (eA.trans e') hx, ex_l (eA.trans e') hy, .inl (Nat.le_refl _)⟩)
        (fun i x H' H'' e' y => by
          obtain ⟨T, x', y', rfl, hT, rfl, f1, f2⟩ := y
          exact ⟨T, x', y', rfl, hT, rfl, f1 _ (ex_l (eA.trans e') hx), f2 _ (ex_l (eA.trans e') hy)⟩) hw (fun i x y H3 e3 h1 h2 => he i x y H3 (eA.trans e3) h1 h2) fun p H3 hp e3 h3 => q p H3 (fresh_back (e1.trans e2) hp) ((e1.trans e2).trans e3) h3
    · refine ⟨a, b, xs, ys, rfl, .inr ⟨ex_t eA hx, ex_t eA hy, ?_⟩⟩
      exact lc_pairs (K := K) (H := H2) (J := RZ.ItzT K a b) (xs := xs) (ys := ys) v hl (fun i H' e' hi => ⟨xs, ys, _, _, ex_t (eA.trans e') hx, ex_t (eA.trans e') hy, lt1 hi, lt2 hi⟩) (fun H' e' => ⟨xs, ys, ex_t (eA.trans e') hx, ex_t (eA.trans e') hy, .inl (Nat.le_refl _)⟩)
        (fun i x H' H'' e' y => by
          obtain ⟨T, x', y', rfl, hT, rfl, f1, f2⟩ := y
          exact ⟨T, x', y', rfl, hT, rfl, f1 _ (ex_t (eA.trans e') hx), f2 _ (ex_t (eA.trans e') hy)⟩) hw (fun i x y H3 e3 h1 h2 => he i x y H3 (eA.trans e3) h1 h2) fun p H3 hp e3 h3 => q p H3 (fresh_back (e1.trans e2) hp) ((e1.trans e2).trans e3) h3
/-! ''.join of single signs -/
theorem jn_ones : ∀ zs : List Nat, TL.joinL [] (zs.map fun c => [c]) = zs
  | [] => rfl
  | [_] => rfl
  | a :: b :: r => by
    show [a] ++ ([] ++ TL.joinL [] ((b :: r).map fun c => [c])) = _
    rw [jn_ones (b :: r)]
    rfl
theorem jn_text (zs : List Nat) : Txt.join (Str.ofString "") (zs.map fun c => (⟨#[c]⟩ : Str)) = ⟨zs.toArray⟩ := by
  have h : TL.tl (Txt.join (Str.ofString "") (zs.map fun c => (⟨#[c]⟩ : Str))) = zs := by
    rw [TL.join_eq, TL.tl_join, List.map_map]
    exact jn_ones zs
  rw [← TL.mk_tl (Txt.join (Str.ofString "") (zs.map fun c => (⟨#[c]⟩ : Str))), h]
theorem jn_sum (zs : List Nat) : ((zs.map fun c => (⟨#[c]⟩ : Str)).map (·.length)).sum = zs.length := by
  induction zs with
  | nil => rfl
  | cons a r ih =>
    rw [List.map_cons, List.map_cons, List.sum_cons, ih, List.length_cons]
    show 1 + _ = _
    omega
/-- x //= e, something behind -/
theorem q_augF {σ : L2.St} {H : Hp} {te : TE} {tz : TS} {D : Ends} {i : Nat} {a b : Int} (hx : σ[i]? = some (some (.int a))) (h : Ev te σ H (.int b)) (hb : CDiv a b) (k : ∀ H1, Ex H H1 → tz D (σ.set i (some (.int (a / b)))) H1) : tSeq (tAug i te (rI CDiv fun i j => .int (i / j))) tz D σ H :=
  ⟨.int a, hx, h H (Ex.refl H) _ fun H1 e => ⟨a, b, rfl, rfl, hb, k H1 e⟩⟩
theorem et_yes {σ : L2.St} {H : Hp} : EvT tYes σ H true := fun H8 _ Q' q' => q' H8 (Ex.refl _)
/-! caught exceptions, asked -/
section
variable {K : PySem.W.Frag} {σ : L2.St} {H : Hp} {ta tu te : TE} {t : TT}
theorem rv_isN {x : V} : RV (fun x y H Q => y = .non ∧ Q (.bl (decide (x = .non))) H) x .non H (.bl (decide (x = .non))) := fun H1 _ Q q => ⟨rfl, q H1 (Ex.refl _)⟩
theorem rc_isk {a C d : Addr} {fs : List (Str × V)} {c : V} {u : Value} {b : Bool} (xa : ExcAt H a C d fs) (T : XkC K C) (hc : ClsV c u) (hk : PySem.W.kitOne K (.ref C) u = some b) : RC (rIsk K) [.ref a, c] H (.bl b) := fun H1 e Q q =>
  ⟨a, C, d, fs, c, u, b, rfl, xa.ex e, T, hc, hk, q H1 (Ex.refl _)⟩
theorem ev_iskT {a C d : Addr} {fs : List (Str × V)} {cls : List V} {us : List Value} {b : Bool} (ha : Ev ta σ H (.ref a)) (hu : EvU tu σ H cls) (xa : ExcAt H a C d fs) (T : XkC K C) (hc : Paired ClsV cls us) (hk : PySem.W.kitAny K (.ref C) us = some b) :
    Ev (tCB (rIskT K) (tCons ta (tCons tu tNil))) σ H (.bl b) := fun H1 e Q q =>
  ha H1 e _ fun H2 e2 => hu H2 (e.trans e2) _ fun tp H3 _ e3 h3 => ⟨a, C, d, tp, fs, cls, us, b, rfl, xa.ex ((e.trans e2).trans e3), T, h3, hc, hk, q H3 (e2.trans e3)⟩
theorem ev_xk {a C d : Addr} {fs : List (Str × V)} {f : Str} {v : V} (ha : Ev ta σ H (.ref a)) (xa : ExcAt H a C d fs) (T : XkC K C) (hn : NoAttr K C f) (hl : fs.lookup f = some v) : Ev (tXk K ta f) σ H v := fun H1 e Q q =>
  ha H1 e _ fun H2 e2 => ⟨a, C, d, fs, v, rfl, xa.ex (e.trans e2), T, hn, hl, q H2 e2⟩
/-- isinstance(x, (c, ..)) -/
theorem ev_isiT {x : V} {t : Value} {cls : List V} {us : List Value} {b : Bool} (hx : Ev ta σ H x) (hu : EvU tu σ H cls) (ht : ∀ H1, Ex H H1 → TyX K H1 x t) (hc : Paired ClsV cls us) (hk : PySem.W.kitAny K t us = some b) : Ev (tCB (rIsiT K) (tCons ta (tCons tu tNil))) σ H (.bl b) := fun H1 e Q q =>
  hx H1 e _ fun H2 e2 => hu H2 (e.trans e2) _ fun tp H3 _ e3 h3 => ⟨x, tp, cls, t, us, b, rfl, h3, hc, ht H3 ((e.trans e2).trans e3), hk, q H3 (e2.trans e3)⟩
theorem ev_all {xs : List V} {bs : List Bool} (h : EvL te σ H xs) (hx : xs = bs.map V.bl) : Ev (tCB (rAll K) (tCons te tNil)) σ H (.bl (bs.all id)) := fun H1 e Q q =>
  h H1 e _ fun p H2 _ e2 h2 => ⟨p, bs, rfl, sq_of (by rw [← hx]; exact h2), q H2 e2⟩
/-- xs + [..], of a list that stands there -/
theorem el_cat {a : Addr} {xs ys : List V} (ha : Ev ta σ H (.ref a)) (hx : H a = some (.lst xs)) (h : EvL tu σ H ys) (hn : xs.length + ys.length ≤ 100000) : EvL (tOp rCat ta tu) σ H (xs ++ ys) := fun H1 e Q q =>
  ha H1 e _ fun H2 e2 => h H2 (e.trans e2) _ fun b H3 hb e3 h3 => ⟨a, b, xs, ys, rfl, rfl, ((e.trans e2).trans e3) _ _ hx, h3, sz_of hn, fun p hp => q p _ (fresh_back (e2.trans e3) hp) ((e2.trans e3).trans (Ex.new hp)) upd_same⟩
theorem ev_eqB {a b : Bool} (ha : Ev ta σ H (.bl a)) (hb : Ev tu σ H (.bl b)) : Ev (tOp rEq ta tu) σ H (.bl (a == b)) := by
  have h := ev_op ha hb (rv_eq (x := .bl a) (y := .bl b) rfl)
  rw [dec_bl] at h
  exact h
theorem ev_neB {a b : Bool} (ha : Ev ta σ H (.bl a)) (hb : Ev tu σ H (.bl b)) : Ev (tOp rNe ta tu) σ H (.bl (a != b)) := by
  have h := ev_op ha hb (rv_ne (x := .bl a) (y := .bl b) rfl)
  rw [dec_bl] at h
  exact h
end
/-! rows of three: loops and comprehensions by their parts -/
section
variable {K : PySem.W.Frag} {σ : L2.St} {H : Hp} {ta te : TE} {t : TT} {D : Ends} {tu tz : TS} {a : Addr} {rs : List V} {j1 j2 j3 : Nat}
theorem q_forT3 (h : Ev ta σ H (.ref a)) (Pv : Nat → L2.St → Hp → Prop) (h0 : ∀ H1, Ex H H1 → Pv 0 σ H1) (hl : ∀ i σ' H', i ≤ rs.length → Pv i σ' H' → SqL K H' a rs)
    (hs : ∀ i v σ' H', rs[i]? = some v → Pv i σ' H' → ∃ r x y z, v = .ref r ∧ H' r = some (.tup [x, y, z]) ∧ tu { D with nx := Pv (i + 1), ct := Pv (i + 1), bk := tz D } (((σ'.set j1 (some x)).set j2 (some y)).set j3 (some z)) H') (hd : ∀ σ' H', Pv rs.length σ' H' → tz D σ' H') :
    tSeq (tFor (iList K ta) (gTup K 3 (gCons (gName j1) (gCons (gName j2) (gCons (gName j3) gNil)))) tu) tz D σ H := h H (Ex.refl _) _ fun H1 e1 => ⟨a, rfl, ⟨rs, hl 0 σ H1 (Nat.zero_le _) (h0 H1 e1)⟩, fun i m σ' H' => m = rs.length - i ∧ i ≤ rs.length ∧ Pv i σ' H', ⟨rs.length, by simp, Nat.zero_le _, h0 H1 e1⟩, by
      rintro i m σ' H' ⟨rfl, hi, p⟩
      have q := hl i σ' H' hi p
      by_cases lt : i < rs.length
      · refine .inr ⟨⟨rs, rs[i], q, by simp [lt]⟩, Pv (i + 1), fun σ2 H2 p2 => ⟨rs.length - (i + 1), by omega, rfl, lt, p2⟩, fun v H2 y => ?_⟩
        obtain ⟨rfl, y⟩ := y
        obtain ⟨r, x, y, z, rfl, hr, hb⟩ := hs i v σ' _ (y rs q) p
        exact ⟨r, _, rfl, st_of hr, rfl, _, _, rfl, _, _, rfl, _, _, rfl, rfl, hb⟩
      · have e : i = rs.length := by omega
        subst e
        exact .inl ⟨⟨rs, q, Nat.le_refl _⟩, hd σ' H' p⟩⟩
theorem el_lcT3 {vs : List Nat} (f : Nat → Bool) (v : Nat → V) (h : Ev ta σ H (.ref a)) (hx : SqL K H a rs) (hz : rs.length ≤ 40000) (hw : ∀ x y z, wipe ((((wipe σ vs).set j1 (some x)).set j2 (some y)).set j3 (some z)) vs = wipe σ vs)
    (hr : ∀ i u, rs[i]? = some u → ∃ r x y z, u = .ref r ∧ H r = some (.tup [x, y, z]) ∧ ∀ H1, Ex H H1 → EvT t ((((wipe σ vs).set j1 (some x)).set j2 (some y)).set j3 (some z)) H1 (f i) ∧ (f i = true → Ev te ((((wipe σ vs).set j1 (some x)).set j2 (some y)).set j3 (some z)) H1 (v i))) :
    EvL (tLc (iList K ta) (gTup K 3 (gCons (gName j1) (gCons (gName j2) (gCons (gName j3) gNil)))) t te vs) σ H (given rs.length f v) := fun H0 e Q q => h H0 e _ fun H1 e1 => ⟨a, rfl, ⟨rs, ex_l (e.trans e1) hx⟩, fun Dl hD =>
  lc_list (xs := rs) (Cw H1 f v Dl) ⟨hD, Ex.new hD, upd_same⟩ (fun i H' _ p => ex_l ((e.trans e1).trans p.2.1) hx) (fun i u H' hi p => by
      obtain ⟨r, x, y, z, rfl, hrr, hE⟩ := hr i u hi
      have hlt : i < rs.length := (List.getElem?_eq_some_iff.mp hi).1
      exact ⟨r, _, rfl, st_of (((e.trans e1).trans p.2.1) _ _ hrr), rfl, _, _, rfl, _, _, rfl, _, _, rfl, rfl, hw x y z, cw_turn p (by omega) (hE H1 (e.trans e1)).1 (hE H1 (e.trans e1)).2⟩)
    fun H' p => q Dl H' (fresh_back e1 p.1) (e1.trans p.2.1) p.2.2⟩
end
/-- what may raise, where it doesn't -/
theorem FnOk.calm {P : Program} {w : World} {K : PySem.W.Frag} {mg : Str → Option Value} {base : Heap} {k : Nat} {f : Addr} {fd : FuncData} {ps : List Str} {sp sp0 : Sp} (F : FnOk P w K mg base (L2.CX P w) k f fd ps sp) (h : ∀ vs H Q E, sp0 vs H Q E → sp vs H Q E0) : FnOk P w K mg base CX0 k f fd ps sp0 :=
  ⟨fun vs H Q E q => F.len _ _ _ _ (h _ _ _ _ q), fun A outer s H args us vs Q E hr he hb hv hs => codeAny_mono (F.run A outer s H args us vs Q _ hr he hb hv (h _ _ _ _ hs)) fun r s' hq => by
    cases r with
    | ok v =>
      cases v with
      | ret u => exact hq
      | _ => exact hq
    | error e =>
      obtain ⟨_, _, _, _, _, _, _, _, _, _, _, _, z⟩ := hq
      exact z⟩
end L2
/-! Own values at the machine's level: !=, what a built-in's == says to an own instance, in. -/
namespace OwQ
open PySem PySem.W PySem.Spec PyProof.Rows
section
variable {prog : Program} {w : World} {A : Around} {E : Value → Shared → Prop} {s : Shared} {K : PySem.W.Frag} {x C f : Addr} {ox : Obj} {od : Option Obj} {b tb : Value}
/-- a special that is a built-in's slot, at an own instance -/
theorem ifBound_B {M : Model} {name : Str} {id : String} {args : List Value} {Q : Option Value → Shared → Prop} (X : K.In s.heap) (I : InstAt s.heap x ox C od) (hs : findIn K (.ref C) name = some (some (.builtin id)))
    (hb : ∀ self, bindSpecial (.builtin id) self = pure (.builtin id, [self])) (h : wpAny M A (call (.builtin id) (.ref x :: args)) (fun v => Q (some v)) E s) : wpAny M A (callSpecialIfBound? (.ref x) name args) Q E s := by
  simp only [callSpecialIfBound?, bindSpecialIfBound?]
  refine wpAny_holding (wpAny_bind (wpAny_bind (wpAny_bind (I.type.here ((looks_findIn X hs).here ?_)))))
  refine wpAny_bind (wpAny_askSetting (wpAny_ite ?_))
  have fin : wpAny M A (call (.builtin id) ([.ref x] ++ args) >>= fun v => pure (some v)) Q E s := wpAny_bind (wpAny_mono h (fun v s' h' => wpAny_pure h') fun _ _ h' => h')
  split
  · exact wpAny_bind ((Looks.of_pure (hb _)).here (wpAny_pure (by exact fin)))
  · exact wpAny_tryCatch (wpAny_bind ((Looks.of_pure (hb _)).here (wpAny_pure (by exact fin))))
/-- object.__ne__ of an own instance with an own __eq__ -/
theorem one_ne {Q : Value → Shared → Prop} (hu : A.in1.units < cLine) (X : K.In s.heap) (I : InstAt s.heap x ox C od) (hm : mroIn K C (.type "object") = some true) (hs : findIn K (.ref C) "__eq__" = some (some (.ref f))) (hf : isFn K (.ref f) = true)
    (h : wpAny (model prog w) A.in1 (call (.ref f) [.ref x, b]) (fun v s' => ∃ r, v = .bool r ∧ Q (.bool (!r)) s') E s) : wpAny (model prog w) A (call (.builtin "object.__ne__") [.ref x, b]) Q E s := by
  refine wpAny_call (codeAny_call_builtin PySem.F.slot_object_ne.plain PySem.F.cmpEntry_ne (check_slot (i := "object.__ne__") (owner := "object") (n := "__ne__") PySem.F.cmpKind_ne PySem.F.cmpSplit_ne (I.type.andThen (looks_mroIn X hm)) (PySem.F.cmpArgs_ne _ _) ?_))
  unfold Builtin.«object.__ne__»
  refine wpAny_bind (m := slotArgs "__ne__" 1 _) (wpAny_pure ?_)
  refine wpAny_bind (m := cRoomFor _ _) (wpAny_cRoomFor hu ?_)
  refine wpAny_bind (m := callSpecialIfBound? (.ref x) (Str.ofString "__eq__") [b]) (ifBound_K X I hs hf (wpAny_mono h (fun r s' hr => ?_) fun _ _ y => y))
  obtain ⟨r, rfl, hq⟩ := hr
  exact wpAny_bind (wpAny_truthy_bool (wpAny_pure hq))
/-- x != b, x an own instance with an own __eq__ -/
theorem ne_K {L : Addr} {h₀ : Heap} {m : Str → Option Value} {Q : Value → Shared → Prop} (hu : A.in1.units < cLine) (F : Fr h₀ L s.heap m) (X₀ : K.In h₀) (I : InstAt s.heap x ox C od) (hb : Looks (model prog w) s.heap (typeOf b) tb) (hn : notFirst K C tb = true)
    (hne : findIn K (.ref C) "__ne__" = some (some (.builtin "object.__ne__"))) (hm : mroIn K C (.type "object") = some true) (hs : findIn K (.ref C) "__eq__" = some (some (.ref f))) (hf : isFn K (.ref f) = true)
    (h : wpAny (model prog w) A.in1 (call (.ref f) [.ref x, b]) (fun v s' => ∃ r, v = .bool r ∧ Q (.bool (!r)) s') E s) : wpAny (model prog w) A (richCompare .NotEq (.ref x) b) Q E s := by
  have X := X₀.keeps F.keep
  have hu0 : A.units < cLine := Nat.lt_of_succ_lt hu
  have one : wpAny (model prog w) A (tryCompare (.ref x) (cmpInfo .NotEq).2.1 b) (fun r s' => ∃ v, r = some v ∧ Q v s') E s := by
    unfold tryCompare
    refine wpAny_bind (ifBound_B X I hne PySem.F.slot_object_ne.bind (one_ne hu X I hm hs hf (wpAny_mono h (fun v s' hv => ?_) fun _ _ e => e)))
    obtain ⟨r, rfl, hq⟩ := hv
    exact ⟨r, rfl, wpAny_pure ⟨_, rfl, hq⟩⟩
  unfold richCompare
  simp only [oneThing_ref]
  refine wpAny_holding (wpAny_bind (wpAny_cRoomFor hu0 ?_))
  refine wpAny_bind (I.type.here (wpAny_bind (hb.here ?_)))
  split
  · rename_i q
    have e : subIn K tb (.ref C) = some false := by
      rcases Bool.or_eq_true_iff.mp hn with e | e
      · rw [beq_iff_eq.mp e] at q; simp at q
      · exact beq_iff_eq.mp e
    refine wpAny_bind ((looks_subIn X e).here ?_)
    simp only [Bool.false_eq_true, if_false]
    refine wpAny_bind (wpAny_mono one (fun r s' z => ?_) fun _ _ e => e)
    obtain ⟨v, rfl, hq⟩ := z
    exact wpAny_pure hq
  · refine wpAny_bind (wpAny_pure ?_)
    simp only [Bool.false_eq_true, if_false]
    refine wpAny_bind (wpAny_mono one (fun r s' z => ?_) fun _ _ e => e)
    obtain ⟨v, rfl, hq⟩ := z
    exact wpAny_pure hq
/-- a op x, a of a built-in kind that declines, x an own instance -/
theorem right_K {L : Addr} {h₀ : Heap} {m : Str → Option Value} {a : Value} {T ida : String} {op : CmpOp} {Q : Value → Shared → Prop} (hu : A.units < cLine) (F : Fr h₀ L s.heap m) (X₀ : K.In h₀) (I : InstAt s.heap x ox C od) (ha : s.TypeIs a T)
    (hn : subIn K (.ref C) (.type T) = some false) (h1 : Slot T (cmpInfo op).2.1 ida) (hd : ∀ P : Value → Shared → Prop, P .notImplemented s → wpAny (model prog w) A (call (.builtin ida) [a, .ref x]) P E s)
    (h : wpAny (model prog w) A (tryCompare (.ref x) (cmpInfo op).2.2 a) (fun r s' => ∃ v, r = some v ∧ Q v s') E s) : wpAny (model prog w) A (richCompare op a (.ref x)) Q E s := by
  have X := X₀.keeps F.keep
  rcases hi : cmpInfo op with ⟨sym, f, r⟩
  rw [hi] at h1 h
  simp only [richCompare, hi, ha.oneThing_none]
  try with_reducible refine wpAny_holding ?_
  refine wpAny_bind (wpAny_cRoomFor hu ?_)
  refine wpAny_bind (wpAny_typeOf ha (wpAny_bind (I.type.here ?_)))
  have hne : (Value.type T != Value.ref C) = true := by
    rw [bne_iff_ne]
    exact fun z => nomatch z
  simp only [hne, if_true]
  refine wpAny_bind ((looks_subIn X hn).here ?_)
  simp only [Bool.false_eq_true, if_false, Bool.not_false, if_true]
  refine wpAny_bind (m := tryCompare a _ _) (wpAny_tryCompare_declines ha h1 (hd _ ⟨rfl, ?_⟩))
  refine wpAny_bind (m := tryCompare (.ref x) _ _) (wpAny_mono h (fun r s' z => ?_) fun _ _ e => e)
  obtain ⟨v, rfl, hq⟩ := z
  exact wpAny_pure hq
theorem try_eq {Q : Value → Shared → Prop} (X : K.In s.heap) (I : InstAt s.heap x ox C od) (hs : findIn K (.ref C) "__eq__" = some (some (.ref f))) (hf : isFn K (.ref f) = true)
    (h : wpAny (model prog w) A (call (.ref f) [.ref x, b]) (fun v s' => ∃ r, v = .bool r ∧ Q (.bool r) s') E s) : wpAny (model prog w) A (tryCompare (.ref x) "__eq__" b) (fun r s' => ∃ v, r = some v ∧ Q v s') E s := by
  unfold tryCompare
  refine wpAny_bind (ifBound_K X I hs hf (wpAny_mono h (fun v s' hv => ?_) fun _ _ e => e))
  obtain ⟨r, rfl, hq⟩ := hv
  exact wpAny_pure ⟨_, rfl, hq⟩
end
/-! what the built-in kinds' == answers to an own instance -/
section
variable {prog : Program} {w : World} {A : Around} {E : Value → Shared → Prop} {s : Shared} {K : PySem.W.Frag} {x C : Addr} {ox : Obj} {od : Option Obj} {P : Value → Shared → Prop}
theorem dec_none (h : P .notImplemented s) : wpAny (model prog w) A (call (.builtin "NoneType.__eq__") [.none, .ref x]) P E s := by
  refine wpAny_call_entry PySem.F.slot_NoneType_eq rfl PySem.F.entry_NoneType_eq ?_ (PySem.F.args_NoneType_eq_2 _ _)
  obtain ⟨hp, g, d, tk, os⟩ := s
  wp_walk
  exact ⟨_, rfl, h⟩
theorem dec_str {z : Str} {t : Tok} {dx : Addr} (hx : s.heap.get? x = some (instObj C dx)) (h : P .notImplemented s) : wpAny (model prog w) A (call (.builtin "str.__eq__") [.str z t, .ref x]) P E s := by
  refine wpAny_call_entry PySem.F.slot_str_eq (typeIs_str _ _ _) PySem.F.entry_str_eq ?_ (PySem.F.args_str_eq_2 _ _)
  obtain ⟨hp, g, d, tk, os⟩ := s
  wp_walk using AutoSeq1.wpAny_loadPart' hx
  exact ⟨_, rfl, h⟩
theorem dec_int {i : Int} {t : Tok} {dx : Addr} (hx : s.heap.get? x = some (instObj C dx)) (h : P .notImplemented s) : wpAny (model prog w) A (call (.builtin "int.__eq__") [.int i t, .ref x]) P E s := by
  refine wpAny_call_entry PySem.F.slot_int_eq (typeIs_int _ _ _) PySem.F.entry_int_eq ?_ (PySem.F.args_int_eq_2 _ _)
  obtain ⟨hp, g, d, tk, os⟩ := s
  wp_walk using AutoSeq1.wpAny_loadPart' hx
  exact ⟨_, rfl, h⟩
theorem dec_bool {b : Bool} {dx : Addr} (hx : s.heap.get? x = some (instObj C dx)) (h : P .notImplemented s) : wpAny (model prog w) A (call (.builtin "int.__eq__") [.bool b, .ref x]) P E s := by
  refine wpAny_call_entry PySem.F.slot_bool_eq rfl PySem.F.entry_int_eq ?_ (PySem.F.args_int_eq_2 _ _)
  obtain ⟨hp, g, d, tk, os⟩ := s
  wp_walk using AutoSeq1.wpAny_loadPart' hx
  exact ⟨_, rfl, h⟩
theorem dec_list {l : Addr} (hl : s.TypeIs (.ref l) "list") (X : K.In s.heap) (I : InstAt s.heap x ox C od) (hm : mroIn K C (.type "list") = some false) (h : P .notImplemented s) : wpAny (model prog w) A (call (.builtin "list.__eq__") [.ref l, .ref x]) P E s := by
  have hi : Looks (model prog w) s.heap (isInstance (.ref x) (.type "list")) false := I.type.andThen (looks_mroIn X hm)
  refine wpAny_call_entry PySem.F.slot_list_eq hl PySem.F.entry_list_eq ?_ (PySem.F.args_list_eq_2 _ _)
  refine wpAny_bind (m := slotArgs "__eq__" 1 _) (wpAny_pure ?_)
  refine wpAny_bind (m := isInstance (.ref x) (.type "list")) (hi.here ?_)
  exact wpAny_pure ⟨_, rfl, h⟩
theorem dec_tuple {l : Addr} (hl : s.TypeIs (.ref l) "tuple") (X : K.In s.heap) (I : InstAt s.heap x ox C od) (hm : mroIn K C (.type "tuple") = some false) (h : P .notImplemented s) : wpAny (model prog w) A (call (.builtin "tuple.__eq__") [.ref l, .ref x]) P E s := by
  have hi : Looks (model prog w) s.heap (isInstance (.ref x) (.type "tuple")) false := I.type.andThen (looks_mroIn X hm)
  refine wpAny_call_entry PySem.F.slot_tuple_eq hl PySem.F.entry_tuple_eq ?_ (PySem.F.args_tuple_eq_2 _ _)
  refine wpAny_bind (m := slotArgs "__eq__" 1 _) (wpAny_pure ?_)
  refine wpAny_bind (m := isInstance (.ref x) (.type "tuple")) (hi.here ?_)
  exact wpAny_pure ⟨_, rfl, h⟩
theorem dec_dict {l : Addr} (hl : s.TypeIs (.ref l) "dict") (X : K.In s.heap) (I : InstAt s.heap x ox C od) (hm : mroIn K C (.type "dict") = some false) (h : P .notImplemented s) : wpAny (model prog w) A (call (.builtin "dict.__eq__") [.ref l, .ref x]) P E s := by
  have hi : Looks (model prog w) s.heap (isInstance (.ref x) (.type "dict")) false := I.type.andThen (looks_mroIn X hm)
  refine wpAny_call_entry PySem.F.slot_dict_eq hl PySem.F.entry_dict_eq ?_ (PySem.F.args_dict_eq_2 _ _)
  refine wpAny_bind (m := Builtin.Dict.dictSlotArgs "__eq__" _) (wpAny_pure ?_)
  refine wpAny_bind (m := isInstance (.ref x) (.type "dict")) (hi.here ?_)
  exact wpAny_bind (wpAny_rule (wpAny_pure ⟨_, rfl, h⟩))
end
/-! in, == and != of lists and tuples whose items' == may make objects -/
section
open GQ PySem.SeqAt MeetsSeq MeetsSeq2 MeetsSeq3 SeqRoads2
open AutoSeq1 (wpAny_loadPart')
variable {prog : Program} {w : World} {A : Around} {R : Result → Shared → Prop} {E : Value → Shared → Prop}
theorem take_false {bs : List Bool} {i : Nat} {h : i < bs.length} (hp : (bs.take i).any id = false) (hb : bs[i] = false) : (bs.take (i + 1)).any id = false := by
  rw [List.take_succ_eq_append_getElem h, List.any_append, hp, List.any_cons, hb]
  rfl
theorem take_true {bs : List Bool} {i : Nat} (h : i < bs.length) (hb : bs[i] = true) : bs.any id = true := List.any_eq_true.mpr ⟨bs[i], List.getElem_mem h, hb⟩
theorem take_trueA {bs : List Bool} {i : Nat} {h : i < bs.length} (hp : (bs.take i).all id = true) (hb : bs[i] = true) : (bs.take (i + 1)).all id = true := by
  rw [List.take_succ_eq_append_getElem h, List.all_append, hp, List.all_cons, hb]
  rfl
theorem take_falseA {bs : List Bool} {i : Nat} (h : i < bs.length) (hb : bs[i] = false) : bs.all id = false := by
  rw [List.all_eq_false]
  exact ⟨bs[i], List.getElem_mem h, by rw [hb]; exact fun z => nomatch z⟩
/-- at each turn the list is read anew: bs.length items, the i-th compared with x is bs's i-th -/
def InI (prog : Program) (w : World) (A : Around) (E : Value → Shared → Prop) (l : Addr) (x : Value) (bs : List Bool) (I : Nat → Shared → Prop) : Prop :=
  ∀ i s, I i s → ∃ (items : Array Value) (n : Nat), s.heap.get? l = some { cls := .type "list", data := .seq items n } ∧ items.size = bs.length ∧
    ∀ (h1 : i < items.size) (h2 : i < bs.length), wpAny (model prog w) A.in1 (eqBool items[i] x) (fun r s' => r = bs[i] ∧ I (i + 1) s') E s
theorem in_loopG (l : Addr) (x : Value) (bs : List Bool) (I : Nat → Shared → Prop) (hl : InI prog w A (fun e s' => R (.error e) s') l x bs I)
    (fin : ∀ i s, I i s → R (.ok (.ret (.bool (bs.any id)))) s) (k : Nat) :
    ∀ i : Nat, bs.length - i = k → i ≤ bs.length → (bs.take i).any id = false → ∀ s, I i s →
      wpAny (model prog w) A.in1 (Builtin.«list.__contains__.loop» ⟨[.ref l, x, rawInt i], []⟩) (FinOf prog w A R) (fun e s' => R (.error e) s') s := by
  induction k with
  | zero =>
    intro i hk hi hp s h
    obtain ⟨items, n, hl1, hs1, _⟩ := hl _ _ h
    have hi' : i = bs.length := by omega
    have hR := fin i s h
    rw [hi', List.take_length] at hp
    rw [hp] at hR
    obtain ⟨hp, g, d, tk, os⟩ := s
    wp_walk using wpAny_loadPart' hl1
    have hi1 : items[((i : Nat) : Int).toNat]? = none := by simp; omega
    rw [hi1]
    wp_walk
    exact hR
  | succ k ih =>
    intro i hk hi hp s h
    obtain ⟨items, n, hl1, hs1, turn⟩ := hl _ _ h
    have hlt : i < items.size := by omega
    have hlt2 : i < bs.length := by omega
    have ht := turn hlt hlt2
    obtain ⟨hp', g, d, tk, os⟩ := s
    wp_walk using wpAny_loadPart' hl1
    have hi1 : items[((i : Nat) : Int).toNat]? = some items[i] := by simp [hlt]
    have hc : ((i : Int) + 1) = ((i + 1 : Nat) : Int) := by omega
    rw [hi1]
    refine wpAny_bind (wpAny_mono ht (fun r s2 h2 => ?_) fun _ _ x => x)
    obtain ⟨hr, h2⟩ := h2
    subst hr
    cases hb : bs[i] with
    | true =>
      have hR := fin _ _ h2
      rw [take_true hlt2 hb] at hR
      obtain ⟨hp2, g2, d2, tk2, os2⟩ := s2
      wp_walk
      exact hR
    | false =>
      have hrec := ih (i + 1) (by omega) (by omega) (take_false (h := hlt2) hp hb) s2 h2
      obtain ⟨hp2, g2, d2, tk2, os2⟩ := s2
      wp_walk
      rw [hc]
      exact ⟨plainId_quiet plain_contains_loop _, codeAny_builtin entry_contains_loop (by
        rw [Around.under_plainId plain_contains_loop _]
        exact hrec)⟩
theorem in_listG {l : Addr} {x : Value} {bs : List Bool} {I : Nat → Shared → Prop} {Q : Value → Shared → Prop} {s : Shared} (hl : InI prog w A E l x bs I) (fin : ∀ i s, I i s → Q (.bool (bs.any id)) s) (h : I 0 s) :
    wpAny (model prog w) A (compareOp .In x (.ref l)) Q E s := by
  obtain ⟨items, n, hl1, hs1, _⟩ := hl _ _ h
  have hT : s.TypeIs (.ref l) "list" := ⟨_, hl1, rfl⟩
  show wpAny _ A (do return .bool (← contains (.ref l) x)) Q E s
  refine wpAny_bind (wpAny_contains_slot hT F.slot_list_contains (call_here F.slot_list_contains hT F.entry_list_contains (F.args_list_contains_2 _ _) ?_))
  have hrec := in_loopG (A := A) (R := wants (fun v s' => wpAny (model prog w) A (truthy v) (fun b s'' => wpAny (model prog w) A (pure (Value.bool b)) Q E s'') E s') E) l x bs I hl (fun i s' q => wpAny_truthy_bool (wpAny_pure (fin i s' q))) _ 0 rfl (Nat.zero_le _) rfl s h
  obtain ⟨hp, g, d, tk, os⟩ := s
  wp_walk using wpAny_loadPart' hl1
  exact ⟨plainId_quiet plain_contains_loop _, codeAny_builtin entry_contains_loop (by
    rw [Around.under_plainId plain_contains_loop _]
    exact hrec)⟩
theorem in_tupG {l : Addr} {x : Value} {items : Array Value} {bs : List Bool} {I : Nat → Shared → Prop} {Q : Value → Shared → Prop} {s : Shared} (hl : s.heap.IsTuple l items) (hsz : items.size = bs.length)
    (turn : ∀ i (h1 : i < items.size) (h2 : i < bs.length) s, I i s → wpAny (model prog w) A.in1 (eqBool items[i] x) (fun r s' => r = bs[i] ∧ I (i + 1) s') E s)
    (fin : ∀ i s, I i s → Q (.bool (bs.any id)) s) (h : I 0 s) : wpAny (model prog w) A (compareOp .In x (.ref l)) Q E s := by
  obtain ⟨⟨cls, dd, data, sl⟩, ho, hc, n, hd⟩ := id hl
  simp only at hc hd
  subst hc hd
  have hT : s.TypeIs (.ref l) "tuple" := ⟨_, ho, rfl⟩
  show wpAny _ A (do return .bool (← contains (.ref l) x)) Q E s
  refine wpAny_bind (wpAny_contains_slot hT F.slot_tuple_contains (call_here F.slot_tuple_contains hT F.entry_tuple_contains (F.args_tuple_contains_2 _ _) ?_))
  have h0 := h
  have fin' : ∀ i s', I i s' → wpAny (model prog w) A (truthy (Value.bool (bs.any id))) (fun b s'' => wpAny (model prog w) A (pure (Value.bool b)) Q E s'') E s' := fun i s' q => wpAny_truthy_bool (wpAny_pure (fin i s' q))
  obtain ⟨hp, g, d, tk, os⟩ := s
  wp_walk using wpAny_loadPart' ho, wpAny_forIn_array _ (fun rest b s' => b.1 = none ∧ ∃ i, rest = items.toList.drop i ∧ i ≤ items.size ∧ (bs.take i).any id = false ∧ I i s') _
  case turn =>
    rintro y rest b s' ⟨hb', i, hz, hi, hp', hI⟩
    have hlt : i < items.toList.length := by
      rcases Nat.lt_or_ge i items.toList.length with h' | h'
      · exact h'
      · rw [List.drop_of_length_le h'] at hz; cases hz
    have h1 : i < items.size := by simpa using hlt
    have h2 : i < bs.length := hsz ▸ h1
    rw [List.drop_eq_getElem_cons hlt] at hz
    injection hz with hyx hrest
    have hy : y = items[i] := by simpa using hyx
    subst hy
    refine wpAny_bind (wpAny_mono (turn i h1 h2 s' hI) (fun r s2 q2 => ?_) fun _ _ x => x)
    obtain ⟨hr, q2⟩ := q2
    subst hr
    cases hb : bs[i] with
    | true =>
      have hR := fin' _ _ q2
      rw [take_true h2 hb] at hR
      wp_walk
      exact hR
    | false =>
      wp_walk
      exact ⟨rfl, i + 1, hrest, h1, take_false (h := h2) hp' hb, q2⟩
  case fin =>
    rintro ⟨b1, b2⟩ s' ⟨hb', i, hz, hi, hp', hI⟩
    simp only at hb'
    subst hb'
    have hge : items.size ≤ i := by
      rcases Nat.lt_or_ge i items.toList.length with h' | h'
      · rw [List.drop_eq_getElem_cons h'] at hz; cases hz
      · simpa using h'
    have hi' : i = bs.length := by omega
    have hR := fin' _ _ hI
    rw [hi', List.take_length] at hp'
    rw [hp'] at hR
    wp_walk
    exact hR
  case h =>
    exact ⟨rfl, 0, rfl, Nat.zero_le _, rfl, h0⟩
/-- two tuples, item by item: != -/
theorem tuple_neB (l b : Addr) (items items2 : Array Value) (n n2 : Nat) (dd dd2 : Option Addr) (sl sl2 : Array (Option Value)) (bs : List Bool) (hs1 : items.size = bs.length) (hs2 : items2.size = bs.length) (I : Nat → Shared → Prop)
    (turn : ∀ i (h1 : i < items.size) (h2 : i < items2.size) (h3 : i < bs.length) s, I i s → wpAny (model prog w) A.in1 (eqBool items[i] items2[i]) (fun r s' => r = bs[i] ∧ I (i + 1) s') (fun e s' => R (.error e) s') s)
    (fin : ∀ i s, I i s → R (.ok (.ret (.bool (!bs.all id)))) s) {s : Shared} (hl1 : s.heap.get? l = some { cls := .type "tuple", dict := dd, data := .seq items n, slots := sl }) (hb1 : s.heap.get? b = some { cls := .type "tuple", dict := dd2, data := .seq items2 n2, slots := sl2 }) (h : I 0 s) :
    wpAny (model prog w) A.in1 (Builtin.«tuple.__ne__» ⟨[.ref l, .ref b], []⟩) (FinOf prog w A R) (fun e s' => R (.error e) s') s := by
  have f2 := AutoSeq1.sub_tuple_tuple
  have hsz : items.size = items2.size := by omega
  have hZ : (items.toList.zip items2.toList).length = items.size := by simp [hsz]
  have h0 := h
  obtain ⟨hp, g, d, tk, os⟩ := s
  wp_walk using wpAny_loadPart' hl1, wpAny_loadPart' hb1, wpAny_forIn_list _ (fun rest b s' => b.1 = none ∧ ∃ i, rest = (items.toList.zip items2.toList).drop i ∧ i ≤ items.size ∧ (bs.take i).all id = true ∧ I i s') _
  case turn =>
    rintro ⟨y, x⟩ rest b s' ⟨hb', i, hz, hi, hp', hI⟩
    have hlt : i < (items.toList.zip items2.toList).length := by
      rcases Nat.lt_or_ge i (items.toList.zip items2.toList).length with h' | h'
      · exact h'
      · rw [List.drop_of_length_le h'] at hz; cases hz
    have h1 : i < items.size := hZ ▸ hlt
    have h2 : i < items2.size := hsz ▸ h1
    have h3 : i < bs.length := hs1 ▸ h1
    rw [List.drop_eq_getElem_cons hlt] at hz
    injection hz with hyx hrest
    have hy : y = items[i] := by have := congrArg Prod.fst hyx; simpa using this
    have hx : x = items2[i] := by have := congrArg Prod.snd hyx; simpa using this
    subst hy hx
    refine wpAny_bind (wpAny_mono (turn i h1 h2 h3 s' hI) (fun r s2 q2 => ?_) fun _ _ x => x)
    obtain ⟨hr, q2⟩ := q2
    subst hr
    cases hb : bs[i] with
    | false =>
      have hR := fin _ _ q2
      rw [take_falseA h3 hb] at hR
      wp_walk
      exact hR
    | true =>
      wp_walk
      exact ⟨rfl, i + 1, hrest, h1, take_trueA (h := h3) hp' hb, q2⟩
  case fin =>
    rintro ⟨b1, b2⟩ s' ⟨hb', i, hz, hi, hp', hI⟩
    simp only at hb'
    subst hb'
    have hge : items.size ≤ i := by
      rcases Nat.lt_or_ge i (items.toList.zip items2.toList).length with h' | h'
      · rw [List.drop_eq_getElem_cons h'] at hz; cases hz
      · exact hZ ▸ h'
    have hi' : i = bs.length := by omega
    have hR := fin _ _ hI
    rw [hi', List.take_length] at hp'
    rw [hp'] at hR
    wp_walk
    simpa [Builtin.Tuple.tupleCompareSizes, hsz] using hR
  case h =>
    exact ⟨rfl, 0, rfl, Nat.zero_le _, rfl, h0⟩
/-- two lists, item by item: == -/
def EqI (prog : Program) (w : World) (A : Around) (E : Value → Shared → Prop) (l b : Addr) (bs : List Bool) (I : Nat → Shared → Prop) : Prop :=
  ∀ i s, I i s → ∃ (items items2 : Array Value) (n n2 : Nat), s.heap.get? l = some { cls := .type "list", data := .seq items n } ∧ s.heap.get? b = some { cls := .type "list", data := .seq items2 n2 } ∧ items.size = bs.length ∧ items2.size = bs.length ∧
    ∀ (h1 : i < items.size) (h2 : i < items2.size) (h3 : i < bs.length), wpAny (model prog w) A.in1 (eqBool items[i] items2[i]) (fun r s' => r = bs[i] ∧ I (i + 1) s') E s
theorem eq_loopB (l b : Addr) (bs : List Bool) (I : Nat → Shared → Prop) (hl : EqI prog w A (fun e s' => R (.error e) s') l b bs I)
    (fin : ∀ i s, I i s → R (.ok (.ret (.bool (bs.all id)))) s) (k : Nat) :
    ∀ i : Nat, bs.length - i = k → i ≤ bs.length → (bs.take i).all id = true → ∀ s, I i s →
      wpAny (model prog w) A.in1 (Builtin.«list.__eq__.loop» ⟨[.ref l, .ref b, rawInt i, rawInt 2], []⟩) (FinOf prog w A R) (fun e s' => R (.error e) s') s := by
  induction k with
  | zero =>
    intro i hk hi hp s h
    obtain ⟨items, items2, n, n2, hl1, hb1, hs1, hs2, _⟩ := hl _ _ h
    have hi' : i = bs.length := by omega
    have hR := fin i s h
    rw [hi', List.take_length] at hp
    rw [hp] at hR
    obtain ⟨hp, g, d, tk, os⟩ := s
    wp_walk using wpAny_loadPart' hl1, wpAny_loadPart' hb1
    have hi1 : items[((i : Nat) : Int).toNat]? = none := by simp; omega
    have hi2 : items2[((i : Nat) : Int).toNat]? = none := by simp; omega
    rw [hi1, hi2]
    wp_walk using wpAny_loadPart' hl1, wpAny_loadPart' hb1
    show R (.ok (.ret (.bool (items.size == items2.size)))) _
    rw [hs1, hs2]
    simpa using hR
  | succ k ih =>
    intro i hk hi hp s h
    obtain ⟨items, items2, n, n2, hl1, hb1, hs1, hs2, turn⟩ := hl _ _ h
    have hlt : i < items.size := by omega
    have hlt2 : i < items2.size := by omega
    have hlt3 : i < bs.length := by omega
    have ht := turn hlt hlt2 hlt3
    obtain ⟨hp', g, d, tk, os⟩ := s
    wp_walk using wpAny_loadPart' hl1, wpAny_loadPart' hb1
    have hi1 : items[((i : Nat) : Int).toNat]? = some items[i] := by simp [hlt]
    have hi2 : items2[((i : Nat) : Int).toNat]? = some items2[i] := by simp [hlt2]
    have hc : ((i : Int) + 1) = ((i + 1 : Nat) : Int) := by omega
    rw [hi1, hi2]
    refine wpAny_bind (wpAny_mono ht (fun r s2 h2 => ?_) fun _ _ x => x)
    obtain ⟨hr, h2⟩ := h2
    subst hr
    cases hb : bs[i] with
    | true =>
      have hrec := ih (i + 1) (by omega) (by omega) (take_trueA (h := hlt3) hp hb) s2 h2
      obtain ⟨hp2, g2, d2, tk2, os2⟩ := s2
      wp_walk
      rw [hc]
      exact ⟨plainId_quiet plain_eq_loop _, codeAny_builtin entry_eq_loop (by
        rw [Around.under_plainId plain_eq_loop _]
        exact hrec)⟩
    | false =>
      have hR := fin _ _ h2
      rw [take_falseA hlt3 hb] at hR
      obtain ⟨xs, xs2, m, m2, hl2, hb2, hz1, hz2, _⟩ := hl _ _ h2
      obtain ⟨hp2, g2, d2, tk2, os2⟩ := s2
      have q1 : xs[((i : Nat) : Int).toNat]? = some xs[i] := by simp [show i < xs.size by omega]
      have q2 : xs2[((i : Nat) : Int).toNat]? = some xs2[i] := by simp [show i < xs2.size by omega]
      wp_walk using wpAny_loadPart' hl2, wpAny_loadPart' hb2
      rw [q1, q2]
      wp_walk
      exact hR
theorem list_eqB (l b : Addr) (bs : List Bool) (I : Nat → Shared → Prop) (hl : EqI prog w A (fun e s' => R (.error e) s') l b bs I)
    (fin : ∀ i s, I i s → R (.ok (.ret (.bool (bs.all id)))) s) {s : Shared} (h : I 0 s) :
    wpAny (model prog w) A.in1 (Builtin.«list.__eq__» ⟨[.ref l, .ref b], []⟩) (FinOf prog w A R) (fun e s' => R (.error e) s') s := by
  obtain ⟨items, items2, n, n2, hl1, hb1, hs1, hs2, _⟩ := hl _ _ h
  have hrec := eq_loopB (A := A) (R := R) l b bs I hl fin _ 0 rfl (Nat.zero_le _) rfl s h
  obtain ⟨hp, g, d, tk, os⟩ := s
  have f3 := AutoSeq1.sub_list_list
  have hne : ¬ (items.size != items2.size) = true := by simp [hs1, hs2]
  wp_walk using wpAny_loadPart' hl1, wpAny_loadPart' hb1
  exact ⟨plainId_quiet plain_eq_loop _, codeAny_builtin entry_eq_loop (by
    rw [Around.under_plainId plain_eq_loop _]
    exact hrec)⟩
end
end OwQ
/-! Own values over the layer: str, repr, f'{x}', len, ==, !=, in. -/
namespace L2
open PySem PySem.Spec PyProof.Rows _root_.Evl
def kindsT : List String := ["int", "bool", "str", "NoneType", "tuple", "list", "dict"]
def kindB (K : PySem.W.Frag) (C : Addr) (T : String) : Bool := PySem.W.notFirst K C (.type T) && (decide (PySem.W.subIn K (.ref C) (.type T) = some false) && (decide (PySem.W.mroIn K C (.type T) = some false) && decide (PySem.W.kitOne K (.type T) (.ref C) = some false)))
/-- what own values ask of the class at C -/
structure OwnC (K : PySem.W.Frag) (C : Addr) : Prop where
  is : IsC K C
  ne : PySem.W.findIn K (.ref C) "__ne__" = some (some (.builtin "object.__ne__"))
  fm : PySem.W.findIn K (.ref C) "__format__" = some (some (.builtin "object.__format__"))
  kd : ∀ T ∈ kindsT, kindB K C T = true
  nf : PySem.W.notFirst K C (.ref C) = true
def ownB (K : PySem.W.Frag) (x : Str) : Bool :=
  tyB K x && (He.eqO (PySem.W.findIn K (.ref (He.ga K x)) "__ne__") (some (some (.builtin "object.__ne__"))) && (He.eqO (PySem.W.findIn K (.ref (He.ga K x)) "__format__") (some (some (.builtin "object.__format__"))) && (kindsT.all (kindB K (He.ga K x)) && PySem.W.notFirst K (He.ga K x) (.ref (He.ga K x)))))
theorem ownB_ok {K : PySem.W.Frag} {x : Str} (h : ownB K x = true) : OwnC K (He.ga K x) := by
  obtain ⟨h1, h⟩ := He.ba h
  obtain ⟨h2, h⟩ := He.ba h
  obtain ⟨h3, h⟩ := He.ba h
  obtain ⟨h4, h5⟩ := He.ba h
  exact ⟨tyB_ok h1, He.eqO_ok h2, He.eqO_ok h3, List.all_eq_true.mp h4, h5⟩
theorem OwnC.first {K : PySem.W.Frag} {C : Addr} (c : OwnC K C) {T : String} (h : T ∈ kindsT) : PySem.W.notFirst K C (.type T) = true := (He.ba (c.kd T h)).1
theorem OwnC.sub {K : PySem.W.Frag} {C : Addr} (c : OwnC K C) {T : String} (h : T ∈ kindsT) : PySem.W.subIn K (.ref C) (.type T) = some false := of_decide_eq_true (He.ba (He.ba (c.kd T h)).2).1
theorem OwnC.mro {K : PySem.W.Frag} {C : Addr} (c : OwnC K C) {T : String} (h : T ∈ kindsT) : PySem.W.mroIn K C (.type T) = some false := of_decide_eq_true (He.ba (He.ba (He.ba (c.kd T h)).2).2).1
theorem OwnC.kit {K : PySem.W.Frag} {C : Addr} (c : OwnC K C) {T : String} (h : T ∈ kindsT) : PySem.W.kitOne K (.type T) (.ref C) = some false := of_decide_eq_true (He.ba (He.ba (He.ba (c.kd T h)).2).2).2
theorem FnOk.raw0 {P : Program} {w : World} {K : PySem.W.Frag} {mg : Str → Option Value} {base : Heap} {CX : CXT} {k : Nat} {f : Addr} {fd : FuncData} {ps : List Str} {sp : Sp} (F : FnOk P w K mg base CX k f fd ps sp) (hb : Binds K fd ps []) : FnR P w K mg base CX k f sp :=
  (FnOk.raw F hb .nil).imp fun vs H Q E h => by
    rw [List.append_nil]
    exact h
section
variable {X : Cx} {n : Nat} {C g : Addr} {sp : Sp}
/-- a text is told of an instance of the class at C -/
def rStrO (C : Addr) (sp : Sp) : List V → Hp → VK → Prop := fun xs H Q => ∃ a dx fs, xs = [V.ref a] ∧ H a = some (.ins C dx fs) ∧ sp [.ref a] H (fun v H' => ∃ z, v = .str z ∧ Q (.str z) H') E0
def rLenO (C : Addr) (sp : Sp) : List V → Hp → VK → Prop := fun xs H Q => ∃ a dx fs, xs = [V.ref a] ∧ H a = some (.ins C dx fs) ∧ sp [.ref a] H (fun v H' => ∃ i : Int, v = .int i ∧ 0 ≤ i ∧ i < 2 ^ 63 ∧ Q (.int i) H') E0
theorem pass00 : Passes CX0 X E0 := pass0
theorem call_strO (m : Meth X.K C "__str__" g) (F : FnR X.prog X.w X.K X.mg X.base CX0 n g sp) (hr : Room (n + 2) X.A) : CallR X (.type "str") (rStrO C sp) := by
  intro pins s σ H xs us Q I r h
  obtain ⟨a, dx, fs, rfl, ha, q⟩ := h
  obtain ⟨u, rfl, ru⟩ := r.one
  cases (show u = Value.ref a from ru)
  obtain ⟨mA, J, _⟩ := ins_get I.hok ha
  obtain ⟨od, J, _⟩ := J.look
  have hr2 : Room n X.A.in1.in1 := (show Room (n + 1) X.A.in1 from Room.in1 hr).in1
  refine PySem.W.kso_call hr2.units0 I.kIn J m.at_ m.fn (wpAny_mono (wpAny_call (SlX.run_at (us := [.ref a]) (ws := [.ref a]) F hr2 I.env0.in1.in1 pass0 I (.cons rfl .nil) q)) (fun w s' z => ?_) fun _ _ x => x)
  obtain ⟨z', H', I', rz, i, ei, qz⟩ := z
  subst ei
  obtain ⟨t, e⟩ := (show ∃ t, w = Value.str i t from rz)
  cases e
  exact ⟨.str i, H', I', ⟨t, rfl⟩, qz⟩
theorem call_reprO (m : Meth X.K C "__repr__" g) (F : FnR X.prog X.w X.K X.mg X.base CX0 n g sp) (hr : Room (n + 1) X.A) : CallR X (.builtin "repr") (rStrO C sp) := by
  intro pins s σ H xs us Q I r h
  obtain ⟨a, dx, fs, rfl, ha, q⟩ := h
  obtain ⟨u, rfl, ru⟩ := r.one
  cases (show u = Value.ref a from ru)
  obtain ⟨mA, J, _⟩ := ins_get I.hok ha
  obtain ⟨od, J, _⟩ := J.look
  obtain ⟨mm, hF⟩ := I.fr
  have hr2 : Room n X.A.in1 := Room.in1 hr
  refine PySem.W.repr_K hr2.units0 hF I.ok.mod.kin J m.at_ m.fn (wpAny_mono (wpAny_call (SlX.run_at (us := [.ref a]) (ws := [.ref a]) F hr2 I.env0.in1 pass0 I (.cons rfl .nil) q)) (fun w s' z => ?_) fun _ _ x => x)
  obtain ⟨z', H', I', rz, i, ei, qz⟩ := z
  subst ei
  obtain ⟨t, e⟩ := (show ∃ t, w = Value.str i t from rz)
  cases e
  exact ⟨.str i, H', I', ⟨t, rfl⟩, qz⟩
theorem call_lenO (m : Meth X.K C "__len__" g) (F : FnR X.prog X.w X.K X.mg X.base CX0 n g sp) (hr : Room (n + 1) X.A) : CallR X (.builtin "len") (rLenO C sp) := by
  intro pins s σ H xs us Q I r h
  obtain ⟨a, dx, fs, rfl, ha, q⟩ := h
  obtain ⟨u, rfl, ru⟩ := r.one
  cases (show u = Value.ref a from ru)
  obtain ⟨mA, J, _⟩ := ins_get I.hok ha
  obtain ⟨od, J, _⟩ := J.look
  obtain ⟨mm, hF⟩ := I.fr
  have hr2 : Room n X.A.in1 := Room.in1 hr
  refine PySem.W.len_K hF I.ok.mod.kin J m.at_ m.fn (wpAny_mono (wpAny_call (SlX.run_at (us := [.ref a]) (ws := [.ref a]) F hr2 I.env0.in1 pass0 I (.cons rfl .nil) q)) (fun w s' z => ?_) fun _ _ x => x)
  obtain ⟨z', H', I', rz, i, ei, i0, i1, qz⟩ := z
  subst ei
  obtain ⟨t, e⟩ := (show ∃ t, w = Value.int i t from rz)
  cases e
  exact ⟨⟨i0, i1⟩, .int i, H', I'.tok _, ⟨_, rfl⟩, qz⟩
/-- {x}, x an instance -/
def tFmtO (C : Addr) (sp : Sp) (te : TE) : TE := fun σ H Q => te σ H fun x H1 => rStrO C sp [x] H1 Q
theorem pe_fmtO {e : Expr} {te : TE} {pos : Pos} (c : OwnC X.K C) (m : Meth X.K C "__str__" g) (F : FnR X.prog X.w X.K X.mg X.base CX0 n g sp) (hr : Room (n + 1) X.A) (he : PE X e te) : PE X (.FormattedValue e (-1) none pos) (tFmtO C sp te) := by
  refine ⟨fun pins s σ H Q I h => ?_⟩
  refine wpAny_FormattedValue_plain (thn (he.run pins s σ H _ I h) fun v s1 hv => ?_)
  obtain ⟨x, H1, I1, r1, a, dx, fs, ex, ha, q⟩ := hv
  cases ex
  cases (show v = Value.ref a from r1)
  obtain ⟨mA, J, _⟩ := ins_get I1.hok ha
  obtain ⟨od, J, _⟩ := J.look
  have hr2 : Room n X.A.in1 := Room.in1 hr
  have I2 := I1.tok (s1.toks + 1)
  refine PySem.W.kfo_fieldS hr2.units0 I1.kIn J c.fm c.is.hm m.at_ m.fn (wpAny_mono (wpAny_call (SlX.run_at (us := [.ref a]) (ws := [.ref a]) F hr2 I2.env0.in1 pass0 I2 (.cons rfl .nil) q)) (fun w s' z => ?_) fun _ _ x => x)
  obtain ⟨z', H', I', rz, i, ei, qz⟩ := z
  subst ei
  obtain ⟨t, e⟩ := (show ∃ t, w = Value.str i t from rz)
  cases e
  exact ⟨.str i, H', I', ⟨t, rfl⟩, qz⟩
end
end L2
/-! == and != by an own __eq__, with either answer, against things of the built-in kinds too. -/
namespace L2
open PySem PySem.Spec PyProof.Rows _root_.Evl
abbrev EqR := V → V → Hp → Bool → Prop
/-- a thing of a built-in kind -/
inductive Kd (H : Hp) : V → String → Prop where
  | non : Kd H .non "NoneType"
  | bl (b : Bool) : Kd H (.bl b) "bool"
  | int (i : Int) : Kd H (.int i) "int"
  | str (z : Str) : Kd H (.str z) "str"
  | lst {a : Addr} {xs : List V} (h : H a = some (.lst xs)) : Kd H (.ref a) "list"
  | tup {a : Addr} {xs : List V} (h : H a = some (.tup xs)) : Kd H (.ref a) "tuple"
  | dK {a : Addr} {kvs : List (Key × V)} (h : H a = some (.dK kvs)) : Kd H (.ref a) "dict"
theorem Kd.tyx {K : PySem.W.Frag} {H : Hp} {x : V} {T : String} (h : Kd H x T) : TyX K H x (.type T) := by
  cases h with
  | non => exact .base .non
  | bl b => exact .base (.bl b)
  | int i => exact .base (.int i)
  | str z => exact .base (.str z)
  | lst h => exact .base (.lst h)
  | tup h => exact .base (.tup h)
  | dK h => exact .base (.dK h)
theorem Kd.mem {H : Hp} {x : V} {T : String} (h : Kd H x T) : T ∈ kindsT := by
  cases h <;> simp [kindsT]
theorem Kd.ex {H H' : Hp} {x : V} {T : String} (h : Kd H x T) (e : Ex H H') : Kd H' x T := by
  cases h with
  | non => exact .non
  | bl b => exact .bl b
  | int i => exact .int i
  | str z => exact .str z
  | lst h => exact .lst (e _ _ h)
  | tup h => exact .tup (e _ _ h)
  | dK h => exact .dK (e _ _ h)
def RcE (X : Cx) (n : Nat) (op : CmpOp) (D : EqR) : Prop :=
  ∀ (A : Around) (pins : List (Addr × Obj)) (s : Shared) (σ : St) (H : Hp) (x y : V) (u v : Value) (b : Bool), Sub X n A → Inv X pins σ H s → RelV x u → RelV y v → D x y H b →
    wpAny (model X.prog X.w) A (richCompare op u v) (fun r s' => r = .bool b ∧ ∃ H', Inv X pins σ H' s' ∧ Ex H H') X.xe s
def EqE (X : Cx) (n : Nat) (D : EqR) : Prop :=
  ∀ (A : Around) (pins : List (Addr × Obj)) (s : Shared) (σ : St) (H : Hp) (x y : V) (u v : Value) (b : Bool), Sub X n A → Inv X pins σ H s → RelV x u → RelV y v → D x y H b →
    wpAny (model X.prog X.w) A (eqBool u v) (fun r s' => r = b ∧ ∃ H', Inv X pins σ H' s' ∧ Ex H H') X.xe s
def MonE (D : EqR) : Prop := ∀ x y H H' b, Ex H H' → D x y H b → D x y H' b
/-- what the own == promises: R tells its answer -/
def spEqE (R : Addr → V → Hp → Bool → Prop) : Sp := fun vs H Q _ => ∃ a y b, vs = [.ref a, y] ∧ R a y H b ∧ ∀ H', Ex H H' → Q (.bl b) H'
/-- x an instance, y whatever isn't asked first -/
def DOwn (K : PySem.W.Frag) (C : Addr) (R : Addr → V → Hp → Bool → Prop) : EqR := fun x y H b => ∃ a dx fs t, x = .ref a ∧ H a = some (.ins C dx fs) ∧ (∀ H1, Ex H H1 → TyX K H1 y t) ∧ PySem.W.notFirst K C t = true ∧ R a y H b
/-- x of a built-in kind, y an instance -/
def DOff (C : Addr) (R : Addr → V → Hp → Bool → Prop) : EqR := fun x y H b => ∃ a dx fs T, y = .ref a ∧ H a = some (.ins C dx fs) ∧ Kd H x T ∧ R a x H b
section
variable {X : Cx} {n m : Nat} {C g : Addr} {R : Addr → V → Hp → Bool → Prop} {D D' : EqR} {op : CmpOp}
theorem RcE.or (h : RcE X n op D) (h' : RcE X n op D') : RcE X n op (fun x y H b => D x y H b ∨ D' x y H b) := fun A pins s σ H x y u v b sb I rx ry d => d.elim (h A pins s σ H x y u v b sb I rx ry) (h' A pins s σ H x y u v b sb I rx ry)
theorem EqE.or (h : EqE X n D) (h' : EqE X n D') : EqE X n (fun x y H b => D x y H b ∨ D' x y H b) := fun A pins s σ H x y u v b sb I rx ry d => d.elim (h A pins s σ H x y u v b sb I rx ry) (h' A pins s σ H x y u v b sb I rx ry)
theorem RcE.mono (h : RcE X n op D) (hn : n ≤ m) : RcE X m op D := fun A pins s σ H x y u v b sb => h A pins s σ H x y u v b (sb.mono hn)
theorem EqE.mono (h : EqE X n D) (hn : n ≤ m) : EqE X m D := fun A pins s σ H x y u v b sb => h A pins s σ H x y u v b (sb.mono hn)
/-- the own == runs somewhere below the running body -/
theorem own_runs {A : Around} {pins : List (Addr × Obj)} {s : Shared} {σ : St} {H : Hp} {a : Addr} {y : V} {v : Value} {b : Bool} (F : FnR X.prog X.w X.K X.mg X.base CX0 n g (spEqE R)) (sb : Sub X n A) (I : Inv X pins σ H s) (ry : RelV y v) (hr : R a y H b) :
    wpAny (model X.prog X.w) A (call (.ref g) [.ref a, v]) (fun r s' => r = .bool b ∧ ∃ H', Inv X pins σ H' s' ∧ Ex H H') X.xe s := by
  have e0 : Env0 X.prog X.w X.K X.mg X.base A X.stack s H := by
    have e := I.env0
    exact ⟨by rw [sb.fr]; exact e.frames, e.mod, e.bs, e.bsz, e.funs, e.frf, e.hok, e.bare⟩
  refine wpAny_mono (wpAny_call (SlX.run_at (us := [.ref a, v]) (ws := [.ref a, y]) (Q := fun z H' => z = .bl b ∧ Ex H H') F sb.room e0 pass0 I (.cons rfl (.cons ry .nil)) ⟨a, y, b, rfl, hr, fun H' e => ⟨rfl, e⟩⟩)) (fun r s' z => ?_) fun _ _ x => x
  obtain ⟨z', H', I', rz, ez, ex⟩ := z
  subst ez
  cases (show r = Value.bool b from rz)
  exact ⟨rfl, H', I', ex⟩
theorem tyLooks {pins : List (Addr × Obj)} {s : Shared} {σ : St} {H : Hp} {y : V} {v t : Value} (I : Inv X pins σ H s) (ry : RelV y v) (ty : TyX X.K H y t) : PySem.W.Looks (model X.prog X.w) s.heap (typeOf v) t := by
  obtain ⟨P, Z, p, hx⟩ := kit_of I ry ty
  exact Z.ty _ _ I.kIn p
theorem rcE_own (m : Meth X.K C "__eq__" g) (F : FnR X.prog X.w X.K X.mg X.base CX0 n g (spEqE R)) : RcE X n .Eq (DOwn X.K C R) := by
  intro A pins s σ H x y u v b sb I rx ry d
  obtain ⟨a, dx, fs, t, rfl, ha, ty, hn, hr⟩ := d
  cases (show u = Value.ref a from rx)
  obtain ⟨mA, J, _⟩ := ins_get I.hok ha
  obtain ⟨od, J, _⟩ := J.look
  obtain ⟨mm, hF⟩ := I.fr
  refine PySem.W.cmp_K (op := .Eq) (tb := t) sb.room.units0 hF I.ok.mod.kin J (tyLooks I ry (ty H (Ex.refl _))) hn m.at_ m.fn ?_
  refine wpAny_mono (own_runs F sb I ry hr) (fun r s' z => ?_) fun _ _ x => x
  obtain ⟨rfl, z⟩ := z
  exact ⟨rfl, z⟩
theorem neE_own (c : OwnC X.K C) (m : Meth X.K C "__eq__" g) (F : FnR X.prog X.w X.K X.mg X.base CX0 n g (spEqE R)) : RcE X (n + 1) .NotEq (fun x y H b => DOwn X.K C R x y H (!b)) := by
  intro A pins s σ H x y u v b sb I rx ry d
  obtain ⟨a, dx, fs, t, rfl, ha, ty, hn, hr⟩ := d
  cases (show u = Value.ref a from rx)
  obtain ⟨mA, J, _⟩ := ins_get I.hok ha
  obtain ⟨od, J, _⟩ := J.look
  obtain ⟨mm, hF⟩ := I.fr
  refine OwQ.ne_K (tb := t) sb.in1.room.units0 hF I.ok.mod.kin J (tyLooks I ry (ty H (Ex.refl _))) hn c.ne c.is.hm m.at_ m.fn ?_
  refine wpAny_mono (own_runs F sb.in1 I ry hr) (fun r s' z => ?_) fun _ _ x => x
  obtain ⟨rfl, z⟩ := z
  exact ⟨!b, rfl, by rw [Bool.not_not], z⟩
theorem rcE_off (c : OwnC X.K C) (m : Meth X.K C "__eq__" g) (F : FnR X.prog X.w X.K X.mg X.base CX0 n g (spEqE R)) : RcE X n .Eq (DOff C R) := by
  intro A pins s σ H x y u v b sb I rx ry d
  obtain ⟨a, dx, fs, T, rfl, ha, kd, hr⟩ := d
  cases (show v = Value.ref a from ry)
  obtain ⟨mA, J0, _⟩ := ins_get I.hok ha
  have hx := J0.obj
  obtain ⟨od, J, _⟩ := J0.look
  obtain ⟨mm, hF⟩ := I.fr
  have back : wpAny (model X.prog X.w) A (tryCompare (.ref a) (cmpInfo .Eq).2.2 u) (fun r s' => ∃ v, r = some v ∧ v = .bool b ∧ ∃ H', Inv X pins σ H' s' ∧ Ex H H') X.xe s := by
    refine OwQ.try_eq (Q := fun v s' => v = .bool b ∧ ∃ H', Inv X pins σ H' s' ∧ Ex H H') I.kIn J m.at_ m.fn (wpAny_mono (own_runs F sb I rx hr) (fun r s' z => ?_) fun _ _ x => x)
    obtain ⟨rfl, z⟩ := z
    exact ⟨b, rfl, rfl, z⟩
  have hm := kd.mem
  cases kd with
  | non =>
    cases (show u = Value.none from rx)
    exact OwQ.right_K (op := .Eq) sb.room.units0 hF I.ok.mod.kin J rfl (c.sub hm) PySem.F.slot_NoneType_eq (fun P h => OwQ.dec_none h) back
  | bl y =>
    cases (show u = Value.bool y from rx)
    exact OwQ.right_K (op := .Eq) sb.room.units0 hF I.ok.mod.kin J rfl (c.sub hm) PySem.F.slot_bool_eq (fun P h => OwQ.dec_bool hx h) back
  | int i =>
    obtain ⟨t, e⟩ := (show ∃ t, u = Value.int i t from rx)
    cases e
    exact OwQ.right_K (op := .Eq) sb.room.units0 hF I.ok.mod.kin J (typeIs_int _ _ _) (c.sub hm) PySem.F.slot_int_eq (fun P h => OwQ.dec_int hx h) back
  | str z =>
    obtain ⟨t, e⟩ := (show ∃ t, u = Value.str z t from rx)
    cases e
    exact OwQ.right_K (op := .Eq) sb.room.units0 hF I.ok.mod.kin J (typeIs_str _ _ _) (c.sub hm) PySem.F.slot_str_eq (fun P h => OwQ.dec_str hx h) back
  | @lst l xs ea =>
    cases (show u = Value.ref l from rx)
    obtain ⟨_, _, k, _, h1⟩ := (show ObjOk X.prog X.w H s.heap l (.lst xs) from I.hok l _ ea)
    have hT : s.TypeIs (.ref l) "list" := ⟨_, h1, rfl⟩
    exact OwQ.right_K (op := .Eq) sb.room.units0 hF I.ok.mod.kin J hT (c.sub hm) PySem.F.slot_list_eq (fun P h => OwQ.dec_list hT I.kIn J (c.mro hm) h) back
  | @tup l xs ea =>
    cases (show u = Value.ref l from rx)
    obtain ⟨_, _, _, o, h1, h2, _⟩ := (show ObjOk X.prog X.w H s.heap l (.tup xs) from I.hok l _ ea)
    have hT : s.TypeIs (.ref l) "tuple" := ⟨_, h1, h2⟩
    exact OwQ.right_K (op := .Eq) sb.room.units0 hF I.ok.mod.kin J hT (c.sub hm) PySem.F.slot_tuple_eq (fun P h => OwQ.dec_tuple hT I.kIn J (c.mro hm) h) back
  | @dK l kvs ea =>
    cases (show u = Value.ref l from rx)
    obtain ⟨_, _, vs, _, o, es, ep, h1, h2, _⟩ := (show ObjOk X.prog X.w H s.heap l (.dK kvs) from I.hok l _ ea)
    have hT : s.TypeIs (.ref l) "dict" := ⟨_, h1, h2.1⟩
    exact OwQ.right_K (op := .Eq) sb.room.units0 hF I.ok.mod.kin J hT (c.sub hm) PySem.F.slot_dict_eq (fun P h => OwQ.dec_dict hT I.kIn J (c.mro hm) h) back
end
end L2
/-! == inside lists and tuples. -/
namespace L2
open PySem PySem.Spec PyProof.Rows _root_.Evl
section
variable {X : Cx} {n : Nat} {C g : Addr} {R : Addr → V → Hp → Bool → Prop} {D D' : EqR}
theorem eqB_of {A : Around} {s : Shared} {E : Value → Shared → Prop} {u v : Value} {Q : Bool → Shared → Prop} (hne : u ≠ v) (hf : ∀ x t, u ≠ .float x t) (h : wpAny (model X.prog X.w) A (richCompare .Eq u v) (fun r s' => ∃ b, r = .bool b ∧ Q b s') E s) : wpAny (model X.prog X.w) A (eqBool u v) Q E s := by
  unfold eqBool
  refine wpAny_holding ?_
  refine wpAny_ite_split (fun hab => absurd (eq_of_beq hab) hne) (fun _ => ?_)
  have fin : wpAny (model X.prog X.w) A (richCompare .Eq u v >>= truthOfDropped) Q E s := by
    refine wpAny_bind (wpAny_mono h (fun r s' hv => ?_) fun _ _ x => x)
    obtain ⟨b, rfl, q⟩ := hv
    exact wpAny_truthy_bool q
  cases u with
  | float x t => exact absurd rfl (hf x t)
  | _ => first | exact fin | simpa using fin
theorem Kd.rel {H : Hp} {x : V} {T : String} {u : Value} (h : Kd H x T) (r : RelV x u) : (∀ y t, u ≠ .float y t) := by
  intro y t e
  subst e
  cases h with
  | non => cases (show Value.float y t = Value.none from r)
  | bl b => cases (show Value.float y t = Value.bool b from r)
  | int i => obtain ⟨k, e⟩ := (show ∃ k, Value.float y t = Value.int i k from r); cases e
  | str z => obtain ⟨k, e⟩ := (show ∃ k, Value.float y t = Value.str z k from r); cases e
  | @lst a xs h => cases (show Value.float y t = Value.ref a from r)
  | @tup a xs h => cases (show Value.float y t = Value.ref a from r)
  | @dK a xs h => cases (show Value.float y t = Value.ref a from r)
theorem Kd.ne_ins {H : Hp} {x : V} {T : String} {u : Value} {a dx : Addr} {fs : List (Str × V)} (h : Kd H x T) (r : RelV x u) (ha : H a = some (.ins C dx fs)) : u ≠ .ref a := by
  intro e
  subst e
  cases h with
  | non => cases (show Value.ref a = Value.none from r)
  | bl b => cases (show Value.ref a = Value.bool b from r)
  | int i => obtain ⟨k, e⟩ := (show ∃ k, Value.ref a = Value.int i k from r); cases e
  | str z => obtain ⟨k, e⟩ := (show ∃ k, Value.ref a = Value.str z k from r); cases e
  | @lst l xs h =>
    cases (show Value.ref a = Value.ref l from r)
    rw [ha] at h
    cases h
  | @tup l xs h =>
    cases (show Value.ref a = Value.ref l from r)
    rw [ha] at h
    cases h
  | @dK l xs h =>
    cases (show Value.ref a = Value.ref l from r)
    rw [ha] at h
    cases h
theorem eqE_own (m : Meth X.K C "__eq__" g) (F : FnR X.prog X.w X.K X.mg X.base CX0 n g (spEqE R)) (hself : ∀ a H b, R a (.ref a) H b → b = true) : EqE X n (DOwn X.K C R) := by
  intro A pins s σ H x y u v b sb I rx ry d
  have d0 := d
  obtain ⟨a, dx, fs, t, rfl, ha, ty, hn, hr⟩ := d
  cases (show u = Value.ref a from rx)
  by_cases hv : v = .ref a
  · subst hv
    have hy : y = .ref a := by
      cases y with
      | ref z => cases (show Value.ref a = Value.ref z from ry); rfl
      | non => cases (show Value.ref a = Value.none from ry)
      | bl b => cases (show Value.ref a = Value.bool b from ry)
      | int i => obtain ⟨k, e⟩ := (show ∃ k, Value.ref a = Value.int i k from ry); cases e
      | str z => obtain ⟨k, e⟩ := (show ∃ k, Value.ref a = Value.str z k from ry); cases e
      | byt z => obtain ⟨k, e⟩ := (show ∃ k, Value.ref a = Value.bytes z k from ry); cases e
      | flt z => obtain ⟨k, e⟩ := (show ∃ k, Value.ref a = Value.float z k from ry); cases e
      | ty z => cases (show Value.ref a = Value.type z from ry)
    subst hy
    cases hself _ _ _ hr
    exact SeqAt.EqAt.same (A := A) (s := s) (.ref a) X.prog X.w X.xe _ ⟨rfl, H, I, Ex.refl _⟩
  · refine eqB_of (fun z => hv z.symm) (fun _ _ z => nomatch z) (wpAny_mono (rcE_own m F A pins s σ H _ _ _ _ _ sb I rx ry d0) (fun r s' q => ?_) fun _ _ x => x)
    exact ⟨b, q.1, rfl, q.2⟩
theorem eqE_off (c : OwnC X.K C) (m : Meth X.K C "__eq__" g) (F : FnR X.prog X.w X.K X.mg X.base CX0 n g (spEqE R)) : EqE X n (DOff C R) := by
  intro A pins s σ H x y u v b sb I rx ry d
  have d0 := d
  obtain ⟨a, dx, fs, T, rfl, ha, kd, hr⟩ := d
  cases (show v = Value.ref a from ry)
  refine eqB_of (kd.ne_ins rx ha) (kd.rel rx) (wpAny_mono (rcE_off c m F A pins s σ H _ _ _ _ _ sb I rx ry d0) (fun r s' q => ?_) fun _ _ x => x)
  exact ⟨b, q.1, rfl, q.2⟩
/-- flat values -/
def DFl : EqR := fun x y _ b => flatV x = true ∧ flatV y = true ∧ eqV x y = b
theorem eqE_flat : EqE X n DFl := by
  intro A pins s σ H x y u v b sb I rx ry d
  obtain ⟨fx, fy, e⟩ := d
  have q := eqAt_V (A := A) (s := s) rx ry fx fy
  rw [e] at q
  exact q X.prog X.w X.xe _ ⟨rfl, H, I, Ex.refl _⟩
/-- item by item, with answers -/
structure PrE (D : EqR) (xs ys : List V) (H : Hp) (bs : List Bool) : Prop where
  lx : xs.length = bs.length
  ly : ys.length = bs.length
  at_ : ∀ (i : Nat) x y b, xs[i]? = some x → ys[i]? = some y → bs[i]? = some b → D x y H b
theorem PrE.nil {H : Hp} : PrE D [] [] H [] := ⟨rfl, rfl, fun i x y b h => by simp at h⟩
theorem PrE.cons {x y : V} {xs ys : List V} {H : Hp} {b : Bool} {bs : List Bool} (h : D x y H b) (p : PrE D xs ys H bs) : PrE D (x :: xs) (y :: ys) H (b :: bs) := by
  refine ⟨by rw [List.length_cons, List.length_cons, p.lx], by rw [List.length_cons, List.length_cons, p.ly], fun i u v c h1 h2 h3 => ?_⟩
  cases i with
  | zero =>
    simp at h1 h2 h3
    subst h1; subst h2; subst h3
    exact h
  | succ i =>
    simp at h1 h2 h3
    exact p.at_ i u v c h1 h2 h3
def LpI (X : Cx) (pins : List (Addr × Obj)) (σ : St) (H : Hp) (s' : Shared) : Prop := ∃ H', Inv X pins σ H' s' ∧ Ex H H'
theorem turnE (hD : MonE D) (h : EqE X n D) {A : Around} (sb : Sub X (n + 1) A) {pins : List (Addr × Obj)} {σ : St} {H : Hp} {xs ys : List V} {its its2 : List Value} {bs : List Bool} (p : PrE D xs ys H bs) (r : Vals xs its) (r2 : Vals ys its2)
    (i : Nat) (h1 : i < its.toArray.size) (h2 : i < its2.toArray.size) (h3 : i < bs.length) (s' : Shared) (l : LpI X pins σ H s') :
    wpAny (model X.prog X.w) A.in1 (eqBool its.toArray[i] its2.toArray[i]) (fun r s2 => r = bs[i] ∧ LpI X pins σ H s2) X.xe s' := by
  obtain ⟨H1, I1, e1⟩ := l
  have g1 : its[i]? = some its.toArray[i] := by
    have h1' : i < its.length := by simpa using h1
    rw [List.getElem?_eq_getElem h1'] <;> simp
  have g2 : its2[i]? = some its2.toArray[i] := by
    have h2' : i < its2.length := by simpa using h2
    rw [List.getElem?_eq_getElem h2'] <;> simp
  have k1 : i < xs.length := by rw [r.length]; simpa using h1
  have k2 : i < ys.length := by rw [r2.length]; simpa using h2
  obtain ⟨u, hu, ru⟩ := r.get (List.getElem?_eq_getElem k1)
  obtain ⟨v, hv, rv⟩ := r2.get (List.getElem?_eq_getElem k2)
  rw [g1] at hu
  rw [g2] at hv
  rw [Option.some.inj hu, Option.some.inj hv]
  refine wpAny_mono (h A.in1 pins s' σ H1 _ _ u v bs[i] sb.in1 I1 ru rv (hD _ _ _ _ _ e1 (p.at_ i _ _ _ (List.getElem?_eq_getElem k1) (List.getElem?_eq_getElem k2) (List.getElem?_eq_getElem h3)))) (fun r s2 q => ?_) fun _ _ x => x
  obtain ⟨hr, H2, I2, e2⟩ := q
  exact ⟨hr, H2, I2, e1.trans e2⟩
/-- x in [..], the items' == telling -/
def rInE (D : EqR) : R2 := fun x y H Q => ∃ p xs bs, y = .ref p ∧ H p = some (.lst xs) ∧ PrE D xs (List.replicate bs.length x) H bs ∧ ∀ H', Ex H H' → Q (.bl (bs.any id)) H'
def rInTE (K : PySem.W.Frag) (D : EqR) : R2 := fun x y H Q => ∃ p xs bs, y = .ref p ∧ SqT K H p xs ∧ PrE D xs (List.replicate bs.length x) H bs ∧ ∀ H', Ex H H' → Q (.bl (bs.any id)) H'
theorem reps {x : V} {u : Value} (r : RelV x u) : ∀ k : Nat, Vals (List.replicate k x) (List.replicate k u)
  | 0 => .nil
  | k + 1 => .cons r (reps r k)
theorem op_inE (hD : MonE D) (h : EqE X n D) (hr : Room (n + 1) X.A) : OpR X (compareOp .In) (rInE D) := by
  intro pins s σ H x y v u Q I rx ry hq
  obtain ⟨p, xs, bs, rfl, hp, pe, q⟩ := hq
  cases (show u = Value.ref p from ry)
  refine OwQ.in_listG (bs := bs) (I := fun _ s' => LpI X pins σ H s') (fun i s' l => ?_) (fun i s' l => ?_) ⟨H, I, Ex.refl _⟩
  · obtain ⟨H1, I1, e1⟩ := id l
    obtain ⟨z, its, k, r, e⟩ := (show ObjOk X.prog X.w H1 s'.heap p (.lst xs) from I1.hok p _ (e1 _ _ hp))
    have hz : its.length = bs.length := by rw [← r.length]; exact pe.lx
    refine ⟨its.toArray, k, e, by rw [List.size_toArray]; exact hz, fun h1 h2 => ?_⟩
    have t := turnE (A := X.A) hD h ⟨hr, rfl⟩ pe r (reps rx bs.length) i h1 (by simpa using h2) h2 s' l
    simpa using t
  · obtain ⟨H1, I1, e1⟩ := l
    exact ⟨.bl _, H1, I1, rfl, q H1 e1⟩
theorem op_inTE (hD : MonE D) (h : EqE X n D) (hr : Room (n + 1) X.A) : OpR X (compareOp .In) (rInTE X.K D) := by
  intro pins s σ H x y v u Q I rx ry hq
  obtain ⟨p, xs, bs, rfl, hp, pe, q⟩ := hq
  cases (show u = Value.ref p from ry)
  obtain ⟨its, r, e, z⟩ := I.tuple hp
  have hz : its.length = bs.length := by rw [← r.length]; exact pe.lx
  refine OwQ.in_tupG (bs := bs) (I := fun _ s' => LpI X pins σ H s') e (by rw [List.size_toArray]; exact hz) (fun i h1 h2 s' l => ?_) (fun i s' l => ?_) ⟨H, I, Ex.refl _⟩
  · have t := turnE (A := X.A) hD h ⟨hr, rfl⟩ pe r (reps rx bs.length) i h1 (by simpa using h2) h2 s' l
    simpa using t
  · obtain ⟨H1, I1, e1⟩ := l
    exact ⟨.bl _, H1, I1, rfl, q H1 e1⟩
/-- x == y, x != y as expressions -/
def rCmpE (D : EqR) : R2 := fun x y H Q => ∃ b, D x y H b ∧ ∀ H', Ex H H' → Q (.bl b) H'
theorem op_rcE {op : CmpOp} (hop : ∀ a b, compareOp op a b = richCompare op a b) (h : RcE X n op D) (hr : Room n X.A) : OpR X (compareOp op) (rCmpE D) := by
  intro pins s σ H x y v u Q I rx ry hq
  obtain ⟨b, d, q⟩ := hq
  rw [hop]
  refine wpAny_mono (h X.A pins s σ H x y v u b ⟨hr, rfl⟩ I rx ry d) (fun r s' z => ?_) fun _ _ x => x
  obtain ⟨hr', H', I', e⟩ := z
  subst hr'
  exact ⟨.bl b, H', I', rfl, q H' e⟩
theorem op_eqE (h : RcE X n .Eq D) (hr : Room n X.A) : OpR X (compareOp .Eq) (rCmpE D) := op_rcE (fun _ _ => rfl) h hr
theorem op_neE (h : RcE X n .NotEq D) (hr : Room n X.A) : OpR X (compareOp .NotEq) (rCmpE D) := op_rcE (fun _ _ => rfl) h hr
def DLs (D : EqR) : EqR := fun x y H b => ∃ p q xs ys bs, x = .ref p ∧ y = .ref q ∧ H p = some (.lst xs) ∧ H q = some (.lst ys) ∧ PrE D xs ys H bs ∧ b = bs.all id
def DTp (K : PySem.W.Frag) (D : EqR) : EqR := fun x y H b => ∃ p q xs ys bs, x = .ref p ∧ y = .ref q ∧ SqT K H p xs ∧ SqT K H q ys ∧ PrE D xs ys H bs ∧ b = !bs.all id
theorem rcE_list (hD : MonE D) (h : EqE X n D) : RcE X (n + 1) .Eq (DLs D) := by
  intro A pins s σ H x y u v b sb I rx ry d
  obtain ⟨p, q, xs, ys, bs, rfl, rfl, hp, hq, pe, rfl⟩ := d
  cases (show u = Value.ref p from rx)
  cases (show v = Value.ref q from ry)
  have hl : OwQ.EqI X.prog X.w A X.xe p q bs (fun _ s' => LpI X pins σ H s') := fun i s' l => by
    obtain ⟨H1, I1, e1⟩ := id l
    obtain ⟨z, its, k, r, e⟩ := (show ObjOk X.prog X.w H1 s'.heap p (.lst xs) from I1.hok p _ (e1 _ _ hp))
    obtain ⟨z2, its2, k2, r2, e2⟩ := (show ObjOk X.prog X.w H1 s'.heap q (.lst ys) from I1.hok q _ (e1 _ _ hq))
    refine ⟨its.toArray, its2.toArray, k, k2, e, e2, by rw [List.size_toArray, ← r.length]; exact pe.lx, by rw [List.size_toArray, ← r2.length]; exact pe.ly, fun h1 h2 h3 => turnE hD h sb pe r r2 i h1 h2 h3 s' l⟩
  obtain ⟨z, its, k, r, e⟩ := (show ObjOk X.prog X.w H s.heap p (.lst xs) from I.hok p _ hp)
  obtain ⟨z2, its2, k2, r2, e2⟩ := (show ObjOk X.prog X.w H s.heap q (.lst ys) from I.hok q _ hq)
  have hT : s.TypeIs (.ref p) "list" := ⟨_, e, rfl⟩
  have hT2 : s.TypeIs (.ref q) "list" := ⟨_, e2, rfl⟩
  refine wpAny_richCompare_same_room (op := .Eq) hT hT2 PySem.F.slot_list_eq (GQ.call_here PySem.F.slot_list_eq hT PySem.F.entry_list_eq (PySem.F.args_list_eq_2 _ _) ?_) sb.room.units0
  exact OwQ.list_eqB (R := wants (fun v s' => v ≠ .notImplemented ∧ (v = .bool (bs.all id) ∧ ∃ H', Inv X pins σ H' s' ∧ Ex H H')) X.xe) p q bs _ hl (fun i s' l => ⟨(fun x => nomatch x), rfl, l⟩) ⟨H, I, Ex.refl _⟩
theorem neE_tup (hD : MonE D) (h : EqE X n D) : RcE X (n + 1) .NotEq (DTp X.K D) := by
  intro A pins s σ H x y u v b sb I rx ry d
  obtain ⟨p, q, xs, ys, bs, rfl, rfl, hp, hq, pe, rfl⟩ := d
  cases (show u = Value.ref p from rx)
  cases (show v = Value.ref q from ry)
  obtain ⟨its, r, e, z⟩ := I.tuple hp
  obtain ⟨its2, r2, e2, z2⟩ := I.tuple hq
  obtain ⟨⟨cls, dd, data, sl⟩, ho, hc, k, hd⟩ := id e
  obtain ⟨⟨cls2, dd2, data2, sl2⟩, ho2, hc2, k2, hd2⟩ := id e2
  simp only at hc hd hc2 hd2
  subst hc hd hc2 hd2
  have hT : s.TypeIs (.ref p) "tuple" := ⟨_, ho, rfl⟩
  have hT2 : s.TypeIs (.ref q) "tuple" := ⟨_, ho2, rfl⟩
  refine wpAny_richCompare_same_room (op := .NotEq) hT hT2 PySem.F.slot_tuple_ne (GQ.call_here PySem.F.slot_tuple_ne hT PySem.F.entry_tuple_ne (PySem.F.args_tuple_ne_2 _ _) ?_) sb.room.units0
  exact OwQ.tuple_neB (R := wants (fun v s' => v ≠ .notImplemented ∧ (v = .bool (!bs.all id) ∧ ∃ H', Inv X pins σ H' s' ∧ Ex H H')) X.xe) p q _ _ k k2 dd dd2 sl sl2 bs (by rw [List.size_toArray, ← r.length]; exact pe.lx) (by rw [List.size_toArray, ← r2.length]; exact pe.ly) (fun _ s' => LpI X pins σ H s') (fun i h1 h2 h3 s' l => turnE hD h sb pe r r2 i h1 h2 h3 s' l) (fun i s' l => ⟨(fun x => nomatch x), rfl, l⟩) ho ho2 ⟨H, I, Ex.refl _⟩
end
end L2
/-! What these come to. -/
namespace L2
open PySem PySem.Spec PyProof.Rows _root_.Evl
section
variable {σ : L2.St} {H H' : Hp} {ta tb te : TE} {x y z v : V} {D : EqR} {b : Bool} {C : Addr} {sp : Sp} {K : PySem.W.Frag}
theorem rv_cmpE (h : ∀ H1, Ex H H1 → D x y H1 b) : RV (rCmpE D) x y H (.bl b) := fun H1 e Q q => ⟨b, h H1 e, q⟩
theorem rv_inE {p : Addr} {xs : List V} {bs : List Bool} (hp : H p = some (.lst xs)) (h : ∀ H1, Ex H H1 → PrE D xs (List.replicate bs.length x) H1 bs) : RV (rInE D) x (.ref p) H (.bl (bs.any id)) := fun H1 e Q q => ⟨p, xs, bs, rfl, e _ _ hp, h H1 e, q⟩
theorem rv_inTE {p : Addr} {xs : List V} {bs : List Bool} (hp : H p = some (.tup xs)) (h : ∀ H1, Ex H H1 → PrE D xs (List.replicate bs.length x) H1 bs) : RV (rInTE K D) x (.ref p) H (.bl (bs.any id)) := fun H1 e Q q => ⟨p, xs, bs, rfl, st_of (e _ _ hp), h H1 e, q⟩
/-- a call of one thing that tells a text -/
theorem ev_strO {a dx : Addr} {fs : List (Str × V)} {s : Str} (h : Ev te σ H (.ref a)) (ha : H a = some (.ins C dx fs)) (hs : SpV sp [.ref a] H (.str s)) : Ev (tCB (rStrO C sp) (tCons te tNil)) σ H (.str s) := fun H1 e Q q =>
  h H1 e _ fun H2 e2 => ⟨a, dx, fs, rfl, (e.trans e2) _ _ ha, hs H2 (e.trans e2) _ (fun H3 e3 => ⟨s, rfl, q H3 (e2.trans e3)⟩) _⟩
theorem ev_lenO {a dx : Addr} {fs : List (Str × V)} {i : Int} (h : Ev te σ H (.ref a)) (ha : H a = some (.ins C dx fs)) (hs : SpV sp [.ref a] H (.int i)) (i0 : 0 ≤ i) (i1 : i < 2 ^ 63) : Ev (tCB (rLenO C sp) (tCons te tNil)) σ H (.int i) := fun H1 e Q q =>
  h H1 e _ fun H2 e2 => ⟨a, dx, fs, rfl, (e.trans e2) _ _ ha, hs H2 (e.trans e2) _ (fun H3 e3 => ⟨i, rfl, i0, i1, q H3 (e2.trans e3)⟩) _⟩
theorem ev_fmtO {a dx : Addr} {fs : List (Str × V)} {s : Str} (h : Ev te σ H (.ref a)) (ha : H a = some (.ins C dx fs)) (hs : SpV sp [.ref a] H (.str s)) : Ev (tFmtO C sp te) σ H (.str s) := fun H1 e Q q =>
  h H1 e _ fun H2 e2 => ⟨a, dx, fs, rfl, (e.trans e2) _ _ ha, hs H2 (e.trans e2) _ (fun H3 e3 => ⟨s, rfl, q H3 (e2.trans e3)⟩) _⟩
theorem ev_fmtS {s : Str} (h : Ev te σ H (.str s)) (hl : s.length ≤ 100000) : Ev (tFmt te) σ H (.str s) := fun H1 e Q q => h H1 e _ fun H2 e2 => .inl ⟨s, rfl, sz_of hl, q H2 e2⟩
theorem ev_fmtI {i : Int} (h : Ev te σ H (.int i)) (hl : i.natAbs.log2 < 1920) : Ev (tFmt te) σ H (.str (Str.ofString (toString i))) := fun H1 e Q q => h H1 e _ fun H2 e2 => .inr ⟨i, rfl, hl, q H2 e2⟩
/-- texts one behind the other -/
def catS : Str → List Str → Str
  | acc, [] => acc
  | acc, y :: ys => catS (acc ++ y) ys
theorem len_app (x y : Str) : (x ++ y).length = x.length + y.length := by
  show (x.cps ++ y.cps).size = _
  exact Array.size_append
theorem catS_len : ∀ (ys : List Str) (acc : Str), acc.length ≤ (catS acc ys).length
  | [], acc => Nat.le_refl _
  | y :: ys, acc => Nat.le_trans (by rw [len_app]; omega) (catS_len ys (acc ++ y))
inductive EvJ (σ : L2.St) (H : Hp) : List TE → List Str → Prop where
  | nil : EvJ σ H [] []
  | cons {t : TE} {ts : List TE} {y : Str} {ys : List Str} (h : Ev t σ H (.str y)) (r : EvJ σ H ts ys) : EvJ σ H (t :: ts) (y :: ys)
theorem EvJ.go {ts : List TE} {ys : List Str} (h : EvJ σ H ts ys) : ∀ (acc : Str) (H1 : Hp), Ex H H1 → ∀ Q : Str → Hp → Prop, (catS acc ys).length ≤ 100000 → (∀ H2, Ex H1 H2 → Q (catS acc ys) H2) → tJs ts acc σ H1 Q := by
  induction h with
  | nil => exact fun acc H1 e Q _ q => q H1 (Ex.refl _)
  | @cons t ts y ys h r ih =>
    intro acc H1 e Q hl q
    exact h H1 e _ fun H2 e2 => ⟨y, rfl, sz_of (Nat.le_trans (catS_len ys (acc ++ y)) hl), ih (acc ++ y) H2 (e.trans e2) Q hl fun H3 e3 => q H3 (e2.trans e3)⟩
theorem ev_joined {ts : List TE} {ys : List Str} (h : EvJ σ H ts ys) (hl : (catS Str.empty ys).length ≤ 100000) : Ev (fun σ H Q => tJs ts Str.empty σ H fun out H1 => Q (.str out) H1) σ H (.str (catS Str.empty ys)) := fun H1 e Q q => h.go Str.empty H1 e _ hl q
theorem ev_addStr {x y : Str} (ha : Ev ta σ H (.str x)) (hb : Ev tb σ H (.str y)) (h : x.length + y.length ≤ 100000) : Ev (tOp (fun x y H Q => ∃ i j, x = .str i ∧ y = .str j ∧ i.length + j.length ≤ sizeLine ∧ Q (.str (i ++ j)) H) ta tb) σ H (.str (x ++ y)) :=
  ev_op ha hb (rv_val fun H1 _ Q q => ⟨x, y, rfl, rfl, sz_of h, q⟩)
theorem ev_eqS2 {x y : Str} (ha : Ev ta σ H (.str x)) (hb : Ev tb σ H (.str y)) : Ev (tOp rEq ta tb) σ H (.bl (decide (x = y))) := by
  have h := ev_op ha hb (rv_eq (x := .str x) (y := .str y) rfl)
  have e : decide (V.str x = V.str y) = decide (x = y) := by
    rw [Bool.eq_iff_iff]
    simp
  rw [e] at h
  exact h
theorem ev_neS2 {x y : Str} (ha : Ev ta σ H (.str x)) (hb : Ev tb σ H (.str y)) : Ev (tOp rNe ta tb) σ H (.bl (!decide (x = y))) := by
  have h := ev_op ha hb (rv_ne (x := .str x) (y := .str y) rfl)
  have e : decide (V.str x = V.str y) = decide (x = y) := by
    rw [Bool.eq_iff_iff]
    simp
  rw [e] at h
  exact h
theorem rc_strI {i : Int} (h : i.natAbs.log2 < 1920) : RC (fun xs H Q => ∃ i : Int, xs = [V.int i] ∧ i.natAbs.log2 < 1920 ∧ Q (.str (Str.ofString (toString i))) H) [.int i] H (.str (Str.ofString (toString i))) := fun H1 _ Q q => ⟨i, rfl, h, q H1 (Ex.refl _)⟩
theorem log_lt {i : Int} {n : Nat} (h : i.natAbs < 2 ^ n) (hn : n ≤ 1920) (h0 : 0 < n) : i.natAbs.log2 < 1920 := by
  rcases Nat.eq_zero_or_pos i.natAbs with e | e
  · rw [e]
    decide
  · exact Nat.lt_of_lt_of_le ((Nat.log2_lt (by omega)).mpr h) hn
/-- things of built-in kinds -/
def EvK (te : TE) (σ : L2.St) (H : Hp) : Prop := ∀ H1, Ex H H1 → ∀ Q : VK, (∀ v H2, Ex H1 H2 → (∃ T, Kd H2 v T) → Q v H2) → te σ H1 Q
def EvKA (ta : TA) (σ : L2.St) (H : Hp) (n : Nat) : Prop := ∀ H1, Ex H H1 → ∀ Q : List V → Hp → Prop, (∀ vs H2, Ex H1 H2 → vs.length = n → (∀ v ∈ vs, ∃ T, Kd H2 v T) → Q vs H2) → ta σ H1 Q
theorem ek_v {T : String} (h : Ev te σ H v) (k : ∀ H1, Ex H H1 → Kd H1 v T) : EvK te σ H := fun H1 e Q q => h H1 e _ fun H2 e2 => q v H2 e2 ⟨T, k H2 (e.trans e2)⟩
theorem ek_c {T : String} (k : ∀ H1, Kd H1 v T) : EvK (tC v) σ H := ek_v ev_c fun H1 _ => k H1
theorem ek_L {xs : List V} (h : EvL te σ H xs) : EvK te σ H := fun H1 e Q q => h H1 e _ fun p H2 _ e2 hp => q _ H2 e2 ⟨_, .lst hp⟩
theorem ek_U {xs : List V} (h : EvU te σ H xs) : EvK te σ H := fun H1 e Q q => h H1 e _ fun p H2 _ e2 hp => q _ H2 e2 ⟨_, .tup hp⟩
theorem ek_dict : EvK tDNewK σ H := fun H1 e Q q p hp => q _ _ (Ex.new hp) ⟨_, .dK upd_same⟩
theorem ek_nil : EvKA tNil σ H 0 := fun H1 e Q q => q [] H1 (Ex.refl _) rfl fun v h => nomatch h
theorem ek_cons {tr : TA} {n : Nat} (h : EvK te σ H) (hr : EvKA tr σ H n) : EvKA (tCons te tr) σ H (n + 1) := fun H1 e Q q => h H1 e _ fun v H2 e2 ⟨T, hT⟩ => hr H2 (e.trans e2) _ fun vs H3 e3 hl hk => q (v :: vs) H3 (e2.trans e3) (by rw [List.length_cons, hl]) fun u hu => by
  rcases List.mem_cons.mp hu with rfl | hu
  · exact ⟨T, hT.ex e3⟩
  · exact hk u hu
theorem EvKA.go {ta : TA} {n : Nat} {Q : List V → Hp → Prop} (h : EvKA ta σ H n) (k : ∀ vs H2, Ex H H2 → vs.length = n → (∀ v ∈ vs, ∃ T, Kd H2 v T) → Q vs H2) : ta σ H Q := h H (Ex.refl _) _ k
/-- pairs of ints compared -/
theorem eqv_pair (a b : Int × Int) : PyData.eqv (.tuple [.int a.1, .int a.2]) (.tuple [.int b.1, .int b.2]) = decide (a = b) := by
  obtain ⟨a1, a2⟩ := a
  obtain ⟨b1, b2⟩ := b
  show (a1 == b1 && (a2 == b2 && true)) = decide ((a1, a2) = (b1, b2))
  rw [Bool.eq_iff_iff]
  simp
theorem dp_pair {p : Addr} {a : Int × Int} (h : H p = some (.tup [.int a.1, .int a.2])) : Dp K H (.ref p) (.tuple [.int a.1, .int a.2]) := .tup (st_of h) (.cons (.int _) (.cons (.int _) .nil))
theorem rv_eqP {p q : Addr} {a b : Int × Int} (hp : H p = some (.tup [.int a.1, .int a.2])) (hq : H q = some (.tup [.int b.1, .int b.2])) : RV (rEqD K) (.ref p) (.ref q) H (.bl (decide (a = b))) := fun H1 e Q k =>
  ⟨_, _, dp_pair (e _ _ hp), dp_pair (e _ _ hq), rfl, rfl, by
    rw [eqv_pair]
    exact k H1 (Ex.refl _)⟩
theorem rv_neP {p q : Addr} {a b : Int × Int} (hp : H p = some (.tup [.int a.1, .int a.2])) (hq : H q = some (.tup [.int b.1, .int b.2])) : RV (rNeD K) (.ref p) (.ref q) H (.bl (!decide (a = b))) := fun H1 e Q k =>
  ⟨_, _, dp_pair (e _ _ hp), dp_pair (e _ _ hq), rfl, rfl, by
    rw [eqv_pair]
    exact k H1 (Ex.refl _)⟩
/-- a loop over a list that an expression tells: the expression first -/
theorem q_forO {g : TG} {tu tz : TS} {E : Ends} (h : te σ H fun x H1 => ∃ a, x = .ref a ∧ (∃ xs, SqL K H1 a xs) ∧ tFor (fun _ H' R => R (Itl K a) H') g tu { E with nx := tz E } σ H1) : tSeq (tFor (iList K te) g tu) tz E σ H := h
theorem rc_intB {b : Bool} : RC (fun xs H Q => (∃ i, xs = [V.int i] ∧ Q (.int i) H) ∨ ∃ k, xs = [V.bl k] ∧ Q (.int (if k then 1 else 0)) H) [.bl b] H (.int (if b then 1 else 0)) := fun H1 _ Q q => .inr ⟨b, rfl, q H1 (Ex.refl _)⟩
theorem rc_isiK {x : V} {T : String} (c : OwnC K C) (h : ∀ H1, Ex H H1 → Kd H1 x T) : RC (rIsi K) [x, .ref C] H (.bl false) := rc_isi (.own C) (fun H1 e => (h H1 e).tyx) (c.kit (h H (Ex.refl _)).mem)
end
end L2
/-! f'{n:018d}': figures with noughts ahead. -/
namespace L2
open PySem PySem.Spec PyProof.Rows _root_.Evl
def digB (K : PySem.W.Frag) : Bool := decide (PySem.W.nsIn K cStatics "sys.int_max_str_digits" = some none)
section
variable {X : Cx}
theorem noDigits_of {pins : List (Addr × Obj)} {s : Shared} {σ : St} {H : Hp} (I : Inv X pins σ H s) (h : digB X.K = true) : s.heap.NoDigits := by
  have h := of_decide_eq_true h
  obtain ⟨mc, ns, _⟩ := I.nolimit
  refine ⟨mc, ns, ?_⟩
  obtain ⟨o, es, ep, ho, hd, hk, hf⟩ := ns
  unfold PySem.W.nsIn at h
  cases e : X.K.lookup cStatics with
  | none =>
    rw [e] at h
    cases h
  | some o' =>
    rw [e] at h
    have q := I.kIn _ _ e
    rw [ho] at q
    cases q
    obtain ⟨c1, d1, dt, sl⟩ := o
    simp only at hd
    subst hd
    dsimp only at h
    rw [← hf]
    unfold nsFind findBy
    rw [← Array.find?_toList]
    split at h
    · cases h
    · rename_i q
      rw [q]
      rfl
/-- figures, noughts ahead to w of them -/
def zpad (w : Nat) (a : Int) : Str := ⟨(List.replicate (w - (Nat.toDigits 10 a.natAbs).length) 48).toArray⟩ ++ Str.ofString (toString a)
def tFmtZ (w : Nat) (te : TE) : TE := fun σ H Q => te σ H fun x H1 => ∃ i : Int, x = .int i ∧ 0 ≤ i ∧ i.natAbs < 10 ^ 4300 ∧ Q (.str (zpad w i)) H1
theorem pe_fmt18 {e : Expr} {te : TE} {pos p1 p2 : Pos} {k : Nat} (hd : digB X.K = true) (he : PE X e te) : PE X (.FormattedValue e (-1) (some (.JoinedStr [.Constant (.str "018d") k p1] p2)) pos) (tFmtZ 18 te) := by
  refine ⟨fun pins s σ H Q I h => ?_⟩
  refine wpAny_FormattedValue_spec (thn (he.run pins s σ H _ I h) fun v s1 hv => ?_)
  obtain ⟨x, H1, I1, r1, i, rfl, i0, i1, q⟩ := hv
  obtain ⟨t, rfl⟩ := r1
  refine thn ((pe_joined1 pe_str).run pins s1 σ H1 (fun z H2 => z = .str "018d" ∧ H2 = H1) I1 ⟨rfl, rfl⟩) fun r s2 hr => ?_
  obtain ⟨z, H2, I2, rz, rfl, rfl⟩ := hr
  obtain ⟨t2, rfl⟩ := rz
  refine ⟨"018d", t2, rfl, formatField_int_specOf (noDigits_of I2 hd) i1 (by decide +kernel) fun W hW F => ?_⟩
  have e : intSpecTextOf "018d" i = zpad 18 i := by
    have h := F.zeroG (by decide +kernel) i0
    have hW : W = 18 := hW.trans (by decide +kernel)
    rw [hW] at h
    exact h
  rw [e]
  exact ⟨.str (zpad 18 i), H2, I2.tok _, ⟨_, rfl⟩, q⟩
end
end L2
namespace L2
open PySem PySem.Spec PyProof.Rows _root_.Evl
theorem ev_fmtZ {σ : L2.St} {H : Hp} {te : TE} {i : Int} {w : Nat} (h : Ev te σ H (.int i)) (h0 : 0 ≤ i) (h1 : i.natAbs < 10 ^ 4300) : Ev (tFmtZ w te) σ H (.str (zpad w i)) := fun H1 e Q q => h H1 e _ fun H2 e2 => ⟨i, rfl, h0, h1, q H2 e2⟩
theorem bits_le {i : Int} {n : Nat} (h : i.natAbs < 2 ^ n) : Builtin.Int.intBits i ≤ n := PyProof.Rows.intBits_le h
end L2
/-! Texts as rows of signs. -/
namespace L2
open PySem PySem.Spec PyProof.Rows _root_.Evl
def cs (z : Str) : List Nat := z.cps.toList
theorem cs_len (z : Str) : z.length = (cs z).length := by simp [cs, Str.length]
def isL (c : Nat) : Bool := decide (c ∈ cs "abcdefghijklmnopqrstuvwxyz")
def isM (c : Nat) : Bool := decide (c ∈ cs "><")
theorem isM_law (c : Nat) : decide (c ∈ cs "<>") = isM c := by
  have e1 : cs "<>" = [60, 62] := by decide +kernel
  have e2 : cs "><" = [62, 60] := by decide +kernel
  unfold isM
  rw [e1, e2]
  simp [or_comm]
theorem isM_no (c : Nat) (h : isM c = true) : isL c = false := by
  have e2 : cs "><" = [62, 60] := by decide +kernel
  have h1 := of_decide_eq_true h
  rw [e2] at h1
  simp only [List.mem_cons, List.mem_nil_iff, or_false] at h1
  rcases h1 with rfl | rfl <;> decide +kernel
def takeS (z : Str) (n : Nat) : Str := ⟨((cs z).take n).toArray⟩
def dropS (z : Str) (n : Nat) : Str := ⟨((cs z).drop n).toArray⟩
theorem cut_take (z : Str) (n : Nat) : cutS z none (some (n : Int)) = takeS z n := by
  unfold cutS takeS
  rw [HT.sIx_none, HT.sIx_nat, List.drop_zero, Nat.sub_zero]
  congr 2
  show List.take (min n z.length) z.cps.toList = _
  rw [cs_len]
  by_cases h : n ≤ (cs z).length
  · rw [Nat.min_eq_left h]
    rfl
  · rw [Nat.min_eq_right (by omega)]
    show List.take (cs z).length (cs z) = _
    rw [List.take_of_length_le (Nat.le_refl _), List.take_of_length_le (by omega)]
theorem cut_drop (z : Str) (n : Nat) : cutS z (some (n : Int)) none = dropS z n := by
  unfold cutS dropS
  rw [HT.sIx_none, HT.sIx_nat]
  congr 1
  rw [cs_len]
  have e : z.cps.toList = cs z := rfl
  rw [e]
  by_cases h : n ≤ (cs z).length
  · rw [Nat.min_eq_left h, List.take_of_length_le (by rw [List.length_drop]; omega)]
  · rw [Nat.min_eq_right (by omega), List.drop_of_length_le (Nat.le_refl _), List.drop_of_length_le (by omega)]
    simp
section
variable {σ : L2.St} {H : Hp} {ta tb : TE} {x y : V}
theorem rc_lenS {z : Str} (hz : z.length ≤ 1000) : RC (fun xs H Q => ∃ z : Str, xs = [.str z] ∧ z.length ≤ sizeLine ∧ Q (.int z.length) H) [.str z] H (.int ((cs z).length : Int)) := fun H1 _ Q q =>
  ⟨z, rfl, sz_of (by omega), by rw [cs_len]; exact q H1 (Ex.refl _)⟩
theorem rv_inS {c : Nat} {z : Str} : RV (fun x y H Q => ∃ (c : Nat) (z : Str), x = .str ⟨#[c]⟩ ∧ y = .str z ∧ Q (.bl (decide (c ∈ z.cps.toList))) H) (.str ⟨#[c]⟩) (.str z) H (.bl (decide (c ∈ cs z))) := fun H1 _ Q q => ⟨c, z, rfl, rfl, q H1 (Ex.refl _)⟩
theorem ev_ixS {z : Str} {i c : Nat} (ha : Ev ta σ H (.str z)) (hb : Ev tb σ H (.int (i : Int))) (hz : z.length ≤ 1000) (hc : (cs z)[i]? = some c) : Ev (tOp rIxS ta tb) σ H (.str ⟨#[c]⟩) := ev_op ha hb (rv_ixS (by omega) (atI_nat hc))
theorem ev_take {z : Str} {n : Nat} (ha : Ev ta σ H (.str z)) (hb : Ev tb σ H (.int (n : Int))) (hz : z.length ≤ 1000) : Ev (tSl rSlS ta tNoPart (tPart tb)) σ H (.str (takeS z n)) := fun H1 e Q q =>
  ha H1 e _ fun H2 e2 => hb H2 (e.trans e2) _ fun H3 e3 => ⟨_, rfl, z, rfl, sz_of (by omega), by rw [cut_take]; exact q H3 (e2.trans e3)⟩
theorem ev_drop {z : Str} {n : Nat} (ha : Ev ta σ H (.str z)) (hb : Ev tb σ H (.int (n : Int))) (hz : z.length ≤ 1000) : Ev (tSl rSlS ta (tPart tb) tNoPart) σ H (.str (dropS z n)) := fun H1 e Q q =>
  ha H1 e _ fun H2 e2 => hb H2 (e.trans e2) _ fun H3 e3 => ⟨_, rfl, z, rfl, sz_of (by omega), by rw [cut_drop]; exact q H3 (e2.trans e3)⟩
end
def Word (z : Str) : Prop := 1 ≤ (cs z).length ∧ (cs z).length ≤ 6 ∧ ∀ c ∈ cs z, isL c = true
def wordB (z : Str) : Bool := decide (1 ≤ (cs z).length) && (decide ((cs z).length ≤ 6) && (cs z).all isL)
theorem wordB_ok {z : Str} (h : wordB z = true) : Word z := by
  unfold wordB at h
  rw [Bool.and_eq_true, Bool.and_eq_true, decide_eq_true_eq, decide_eq_true_eq, List.all_eq_true] at h
  exact ⟨h.1, h.2.1, h.2.2⟩
theorem lc_rng {σ : L2.St} {H : Hp} {te te0 : TE} {Q : VK} {g : TG} {t : TT} {vs : List Nat} (h : te0 σ H fun v H1 => tLc (iRng1 (fun _ H R => R [v] H)) g t te vs σ H1 Q) : tLc (iRng1 (tCons te0 tNil)) g t te vs σ H Q := h
def ofL (l : List Nat) : Str := ⟨l.toArray⟩
theorem cs_ofL (l : List Nat) : cs (ofL l) = l := rfl
theorem ofL_cs (z : Str) : ofL (cs z) = z := by
  cases z
  rfl
theorem ofL_len (l : List Nat) : (ofL l).length = l.length := by
  rw [cs_len, cs_ofL]
theorem ofL_inj {l m : List Nat} (h : ofL l = ofL m) : l = m := congrArg cs h
theorem ofL_app (l m : List Nat) : ofL l ++ ofL m = ofL (l ++ m) := TL.ext_tl (TL.tl_append _ _)
theorem take_ofL (l : List Nat) (n : Nat) : takeS (ofL l) n = ofL (l.take n) := rfl
theorem drop_ofL (l : List Nat) (n : Nat) : dropS (ofL l) n = ofL (l.drop n) := rfl
theorem cs_app (x y : Str) : cs (x ++ y) = cs x ++ cs y := TL.tl_append x y
theorem cs_take (z : Str) (n : Nat) : cs (takeS z n) = (cs z).take n := rfl
theorem cs_drop (z : Str) (n : Nat) : cs (dropS z n) = (cs z).drop n := rfl
theorem ev_cat {σ : L2.St} {H : Hp} {ta tb : TE} {x y : Str} (ha : Ev ta σ H (.str x)) (hb : Ev tb σ H (.str y)) (hx : x.length ≤ 10000) (hy : y.length ≤ 10000) : Ev (tOp (fun x y H Q => ∃ i j : Str, x = .str i ∧ y = .str j ∧ i.length + j.length ≤ sizeLine ∧ Q (.str (i ++ j)) H) ta tb) σ H (.str (x ++ y)) :=
  ev_op ha hb fun H4 _ Q' q' => ⟨_, _, rfl, rfl, sz_of (by omega), q' H4 (Ex.refl _)⟩
def ownS : List Str := ["rose", "none", "home", "away", "ok", "same", "on", "back", "own", "across", "corner", "wind"]
theorem own_word : ∀ z ∈ ownS, Word z := by
  have h : ownS.all wordB = true := by decide +kernel
  exact fun z hz => wordB_ok (List.all_eq_true.mp h z hz)
theorem own_len : ownS.length = 12 := rfl
def LT : Str := "abcdefghijklmnopqrstuvwxyz"
theorem LT_len : (cs LT).length = 26 := by decide +kernel
theorem at_some {α : Type} {L : List α} {j : Int} (h0 : 0 ≤ j) (h1 : j < L.length) : ∃ v ∈ L, atI L j = some v := by
  obtain ⟨n, rfl⟩ := Int.eq_ofNat_of_zero_le h0
  have hn : n < L.length := by omega
  exact ⟨L[n], List.getElem_mem hn, atI_nat (by rw [List.getElem?_eq_getElem hn])⟩
def go (j : Int) : Str := (atI ownS j).getD ""
theorem go_at {j : Int} (h0 : 0 ≤ j) (h1 : j < 12) : atI (ownS.map V.str) j = some (.str (go j)) ∧ Word (go j) := by
  obtain ⟨n, rfl⟩ := Int.eq_ofNat_of_zero_le h0
  have hn : n < ownS.length := by
    rw [own_len]
    omega
  have e : atI ownS (n : Int) = some ownS[n] := atI_nat (List.getElem?_eq_getElem hn)
  unfold go
  rw [e]
  exact ⟨atI_nat (by rw [List.getElem?_map, List.getElem?_eq_getElem hn]; rfl), own_word _ (List.getElem_mem hn)⟩
def gl (j : Int) : Nat := (atI (cs LT) j).getD 0
theorem gl_at {j : Int} (h0 : 0 ≤ j) (h1 : j < 26) : atI (cs LT) j = some (gl j) ∧ isL (gl j) = true := by
  obtain ⟨v, hv, e⟩ := at_some (L := cs LT) h0 (by rw [LT_len]; exact h1)
  unfold gl
  rw [e]
  exact ⟨rfl, decide_eq_true hv⟩
theorem given_all {n : Nat} {g : Nat → Str} : given n (fun _ => true) (fun i => V.str (g i)) = ((List.range n).map g).map V.str := by
  unfold given
  rw [List.filter_eq_self.mpr (fun _ _ => rfl), List.map_map]
  rfl
end L2
/-! set(t) of a tuple of unlike texts, and its len; len(range(n)). -/
namespace OwS
open PySem PySem.Spec PyProof.Rows
section
variable {P : Program} {w : World} {A : Around} {E : Value → Shared → Prop} {s : Shared}
/-- the texts go in one by one, each a new one -/
theorem go_in {I : Addr} {fp wr : List Addr} {G : Array GenState → Array GenState → Prop} {Pv : Nat → Value → Prop} {St : Nat → Shared → Prop} {R : Result → Shared → Prop} (xs : List Str) (nd : xs.Nodup) (few : xs.length + 1 < scanBound)
    (W : WalksS P w A.in1 I fp wr G xs.length Pv St) (S : Addr) (out : S ∉ fp) (is : ∀ i v, Pv i v → ∃ x t, xs[i]? = some x ∧ v = .str x t) :
    ∀ (left i : Nat) (s : Shared), xs.length - i = left → i ≤ xs.length → St i s → s.heap.SetOf (strKind P w) S (fun y => decide (y ∈ xs.take i)) i →
      (∀ s', Moved (S :: wr) G s s' → s'.heap.SetOf (strKind P w) S (fun y => decide (y ∈ xs)) xs.length → R (.ok (.ret .none)) s') →
      codeAny (model P w) A (.builtin "set.update.loop" ⟨[.ref S, .ref I], []⟩) R s := by
  have nw : S ∉ wr := fun h => out (W.sub _ h)
  have up : ∀ b ∈ wr, b ∈ S :: wr := fun b hb => List.mem_cons_of_mem _ hb
  have moved : ∀ {h h' : Heap} {f : Str → Bool} {n : Nat}, h.SetOf (strKind P w) S f n → (∀ o, h.get? S = some o → h'.get? S = some o) → h'.SetOf (strKind P w) S f n := fun hS hk => by
    obtain ⟨o, es, ep, t, ho, rest⟩ := hS
    exact ⟨o, es, ep, t, hk o ho, rest⟩
  intro left
  induction left with
  | zero =>
    intro i s hl hi st hS k
    obtain rfl : i = xs.length := by omega
    rw [List.take_length] at hS
    refine codeAny_builtin F.entry_set_update_loop ?_
    rw [Around.under_plainId F.plain_set_update_loop _]
    exact wpAny_bind (W.done s _ _ st fun s' m => wpAny_pure (k s' (m.mono up) (moved hS fun o e => m.heap S o nw e)))
  | succ left ih =>
    intro i s hl hi st hS k
    have lt : i < xs.length := by omega
    refine codeAny_builtin F.entry_set_update_loop ?_
    rw [Around.under_plainId F.plain_set_update_loop _]
    refine wpAny_bind (W.item i s _ _ lt st fun v s' pv st' m => ?_)
    obtain ⟨x, t, hx, rfl⟩ := is i v pv
    have hS1 := moved (h' := s'.heap) hS fun o e => m.heap S o nw e
    show wpAny _ A.in1 (holding [Value.str x t] (setAdd S (.str x t)) >>= _) _ _ s'
    refine wpAny_bind (wpAny_holding ?_)
    unfold setAdd
    refine wpAny_holding (wpAny_bind ((strKind P w).pyHash (k := x) (strKind_is _ _ _ _) ?_))
    refine wpAny_setAddHashed_of (knd := strKind P w) (s := { s' with toks := s'.toks + 1 }) (strKind_is _ _ _ _) rfl hS1 (by omega) fun h' sb hS2 => ?_
    have new : x ∉ xs.take i := fun hm => by
      obtain ⟨j, hj⟩ := List.mem_iff_getElem?.mp hm
      rw [List.getElem?_take] at hj
      by_cases ji : j < i
      · rw [if_pos ji] at hj
        have e1 := (List.getElem?_eq_some_iff.mp hj)
        have e2 := (List.getElem?_eq_some_iff.mp hx)
        exact absurd (e1.2.trans e2.2.symm) (List.pairwise_iff_getElem.mp nd j i e1.1 e2.1 ji)
      · rw [if_neg ji] at hj
        cases hj
    have hS3 : h'.SetOf (strKind P w) S (fun y => decide (y ∈ xs.take (i + 1))) (i + 1) := by
      refine SetOf_congr hS2 (fun y => ?_) ?_
      · rw [List.take_add_one, hx]
        show (decide (y ∈ xs.take i) || decide (y = x)) = decide (y ∈ xs.take i ++ [x])
        rw [Bool.eq_iff_iff]
        simp [List.mem_append]
      · show (if decide (x ∈ xs.take i) = true then i else i + 1) = i + 1
        rw [if_neg (by simpa using new)]
    refine wpAny_pure ⟨plainId_quiet F.plain_set_update_loop _, ih (i + 1) _ (by omega) lt (W.frame _ s' _ _ st' (Nat.le_succ _) fun b hb o e => ?_) hS3 fun s2 m2 hS4 => ?_⟩
    · rw [sb.2 b (fun h => out (h ▸ hb))]
      exact e
    · refine k s2 (Moved.trans W.gtrans ((m.mono up).then_heap (Nat.le_succ _) fun b o hb e => ?_) m2) hS4
      rw [sb.2 b (fun h => hb (h ▸ List.mem_cons_self))]
      exact e
/-- set(t) -/
theorem set_tuple {l : Addr} {items : Array Value} {xs : List Str} {Q : Value → Shared → Prop} (hh : A.handled = none) (hl : s.heap.IsTuple l items) (hi : StrsAre items.toList xs) (nd : xs.Nodup) (few : xs.length + 1 < scanBound)
    (k : ∀ (h' : Heap) (tk : Nat), h'.SetOf (strKind P w) s.heap.objs.size (fun y => decide (y ∈ xs)) xs.length → (∀ b o, s.heap.get? b = some o → h'.get? b = some o) → Q (.ref s.heap.objs.size) { s with heap := h', toks := tk }) :
    wpAny (model P w) A (call (.type "set") [.ref l]) Q E s := by
  have hsz : items.size = xs.length := by
    have q := StrsAre.len_eq hi
    rw [Array.length_toList] at q
    exact q
  obtain ⟨c, tl, hmro⟩ := F.called_set.mro
  have hmade := F.called_set.made
  have hsub := F.called_set.sub
  have h1 := F.called_set.notType
  have h2 := F.called_set.canCreate
  have hct := F.typeCall_set_1 (.ref l)
  have hli := F.called_set.init.lookup
  refine wpAny_call (codeAny_of_tree ?_)
  show wpAny _ _ (callAny (.type "set") _) _ _ _
  refine wpAny_pure ⟨Code.quiet_builtin _ (by decide +kernel), codeAny_builtin F.entry_type_call ?_⟩
  rw [Around.under_plain (weight_type_call_type "set" [.ref l] []) rfl]
  repeat (any_goals (first | assumption | wp_step))
  let o0 : Bool → Obj := fun led => { cls := .type "set", dict := none, data := .set #[] 0 (.fresh 0 0 led) }
  refine codeAny_mono (code_set_new_1 (.ref l) (E := E) (Q₁ := fun obj s₁ => ∃ led : Bool, obj = .ref s.heap.objs.size ∧ s₁ = { s with heap := s.heap.push (o0 led) }) fun led => ⟨led, rfl, rfl⟩) fun r s₁ hr => ?_
  match r, hr with
  | .error e, hr => exact hr
  | .ok (.ret obj), hr =>
    obtain ⟨led, rfl, rfl⟩ := hr
    have hS : (s.heap.push (o0 led)).get? s.heap.objs.size = some (o0 led) := Heap.get?_push_size _ rfl
    have hT : Shared.TypeIs { s with heap := s.heap.push (o0 led) } (.ref s.heap.objs.size) "set" := ⟨_, hS, rfl⟩
    have hbi := F.called_set.init.bind (.ref s.heap.objs.size)
    repeat (any_goals (first | assumption | wp_step))
    refine codeAny_mono (codeAny_call_builtin (R := wants (fun r s₂ => r = .none ∧ ∃ h' tk, s₂ = { s with heap := h', toks := tk } ∧ h'.SetOf (strKind P w) s.heap.objs.size (fun y => decide (y ∈ xs)) xs.length ∧ ∀ b o, s.heap.get? b = some o → h'.get? b = some o) E) F.called_set.init.plain F.entry_set_init (check_set_init_1 hT ?_)) fun r₂ s₂ hr₂ => ?_
    · obtain ⟨⟨ocls, odict, odata, oslots⟩, hol, hcl, nl, hdl⟩ := hl
      simp only at hcl hdl
      subst hcl hdl
      have hol' := Heap.get?_push_of_some (o0 led) hol
      have hsls := F.sub_tuple_set
      have hslf := F.sub_tuple_frozenset
      have hne : (Value.type "tuple" == Value.type "dict") = false := by decide
      have hl1 : (s.heap.push (o0 led)).IsTuple l items := ⟨_, hol', rfl, nl, rfl⟩
      have hlS : l < s.heap.objs.size := Heap.lt_size hol
      unfold Builtin.«set.__init__» noKeywords Builtin.Frozenset.updateFrom
      generalize hPI : pyIter = PI
      wp_walk
      subst hPI
      refine wpAny_pyIter_tuple hl1 (wpAny_bind (wpAny_runValue ?_))
      have hh3 : A.in1.in1.in1.handled = none := by simp [hh]
      have ne : l ≠ (s.heap.push (o0 led)).objs.size := by
        rw [Heap.size_push]
        exact Nat.ne_of_lt (Nat.lt_succ_of_lt hlS)
      have W := (Walks.tuple (prog := P) (w := w) hh3 (s.heap.push (o0 led)).objs.size l ne items).toS
      rw [hsz] at W
      refine go_in xs nd few W s.heap.objs.size (by rw [Heap.size_push]; simp only [List.mem_cons, List.not_mem_nil, or_false, not_or]; exact ⟨Nat.ne_of_lt (Nat.lt_succ_self _), Nat.ne_of_gt hlS⟩) (fun i v hv => ?_) xs.length 0 _ rfl (Nat.zero_le _) ⟨⟨_, Heap.get?_push_size _ rfl, rfl, rfl⟩, hl1.push _⟩ ?_ ?_
      · have hv' : items.toList[i]? = some v := by
          rw [Array.getElem?_toList]
          exact hv
        have lt : i < xs.length := by
          rw [← hsz]
          exact (Array.getElem?_eq_some_iff.mp hv).1
        obtain ⟨t, e⟩ := SS.strs_at hi i v hv'
        refine ⟨xs[i], t, List.getElem?_eq_getElem lt, ?_⟩
        rw [e, List.getD_eq_getElem?_getD, List.getElem?_eq_getElem lt]
        rfl
      · have hget := Heap.get?_push_of_some ({ cls := .type "tuple_iterator", data := .fields #[.ref l, .int 0 0] } : Obj) hS
        exact SetOf_congr ((setObjOf_fresh (knd := strKind P w) led).setOf hget (by unfold scanBound; omega)) (fun y => by simp) rfl
      · intro s' m hS'
        obtain ⟨h', g', d', tk', os'⟩ := s'
        have eg : g' = s.gens := m.gens
        have ed : d' = s.drawn := m.drawn
        have eo : os' = s.os := m.os
        subst eg ed eo
        refine wpAny_pure (wpAny_pure ⟨rfl, h', tk', rfl, hS', fun b o e => ?_⟩)
        have hb := Heap.lt_size e
        refine m.heap b o ?_ (Heap.get?_push_of_some _ (Heap.get?_push_of_some _ e))
        rw [Heap.size_push]
        simp only [List.mem_cons, List.not_mem_nil, or_false, not_or]
        exact ⟨Nat.ne_of_lt hb, Nat.ne_of_lt (Nat.lt_succ_of_lt hb)⟩
    · match r₂, hr₂ with
      | .error e, hr₂ => exact hr₂
      | .ok (.ret r), hr₂ =>
        obtain ⟨rfl, h', tk, rfl, hS', hk'⟩ := hr₂
        repeat (any_goals (first | assumption | wp_step))
        exact k _ _ hS' hk'
end
end OwS
namespace L2
open PySem PySem.Spec PyProof.Rows _root_.Evl
section
variable {X : Cx} {σ : L2.St} {H : Hp} {K : PySem.W.Frag} {te : TE}
/-- len(set(t)), t a tuple of unlike texts -/
def tLenT (K : PySem.W.Frag) (ta : TE) : TE := fun σ H Q => ta σ H fun x H1 => ∃ (l : Addr) (xs : List Str), x = .ref l ∧ SqT K H1 l (xs.map V.str) ∧ xs.Nodup ∧ xs.length ≤ 1000 ∧ Q (.int xs.length) H1
theorem pe_lenT {a : Expr} {ta : TE} {p p2 q pos : Pos} (hc : X.calm = true) (hg : Gl X "len") (hm : X.mg "len" = none) (hg2 : Gl X "set") (hm2 : X.mg "set" = none) (ha : PE X a ta)
    (na : starEach [a] X.env = (false, eval a X.env) :: starEach [] X.env := by rfl) : PE X (.Call (.Name "len" p) [.Call (.Name "set" p2) [a] [] q] [] pos) (tLenT X.K ta) := by
  refine ⟨fun pins s σ H Q I h => ?_⟩
  refine Call_ (ld_blt I hg hm boot_len (callWith_builtin1 (args_cons ?_ rfl) rfl rfl))
  refine Call_ (ld_blt I hg2 hm2 boot_set (callWith_type1 (args_cons (thn (ha.run pins s σ H _ I h) fun v s1 ⟨x, H1, I1, r1, l, xs, ex, hq, nd, few, q1⟩ => args_nil ?_) na) na rfl))
  subst ex
  cases r1
  obtain ⟨its, r, pl, hz⟩ := I1.tuple hq
  refine OwS.set_tuple (I1.ok.hd hc) pl (by simpa using strsAre_of r) nd (by unfold scanBound; omega) fun h' tk hS hk => args_nil ?_
  have I2 : Inv X pins σ H1 { s1 with heap := h', toks := tk } := I1.kept fun b o e => hk b o e
  obtain ⟨o, es, ep, t, ho, hex, hd, _, _, _, hf, hn⟩ := hS
  refine call_len_set ho hex hd hf (by rw [hn]; omega) ⟨.int xs.length, H1, I2.tok _, ⟨_, by rw [hn]⟩, q1⟩
theorem ev_lenT {l : Addr} {xs : List Str} (h : Ev te σ H (.ref l)) (hq : H l = some (.tup (xs.map V.str))) (nd : xs.Nodup) (few : xs.length ≤ 1000) : Ev (tLenT K te) σ H (.int xs.length) := fun H1 e Q q => h H1 e _ fun H2 e2 => ⟨l, xs, rfl, st_of ((e.trans e2) _ _ hq), nd, few, q H2 e2⟩
/-- [e for j in t], t a tuple -/
theorem el_lcTu {a : Addr} {xs : List V} {tl : TE} {j : Nat} {vs : List Nat} {t : TT} (f : Nat → Bool) (v : Nat → V) (h : Ev tl σ H (.ref a)) (hx : SqT K H a xs) (hz : xs.length ≤ 40000) (hw : ∀ x, wipe ((wipe σ vs).set j (some x)) vs = wipe σ vs)
    (ht : ∀ (i : Nat) (x : V) H1, Ex H H1 → xs[i]? = some x → EvT t ((wipe σ vs).set j (some x)) H1 (f i)) (he : ∀ (i : Nat) (x : V) H1, Ex H H1 → xs[i]? = some x → f i = true → Ev te ((wipe σ vs).set j (some x)) H1 (v i)) :
    EvL (tLc (iTup K tl) (gName j) t te vs) σ H (given xs.length f v) := fun H0 e Q q => h H0 e _ fun H1 e1 => ⟨a, rfl, ⟨xs, ex_t (e.trans e1) hx⟩, fun Dl hD =>
  lc_tup (xs := xs) (Cw H1 f v Dl) ⟨hD, Ex.new hD, upd_same⟩ (fun i H' _ p => ex_t ((e.trans e1).trans p.2.1) hx) (fun i x H' hi p => ⟨hw x, cw_turn p (by have := (List.getElem?_eq_some_iff.mp hi).1; omega) (ht i x H1 (e.trans e1) hi) (fun hf => he i x H1 (e.trans e1) hi hf)⟩)
    (fun H' p => q Dl H' (fresh_back e1 p.1) (e1.trans p.2.1) p.2.2)⟩
theorem rv_notN {x : V} : RV (fun x y H Q => y = .non ∧ Q (.bl (!decide (x = .non))) H) x .non H (.bl (!decide (x = .non))) := fun H1 _ Q q => ⟨rfl, q H1 (Ex.refl _)⟩
theorem rc_len {p : Addr} {ys : List V} (h : SqL K H p ys ∨ SqT K H p ys) : RC (fun xs H Q => ∃ p ys, xs = [V.ref p] ∧ (SqL K H p ys ∨ SqT K H p ys) ∧ Q (.int (ys.length : Nat)) H) [.ref p] H (.int (ys.length : Nat)) := fun H1 e Q q => ⟨p, ys, rfl, h.imp (ex_l e) (ex_t e), q H1 (Ex.refl _)⟩
/-- range(n) as a value, its len -/
theorem cr_range1 : CallR X (.type "range") (fun vs H Q => ∃ j, vs = [V.int j] ∧ ∀ p, H p = none → Q (.ref p) (upd H p (.rng 0 j))) := by
  intro pins s σ H vs us Q I r h
  obtain ⟨j, rfl, q⟩ := h
  obtain ⟨u, rfl, t, rfl⟩ := vals1 r
  refine call_range_1 ⟨.ref s.heap.objs.size, upd H s.heap.objs.size (.rng 0 j), I.laid (t' := s.toks + 2) (fun b o e => Heap.get?_push_of_some _ e) (Nat.le_refl _) ?_, rfl, q _ (I.hok.fresh (Nat.le_refl _))⟩
  exact ⟨_, _, _, Heap.get?_push_size _ rfl⟩
theorem rng_len (r : Addr) (a b : Int) (t u v : Tok) (hb : Builtin.Range.rangeSize a b 1 < 2 ^ 63) :
    Meets (Builtin.«range.__len__» ⟨[.ref r], []⟩) (fun _ R s => s.heap.get? r = some { cls := .type "range", dict := none, data := .fields #[.int a t, .int b u, .int 1 v], slots := #[] } ∧ R (.ok (.ret (.int (Builtin.Range.rangeSize a b 1) s.toks))) { s with toks := s.toks + 1 }) :=
  .of_wp fun prog w A R s h => by
    obtain ⟨hp, g, d, tk, os⟩ := s
    obtain ⟨hl, h⟩ := h
    wp_walk using AutoSeq1.wpAny_loadPart' hl
    refine wpAny_ite_split (fun z => absurd z (by omega)) fun _ => ?_
    wp_walk
    exact ⟨_, rfl, h⟩
def rLenR : List V → Hp → VK → Prop := fun vs H Q => ∃ (a : Addr) (n : Nat), vs = [V.ref a] ∧ H a = some (.rng 0 (n : Int)) ∧ n < 2 ^ 62 ∧ Q (.int (n : Int)) H
theorem call_lenR : CallR X (.builtin "len") rLenR := by
  intro pins s σ H vs us Q I r h
  obtain ⟨a, n, rfl, ha, hn, q⟩ := h
  obtain ⟨u, rfl, ru⟩ := r.one
  cases (show u = Value.ref a from ru)
  obtain ⟨t, u, v, ho⟩ := (show ObjOk X.prog X.w H s.heap a (.rng 0 (n : Int)) from I.hok a _ ha)
  have hT : s.TypeIs (.ref a) "range" := ⟨_, ho, rfl⟩
  have e : Builtin.Range.rangeSize 0 (n : Int) 1 = (n : Int) := by
    unfold Builtin.Range.rangeSize
    rw [if_pos (by decide)]
    split <;> omega
  refine Calls.call_function_entry PySem.kind_len PySem.plain_len PySem.entry_len (PySem.args_len1 _) ?_
  unfold Builtin.«len»
  refine wpAny_bind (m := oneArg "len" _) (wpAny_pure ?_)
  refine wpAny_bind (m := callSpecial? (.ref a) (Str.ofString "__len__")) (wpAny_callSpecial?_slot (name := Str.ofString "__len__") hT PySem.F.slot_range_len (call_meets PySem.F.slot_range_len hT PySem.F.entry_range_len (PySem.F.args_range_len_1 _) (rng_len a 0 n t u v (by rw [e]; omega)) ⟨ho, ?_⟩))
  rw [e]
  refine wpAny_bind (wpAny_holding (wpAny_pure ?_))
  refine wpAny_bind (wpAny_letGo ?_)
  refine wpAny_ite_split (fun z => absurd z (by omega)) fun _ => ?_
  refine wpAny_ite_split (fun z => absurd z (by omega)) fun _ => ?_
  exact wpAny_bind (wpAny_mkInt (wpAny_pure ⟨_, rfl, .int (n : Int), H, (I.tok _).tok _, ⟨_, rfl⟩, q⟩))
theorem ev_lenRng {n : Nat} (h : Ev te σ H (.int (n : Int))) (hn : n < 2 ^ 62) : Ev (tCB rLenR (tCons (tCB (fun vs H Q => ∃ j, vs = [V.int j] ∧ ∀ p, H p = none → Q (.ref p) (upd H p (.rng 0 j))) (tCons te tNil)) tNil)) σ H (.int (n : Int)) := fun H1 e Q q =>
  h H1 e _ fun H2 e2 => ⟨_, rfl, fun p hp => ⟨p, n, rfl, upd_same, hn, q _ (e2.trans (Ex.new hp))⟩⟩
end
end L2
/-! tuples that are known to the object: made by tuple(list), searched by index. -/
namespace L2
open PySem PySem.Spec PyProof.Rows _root_.Evl
section
variable {X : Cx} {σ : L2.St} {H H' : Hp} {K : PySem.W.Frag}
/-- a tuple known to its object, which has no dict -/
def FzT (H : Hp) (p : Addr) (xs : List V) : Prop := ∃ o : Obj, H p = some (.frz o (.tup xs)) ∧ o.cls = .type "tuple" ∧ o.dict = none
theorem FzT.sq {p : Addr} {xs : List V} (h : FzT H p xs) : SqT K H p xs := let ⟨o, e, _⟩ := h; .inl (.inr ⟨o, e⟩)
theorem FzT.ex {p : Addr} {xs : List V} (h : FzT H p xs) (e : Ex H H') : FzT H' p xs := let ⟨o, q, r⟩ := h; ⟨o, e _ _ q, r⟩
theorem FzT.ty {p : Addr} {xs : List V} (h : FzT H p xs) : TyX K H (.ref p) (.type "tuple") := let ⟨_, e, _⟩ := h; .fTuple e
theorem FzT.un {p : Addr} {xs ys : List V} (h : FzT H p xs) (h' : FzT H p ys) : xs = ys := by
  obtain ⟨o, e, _⟩ := h
  obtain ⟨o', e', _⟩ := h'
  rw [e] at e'
  cases e'
  rfl
/-- tuple(l), l a list: the new one is known -/
def rTupF (K : PySem.W.Frag) : List V → Hp → VK → Prop := fun xs H Q => ∃ p ys, xs = [.ref p] ∧ SqL K H p ys ∧ ∀ l H2, H l = none → Ex H H2 → FzT H2 l ys → Q (.ref l) H2
theorem call_tupF : CallR X (.type "tuple") (rTupF X.K) := by
  intro pins s σ H xs us Q I r h
  obtain ⟨p, ys, rfl, hq, q⟩ := h
  obtain ⟨u, rfl, rx⟩ := vals1 r
  cases rx
  obtain ⟨its, r', pl, hz⟩ := I.list hq
  have hlen := r'.length
  refine call_tuple_list pl.isList (fun h' kp => ?_) (by simp only [List.size_toArray] <;> omega)
  have I1 : Inv X pins σ H { s with heap := h' } := I.kept (t' := s.toks) kp
  have hn := I1.hok.fresh (Nat.le_refl h'.objs.size)
  have I2 : Inv X pins σ (upd H h'.objs.size (.frz { cls := .type "tuple", data := .seq its.toArray } (.tup ys))) { s with heap := h'.push { cls := .type "tuple", data := .seq its.toArray } } :=
    I1.laid (t' := s.toks) (fun b o e => Heap.get?_push_of_some _ e) (Nat.le_refl _)
      (show ObjOk X.prog X.w _ _ _ (.frz _ (.tup ys)) from ⟨Heap.get?_push_size _ rfl, hz, its, r', IsTup.new _ _⟩)
  exact ⟨.ref h'.objs.size, _, I2, rfl, q _ _ hn (Ex.new hn) ⟨_, upd_same, rfl, rfl⟩⟩
theorem none_back {l : Addr} (e : Ex H H') (h : H' l = none) : H l = none := by
  cases q : H l with
  | none => rfl
  | some o => rw [e _ _ q] at h; cases h
theorem ev_tupF {p : Addr} {ys : List V} {te : TE} {Q : VK} (h : Ev te σ H (.ref p)) (hq : H p = some (.lst ys)) (k : ∀ l H2, H l = none → Ex H H2 → FzT H2 l ys → Q (.ref l) H2) : tCB (rTupF K) (tCons te tNil) σ H Q :=
  h H (Ex.refl _) _ fun H1 e1 => ⟨p, ys, rfl, Or.inl (Or.inl (e1 _ _ hq)), fun l H2 hl e2 h2 => k l H2 (none_back e1 hl) (e1.trans e2) h2⟩
/-- t.index(x), t a known tuple of texts -/
def tTI (to : TE) (t : TA) : TE := fun σ H Q => to σ H fun x H1 => ∃ p, ∃ ys : List Str, x = .ref p ∧ FzT H1 p (ys.map V.str) ∧
  t σ H1 fun xs H2 => ∃ z j, xs = [.str z] ∧ FzT H2 p (ys.map V.str) ∧ ys[j]? = some z ∧ (∀ m, m < j → ys[m]? ≠ some z) ∧ Q (.int (j : Nat)) H2
theorem pe_tupI {o e : Expr} {to : TE} {t : TA} {apos cpos : Pos} (ho : PE X o to) (ha : PA X [e] t)
    (hbase : attributeBase o "index" X.env (eval o X.env) = eval o X.env := by rfl)
    (hfew : ((backTo cpos (starEach [e] X.env)).all (fun x => !x.1) && (backToKw cpos (keywordEach [] X.env)).all (fun x => x.1.isSome)
      && decide ([e].length + ([] : List Keyword).length + (if ([] : List Keyword).isEmpty then 0 else 1) < 30)) = true := by rfl)
    (hline : (apos.endLine == cpos.line) = true := by rfl) (hs : starEach [e] X.env = (false, eval e X.env) :: starEach [] X.env := by rfl) :
    PE X (.Call (.Attribute o "index" apos) [e] [] cpos) (tTI to t) := by
  refine ⟨fun pins s σ H Q I h => ?_⟩
  refine wpAny_Call_method_late hbase hfew hline rfl (thn (ho.run pins s σ H _ I h) fun v s1 ⟨x, H1, I1, r1, p, ys, ex, fz, q1⟩ => ?_)
  subst ex
  cases r1
  have hA := ha.run cpos pins s1 σ H1 _ I1 q1
  obtain ⟨ob, e1, hc, hd⟩ := fz
  have g := (I1.hok p _ e1).1
  refine ⟨"tuple", "tuple.index", PySem.F.plainAttrs_tuple, PySem.F.slot_tuple_index, PySem.F.type_tuple_index, ⟨ob, g, hc⟩, fun a ea => ?_, ?_⟩
  · cases ea
    exact ⟨ob, g, hd⟩
  rw [hs] at hA ⊢
  refine Calls.callWith_builtin (by show (false || (backTo cpos (starEach [] X.env)).any (·.1)) = false; rfl) (Calls.evalArgs_plain ?_)
  exact thn hA fun us s2 ⟨vs, H2, I2, r2, z, j, ez, fz2, hj, hno, q2⟩ => mt_tup_index pins s2 σ H2 (.ref p) vs (.ref p) us Q I2 rfl r2 ⟨p, ys, z, j, rfl, ez, fz2.sq, hj, hno, q2⟩
theorem ev_tupI {to te : TE} {p : Addr} {ys : List Str} {z : Str} {j : Nat} (ho : Ev to σ H (.ref p)) (hz : Ev te σ H (.str z)) (hp : FzT H p (ys.map V.str)) (hj : ys[j]? = some z) (hno : ∀ m, m < j → ys[m]? ≠ some z) :
    Ev (tTI to (tCons te tNil)) σ H (.int (j : Int)) := fun H1 e Q q => ho H1 e _ fun H2 e2 => ⟨p, ys, rfl, hp.ex (e.trans e2), hz H2 (e.trans e2) _ fun H3 e3 => ⟨z, j, rfl, hp.ex ((e.trans e2).trans e3), hj, hno, q H3 (e2.trans e3)⟩⟩
theorem ev_lenF {l : Addr} {xs : List Str} {te : TE} (h : Ev te σ H (.ref l)) (hq : FzT H l (xs.map V.str)) (nd : xs.Nodup) (few : xs.length ≤ 1000) : Ev (tLenT K te) σ H (.int xs.length) := fun H1 e Q q => h H1 e _ fun H2 e2 => ⟨l, xs, rfl, (hq.ex (e.trans e2)).sq, nd, few, q H2 e2⟩
end
end L2
/-! instances of another own class than the one asked for. -/
namespace L2
open PySem PySem.Spec PyProof.Rows _root_.Evl
/-- D is another own class than C, and no == of it goes first -/
structure Oth (K : PySem.W.Frag) (C D : Addr) : Prop where
  cl : Cls K D
  is : IsC K D
  kit : PySem.W.kitOne K (.ref D) (.ref C) = some false
  nf : PySem.W.notFirst K C (.ref D) = true
def othB (K : PySem.W.Frag) (x y : Str) : Bool := decide (PySem.W.kitOne K (.ref (He.ga K y)) (.ref (He.ga K x)) = some false) && PySem.W.notFirst K (He.ga K x) (.ref (He.ga K y))
theorem othB_ok {K : PySem.W.Frag} {x y : Str} (c : Cls K (He.ga K y)) (i : IsC K (He.ga K y)) (h : othB K x y = true) : Oth K (He.ga K x) (He.ga K y) := by
  obtain ⟨h1, h2⟩ := He.ba h
  exact ⟨c, i, of_decide_eq_true h1, h2⟩
/-- y is an instance of another own class than C -/
def OthI (K : PySem.W.Frag) (C : Addr) (y : V) (H : Hp) : Prop := ∃ (z D dz : Addr) (fs : List (Str × V)), y = .ref z ∧ H z = some (.ins D dz fs) ∧ Oth K C D
section
variable {K : PySem.W.Frag} {C : Addr} {y : V} {H H' : Hp}
theorem OthI.ex (h : OthI K C y H) (e : Ex H H') : OthI K C y H' := by
  obtain ⟨z, D, dz, fs, hy, hz, o⟩ := h
  exact ⟨z, D, dz, fs, hy, e _ _ hz, o⟩
theorem rc_isiO (h : OthI K C y H) : RC (rIsi K) [y, .ref C] H (.bl false) := by
  obtain ⟨z, D, dz, fs, rfl, hz, o⟩ := h
  exact rc_isi (.own C) (fun _ e => .base (.ins (e _ _ hz) o.cl o.is.ha o.is.hn o.is.htk o.is.hm)) o.kit
theorem OthI.not {z dz : Addr} {fs : List (Str × V)} (h : OthI K C (.ref z) H) (hz : H z = some (.ins C dz fs)) : False := by
  obtain ⟨z', D, dz', fs', e, hz', o⟩ := h
  cases e
  rw [hz] at hz'
  injection hz' with hz'
  injection hz' with h1
  subst h1
  have := o.kit
  rw [kit_self] at this
  cases this
end
end L2
/-! The layer without heaps: data, stores of what may change, and what a reading does with them. -/
namespace Dl
open PySem PySem.Spec PyProof.Rows L2 _root_.Evl
/-- data: what never changes -/
inductive D where
  | non | bl (b : Bool) | int (i : Int) | str (x : Str) | ty (n : String) | glo (x : Str)
  | tup (ds : List D) | ftup (ds : List D) | lst (ds : List D) | flst (ds : List D) | ins (c : Str) (fs : List (Str × D)) | dic (ks : List (Key × D)) | exc (c : Str) (fs : List (Str × D)) | fn (f : Addr)
mutual
/-- the data d stands at v; X: what may change, and is no part of data -/
inductive Rep (K : PySem.W.Frag) (X : Addr → Prop) (H : Hp) : D → V → Prop
  | non : Rep K X H .non .non
  | bl (b : Bool) : Rep K X H (.bl b) (.bl b)
  | int (i : Int) : Rep K X H (.int i) (.int i)
  | str (x : Str) : Rep K X H (.str x) (.str x)
  | ty (n : String) : Rep K X H (.ty n) (.ty n)
  | glo (x : Str) : Rep K X H (.glo x) (.ref (He.ga K x))
  | tup {a : Addr} {ds : List D} {xs : List V} : ¬ X a → Rd H a (.tup xs) → RepL K X H ds xs → Rep K X H (.tup ds) (.ref a)
  | ftup {a : Addr} {ds : List D} {xs : List V} : ¬ X a → FzT H a xs → RepL K X H ds xs → Rep K X H (.ftup ds) (.ref a)
  | lst {a : Addr} {ds : List D} {xs : List V} : ¬ X a → H a = some (.lst xs) → RepL K X H ds xs → Rep K X H (.lst ds) (.ref a)
  | flst {a : Addr} {ds : List D} {xs : List V} : ¬ X a → Rd H a (.lst xs) → RepL K X H ds xs → Rep K X H (.flst ds) (.ref a)
  | dic {a : Addr} {ks : List (Key × D)} {gs : List (Key × V)} : ¬ X a → H a = some (.dK gs) → RepK K X H ks gs → Rep K X H (.dic ks) (.ref a)
  | ins {a dx : Addr} {c : Str} {fs : List (Str × D)} {gs : List (Str × V)} : ¬ X a → H a = some (.ins (He.ga K c) dx gs) → RepF K X H fs gs → Rep K X H (.ins c fs) (.ref a)
  | exc {a d : Addr} {c : Str} {fs : List (Str × D)} {gs : List (Str × V)} : ¬ X a → ¬ X d → ExcAt H a (He.ga K c) d gs → RepF K X H fs gs → Rep K X H (.exc c fs) (.ref a)
  | exc0 {a : Addr} {c : Str} : ¬ X a → H a = some (exk a (.ref (He.ga K c)) none) → Rep K X H (.exc c []) (.ref a)
  | ktup {a : Addr} {ds : List D} {xs : List V} : (∀ H' : Hp, SqT K H' a xs) → RepL K X H ds xs → Rep K X H (.tup ds) (.ref a)
  | klst {a : Addr} {ds : List D} {xs : List V} : (∀ H' : Hp, SqL K H' a xs) → RepL K X H ds xs → Rep K X H (.flst ds) (.ref a)
  | fn (f : Addr) : Rep K X H (.fn f) (.ref f)
inductive RepL (K : PySem.W.Frag) (X : Addr → Prop) (H : Hp) : List D → List V → Prop
  | nil : RepL K X H [] []
  | cons {d : D} {v : V} {ds : List D} {vs : List V} : Rep K X H d v → RepL K X H ds vs → RepL K X H (d :: ds) (v :: vs)
inductive RepF (K : PySem.W.Frag) (X : Addr → Prop) (H : Hp) : List (Str × D) → List (Str × V) → Prop
  | nil : RepF K X H [] []
  | cons {x : Str} {d : D} {v : V} {fs : List (Str × D)} {gs : List (Str × V)} : Rep K X H d v → RepF K X H fs gs → RepF K X H ((x, d) :: fs) ((x, v) :: gs)
inductive RepK (K : PySem.W.Frag) (X : Addr → Prop) (H : Hp) : List (Key × D) → List (Key × V) → Prop
  | nil : RepK K X H [] []
  | cons {x : Key} {d : D} {v : V} {fs : List (Key × D)} {gs : List (Key × V)} : Rep K X H d v → RepK K X H fs gs → RepK K X H ((x, d) :: fs) ((x, v) :: gs)
end
/-- what is no part of X stays; X grows by new things alone -/
structure Gw (X : Addr → Prop) (H : Hp) (X' : Addr → Prop) (H' : Hp) : Prop where
  x : ∀ a, X' a → X a ∨ H a = none
  h : ∀ a o, ¬ X a → H a = some o → H' a = some o
section
variable {K : PySem.W.Frag} {X X' X1 X2 : Addr → Prop} {H H' H1 H2 : Hp}
theorem Gw.refl : Gw X H X H := ⟨fun _ h => .inl h, fun _ _ _ h => h⟩
theorem Gw.no (g : Gw X H X' H') {a : Addr} {o : HO} (n : ¬ X a) (h : H a = some o) : ¬ X' a := fun z => by
  rcases g.x a z with q | q
  · exact n q
  · rw [h] at q
    cases q
theorem Gw.trans (g : Gw X H X1 H1) (g' : Gw X1 H1 X2 H2) : Gw X H X2 H2 := by
  refine ⟨fun a z => ?_, fun a o n h => g'.h a o (g.no n h) (g.h a o n h)⟩
  rcases g'.x a z with q | q
  · exact g.x a q
  · cases e : H a with
    | none => exact .inr rfl
    | some o =>
      by_cases n : X a
      · exact .inl n
      · rw [g.h a o n e] at q
        cases q
theorem Gw.ex (e : Ex H H') : Gw X H X H' := ⟨fun _ h => .inl h, fun a o _ h => e a o h⟩
theorem Gw.rd (g : Gw X H X' H') {a : Addr} {u : HO} (n : ¬ X a) (h : Rd H a u) : ¬ X' a ∧ Rd H' a u := by
  rcases h with h | ⟨o, h⟩
  · exact ⟨g.no n h, .inl (g.h a _ n h)⟩
  · exact ⟨g.no n h, .inr ⟨o, g.h a _ n h⟩⟩
mutual
theorem Rep.go (g : Gw X H X' H') : ∀ {d : D} {v : V}, Rep K X H d v → Rep K X' H' d v
  | _, _, .non => .non
  | _, _, .bl b => .bl b
  | _, _, .int i => .int i
  | _, _, .str x => .str x
  | _, _, .ty n => .ty n
  | _, _, .glo x => .glo x
  | _, _, .tup n h l => .tup (g.rd n h).1 (g.rd n h).2 (RepL.go g l)
  | _, _, .ftup n h l => let ⟨o, e, r⟩ := h; .ftup (g.no n e) ⟨o, g.h _ _ n e, r⟩ (RepL.go g l)
  | _, _, .lst n h l => .lst (g.no n h) (g.h _ _ n h) (RepL.go g l)
  | _, _, .flst n h l => .flst (g.rd n h).1 (g.rd n h).2 (RepL.go g l)
  | _, _, .dic n h l => .dic (g.no n h) (g.h _ _ n h) (RepK.go g l)
  | _, _, .ins n h l => .ins (g.no n h) (g.h _ _ n h) (RepF.go g l)
  | _, _, .exc n m x l => .exc (g.no n x.at_) (g.no m x.dict) ⟨g.h _ _ n x.at_, g.h _ _ m x.dict⟩ (RepF.go g l)
  | _, _, .exc0 n x => .exc0 (g.no n x) (g.h _ _ n x)
  | _, _, .ktup h l => .ktup h (RepL.go g l)
  | _, _, .klst h l => .klst h (RepL.go g l)
  | _, _, .fn f => .fn f
theorem RepL.go (g : Gw X H X' H') : ∀ {ds : List D} {vs : List V}, RepL K X H ds vs → RepL K X' H' ds vs
  | _, _, .nil => .nil
  | _, _, .cons h t => .cons (Rep.go g h) (RepL.go g t)
theorem RepF.go (g : Gw X H X' H') : ∀ {fs : List (Str × D)} {gs : List (Str × V)}, RepF K X H fs gs → RepF K X' H' fs gs
  | _, _, .nil => .nil
  | _, _, .cons h t => .cons (Rep.go g h) (RepF.go g t)
theorem RepK.go (g : Gw X H X' H') : ∀ {fs : List (Key × D)} {gs : List (Key × V)}, RepK K X H fs gs → RepK K X' H' fs gs
  | _, _, .nil => .nil
  | _, _, .cons h t => .cons (Rep.go g h) (RepK.go g t)
end
/-- fewer things that may change -/
theorem Gw.less (h : ∀ a, X' a → X a) : Gw X H X' H := ⟨fun a z => .inl (h a z), fun _ _ _ e => e⟩
theorem RepL.length : ∀ {ds : List D} {vs : List V}, RepL K X H ds vs → ds.length = vs.length
  | _, _, .nil => rfl
  | _, _, .cons _ t => congrArg (· + 1) t.length
theorem RepL.get : ∀ {ds : List D} {vs : List V} {i : Nat} {d : D}, RepL K X H ds vs → ds[i]? = some d → ∃ v, vs[i]? = some v ∧ Rep K X H d v
  | _, _, _, _, .nil, e => by simp at e
  | _, _, 0, _, .cons h _, e => by simp at e; subst e; exact ⟨_, rfl, h⟩
  | _, _, i + 1, d, .cons _ t, e => by
    obtain ⟨v, h1, h2⟩ := RepL.get (i := i) (d := d) t (by simpa using e)
    exact ⟨v, by simpa using h1, h2⟩
theorem RepL.get' : ∀ {ds : List D} {vs : List V} {i : Nat} {v : V}, RepL K X H ds vs → vs[i]? = some v → ∃ d, ds[i]? = some d ∧ Rep K X H d v
  | _, _, _, _, .nil, e => by simp at e
  | _, _, 0, _, .cons h _, e => by simp at e; subst e; exact ⟨_, rfl, h⟩
  | _, _, i + 1, d, .cons _ t, e => by
    obtain ⟨v, h1, h2⟩ := RepL.get' (i := i) (v := d) t (by simpa using e)
    exact ⟨v, by simpa using h1, h2⟩
theorem RepL.append : ∀ {ds es : List D} {vs ws : List V}, RepL K X H ds vs → RepL K X H es ws → RepL K X H (ds ++ es) (vs ++ ws)
  | _, _, _, _, .nil, s => s
  | _, _, _, _, .cons h t, s => .cons h (RepL.append t s)
theorem RepL.set {d : D} {v : V} (h : Rep K X H d v) : ∀ {ds : List D} {vs : List V} (i : Nat), RepL K X H ds vs → RepL K X H (ds.set i d) (vs.set i v)
  | _, _, _, .nil => .nil
  | _, _, 0, .cons _ t => .cons h t
  | _, _, i + 1, .cons q t => .cons q (RepL.set h i t)
theorem RepL.take : ∀ {ds : List D} {vs : List V} (n : Nat), RepL K X H ds vs → RepL K X H (ds.take n) (vs.take n)
  | _, _, 0, _ => by simp; exact .nil
  | _, _, n + 1, .nil => by simp; exact .nil
  | _, _, n + 1, .cons h t => by simp; exact .cons h (RepL.take n t)
theorem RepL.drop : ∀ {ds : List D} {vs : List V} (n : Nat), RepL K X H ds vs → RepL K X H (ds.drop n) (vs.drop n)
  | _, _, 0, h => by simpa using h
  | _, _, n + 1, .nil => by simp; exact .nil
  | _, _, n + 1, .cons h t => by simpa using RepL.drop n t
theorem RepL.reverse {ds : List D} {vs : List V} (h : RepL K X H ds vs) : RepL K X H ds.reverse vs.reverse := by
  induction ds generalizing vs with
  | nil => cases h; exact .nil
  | cons d ds ih => cases h with | cons h t => simp; exact (ih t).append (.cons h .nil)
theorem RepF.get : ∀ {fs : List (Str × D)} {gs : List (Str × V)} {x : Str} {d : D}, RepF K X H fs gs → fs.lookup x = some d → ∃ v, gs.lookup x = some v ∧ Rep K X H d v
  | _, _, _, _, .nil, e => by cases e
  | _, _, y, d, .cons (x := x) h t, e => by
    unfold List.lookup at e ⊢
    cases q : y == x with
    | true => rw [q] at e; cases e; exact ⟨_, rfl, h⟩
    | false => rw [q] at e; exact RepF.get t e
theorem RepF.no : ∀ {fs : List (Str × D)} {gs : List (Str × V)} {x : Str}, RepF K X H fs gs → fs.lookup x = none → gs.lookup x = none
  | _, _, _, .nil, _ => rfl
  | _, _, y, .cons (x := x) h t, e => by
    unfold List.lookup at e ⊢
    cases q : y == x with
    | true => rw [q] at e; cases e
    | false => rw [q] at e; exact RepF.no t e
end
/-! ### stores -/
inductive MO where
  | ls (ds : List D) | ob (c : Str) (fs : List (Str × D)) | dc (ks : List (Key × D)) | op (o : HO) | tb (P : Addr) (q : Str) | pin (P : Addr) (ds : List D) | dead
abbrev Store := List MO
/-- what lives in a store -/
def Lv (A : List Addr) (S : Store) (a : Addr) : Prop := ∃ (k : Nat) (m : MO), A[k]? = some a ∧ S[k]? = some m ∧ m ≠ MO.dead
def MOk (K : PySem.W.Frag) (X : Addr → Prop) (H : Hp) (a : Addr) : MO → Prop
  | .ls ds => ∃ xs, H a = some (.lst xs) ∧ RepL K X H ds xs
  | .ob c fs => ∃ dx gs, H a = some (.ins (He.ga K c) dx gs) ∧ RepF K X H fs gs
  | .dc ks => ∃ gs, H a = some (.dK gs) ∧ RepK K X H ks gs
  | .op o => H a = some o
  | .tb P q => a = P ∧ ∃ ps : Array Value, H a = some (.tbl ps) ∧ TriplesOk ps.toList ∧ ∀ (pos : Pos) (cv : Value), codeAmong pos ps.toList = some cv → ∃ c, cv = .ref c ∧ H c = some (LamX.CodeO c q) ∧ ¬ X c
  | .pin P ds => a = P ∧ ∃ xs, H a = some (.lst xs) ∧ RepL K X H ds xs
  | .dead => ∃ o, H a = some o
structure SOk (K : PySem.W.Frag) (A : List Addr) (S : Store) (H : Hp) : Prop where
  len : A.length = S.length
  nd : A.Nodup
  ok : ∀ (k : Nat) (a : Addr) (m : MO), A[k]? = some a → S[k]? = some m → MOk K (Lv A S) H a m
/-- what comes of an expression: data, or a thing of the store -/
inductive R where
  | dat (d : D) | mu (k : Nat) | no
def RepR (K : PySem.W.Frag) (A : List Addr) (S : Store) (H : Hp) : R → V → Prop
  | .dat d, v => Rep K (Lv A S) H d v
  | .mu k, v => ∃ a, A[k]? = some a ∧ v = .ref a
  | .no, _ => False
abbrev RepRs (K : PySem.W.Frag) (A : List Addr) (S : Store) (H : Hp) : List R → List V → Prop := Paired (RepR K A S H)
structure EnvOk (K : PySem.W.Frag) (A : List Addr) (S : Store) (H : Hp) (ρ : List R) (σ : L2.St) : Prop where
  len : ρ.length = σ.length
  at' : ∀ (i : Nat) (r : R), ρ[i]? = some r → r = .no ∨ ∃ v, σ[i]? = some (some v) ∧ RepR K A S H r v
structure Gr (A : List Addr) (S : Store) (H : Hp) (A' : List Addr) (S' : Store) (H' : Hp) : Prop where
  pre : A <+: A'
  gw : Gw (Lv A S) H (Lv A' S') H'
/-- what holds from a place on, as long as things only grow -/
class Zo where
  ok : List Addr → Store → Hp → Prop
  mono : ∀ {A : List Addr} {S : Store} {H : Hp} {A' : List Addr} {S' : Store} {H' : Hp}, ok A S H → Gr A S H A' S' H' → ok A' S' H'
instance (priority := low) zo0 : Zo := ⟨fun _ _ _ => True, fun _ _ => trivial⟩
structure Fr [Z : Zo] (K : PySem.W.Frag) (A : List Addr) (S : Store) (H : Hp) (ρ : List R) (σ : L2.St) : Prop where
  st : SOk K A S H
  en : EnvOk K A S H ρ σ
  xo : Z.ok A S H
section
variable {K : PySem.W.Frag} {A A' A1 A2 : List Addr} {S S' S1 S2 : Store} {H H' H1 H2 : Hp} {ρ : List R} {σ : L2.St}
theorem Gr.refl : Gr A S H A S H := ⟨List.prefix_refl _, .refl⟩
theorem Gr.trans (g : Gr A S H A1 S1 H1) (g' : Gr A1 S1 H1 A2 S2 H2) : Gr A S H A2 S2 H2 := ⟨g.pre.trans g'.pre, g.gw.trans g'.gw⟩
theorem Gr.ex (e : Ex H H') : Gr A S H A S H' := ⟨List.prefix_refl _, .ex e⟩
theorem pre_get {α : Type} {A A' : List α} (p : A <+: A') {k : Nat} {a : α} (h : A[k]? = some a) : A'[k]? = some a := by
  obtain ⟨t, rfl⟩ := p
  rw [List.getElem?_append_left (List.getElem?_eq_some_iff.mp h).1]
  exact h
theorem nd_inj {A : List Addr} (h : A.Nodup) {i j : Nat} {a : Addr} (hi : A[i]? = some a) (hj : A[j]? = some a) : i = j := by
  obtain ⟨l1, e1⟩ := List.getElem?_eq_some_iff.mp hi
  obtain ⟨l2, e2⟩ := List.getElem?_eq_some_iff.mp hj
  have q := List.pairwise_iff_getElem.mp h
  by_cases c : i = j
  · exact c
  · rcases Nat.lt_or_gt_of_ne c with z | z
    · exact absurd (e1.trans e2.symm) (q i j l1 l2 z)
    · exact absurd (e2.trans e1.symm) (q j i l2 l1 z)
theorem RepR.go (g : Gr A S H A' S' H') : ∀ {r : R} {v : V}, RepR K A S H r v → RepR K A' S' H' r v
  | .dat _, _, h => Rep.go g.gw h
  | .mu _, _, ⟨a, h, e⟩ => ⟨a, pre_get g.pre h, e⟩
  | .no, _, h => h
theorem RepRs.go (g : Gr A S H A' S' H') : ∀ {rs : List R} {vs : List V}, RepRs K A S H rs vs → RepRs K A' S' H' rs vs
  | _, _, .nil => .nil
  | _, _, .cons h t => .cons (RepR.go g h) (RepRs.go g t)
theorem EnvOk.go (g : Gr A S H A' S' H') (h : EnvOk K A S H ρ σ) : EnvOk K A' S' H' ρ σ := ⟨h.len, fun i r e => by
  rcases h.at' i r e with q | ⟨v, q, p⟩
  · exact .inl q
  · exact .inr ⟨v, q, p.go g⟩⟩
theorem EnvOk.set (h : EnvOk K A S H ρ σ) (i : Nat) {r : R} {v : V} (p : RepR K A S H r v) : EnvOk K A S H (ρ.set i r) (σ.set i (some v)) := ⟨by rw [List.length_set, List.length_set]; exact h.len, fun j q e => by
  have lj : j < (ρ.set i r).length := (List.getElem?_eq_some_iff.mp e).1
  rw [List.length_set] at lj
  by_cases hj : i = j
  · subst hj
    rw [List.getElem?_set_self lj] at e
    cases e
    exact .inr ⟨v, List.getElem?_set_self (by rw [← h.len]; exact lj), p⟩
  · rw [List.getElem?_set_ne hj] at e
    rw [List.getElem?_set_ne hj]
    exact h.at' j q e⟩
theorem MOk.go {X X' : Addr → Prop} (g : Gw X H X' H') {a : Addr} : ∀ {m : MO}, (∀ o, H a = some o → H' a = some o) → MOk K X H a m → MOk K X' H' a m
  | .ls _, k, ⟨xs, h, l⟩ => ⟨xs, k _ h, l.go g⟩
  | .ob _ _, k, ⟨dx, gs, h, l⟩ => ⟨dx, gs, k _ h, l.go g⟩
  | .dc _, k, ⟨gs, h, l⟩ => ⟨gs, k _ h, l.go g⟩
  | .op _, k, h => k _ h
  | .tb _ _, k, ⟨e, ps, h, t, m⟩ => ⟨e, ps, k _ h, t, fun pos cv q => let ⟨c, e1, e2, n⟩ := m pos cv q; ⟨c, e1, g.h c _ n e2, g.no n e2⟩⟩
  | .pin _ _, k, ⟨e, xs, h, l⟩ => ⟨e, xs, k _ h, l.go g⟩
  | .dead, k, ⟨o, h⟩ => ⟨o, k _ h⟩
theorem SOk.ex (h : SOk K A S H) (e : Ex H H') : SOk K A S H' := ⟨h.len, h.nd, fun k a m ha hm => MOk.go (.ex e) (fun o q => e a o q) (h.ok k a m ha hm)⟩
theorem SOk.dom (h : SOk K A S H) {a : Addr} (l : Lv A S a) : H a ≠ none := by
  obtain ⟨k, m, ha, hm, nm⟩ := l
  have q := h.ok k a m ha hm
  cases m with
  | ls ds => obtain ⟨xs, e, _⟩ := q; rw [e]; nofun
  | ob c fs => obtain ⟨dx, gs, e, _⟩ := q; rw [e]; nofun
  | dc ks => obtain ⟨gs, e, _⟩ := q; rw [e]; nofun
  | op o => rw [show H a = some o from q]; nofun
  | tb P t => obtain ⟨_, ps, e, _⟩ := q; rw [e]; nofun
  | pin P ds => obtain ⟨_, xs, e, _⟩ := q; rw [e]; nofun
  | dead => exact absurd rfl nm
theorem SOk.new (h : SOk K A S H) {p : Addr} (hp : H p = none) : ¬ Lv A S p := fun l => h.dom l hp
theorem Fr.go [Z : Zo] (g : Gr A S H A' S' H') (h : Fr K A S H ρ σ) (so : SOk K A' S' H') : Fr K A' S' H' ρ σ := ⟨so, h.en.go g, Z.mono h.xo g⟩
theorem Fr.var [Z : Zo] (h : Fr K A S H ρ σ) {i : Nat} {r : R} (e : ρ[i]? = some r) (n : r ≠ .no) : ∃ v, σ[i]? = some (some v) ∧ RepR K A S H r v := by
  rcases h.en.at' i r e with q | q
  · exact absurd q n
  · exact q
/-- one thing of the store is put otherwise -/
theorem SOk.put (h : SOk K A S H) {k : Nat} {a : Addr} {m m' : MO} {o : HO} (ha : A[k]? = some a) (hm : S[k]? = some m) (nm : m ≠ .dead) (nm' : m' ≠ .dead)
    (hk : ∀ X : Addr → Prop, MOk K (Lv A S) H a m → Gw (Lv A S) H X (upd H a o) → MOk K X (upd H a o) a m') : SOk K A (S.set k m') (upd H a o) ∧ Gr A S H A (S.set k m') (upd H a o) := by
  have lk : k < S.length := (List.getElem?_eq_some_iff.mp hm).1
  have lv : ∀ b, Lv A (S.set k m') b → Lv A S b := fun b ⟨j, x, hb, hx, nx⟩ => by
    by_cases hj : k = j
    · subst hj
      exact ⟨k, m, hb, hm, nm⟩
    · rw [List.getElem?_set_ne hj] at hx
      exact ⟨j, x, hb, hx, nx⟩
  have g : Gw (Lv A S) H (Lv A (S.set k m')) (upd H a o) := ⟨fun b z => .inl (lv b z), fun b u n hb => by
    have ne : b ≠ a := fun z => n (z ▸ ⟨k, m, ha, hm, nm⟩)
    rw [upd_ne ne]
    exact hb⟩
  refine ⟨⟨by rw [List.length_set]; exact h.len, h.nd, fun j b x hb hx => ?_⟩, List.prefix_refl _, g⟩
  by_cases hj : k = j
  · subst hj
    rw [List.getElem?_set_self lk] at hx
    cases hx
    rw [ha] at hb
    cases hb
    exact hk _ (h.ok k a m ha hm) g
  · rw [List.getElem?_set_ne hj] at hx
    have ne : b ≠ a := fun z => by
      subst z
      exact hj (nd_inj h.nd ha hb)
    exact MOk.go g (fun u q => by rw [upd_ne ne]; exact q) (h.ok j b x hb hx)
theorem SOk.dom' (h : SOk K A S H) {a : Addr} (l : a ∈ A) : H a ≠ none := by
  obtain ⟨k, lk, e⟩ := List.getElem_of_mem l
  have ls : k < S.length := by rw [← h.len]; exact lk
  have q := h.ok k a S[k] (by rw [List.getElem?_eq_getElem lk, e]) (List.getElem?_eq_getElem ls)
  cases hm : S[k] with
  | ls ds => rw [hm] at q; obtain ⟨xs, e, _⟩ := q; rw [e]; nofun
  | ob c fs => rw [hm] at q; obtain ⟨dx, gs, e, _⟩ := q; rw [e]; nofun
  | dc ks => rw [hm] at q; obtain ⟨gs, e, _⟩ := q; rw [e]; nofun
  | op o => rw [hm] at q; rw [show H a = some o from q]; nofun
  | tb P t => rw [hm] at q; obtain ⟨_, ps, e, _⟩ := q; rw [e]; nofun
  | pin P ds => rw [hm] at q; obtain ⟨_, xs, e, _⟩ := q; rw [e]; nofun
  | dead => rw [hm] at q; obtain ⟨o, e⟩ := q; rw [e]; nofun
/-- a new thing of the store -/
theorem SOk.add (h : SOk K A S H) {p : Addr} {m : MO} {o : HO} (hp : H p = none) (hk : ∀ X : Addr → Prop, Gw (Lv A S) H X (upd H p o) → MOk K X (upd H p o) p m) : SOk K (A ++ [p]) (S ++ [m]) (upd H p o) ∧ Gr A S H (A ++ [p]) (S ++ [m]) (upd H p o) := by
  have nl : p ∉ A := fun z => h.dom' z hp
  have ex : Ex H (upd H p o) := Ex.new hp
  have lv : ∀ b, Lv (A ++ [p]) (S ++ [m]) b → Lv A S b ∨ b = p := fun b ⟨j, x, hb, hx, nx⟩ => by
    by_cases hj : j < A.length
    · rw [List.getElem?_append_left hj] at hb
      rw [List.getElem?_append_left (by rw [← h.len]; exact hj)] at hx
      exact .inl ⟨j, x, hb, hx, nx⟩
    · rw [List.getElem?_append_right (by omega)] at hb
      have hm := List.mem_of_getElem? hb
      exact .inr (List.mem_singleton.mp hm)
  have g : Gw (Lv A S) H (Lv (A ++ [p]) (S ++ [m])) (upd H p o) := ⟨fun b z => by
    rcases lv b z with q | rfl
    · exact .inl q
    · exact .inr hp, fun b u _ hb => ex b u hb⟩
  refine ⟨⟨by rw [List.length_append, List.length_append, h.len]; rfl, ?_, fun j b x hb hx => ?_⟩, List.prefix_append _ _, g⟩
  · exact List.nodup_append.mpr ⟨h.nd, (by simp), fun a ha b hb e => nl (by rw [← List.mem_singleton.mp hb, ← e]; exact ha)⟩
  · by_cases hj : j < A.length
    · rw [List.getElem?_append_left hj] at hb
      rw [List.getElem?_append_left (by rw [← h.len]; exact hj)] at hx
      exact MOk.go g (fun u q => ex b u q) (h.ok j b x hb hx)
    · rw [List.getElem?_append_right (by omega)] at hb
      rw [List.getElem?_append_right (by rw [← h.len]; omega), ← h.len] at hx
      have ej : j - A.length = 0 := by
        have := (List.getElem?_eq_some_iff.mp hb).1
        simp at this
        omega
      rw [ej] at hb hx
      cases hb
      cases hx
      exact hk _ g
/-- a thing of the store becomes data -/
theorem SOk.freeze (h : SOk K A S H) {k : Nat} {m : MO} (hm : S[k]? = some m) : SOk K A (S.set k .dead) H ∧ Gr A S H A (S.set k .dead) H := by
  have lv : ∀ b, Lv A (S.set k .dead) b → Lv A S b := fun b ⟨j, x, hb, hx, nx⟩ => by
    have lk : k < S.length := (List.getElem?_eq_some_iff.mp hm).1
    by_cases hj : k = j
    · subst hj
      rw [List.getElem?_set_self lk] at hx
      cases hx
      exact absurd rfl nx
    · rw [List.getElem?_set_ne hj] at hx
      exact ⟨j, x, hb, hx, nx⟩
  have g : Gw (Lv A S) H (Lv A (S.set k .dead)) H := .less lv
  refine ⟨⟨by rw [List.length_set]; exact h.len, h.nd, fun j b x hb hx => ?_⟩, List.prefix_refl _, g⟩
  have lk : k < S.length := (List.getElem?_eq_some_iff.mp hm).1
  by_cases hj : k = j
  · subst hj
    rw [List.getElem?_set_self lk] at hx
    cases hx
    have q := h.dom' (List.mem_of_getElem? hb)
    cases e : H b with
    | none => exact absurd e q
    | some o => exact ⟨o, e⟩
  · rw [List.getElem?_set_ne hj] at hx
    exact MOk.go g (fun u q => q) (h.ok j b x hb hx)
/-- fewer things of the store: those behind are forgotten -/
theorem SOk.cut (h : SOk K (A ++ A1) S H) : SOk K A (S.take A.length) H ∧ Gw (Lv (A ++ A1) S) H (Lv A (S.take A.length)) H := by
  have la : A.length ≤ S.length := by rw [← h.len, List.length_append]; omega
  have up : ∀ {j x}, (S.take A.length)[j]? = some x → S[j]? = some x := fun {j x} e => by
    have lj := (List.getElem?_eq_some_iff.mp e).1
    rw [List.length_take] at lj
    rw [List.getElem?_take_of_lt (by omega)] at e
    exact e
  have ua : ∀ {j x}, A[j]? = some x → (A ++ A1)[j]? = some x := fun {j x} e => by
    rw [List.getElem?_append_left (List.getElem?_eq_some_iff.mp e).1]
    exact e
  have g : Gw (Lv (A ++ A1) S) H (Lv A (S.take A.length)) H := .less fun b ⟨j, x, hb, hx, nx⟩ => ⟨j, x, ua hb, up hx, nx⟩
  refine ⟨⟨by rw [List.length_take]; omega, (List.nodup_append.mp h.nd).1, fun j b x hb hx => ?_⟩, g⟩
  exact MOk.go g (fun u q => q) (h.ok j b x (ua hb) (up hx))
end
end Dl
/-! What a reading does, told without heaps. -/
namespace Dl
open PySem PySem.Spec PyProof.Rows L2 _root_.Evl
/-- the expression's reading brings what Φ says -/
def Wp [Z : Zo] (K : PySem.W.Frag) (te : TE) (ρ : List R) (S : Store) (Φ : R → Store → Prop) : Prop := ∀ (A : List Addr) (σ : L2.St) (H : Hp), Fr K A S H ρ σ → ∀ Q : VK,
  (∀ (r : R) (S' : Store) (A' : List Addr) (v : V) (H' : Hp), Φ r S' → Gr A S H A' S' H' → SOk K A' S' H' → RepR K A' S' H' r v → Q v H') → te σ H Q
def WpT [Z : Zo] (K : PySem.W.Frag) (tt : TT) (ρ : List R) (S : Store) (Φ : Bool → Store → Prop) : Prop := ∀ (A : List Addr) (σ : L2.St) (H : Hp), Fr K A S H ρ σ → ∀ Q : Bool → Hp → Prop,
  (∀ (b : Bool) (S' : Store) (A' : List Addr) (H' : Hp), Φ b S' → Gr A S H A' S' H' → SOk K A' S' H' → Q b H') → tt σ H Q
def WpA [Z : Zo] (K : PySem.W.Frag) (ta : TA) (ρ : List R) (S : Store) (Φ : List R → Store → Prop) : Prop := ∀ (A : List Addr) (σ : L2.St) (H : Hp), Fr K A S H ρ σ → ∀ Q : List V → Hp → Prop,
  (∀ (rs : List R) (S' : Store) (A' : List Addr) (vs : List V) (H' : Hp), Φ rs S' → Gr A S H A' S' H' → SOk K A' S' H' → RepRs K A' S' H' rs vs → Q vs H') → ta σ H Q
def WpO [Z : Zo] (K : PySem.W.Frag) (to : TO) (ρ : List R) (S : Store) (Φ : Option Int → Store → Prop) : Prop := ∀ (A : List Addr) (σ : L2.St) (H : Hp), Fr K A S H ρ σ → ∀ Q : Option Int → Hp → Prop,
  (∀ (o : Option Int) (S' : Store) (A' : List Addr) (H' : Hp), Φ o S' → Gr A S H A' S' H' → SOk K A' S' H' → Q o H') → to σ H Q
/-- what is wanted behind a statement -/
abbrev PR := List R → Store → Prop
structure EOk [Z : Zo] (K : PySem.W.Frag) (A : List Addr) (S : Store) (H : Hp) (D : Ends) (Nx : PR) (Rt : R → Store → Prop) (Bk Ct : PR) : Prop where
  nx : ∀ (ρ' : List R) (S' : Store) (A' : List Addr) (σ' : L2.St) (H' : Hp), Nx ρ' S' → Gr A S H A' S' H' → Fr K A' S' H' ρ' σ' → D.nx σ' H'
  rt : ∀ (r : R) (S' : Store) (A' : List Addr) (v : V) (H' : Hp), Rt r S' → Gr A S H A' S' H' → SOk K A' S' H' → RepR K A' S' H' r v → D.rt v H'
  bk : ∀ (ρ' : List R) (S' : Store) (A' : List Addr) (σ' : L2.St) (H' : Hp), Bk ρ' S' → Gr A S H A' S' H' → Fr K A' S' H' ρ' σ' → D.bk σ' H'
  ct : ∀ (ρ' : List R) (S' : Store) (A' : List Addr) (σ' : L2.St) (H' : Hp), Ct ρ' S' → Gr A S H A' S' H' → Fr K A' S' H' ρ' σ' → D.ct σ' H'
def WpS [Z : Zo] (K : PySem.W.Frag) (t : TS) (ρ : List R) (S : Store) (Nx : PR) (Rt : R → Store → Prop) (Bk Ct : PR) : Prop := ∀ (A : List Addr) (σ : L2.St) (H : Hp), Fr K A S H ρ σ → ∀ D : Ends, EOk K A S H D Nx Rt Bk Ct → t D σ H
/-- operations on what came -/
def Op2 (K : PySem.W.Frag) (r : R2) (x y : R) (S : Store) (Φ : R → Prop) : Prop := ∀ (A : List Addr) (H : Hp) (v w : V), SOk K A S H → RepR K A S H x v → RepR K A S H y w → ∀ Q : VK,
  (∀ (z : R) (u : V) (H' : Hp), Φ z → Ex H H' → RepR K A S H' z u → Q u H') → r v w H Q
def Op1 (K : PySem.W.Frag) (r : V → Hp → VK → Prop) (x : R) (S : Store) (Φ : R → Prop) : Prop := ∀ (A : List Addr) (H : Hp) (v : V), SOk K A S H → RepR K A S H x v → ∀ Q : VK,
  (∀ (z : R) (u : V) (H' : Hp), Φ z → Ex H H' → RepR K A S H' z u → Q u H') → r v H Q
def Cb (K : PySem.W.Frag) (r : List V → Hp → VK → Prop) (xs : List R) (S : Store) (Φ : R → Prop) : Prop := ∀ (A : List Addr) (H : Hp) (vs : List V), SOk K A S H → RepRs K A S H xs vs → ∀ Q : VK,
  (∀ (z : R) (u : V) (H' : Hp), Φ z → Ex H H' → RepR K A S H' z u → Q u H') → r vs H Q
def dats : List R → Option (List D)
  | [] => some []
  | .dat d :: rs => match dats rs with
    | some ds => some (d :: ds)
    | none => none
  | _ :: _ => none
section
variable [Z : Zo] {K : PySem.W.Frag} {A A' A1 A2 : List Addr} {S S' S1 S2 : Store} {H H' H1 H2 : Hp} {ρ : List R} {σ : L2.St} {De : Ends} {Nx Bk Ct : PR} {Rt : R → Store → Prop} {Φ : R → Store → Prop} {te ta tb tc : TE} {tt tu : TT} {tl : TA} {t u : TS}
theorem EOk.go (e : EOk K A S H De Nx Rt Bk Ct) (g : Gr A S H A1 S1 H1) : EOk K A1 S1 H1 De Nx Rt Bk Ct :=
  ⟨fun a b c d f p q r => e.nx a b c d f p (g.trans q) r, fun a b c d f p q r s => e.rt a b c d f p (g.trans q) r s, fun a b c d f p q r => e.bk a b c d f p (g.trans q) r, fun a b c d f p q r => e.ct a b c d f p (g.trans q) r⟩
theorem dats_rep {rs : List R} {ds : List D} {vs : List V} (h : dats rs = some ds) (r : RepRs K A S H rs vs) : RepL K (Lv A S) H ds vs := by
  induction rs generalizing ds vs with
  | nil => cases h; cases r; exact .nil
  | cons x rs ih =>
    cases r with
    | cons a b =>
      cases x with
      | dat d =>
        unfold dats at h
        cases q : dats rs with
        | none => rw [q] at h; cases h
        | some es => rw [q] at h; cases h; exact .cons a (ih q b)
      | mu k => cases h
      | no => cases h
/-! ### names and constants -/
theorem wp_var {i : Nat} {d : Dl.D} (h : ρ[i]? = some (.dat d)) (k : Φ (.dat d) S) : Wp K (tVar i) ρ S Φ := fun A σ H f Q q => by
  obtain ⟨v, e, r⟩ := f.var h nofun
  exact ⟨v, e, q _ S A v H k .refl f.st r⟩
theorem wp_varM {i j : Nat} (h : ρ[i]? = some (.mu j)) (k : Φ (.mu j) S) : Wp K (tVar i) ρ S Φ := fun A σ H f Q q => by
  obtain ⟨v, e, r⟩ := f.var h nofun
  exact ⟨v, e, q _ S A v H k .refl f.st r⟩
theorem wp_int {i : Int} (k : Φ (.dat (.int i)) S) : Wp K (tC (.int i)) ρ S Φ := fun A σ H f Q q => q _ S A _ H k .refl f.st (.int i)
theorem wp_bl {b : Bool} (k : Φ (.dat (.bl b)) S) : Wp K (tC (.bl b)) ρ S Φ := fun A σ H f Q q => q _ S A _ H k .refl f.st (.bl b)
theorem wp_str {x : Str} (k : Φ (.dat (.str x)) S) : Wp K (tC (.str x)) ρ S Φ := fun A σ H f Q q => q _ S A _ H k .refl f.st (.str x)
theorem wp_non (k : Φ (.dat .non) S) : Wp K (tC .non) ρ S Φ := fun A σ H f Q q => q _ S A _ H k .refl f.st .non
theorem wp_ty {n : String} (k : Φ (.dat (.ty n)) S) : Wp K (tC (.ty n)) ρ S Φ := fun A σ H f Q q => q _ S A _ H k .refl f.st (.ty n)
theorem wp_glo {x : Str} (k : Φ (.dat (.glo x)) S) : Wp K (tC (.ref (He.ga K x))) ρ S Φ := fun A σ H f Q q => q _ S A _ H k .refl f.st (.glo x)
/-! ### operators -/
theorem wp_op {r : R2} (h : Wp K ta ρ S fun x S1 => Wp K tb ρ S1 fun y S2 => Op2 K r x y S2 fun z => Φ z S2) : Wp K (tOp r ta tb) ρ S Φ := fun A σ H f Q q =>
  h A σ H f _ fun x S1 A1 v1 H1 hw g1 so1 r1 => hw A1 σ H1 (f.go g1 so1) _ fun y S2 A2 v2 H2 ho g2 so2 r2 => ho A2 H2 v1 v2 so2 (r1.go g2) r2 Q fun z v H3 hz e3 rz => q z S2 A2 v H3 hz ((g1.trans g2).trans (.ex e3)) (so2.ex e3) rz
theorem wp_un {r : V → Hp → VK → Prop} (h : Wp K ta ρ S fun x S1 => Op1 K r x S1 fun z => Φ z S1) : Wp K (tUn r ta) ρ S Φ := fun A σ H f Q q =>
  h A σ H f _ fun x S1 A1 v1 H1 ho g1 so1 r1 => ho A1 H1 v1 so1 r1 Q fun z v H3 hz e3 rz => q z S1 A1 v H3 hz (g1.trans (.ex e3)) (so1.ex e3) rz
theorem wp_cb {r : List V → Hp → VK → Prop} (h : WpA K tl ρ S fun xs S1 => Cb K r xs S1 fun z => Φ z S1) : Wp K (tCB r tl) ρ S Φ := fun A σ H f Q q =>
  h A σ H f _ fun xs S1 A1 vs H1 ho g1 so1 r1 => ho A1 H1 vs so1 r1 Q fun z v H3 hz e3 rz => q z S1 A1 v H3 hz (g1.trans (.ex e3)) (so1.ex e3) rz
theorem wa_nil {Φ : List R → Store → Prop} (k : Φ [] S) : WpA K tNil ρ S Φ := fun A σ H f Q q => q [] S A [] H k .refl f.st .nil
theorem wa_cons {Φ : List R → Store → Prop} (h : Wp K ta ρ S fun x S1 => WpA K tl ρ S1 fun xs S2 => Φ (x :: xs) S2) : WpA K (tCons ta tl) ρ S Φ := fun A σ H f Q q =>
  h A σ H f _ fun x S1 A1 v1 H1 hw g1 so1 r1 => hw A1 σ H1 (f.go g1 so1) _ fun xs S2 A2 vs H2 hk g2 so2 r2 => q _ S2 A2 _ H2 hk (g1.trans g2) so2 (.cons (r1.go g2) r2)
/-- a new tuple, a new list, as data -/
def Tu (rs : List R) (Φ : List Dl.D → Prop) : Prop := ∃ ds, dats rs = some ds ∧ ds.length ≤ 100000 ∧ Φ ds
theorem tu_0 {Φ : List Dl.D → Prop} (k : Φ []) : Tu [] Φ := ⟨_, rfl, Nat.le_of_ble_eq_true rfl, k⟩
theorem tu_1 {Φ : List Dl.D → Prop} {a : Dl.D} (k : Φ [a]) : Tu [.dat a] Φ := ⟨_, rfl, Nat.le_of_ble_eq_true rfl, k⟩
theorem tu_2 {Φ : List Dl.D → Prop} {a b : Dl.D} (k : Φ [a, b]) : Tu [.dat a, .dat b] Φ := ⟨_, rfl, Nat.le_of_ble_eq_true rfl, k⟩
theorem tu_3 {Φ : List Dl.D → Prop} {a b c : Dl.D} (k : Φ [a, b, c]) : Tu [.dat a, .dat b, .dat c] Φ := ⟨_, rfl, Nat.le_of_ble_eq_true rfl, k⟩
theorem tu_4 {Φ : List Dl.D → Prop} {a b c d : Dl.D} (k : Φ [a, b, c, d]) : Tu [.dat a, .dat b, .dat c, .dat d] Φ := ⟨_, rfl, Nat.le_of_ble_eq_true rfl, k⟩
theorem tu_of {Φ : List Dl.D → Prop} {rs : List R} {ds : List Dl.D} (h : dats rs = some ds) (hl : ds.length ≤ 100000) (k : Φ ds) : Tu rs Φ := ⟨ds, h, hl, k⟩
theorem rep_new {so : SOk K A S H} {p : Addr} {ds : List Dl.D} {xs : List V} (hp : H p = none) (l : RepL K (Lv A S) H ds xs) : Rep K (Lv A S) (upd H p (.tup xs)) (.tup ds) (.ref p) ∧ Rep K (Lv A S) (upd H p (.lst xs)) (.lst ds) (.ref p) :=
  ⟨.tup (so.new hp) (.inl upd_same) (l.go (.ex (Ex.new hp))), .lst (so.new hp) upd_same (l.go (.ex (Ex.new hp)))⟩
theorem wp_tup (h : WpA K tl ρ S fun xs S1 => Tu xs fun ds => Φ (.dat (.tup ds)) S1) : Wp K (tTup tl) ρ S Φ := fun A σ H f Q q =>
  h A σ H f _ fun xs S1 A1 vs H1 ⟨ds, hd, hl, k⟩ g1 so1 r1 => by
    have l := dats_rep hd r1
    refine ⟨by rw [← l.length]; exact sz_of hl, fun p hp => q _ S1 A1 _ _ k (g1.trans (.ex (Ex.new hp))) (so1.ex (Ex.new hp)) (rep_new (so := so1) hp l).1⟩
theorem wp_lst (h : WpA K tl ρ S fun xs S1 => Tu xs fun ds => Φ (.dat (.lst ds)) S1) : Wp K (tLst tl) ρ S Φ := fun A σ H f Q q =>
  h A σ H f _ fun xs S1 A1 vs H1 ⟨ds, hd, hl, k⟩ g1 so1 r1 => by
    have l := dats_rep hd r1
    refine ⟨by rw [← l.length]; exact sz_of hl, fun p hp => q _ S1 A1 _ _ k (g1.trans (.ex (Ex.new hp))) (so1.ex (Ex.new hp)) (rep_new (so := so1) hp l).2⟩
/-- .. as a thing of the store -/
theorem wp_lstM (h : WpA K tl ρ S fun xs S1 => Tu xs fun ds => Φ (.mu S1.length) (S1 ++ [.ls ds])) : Wp K (tLst tl) ρ S Φ := fun A σ H f Q q =>
  h A σ H f _ fun xs S1 A1 vs H1 ⟨ds, hd, hl, k⟩ g1 so1 r1 => by
    have l := dats_rep hd r1
    refine ⟨by rw [← l.length]; exact sz_of hl, fun p hp => ?_⟩
    obtain ⟨so2, g2⟩ := so1.add (m := .ls ds) (o := .lst vs) hp fun X g => ⟨vs, upd_same, l.go g⟩
    refine q _ _ _ _ _ k (g1.trans g2) so2 ⟨p, ?_, rfl⟩
    rw [← so1.len, List.getElem?_append_right (Nat.le_refl _), Nat.sub_self]
    rfl
/-! ### tests -/
def Bo (r : R) (Φ : Bool → Prop) : Prop := ∃ b, r = .dat (.bl b) ∧ Φ b
theorem bo {b : Bool} {Φ : Bool → Prop} (k : Φ b) : Bo (.dat (.bl b)) Φ := ⟨b, rfl, k⟩
theorem rep_bl {b : Bool} {v : V} {X : Addr → Prop} (h : Rep K X H (.bl b) v) : v = .bl b := by cases h; rfl
theorem rep_int {i : Int} {v : V} {X : Addr → Prop} (h : Rep K X H (.int i) v) : v = .int i := by cases h; rfl
theorem rep_str {x : Str} {v : V} {X : Addr → Prop} (h : Rep K X H (.str x) v) : v = .str x := by cases h; rfl
theorem rep_non {v : V} {X : Addr → Prop} (h : Rep K X H .non v) : v = .non := by cases h; rfl
theorem wt_B {Φ : Bool → Store → Prop} (h : Wp K te ρ S fun r S1 => Bo r fun b => Φ b S1) : WpT K (tB te) ρ S Φ := fun A σ H f Q q =>
  h A σ H f _ fun r S1 A1 v1 H1 ⟨b, e, k⟩ g1 so1 r1 => by
    subst e
    exact ⟨b, rep_bl r1, q b S1 A1 H1 k g1 so1⟩
theorem wt_test {Φ : Bool → Store → Prop} (h : Wp K te ρ S fun r S1 => Bo r fun b => Φ b S1) : WpT K (tTest te) ρ S Φ := fun A σ H f Q q =>
  h A σ H f _ fun r S1 A1 v1 H1 ⟨b, e, k⟩ g1 so1 r1 => by
    subst e
    exact ⟨b, rep_bl r1, q b S1 A1 H1 k g1 so1⟩
theorem wt_not {Φ : Bool → Store → Prop} (h : WpT K tt ρ S fun b S1 => Φ (!b) S1) : WpT K (tNot tt) ρ S Φ := fun A σ H f Q q => h A σ H f _ fun b S1 A1 H1 k g1 so1 => q _ S1 A1 H1 k g1 so1
theorem wt_yes {Φ : Bool → Store → Prop} (k : Φ true S) : WpT K tYes ρ S Φ := fun A σ H f Q q => q true S A H k .refl f.st
theorem wt_and {Φ : Bool → Store → Prop} (h : WpT K tt ρ S fun b S1 => (b = true → WpT K tu ρ S1 Φ) ∧ (b = false → Φ false S1)) : WpT K (tAnd tt tu) ρ S Φ := fun A σ H f Q q => h A σ H f _ fun b S1 A1 H1 k g1 so1 => by
  cases b with
  | true => exact k.1 rfl A1 σ H1 (f.go g1 so1) Q fun c S2 A2 H2 k2 g2 so2 => q c S2 A2 H2 k2 (g1.trans g2) so2
  | false => exact q false S1 A1 H1 (k.2 rfl) g1 so1
theorem wt_or {Φ : Bool → Store → Prop} (h : WpT K tt ρ S fun b S1 => (b = true → Φ true S1) ∧ (b = false → WpT K tu ρ S1 Φ)) : WpT K (tOr tt tu) ρ S Φ := fun A σ H f Q q => h A σ H f _ fun b S1 A1 H1 k g1 so1 => by
  cases b with
  | false => exact k.2 rfl A1 σ H1 (f.go g1 so1) Q fun c S2 A2 H2 k2 g2 so2 => q c S2 A2 H2 k2 (g1.trans g2) so2
  | true => exact q true S1 A1 H1 (k.1 rfl) g1 so1
theorem wp_andV (h : Wp K ta ρ S fun r S1 => Bo r fun b => (b = true → Wp K tb ρ S1 Φ) ∧ (b = false → Φ (.dat (.bl false)) S1)) : Wp K (tAndV ta tb) ρ S Φ := fun A σ H f Q q => h A σ H f _ fun r S1 A1 v1 H1 ⟨b, e, k⟩ g1 so1 r1 => by
  subst e
  refine ⟨b, rep_bl r1, ?_⟩
  cases b with
  | true => exact k.1 rfl A1 σ H1 (f.go g1 so1) Q fun c S2 A2 v2 H2 k2 g2 so2 r2 => q c S2 A2 v2 H2 k2 (g1.trans g2) so2 r2
  | false => exact q _ S1 A1 _ H1 (k.2 rfl) g1 so1 (.bl false)
theorem wp_orV (h : Wp K ta ρ S fun r S1 => Bo r fun b => (b = true → Φ (.dat (.bl true)) S1) ∧ (b = false → Wp K tb ρ S1 Φ)) : Wp K (tOrV ta tb) ρ S Φ := fun A σ H f Q q => h A σ H f _ fun r S1 A1 v1 H1 ⟨b, e, k⟩ g1 so1 r1 => by
  subst e
  refine ⟨b, rep_bl r1, ?_⟩
  cases b with
  | false => exact k.2 rfl A1 σ H1 (f.go g1 so1) Q fun c S2 A2 v2 H2 k2 g2 so2 r2 => q c S2 A2 v2 H2 k2 (g1.trans g2) so2 r2
  | true => exact q _ S1 A1 _ H1 (k.1 rfl) g1 so1 (.bl true)
theorem wp_notV (h : Wp K ta ρ S fun r S1 => Bo r fun b => Φ (.dat (.bl (!b))) S1) : Wp K (tNotV ta) ρ S Φ := fun A σ H f Q q => h A σ H f _ fun r S1 A1 v1 H1 ⟨b, e, k⟩ g1 so1 r1 => by
  subst e
  exact ⟨b, rep_bl r1, q _ S1 A1 _ H1 k g1 so1 (.bl _)⟩
theorem wp_if (h : WpT K tt ρ S fun b S1 => (b = true → Wp K ta ρ S1 Φ) ∧ (b = false → Wp K tb ρ S1 Φ)) : Wp K (tIf tt ta tb) ρ S Φ := fun A σ H f Q q => h A σ H f _ fun b S1 A1 H1 k g1 so1 => by
  cases b with
  | true => exact k.1 rfl A1 σ H1 (f.go g1 so1) Q fun c S2 A2 v2 H2 k2 g2 so2 r2 => q c S2 A2 v2 H2 k2 (g1.trans g2) so2 r2
  | false => exact k.2 rfl A1 σ H1 (f.go g1 so1) Q fun c S2 A2 v2 H2 k2 g2 so2 r2 => q c S2 A2 v2 H2 k2 (g1.trans g2) so2 r2
theorem wp_chain {r r' : R2} (h : Wp K ta ρ S fun x S1 => Wp K tb ρ S1 fun y S2 => Op2 K r x y S2 fun z => Bo z fun b => (b = true → Wp K tc ρ S2 fun w S3 => Op2 K r' y w S3 fun z => Φ z S3) ∧ (b = false → Φ (.dat (.bl false)) S2)) : Wp K (tChain r r' ta tb tc) ρ S Φ := fun A σ H f Q q =>
  h A σ H f _ fun x S1 A1 v1 H1 hw g1 so1 r1 => hw A1 σ H1 (f.go g1 so1) _ fun y S2 A2 v2 H2 ho g2 so2 r2 => ho A2 H2 v1 v2 so2 (r1.go g2) r2 _ fun z v H3 hz e3 rz => by
    obtain ⟨b, e, k⟩ := hz
    subst e
    refine ⟨b, rep_bl rz, ?_⟩
    have g03 := (g1.trans g2).trans (Gr.ex (A := A2) (S := S2) e3)
    have so3 := so2.ex e3
    cases b with
    | true => exact k.1 rfl A2 σ H3 (f.go g03 so3) _ fun w S4 A4 v4 H4 ho4 g4 so4 r4 => ho4 A4 H4 v2 v4 so4 ((r2.go (Gr.ex e3)).go g4) r4 Q fun z v H5 hz e5 rz => q z S4 A4 v H5 hz ((g03.trans g4).trans (.ex e5)) (so4.ex e5) rz
    | false => exact q _ S2 A2 _ H3 (k.2 rfl) g03 so3 (.bl false)
/-! ### slices -/
theorem wo_none {Φ : Option Int → Store → Prop} (k : Φ none S) : WpO K tNoPart ρ S Φ := fun A σ H f Q q => q none S A H k .refl f.st
def In1 (r : R) (Φ : Int → Prop) : Prop := ∃ i, r = .dat (.int i) ∧ Φ i
theorem in1 {i : Int} {Φ : Int → Prop} (k : Φ i) : In1 (.dat (.int i)) Φ := ⟨i, rfl, k⟩
theorem wo_some {Φ : Option Int → Store → Prop} (h : Wp K te ρ S fun r S1 => In1 r fun i => Φ (some i) S1) : WpO K (tPart te) ρ S Φ := fun A σ H f Q q => h A σ H f _ fun r S1 A1 v1 H1 ⟨i, e, k⟩ g1 so1 r1 => by
  subst e
  exact ⟨i, rep_int r1, q _ S1 A1 H1 k g1 so1⟩
def Sl (K : PySem.W.Frag) (r : V → Option Int → Option Int → Hp → VK → Prop) (x : R) (lo hi : Option Int) (S : Store) (Φ : R → Prop) : Prop := Op1 K (fun v => r v lo hi) x S Φ
theorem wp_sl {r : V → Option Int → Option Int → Hp → VK → Prop} {tl th : TO} (h : Wp K te ρ S fun x S1 => WpO K tl ρ S1 fun lo S2 => WpO K th ρ S2 fun hi S3 => Sl K r x lo hi S3 fun z => Φ z S3) : Wp K (tSl r te tl th) ρ S Φ := fun A σ H f Q q =>
  h A σ H f _ fun x S1 A1 v1 H1 hw g1 so1 r1 => hw A1 σ H1 (f.go g1 so1) _ fun lo S2 A2 H2 hw2 g2 so2 => hw2 A2 σ H2 (f.go (g1.trans g2) so2) _ fun hi S3 A3 H3 ho g3 so3 =>
    ho A3 H3 v1 so3 ((r1.go g2).go g3) Q fun z v H4 hz e4 rz => q z S3 A3 v H4 hz (((g1.trans g2).trans g3).trans (.ex e4)) (so3.ex e4) rz
/-! ### statements -/
theorem ws_seq (h : WpS K t ρ S (fun ρ' S' => WpS K u ρ' S' Nx Rt Bk Ct) Rt Bk Ct) : WpS K (tSeq t u) ρ S Nx Rt Bk Ct := fun A σ H f D e =>
  h A σ H f _ ⟨fun ρ' S' A' σ' H' p g f' => p A' σ' H' f' D (e.go g), e.rt, e.bk, e.ct⟩
theorem ws_set {i : Nat} (h : Wp K te ρ S fun r S' => Nx (ρ.set i r) S') : WpS K (tAsg te (gName i)) ρ S Nx Rt Bk Ct := fun A σ H f D e =>
  h A σ H f _ fun r S' A' v H' p g so rr => e.nx _ S' A' _ H' p g ⟨so, (f.en.go g).set i rr, Z.mono f.xo g⟩
theorem ws_drop (h : Wp K te ρ S fun _ S' => Nx ρ S') : WpS K (tDrop te) ρ S Nx Rt Bk Ct := fun A σ H f D e =>
  h A σ H f _ fun r S' A' v H' p g so rr => e.nx _ S' A' _ H' p g (f.go g so)
theorem ws_ret (h : Wp K te ρ S fun r S' => Rt r S') : WpS K (tRet te) ρ S Nx Rt Bk Ct := fun A σ H f D e =>
  h A σ H f _ fun r S' A' v H' p g so rr => e.rt _ S' A' _ H' p g so rr
theorem ws_retN (h : Rt (.dat .non) S) : WpS K tRetN ρ S Nx Rt Bk Ct := fun A σ H f D e => e.rt _ S A _ H h .refl f.st .non
theorem ws_next (h : Nx ρ S) : WpS K tNext ρ S Nx Rt Bk Ct := fun A σ H f D e => e.nx _ S A _ H h .refl f
theorem ws_break (h : Bk ρ S) : WpS K tBreak ρ S Nx Rt Bk Ct := fun A σ H f D e => e.bk _ S A _ H h .refl f
theorem ws_cont (h : Ct ρ S) : WpS K tCont ρ S Nx Rt Bk Ct := fun A σ H f D e => e.ct _ S A _ H h .refl f
theorem ws_if (h : WpT K tt ρ S fun b S1 => (b = true → WpS K t ρ S1 Nx Rt Bk Ct) ∧ (b = false → WpS K u ρ S1 Nx Rt Bk Ct)) : WpS K (tIfS tt t u) ρ S Nx Rt Bk Ct := fun A σ H f D e => h A σ H f _ fun b S1 A1 H1 k g1 so1 => by
  cases b with
  | true => exact k.1 rfl A1 σ H1 (f.go g1 so1) D (e.go g1)
  | false => exact k.2 rfl A1 σ H1 (f.go g1 so1) D (e.go g1)
def Two (rs : List R) (Φ : R → R → Prop) : Prop := ∃ a b, rs = [a, b] ∧ Φ a b
theorem two {a b : R} {Φ : R → R → Prop} (k : Φ a b) : Two [a, b] Φ := ⟨a, b, rfl, k⟩
theorem ws_par {i j : Nat} (h : WpA K tl ρ S fun rs S' => Two rs fun a b => Nx ((ρ.set i a).set j b) S') : WpS K (tPar i j tl) ρ S Nx Rt Bk Ct := fun A σ H f D e =>
  h A σ H f _ fun rs S' A' vs H' ⟨a, b, eq, p⟩ g so rr => by
    subst eq
    cases rr with
    | cons r1 rr =>
      cases rr with
      | cons r2 rr =>
        cases rr
        exact ⟨_, _, rfl, e.nx _ S' A' _ H' p g ⟨so, ((f.en.go g).set i r1).set j r2, Z.mono f.xo g⟩⟩
/-! ### targets -/
def WpG [Z : Zo] (K : PySem.W.Frag) (g : TG) (r : R) (ρ : List R) (S : Store) (Φ : List R → Store → Prop) : Prop := ∀ (A : List Addr) (σ : L2.St) (H : Hp) (v : V), Fr K A S H ρ σ → RepR K A S H r v → ∀ Q : L2.St → Hp → Prop,
  (∀ (ρ' : List R) (S' : Store) (A' : List Addr) (σ' : L2.St) (H' : Hp), Φ ρ' S' → Gr A S H A' S' H' → Fr K A' S' H' ρ' σ' → Q σ' H') → g v σ H Q
def WpGs [Z : Zo] (K : PySem.W.Frag) (g : TGs) (rs : List R) (ρ : List R) (S : Store) (Φ : List R → Store → Prop) : Prop := ∀ (A : List Addr) (σ : L2.St) (H : Hp) (vs : List V), Fr K A S H ρ σ → RepRs K A S H rs vs → ∀ Q : L2.St → Hp → Prop,
  (∀ (ρ' : List R) (S' : Store) (A' : List Addr) (σ' : L2.St) (H' : Hp), Φ ρ' S' → Gr A S H A' S' H' → Fr K A' S' H' ρ' σ' → Q σ' H') → g vs σ H Q
theorem wg_name {i : Nat} {r : R} {Φ : List R → Store → Prop} (k : Φ (ρ.set i r) S) : WpG K (gName i) r ρ S Φ := fun A σ H v f rr Q q => q _ S A _ H k .refl ⟨f.st, f.en.set i rr, f.xo⟩
theorem wgs_nil {Φ : List R → Store → Prop} (k : Φ ρ S) : WpGs K gNil [] ρ S Φ := fun A σ H vs f rr Q q => by
  cases rr
  exact ⟨rfl, q ρ S A σ H k .refl f⟩
theorem wgs_cons {g : TG} {gs : TGs} {r : R} {rs : List R} {Φ : List R → Store → Prop} (h : WpG K g r ρ S fun ρ1 S1 => WpGs K gs rs ρ1 S1 Φ) : WpGs K (gCons g gs) (r :: rs) ρ S Φ := fun A σ H vs f rr Q q => by
  cases rr with
  | cons r1 rr => exact ⟨_, _, rfl, h A σ H _ f r1 _ fun ρ1 S1 A1 σ1 H1 k g1 f1 => k A1 σ1 H1 _ f1 (RepRs.go g1 rr) Q fun ρ2 S2 A2 σ2 H2 k2 g2 f2 => q ρ2 S2 A2 σ2 H2 k2 (g1.trans g2) f2⟩
theorem reps_of {ds : List Dl.D} {vs : List V} (l : RepL K (Lv A S) H ds vs) : RepRs K A S H (ds.map .dat) vs := by
  induction ds generalizing vs with
  | nil => cases l; exact .nil
  | cons d ds ih => cases l with | cons h t => exact .cons h (ih t)
theorem rep_tup {ds : List Dl.D} {v : V} {X : Addr → Prop} (h : Rep K X H (.tup ds) v) : ∃ a xs, v = .ref a ∧ SqT K H a xs ∧ RepL K X H ds xs := by
  cases h with
  | tup n r l => exact ⟨_, _, rfl, .inl r, l⟩
  | ktup r l => exact ⟨_, _, rfl, r H, l⟩
theorem rep_ftup {ds : List Dl.D} {v : V} {X : Addr → Prop} (h : Rep K X H (.ftup ds) v) : ∃ a xs, v = .ref a ∧ SqT K H a xs ∧ RepL K X H ds xs := by
  cases h with
  | ftup n r l => exact ⟨_, _, rfl, FzT.sq r, l⟩
theorem rep_lstH {ds : List Dl.D} {v : V} {X : Addr → Prop} (h : Rep K X H (.lst ds) v) : ∃ a xs, v = .ref a ∧ H a = some (.lst xs) ∧ RepL K X H ds xs := by
  cases h with
  | lst n r l => exact ⟨_, _, rfl, r, l⟩
theorem rep_lst {ds : List Dl.D} {v : V} {X : Addr → Prop} (h : Rep K X H (.lst ds) v) : ∃ a xs, v = .ref a ∧ SqL K H a xs ∧ RepL K X H ds xs := by
  obtain ⟨a, xs, e, r, l⟩ := rep_lstH h
  exact ⟨a, xs, e, sq_of r, l⟩
theorem rep_flst {ds : List Dl.D} {v : V} {X : Addr → Prop} (h : Rep K X H (.flst ds) v) : ∃ a xs, v = .ref a ∧ SqL K H a xs ∧ RepL K X H ds xs := by
  cases h with
  | flst n r l => exact ⟨_, _, rfl, .inl r, l⟩
  | klst r l => exact ⟨_, _, rfl, r H, l⟩
theorem wg_tup {n : Nat} {gs : TGs} {ds : List Dl.D} {Φ : List R → Store → Prop} (hn : ds.length = n) (h : WpGs K gs (ds.map .dat) ρ S Φ) : WpG K (gTup K n gs) (.dat (.tup ds)) ρ S Φ := fun A σ H v f rr Q q => by
  obtain ⟨a, xs, rfl, sq, l⟩ := rep_tup rr
  exact ⟨a, xs, rfl, sq, by rw [← l.length]; exact hn, h A σ H xs f (reps_of l) Q q⟩
theorem wg_ftup {n : Nat} {gs : TGs} {ds : List Dl.D} {Φ : List R → Store → Prop} (hn : ds.length = n) (h : WpGs K gs (ds.map .dat) ρ S Φ) : WpG K (gTup K n gs) (.dat (.ftup ds)) ρ S Φ := fun A σ H v f rr Q q => by
  obtain ⟨a, xs, rfl, sq, l⟩ := rep_ftup rr
  exact ⟨a, xs, rfl, sq, by rw [← l.length]; exact hn, h A σ H xs f (reps_of l) Q q⟩
theorem wg_tup2 {n : Nat} {gs : TGs} {a b : Dl.D} {Φ : List R → Store → Prop} (hn : 2 = n) (h : WpGs K gs [.dat a, .dat b] ρ S Φ) : WpG K (gTup K n gs) (.dat (.tup [a, b])) ρ S Φ := wg_tup hn h
theorem wg_tup3 {n : Nat} {gs : TGs} {a b c : Dl.D} {Φ : List R → Store → Prop} (hn : 3 = n) (h : WpGs K gs [.dat a, .dat b, .dat c] ρ S Φ) : WpG K (gTup K n gs) (.dat (.tup [a, b, c])) ρ S Φ := wg_tup hn h
theorem wg_ftup2 {n : Nat} {gs : TGs} {a b : Dl.D} {Φ : List R → Store → Prop} (hn : 2 = n) (h : WpGs K gs [.dat a, .dat b] ρ S Φ) : WpG K (gTup K n gs) (.dat (.ftup [a, b])) ρ S Φ := wg_ftup hn h
theorem wg_ftup3 {n : Nat} {gs : TGs} {a b c : Dl.D} {Φ : List R → Store → Prop} (hn : 3 = n) (h : WpGs K gs [.dat a, .dat b, .dat c] ρ S Φ) : WpG K (gTup K n gs) (.dat (.ftup [a, b, c])) ρ S Φ := wg_ftup hn h
theorem ws_asg {g : TG} (h : Wp K te ρ S fun r S1 => WpG K g r ρ S1 Nx) : WpS K (tAsg te g) ρ S Nx Rt Bk Ct := fun A σ H f D e =>
  h A σ H f _ fun r S1 A1 v H1 k g1 so rr => k A1 σ H1 v (f.go g1 so) rr _ fun ρ2 S2 A2 σ2 H2 k2 g2 f2 => e.nx ρ2 S2 A2 σ2 H2 k2 (g1.trans g2) f2
/-- xs[i] = e, xs of the store -/
theorem wg_setL {to ti : TE} {r : R} {Φ : List R → Store → Prop} (h : Wp K to ρ S fun o S1 => Wp K ti ρ S1 fun i S2 => ∃ k ds j d, o = .mu k ∧ i = .dat (.int (j : Nat)) ∧ r = .dat d ∧ S2[k]? = some (.ls ds) ∧ j < ds.length ∧ Φ ρ (S2.set k (.ls (ds.set j d)))) :
    WpG K (gSub to ti rSetL) r ρ S Φ := fun A σ H v f rr Q q =>
  h A σ H f _ fun o S1 A1 vo H1 hw g1 so1 ro => hw A1 σ H1 (f.go g1 so1) _ fun i S2 A2 vi H2 ⟨k, ds, j, d, eo, ei, er, hk, lj, p⟩ g2 so2 ri => by
    subst eo ei er
    obtain ⟨a, ha, rfl⟩ := ro.go g2
    obtain rfl := rep_int ri
    obtain ⟨xs, hx, l⟩ := so2.ok k a _ ha hk
    have lx : j < xs.length := by rw [← l.length]; exact lj
    refine ⟨a, xs, (j : Int), j, rfl, rfl, hx, ixN_nat lx, ?_⟩
    have rv := (RepR.go (K := K) (r := .dat d) (g1.trans g2) rr)
    obtain ⟨so3, g3⟩ := so2.put (m' := .ls (ds.set j d)) (o := .lst (xs.set j v)) ha hk nofun nofun fun X _ g => ⟨_, upd_same, (RepL.go g l).set (Rep.go g rv) j⟩
    exact q ρ _ A2 σ _ p ((g1.trans g2).trans g3) ⟨so3, (f.en.go (g1.trans g2)).go g3, Z.mono f.xo ((g1.trans g2).trans g3)⟩
theorem ws_aug {i : Nat} {ti : TIp} {x : R} (hx : ρ[i]? = some x) (nx : x ≠ .no) (h : Wp K te ρ S fun y S1 => Op2 K ti x y S1 fun z => Nx (ρ.set i z) S1) : WpS K (tAug i te ti) ρ S Nx Rt Bk Ct := fun A σ H f D e => by
  obtain ⟨v, ev, rv⟩ := f.var hx nx
  refine ⟨v, ev, h A σ H f _ fun y S1 A1 w H1 ho g1 so1 rw => ho A1 H1 v w so1 (rv.go g1) rw _ fun z u H2 hz e2 rz => ?_⟩
  exact e.nx _ S1 A1 _ H2 hz (g1.trans (.ex e2)) ⟨so1.ex e2, ((f.en.go g1).go (.ex e2)).set i rz, Z.mono f.xo (g1.trans (.ex e2))⟩
/-- xs.append(e) -/
def App (o : R) (S : Store) (Φ : Nat → Prop) : Prop := ∃ (k : Nat) (ds : List Dl.D), o = .mu k ∧ S[k]? = some (.ls ds) ∧ Φ k
def AppTo (k : Nat) (y : R) (S : Store) (Φ : Store → Prop) : Prop := ∃ (d : Dl.D) (ds : List Dl.D), y = .dat d ∧ S[k]? = some (.ls ds) ∧ ds.length < 100000 ∧ Φ (S.set k (.ls (ds ++ [d])))
theorem ws_app (h : Wp K ta ρ S fun o S1 => App o S1 fun k => Wp K te ρ S1 fun y S2 => AppTo k y S2 fun S3 => Nx ρ S3) : WpS K (tDrop (tBM K "list" rAppend ta (tCons te tNil))) ρ S Nx Rt Bk Ct := fun A σ H f D e =>
  h A σ H f _ fun o S1 A1 v H1 ⟨k, ds', eo, hk1, hw⟩ g1 so1 ro => by
    subst eo
    obtain ⟨a, ha, rfl⟩ := ro
    obtain ⟨xs', hx', _⟩ := so1.ok k a _ ha hk1
    refine ⟨Or.inl ⟨rfl, xs', sq_of hx'⟩, hw A1 σ H1 (f.go g1 so1) _ fun y S2 A2 w H2 ⟨d, ds, ey, hk, lt, p⟩ g2 so2 ry => ?_⟩
    subst ey
    have ha2 := pre_get g2.pre ha
    obtain ⟨xs, hx, l⟩ := so2.ok k a _ ha2 hk
    obtain ⟨so3, g3⟩ := so2.put (m' := .ls (ds ++ [d])) (o := .lst (xs ++ [w])) ha2 hk nofun nofun fun X _ g => ⟨_, upd_same, (RepL.go g l).append (.cons (Rep.go g ry) .nil)⟩
    exact ⟨a, xs, w, rfl, rfl, hx, sz_lt (by rw [← l.length]; exact lt), e.nx ρ _ A2 σ _ p ((g1.trans g2).trans g3) ⟨so3, (f.en.go (g1.trans g2)).go g3, Z.mono f.xo ((g1.trans g2).trans g3)⟩⟩
end
end Dl
/-! Loops, comprehensions, calls, told without heaps. -/
namespace Dl
open PySem PySem.Spec PyProof.Rows L2 _root_.Evl
/-- J walks the data ds, as long as what is no part of X stays -/
def ItOk (K : PySem.W.Frag) (X : Addr → Prop) (H : Hp) (J : It) (ds : List D) : Prop := ∀ (X' : Addr → Prop) (H' : Hp), Gw X H X' H' → (∀ a, X' a → H' a ≠ none) →
  (∀ (i : Nat) (d : D), ds[i]? = some d → J.go i H' ∧ ∀ x H'', J.yld i H' x H'' → Ex H' H'' ∧ Rep K X' H'' d x) ∧ J.stop ds.length H'
def WpI [Z : Zo] (K : PySem.W.Frag) (wi : TI) (ρ : List R) (S : Store) (Φ : List D → Store → Prop) : Prop := ∀ (A : List Addr) (σ : L2.St) (H : Hp), Fr K A S H ρ σ → ∀ Q : It → Hp → Prop,
  (∀ (ds : List D) (S' : Store) (A' : List Addr) (J : It) (H' : Hp), Φ ds S' → Gr A S H A' S' H' → SOk K A' S' H' → ItOk K (Lv A' S') H' J ds → Q J H') → wi σ H Q
section
variable [Z : Zo] {K : PySem.W.Frag} {A A' A1 A2 : List Addr} {S S' S1 S2 : Store} {H H' H1 H2 : Hp} {ρ : List R} {σ : L2.St} {De : Ends} {Nx Bk Ct : PR} {Rt : R → Store → Prop} {Φ : R → Store → Prop} {te ta tb tc : TE} {tt tu : TT} {tl : TA} {t u : TS} {wi : TI} {g : TG}
theorem Gw.sql {X X' : Addr → Prop} (g : Gw X H X' H') {a : Addr} {xs : List V} (n : ¬ X a) (h : Rd H a (.lst xs)) : SqL K H' a xs := .inl (g.rd n h).2
theorem Gw.sqt {X X' : Addr → Prop} (g : Gw X H X' H') {a : Addr} {xs : List V} (n : ¬ X a) (h : Rd H a (.tup xs)) : SqT K H' a xs := .inl (g.rd n h).2
theorem rng_go {lo : Int} {n i : Nat} {H : Hp} (h : i < n) : (Itr lo n).go i H := h
theorem it_rng {X : Addr → Prop} {lo : Int} {n : Nat} : ItOk K X H (Itr lo n) ((List.range n).map fun i => D.int (lo + (i : Nat))) := fun X' H' g _ => by
  refine ⟨fun i d hd => ?_, ?_⟩
  · have hl := (List.getElem?_eq_some_iff.mp hd).1
    rw [List.length_map, List.length_range] at hl
    rw [List.getElem?_map, List.getElem?_range hl] at hd
    cases hd
    refine ⟨hl, fun x H'' y => ?_⟩
    obtain ⟨e, y⟩ := y
    subst e y
    exact ⟨Ex.refl _, .int _⟩
  · rw [List.length_map, List.length_range]
    exact Nat.le_refl n
def rngD (lo hi : Int) : List D := (List.range (hi - lo).toNat).map fun i => D.int (lo + (i : Nat))
def rng0 (n : Int) : List D := (List.range n.toNat).map fun i => D.int (i : Nat)
def Rg1 (rs : List R) (Φ : Int → Prop) : Prop := ∃ j : Int, rs = [.dat (.int j)] ∧ -(2 ^ 62) ≤ j ∧ j < 2 ^ 62 ∧ Φ j
theorem rg1 {j : Int} {Φ : Int → Prop} (h : j < 100000) (h' : -100000 < j) (k : Φ j) : Rg1 [.dat (.int j)] Φ := ⟨j, rfl, by omega, by omega, k⟩
theorem wi_rng1 {Φ : List D → Store → Prop} (h : WpA K tl ρ S fun rs S1 => Rg1 rs fun j => Φ (rng0 j) S1) : WpI K (iRng1 tl) ρ S Φ := fun A σ H f Q q =>
  h A σ H f _ fun rs S1 A1 vs H1 ⟨j, e, l1, l2, k⟩ g1 so1 rr => by
    subst e
    cases rr with
    | cons r1 rr =>
      cases rr
      obtain rfl := rep_int r1
      refine ⟨j, rfl, l1, l2, q _ S1 A1 _ H1 k g1 so1 ?_⟩
      have e : rng0 j = (List.range j.toNat).map fun i => D.int (0 + (i : Nat)) := by
        unfold rng0
        congr 1
        funext i
        rw [Int.zero_add]
      rw [e]
      exact it_rng
def Rg2 (rs : List R) (Φ : Int → Int → Prop) : Prop := ∃ i j : Int, rs = [.dat (.int i), .dat (.int j)] ∧ (-(2 ^ 62) ≤ i ∧ i < 2 ^ 62 ∧ -(2 ^ 62) ≤ j ∧ j < 2 ^ 62) ∧ Φ i j
theorem rg2 {i j : Int} {Φ : Int → Int → Prop} (h : -100000 < i ∧ i < 100000 ∧ -100000 < j ∧ j < 100000) (k : Φ i j) : Rg2 [.dat (.int i), .dat (.int j)] Φ := ⟨i, j, rfl, by omega, k⟩
theorem wi_rng2 {Φ : List D → Store → Prop} (h : WpA K tl ρ S fun rs S1 => Rg2 rs fun i j => Φ (rngD i j) S1) : WpI K (iRng2 tl) ρ S Φ := fun A σ H f Q q =>
  h A σ H f _ fun rs S1 A1 vs H1 ⟨i, j, e, l, k⟩ g1 so1 rr => by
    subst e
    cases rr with
    | cons r1 rr =>
      cases rr with
      | cons r2 rr =>
        cases rr
        obtain rfl := rep_int r1
        obtain rfl := rep_int r2
        exact ⟨i, j, rfl, l, q _ S1 A1 _ H1 k g1 so1 it_rng⟩
/-- lists and tuples, as data -/
def Sq (r : R) (Φ : List D → Prop) : Prop := ∃ ds, (r = .dat (.lst ds)) ∧ Φ ds
theorem sq_lst {ds : List D} {Φ : List D → Prop} (k : Φ ds) : Sq (.dat (.lst ds)) Φ := ⟨ds, rfl, k⟩
def Sqt (r : R) (Φ : List D → Prop) : Prop := ∃ ds, (r = .dat (.tup ds) ∨ r = .dat (.ftup ds)) ∧ Φ ds
theorem sq_tup {ds : List D} {Φ : List D → Prop} (k : Φ ds) : Sqt (.dat (.tup ds)) Φ := ⟨ds, .inl rfl, k⟩
theorem sq_ftup {ds : List D} {Φ : List D → Prop} (k : Φ ds) : Sqt (.dat (.ftup ds)) Φ := ⟨ds, .inr rfl, k⟩
theorem it_lst {X : Addr → Prop} {ds : List D} {v : V} (r : Rep K X H (.lst ds) v) : ∃ a xs, v = .ref a ∧ SqL K H a xs ∧ ItOk K X H (Itl K a) ds := by
  obtain ⟨a, xs, rfl, sq, l⟩ := rep_lst r
  refine ⟨a, xs, rfl, sq, fun X' H' g _ => ?_⟩
  have r' := r.go g
  obtain ⟨a', xs', e, sq', l'⟩ := rep_lst r'
  cases e
  refine ⟨fun i d hd => ?_, ⟨xs', sq', Nat.le_of_eq l'.length.symm⟩⟩
  obtain ⟨v, hv, rv⟩ := l'.get hd
  refine ⟨⟨xs', v, sq', hv⟩, fun x H'' y => ?_⟩
  obtain ⟨e, y⟩ := y
  subst e
  have e2 := y xs' sq'
  rw [hv] at e2
  cases e2
  exact ⟨Ex.refl _, rv⟩
theorem it_tup {X : Addr → Prop} {d : D} {ds : List D} {v : V} (hd : d = .tup ds ∨ d = .ftup ds) (r : Rep K X H d v) : ∃ a xs, v = .ref a ∧ SqT K H a xs ∧ ItOk K X H (Itt K a) ds := by
  have sp : ∀ {X' : Addr → Prop} {H' : Hp}, Rep K X' H' d v → ∃ a xs, v = .ref a ∧ SqT K H' a xs ∧ RepL K X' H' ds xs := fun {X' H'} r => by
    rcases hd with rfl | rfl
    · exact rep_tup r
    · exact rep_ftup r
  obtain ⟨a, xs, rfl, sq, l⟩ := sp r
  refine ⟨a, xs, rfl, sq, fun X' H' g _ => ?_⟩
  obtain ⟨a', xs', e, sq', l'⟩ := sp (r.go g)
  cases e
  refine ⟨fun i d hd => ?_, ⟨xs', sq', Nat.le_of_eq l'.length.symm⟩⟩
  obtain ⟨v, hv, rv⟩ := l'.get hd
  refine ⟨⟨xs', v, sq', hv⟩, fun x H'' y => ?_⟩
  obtain ⟨e, y⟩ := y
  subst e
  have e2 := y xs' sq'
  rw [hv] at e2
  cases e2
  exact ⟨Ex.refl _, rv⟩
theorem wi_list {Φ : List D → Store → Prop} (h : Wp K te ρ S fun r S1 => Sq r fun ds => Φ ds S1) : WpI K (iList K te) ρ S Φ := fun A σ H f Q q =>
  h A σ H f _ fun r S1 A1 v H1 ⟨ds, e, k⟩ g1 so1 rr => by
    subst e
    obtain ⟨a, xs, rfl, sq, it⟩ := it_lst rr
    exact ⟨a, rfl, ⟨xs, sq⟩, q ds S1 A1 _ H1 k g1 so1 it⟩
theorem wi_tup {Φ : List D → Store → Prop} (h : Wp K te ρ S fun r S1 => Sqt r fun ds => Φ ds S1) : WpI K (iTup K te) ρ S Φ := fun A σ H f Q q =>
  h A σ H f _ fun r S1 A1 v H1 ⟨ds, e, k⟩ g1 so1 rr => by
    obtain ⟨a, xs, rfl, sq, it⟩ : ∃ a xs, v = .ref a ∧ SqT K H1 a xs ∧ ItOk K (Lv A1 S1) H1 (Itt K a) ds := by
      rcases e with rfl | rfl
      · exact it_tup (.inl rfl) rr
      · exact it_tup (.inr rfl) rr
    exact ⟨a, rfl, ⟨xs, sq⟩, q ds S1 A1 _ H1 k g1 so1 it⟩
/-- for x in ..: by a word of the turn, the slots and the store -/
structure Lp [Z : Zo] (K : PySem.W.Frag) (g : TG) (tb : TS) (ds : List D) (I : Nat → List R → Store → Prop) (Nx : PR) (Rt : R → Store → Prop) : Prop where
  step : ∀ (i : Nat) (d : D) (ρ : List R) (S : Store), ds[i]? = some d → I i ρ S → WpG K g (.dat d) ρ S fun ρ2 S2 => WpS K tb ρ2 S2 (I (i + 1)) Rt Nx (I (i + 1))
  done : ∀ (ρ : List R) (S : Store), I ds.length ρ S → Nx ρ S
theorem ws_for {tb : TS} (h : WpI K wi ρ S fun ds S1 => ∃ I : Nat → List R → Store → Prop, I 0 ρ S1 ∧ Lp K g tb ds I Nx Rt) : WpS K (tFor wi g tb) ρ S Nx Rt Bk Ct := fun A σ H f De e =>
  h A σ H f _ fun ds S1 A1 J H1 ⟨I, i0, lp⟩ g1 so1 it => by
    refine ⟨fun i m σ' H' => m = ds.length - i ∧ i ≤ ds.length ∧ ∃ A' ρ' S', I i ρ' S' ∧ Gr A1 S1 H1 A' S' H' ∧ Fr K A' S' H' ρ' σ', ⟨ds.length, by simp, Nat.zero_le _, A1, ρ, S1, i0, .refl, f.go g1 so1⟩, ?_⟩
    rintro i m σ' H' ⟨rfl, hi, A', ρ', S', hI, g2, f2⟩
    obtain ⟨go, stop⟩ := it _ H' g2.gw fun a l => f2.st.dom l
    by_cases lt : i < ds.length
    · obtain ⟨go1, go2⟩ := go i ds[i] (List.getElem?_eq_getElem lt)
      refine .inr ⟨go1, fun σ3 H3 => ∃ A3 ρ3 S3, I (i + 1) ρ3 S3 ∧ Gr A1 S1 H1 A3 S3 H3 ∧ Fr K A3 S3 H3 ρ3 σ3, fun σ3 H3 q => ⟨ds.length - (i + 1), by omega, rfl, lt, q⟩, fun x H3 y => ?_⟩
      obtain ⟨e3, rx⟩ := go2 x H3 y
      have f3 : Fr K A' S' H3 ρ' σ' := f2.go (.ex e3) (f2.st.ex e3)
      refine lp.step i ds[i] ρ' S' (List.getElem?_eq_getElem lt) hI A' σ' H3 x f3 rx _ fun ρ4 S4 A4 σ4 H4 hw g4 f4 => ?_
      have g14 := (g2.trans (Gr.ex e3)).trans g4
      refine hw A4 σ4 H4 f4 _ ⟨fun ρ5 S5 A5 σ5 H5 hI g5 f5 => ⟨A5, ρ5, S5, hI, g14.trans g5, f5⟩, fun r S5 A5 v H5 p g5 so5 r5 => e.rt r S5 A5 v H5 p ((g1.trans g14).trans g5) so5 r5,
        fun ρ5 S5 A5 σ5 H5 p g5 f5 => e.nx ρ5 S5 A5 σ5 H5 p ((g1.trans g14).trans g5) f5, fun ρ5 S5 A5 σ5 H5 hI g5 f5 => ⟨A5, ρ5, S5, hI, g14.trans g5, f5⟩⟩
    · have ei : i = ds.length := by omega
      subst ei
      exact .inl ⟨stop, e.nx ρ' S' A' σ' H' (lp.done ρ' S' hI) (g1.trans g2) f2⟩
theorem ws_while {tb : TS} (I : Nat → List R → Store → Prop) (m : Nat) (h0 : I m ρ S)
    (h : ∀ m ρ S, I m ρ S → WpT K tt ρ S fun b S1 => (b = true → WpS K tb ρ S1 (fun ρ' S' => ∃ m', m' < m ∧ I m' ρ' S') Rt Nx (fun ρ' S' => ∃ m', m' < m ∧ I m' ρ' S')) ∧ (b = false → Nx ρ S1)) : WpS K (tWhile tt tb) ρ S Nx Rt Bk Ct := fun A σ H f De e => by
  refine ⟨fun m σ' H' => ∃ A' ρ' S', I m ρ' S' ∧ Gr A S H A' S' H' ∧ Fr K A' S' H' ρ' σ', ⟨m, A, ρ, S, h0, .refl, f⟩, ?_⟩
  rintro m σ' H' ⟨A', ρ', S', hI, g2, f2⟩
  refine h m ρ' S' hI A' σ' H' f2 _ fun b S3 A3 H3 k g3 so3 => ?_
  have g13 := g2.trans g3
  cases b with
  | true =>
    refine ⟨fun σ5 H5 => ∃ m', m' < m ∧ ∃ A5 ρ5 S5, I m' ρ5 S5 ∧ Gr A S H A5 S5 H5 ∧ Fr K A5 S5 H5 ρ5 σ5, fun σ5 H5 q => q, ?_⟩
    refine k.1 rfl A3 σ' H3 (f2.go g3 so3) _ ⟨fun ρ5 S5 A5 σ5 H5 ⟨m', lt, hI⟩ g5 f5 => ⟨m', lt, A5, ρ5, S5, hI, g13.trans g5, f5⟩, fun r S5 A5 v H5 p g5 so5 r5 => e.rt r S5 A5 v H5 p (g13.trans g5) so5 r5,
        fun ρ5 S5 A5 σ5 H5 p g5 f5 => e.nx ρ5 S5 A5 σ5 H5 p (g13.trans g5) f5, fun ρ5 S5 A5 σ5 H5 ⟨m', lt, hI⟩ g5 f5 => ⟨m', lt, A5, ρ5, S5, hI, g13.trans g5, f5⟩⟩
  | false => exact e.nx ρ' S3 A3 σ' H3 (k.2 rfl) g13 (f2.go g3 so3)
/-! ### comprehensions -/
def wipeR (ρ : List R) : List Nat → List R
  | [] => ρ
  | v :: vs => (wipeR ρ vs).set v .no
theorem EnvOk.wipe (h : EnvOk K A S H ρ σ) : ∀ vs : List Nat, EnvOk K A S H (wipeR ρ vs) (L2.wipe σ vs)
  | [] => h
  | v :: vs => by
    have q := EnvOk.wipe h vs
    refine ⟨by unfold wipeR L2.wipe; rw [List.length_set, List.length_set]; exact q.len, fun j r e => ?_⟩
    unfold wipeR at e
    unfold L2.wipe
    by_cases hj : v = j
    · subst hj
      have lj := (List.getElem?_eq_some_iff.mp e).1
      rw [List.length_set] at lj
      rw [List.getElem?_set_self lj] at e
      cases e
      exact .inl rfl
    · rw [List.getElem?_set_ne hj] at e
      rw [List.getElem?_set_ne hj]
      exact q.at' j r e
theorem wipe_get : ∀ (σ : L2.St) (vs : List Nat) (i : Nat), (L2.wipe σ vs)[i]? = if i ∈ vs then σ[i]?.map (fun _ => none) else σ[i]?
  | σ, [], i => by simp [L2.wipe]
  | σ, v :: vs, i => by
    unfold L2.wipe
    by_cases hv : v = i
    · subst hv
      rw [if_pos List.mem_cons_self]
      by_cases lt : v < σ.length
      · rw [List.getElem?_set_self (by rw [L2.wipe_length]; exact lt), List.getElem?_eq_getElem lt]
        rfl
      · rw [List.getElem?_eq_none (by rw [List.length_set, L2.wipe_length]; omega), List.getElem?_eq_none (by omega)]
        rfl
    · rw [List.getElem?_set_ne hv, wipe_get σ vs i]
      by_cases hm : i ∈ vs
      · rw [if_pos hm, if_pos (List.mem_cons_of_mem _ hm)]
      · rw [if_neg hm, if_neg (fun z => (List.mem_cons.mp z).elim (fun q => hv q.symm) hm)]
theorem wipe_same {σ σ' : L2.St} {vs : List Nat} (hl : σ'.length = (L2.wipe σ vs).length) (h : ∀ i, i ∉ vs → σ'[i]? = (L2.wipe σ vs)[i]?) : L2.wipe σ' vs = L2.wipe σ vs := by
  apply List.ext_getElem?
  intro i
  rw [wipe_get]
  by_cases hm : i ∈ vs
  · rw [if_pos hm, wipe_get, if_pos hm]
    rw [L2.wipe_length] at hl
    by_cases lt : i < σ.length
    · rw [List.getElem?_eq_getElem lt, List.getElem?_eq_getElem (by omega)]
      rfl
    · rw [List.getElem?_eq_none (by omega), List.getElem?_eq_none (by omega)]
  · rw [if_neg hm, h i hm]
/-- targets of a comprehension -/
def WpGc [Z : Zo] (K : PySem.W.Frag) (g : TG) (r : R) (ρ : List R) (S : Store) (vs : List Nat) (Φ : List R → Prop) : Prop := ∀ (A : List Addr) (σ : L2.St) (H : Hp) (v : V), Fr K A S H ρ σ → RepR K A S H r v → ∀ Q : L2.St → Hp → Prop,
  (∀ (ρ' : List R) (σ' : L2.St), Φ ρ' → σ'.length = σ.length → (∀ i, i ∉ vs → σ'[i]? = σ[i]?) → EnvOk K A S H ρ' σ' → Q σ' H) → g v σ H Q
def WpGcs [Z : Zo] (K : PySem.W.Frag) (g : TGs) (rs : List R) (ρ : List R) (S : Store) (vs : List Nat) (Φ : List R → Prop) : Prop := ∀ (A : List Addr) (σ : L2.St) (H : Hp) (us : List V), Fr K A S H ρ σ → RepRs K A S H rs us → ∀ Q : L2.St → Hp → Prop,
  (∀ (ρ' : List R) (σ' : L2.St), Φ ρ' → σ'.length = σ.length → (∀ i, i ∉ vs → σ'[i]? = σ[i]?) → EnvOk K A S H ρ' σ' → Q σ' H) → g us σ H Q
theorem gc_name {i : Nat} {r : R} {vs : List Nat} {Φ : List R → Prop} (hi : i ∈ vs) (k : Φ (ρ.set i r)) : WpGc K (gName i) r ρ S vs Φ := fun A σ H v f rr Q q =>
  q _ _ k (List.length_set ..) (fun j hj => List.getElem?_set_ne (fun z : i = j => hj (z ▸ hi))) (f.en.set i rr)
theorem gcs_nil {vs : List Nat} {Φ : List R → Prop} (k : Φ ρ) : WpGcs K gNil [] ρ S vs Φ := fun A σ H us f rr Q q => by
  cases rr
  exact ⟨rfl, q ρ σ k rfl (fun _ _ => rfl) f.en⟩
theorem gcs_cons {g : TG} {gs : TGs} {r : R} {rs : List R} {vs : List Nat} {Φ : List R → Prop} (h : WpGc K g r ρ S vs fun ρ1 => WpGcs K gs rs ρ1 S vs Φ) : WpGcs K (gCons g gs) (r :: rs) ρ S vs Φ := fun A σ H us f rr Q q => by
  cases rr with
  | cons r1 rr => exact ⟨_, _, rfl, h A σ H _ f r1 _ fun ρ1 σ1 k l1 s1 e1 => k A σ1 H _ ⟨f.st, e1, f.xo⟩ rr Q fun ρ2 σ2 k2 l2 s2 e2 => q ρ2 σ2 k2 (l2.trans l1) (fun i hi => (s2 i hi).trans (s1 i hi)) e2⟩
theorem gc_tup {n : Nat} {gs : TGs} {ds : List D} {vs : List Nat} {Φ : List R → Prop} (hn : ds.length = n) (h : WpGcs K gs (ds.map .dat) ρ S vs Φ) : WpGc K (gTup K n gs) (.dat (.tup ds)) ρ S vs Φ := fun A σ H v f rr Q q => by
  obtain ⟨a, xs, rfl, sq, l⟩ := rep_tup rr
  exact ⟨a, xs, rfl, sq, by rw [← l.length]; exact hn, h A σ H xs f (reps_of l) Q q⟩
structure Lc [Z : Zo] (K : PySem.W.Frag) (g : TG) (tt : TT) (te : TE) (vs : List Nat) (ρ : List R) (ds : List D) (n : Nat) (I : Nat → List D → Store → Prop) : Prop where
  step : ∀ (i : Nat) (d : D) (acc : List D) (S : Store), ds[i]? = some d → S.length = n → I i acc S → acc.length < 100000 ∧ WpGc K g (.dat d) (wipeR ρ vs) (S ++ [.ls acc]) vs fun ρ2 => WpT K tt ρ2 (S ++ [.ls acc]) fun b S3 =>
    (b = true → Wp K te ρ2 S3 fun r S4 => ∃ y S5, r = .dat y ∧ S4 = S5 ++ [.ls acc] ∧ S5.length = n ∧ I (i + 1) (acc ++ [y]) S5) ∧ (b = false → ∃ S5, S3 = S5 ++ [.ls acc] ∧ S5.length = n ∧ I (i + 1) acc S5)
theorem pre_eq {α : Type} {A B : List α} (p : A <+: B) (h : A.length = B.length) : B = A := by
  obtain ⟨t, rfl⟩ := p
  rw [List.length_append] at h
  have e : t = [] := List.eq_nil_of_length_eq_zero (by omega)
  rw [e, List.append_nil]
theorem wp_lc {vs : List Nat} (h : WpI K wi ρ S fun ds S1 => ∃ I : Nat → List D → Store → Prop, I 0 [] S1 ∧ Lc K g tt te vs ρ ds S1.length I ∧ ∀ acc S', S'.length = S1.length → I ds.length acc S' → Φ (.dat (.lst acc)) S') : Wp K (tLc wi g tt te vs) ρ S Φ := fun A σ H f Q q =>
  h A σ H f _ fun ds S1 A1 J H1 ⟨I, i0, lc, fin⟩ g1 so1 it p hp => by
    obtain ⟨sop, gp⟩ := so1.add (m := .ls []) (o := .lst []) hp fun X g => ⟨[], upd_same, .nil⟩
    have la := so1.len
    refine ⟨fun i m H' => m = ds.length - i ∧ i ≤ ds.length ∧ ∃ acc S', I i acc S' ∧ S'.length = S1.length ∧ Gr (A1 ++ [p]) (S1 ++ [.ls []]) (upd H1 p (.lst [])) (A1 ++ [p]) (S' ++ [.ls acc]) H' ∧ SOk K (A1 ++ [p]) (S' ++ [.ls acc]) H', ⟨ds.length, by simp, Nat.zero_le _, [], S1, i0, rfl, .refl, sop⟩, ?_⟩
    rintro i m H' ⟨rfl, hi, acc, S', hI, hl, g2, so2⟩
    have ap : (A1 ++ [p])[S'.length]? = some p := by
      rw [hl, ← la, List.getElem?_append_right (Nat.le_refl _), Nat.sub_self]
      rfl
    have sp : ∀ (S' : Store) (acc : List D), (S' ++ [MO.ls acc])[S'.length]? = some (.ls acc) := fun S' acc => by
      rw [List.getElem?_append_right (Nat.le_refl _), Nat.sub_self]
      rfl
    have g12 := gp.trans g2
    obtain ⟨go, stop⟩ := it _ H' g12.gw fun a l => so2.dom l
    by_cases lt : i < ds.length
    · obtain ⟨go1, go2⟩ := go i ds[i] (List.getElem?_eq_getElem lt)
      refine .inr ⟨go1, fun H5 => ∃ acc S5, I (i + 1) acc S5 ∧ S5.length = S1.length ∧ Gr (A1 ++ [p]) (S1 ++ [.ls []]) (upd H1 p (.lst [])) (A1 ++ [p]) (S5 ++ [.ls acc]) H5 ∧ SOk K (A1 ++ [p]) (S5 ++ [.ls acc]) H5, fun H5 q => ⟨ds.length - (i + 1), by omega, rfl, lt, q⟩, fun x H3 y => ?_⟩
      obtain ⟨e3, rx⟩ := go2 x H3 y
      have so3 := so2.ex e3
      have g13 : Gr A S H (A1 ++ [p]) (S' ++ [.ls acc]) H3 := (g1.trans g12).trans (Gr.ex e3)
      have gq3 := g2.trans (Gr.ex (A := A1 ++ [p]) (S := S' ++ [.ls acc]) e3)
      obtain ⟨la, hw⟩ := lc.step i ds[i] acc S' (List.getElem?_eq_getElem lt) hl hI
      refine hw (A1 ++ [p]) (L2.wipe σ vs) H3 x ⟨so3, (f.en.go g13).wipe vs, Z.mono f.xo g13⟩ rx _ fun ρ2 σ2 hw l2 s2 en2 => ⟨wipe_same l2 s2, hw (A1 ++ [p]) σ2 H3 ⟨so3, en2, Z.mono f.xo g13⟩ _ fun b S4 A4 H4 hb g4 so4 => ?_⟩
      have pre4 := g4.pre
      cases b with
      | false =>
        obtain ⟨S5, e5, l5, hI5⟩ := hb.2 rfl
        subst e5
        have ea : A4 = A1 ++ [p] := pre_eq pre4 (by rw [so4.len, List.length_append, List.length_append]; simp; omega)
        subst ea
        exact ⟨acc, S5, hI5, l5, gq3.trans g4, so4⟩
      | true =>
        refine hb.1 rfl A4 σ2 H4 ⟨so4, en2.go g4, Z.mono (Z.mono f.xo g13) g4⟩ _ fun r S6 A6 v H6 ⟨y, S5, er, e5, l5, hI5⟩ g6 so6 r6 => ?_
        subst er e5
        have pre6 := pre4.trans g6.pre
        have ea : A6 = A1 ++ [p] := pre_eq pre6 (by rw [so6.len, List.length_append, List.length_append]; simp; omega)
        subst ea
        have ap6 : (A1 ++ [p])[S5.length]? = some p := by
          rw [l5, ← hl]
          exact ap
        obtain ⟨xs, hx, l⟩ := so6.ok _ p _ ap6 (sp S5 acc)
        obtain ⟨so7, g7⟩ := so6.put (m' := .ls (acc ++ [y])) (o := .lst (xs ++ [v])) ap6 (sp S5 acc) nofun nofun fun X _ g => ⟨_, upd_same, (RepL.go g l).append (.cons (Rep.go g r6) .nil)⟩
        have es : (S5 ++ [MO.ls acc]).set S5.length (.ls (acc ++ [y])) = S5 ++ [MO.ls (acc ++ [y])] := by
          rw [List.set_append_right _ _ (Nat.le_refl _), Nat.sub_self]
          rfl
        rw [es] at so7 g7
        exact ⟨xs, hx, sz_lt (by rw [← l.length]; exact la), acc ++ [y], S5, hI5, l5, ((gq3.trans g4).trans g6).trans g7, so7⟩
    · have ei : i = ds.length := by omega
      subst ei
      obtain ⟨xs, hx, l⟩ := so2.ok _ p _ ap (sp S' acc)
      obtain ⟨so3, g3⟩ := so2.cut
      have et : (S' ++ [MO.ls acc]).take A1.length = S' := by
        rw [la, ← hl, List.take_left]
      rw [et] at so3 g3
      have np : ¬ Lv A1 S' p := fun ⟨k, m, hk, _⟩ => by
        have lk := (List.getElem?_eq_some_iff.mp hk).1
        have h1 : (A1 ++ [p])[k]? = some p := by
          rw [List.getElem?_append_left lk]
          exact hk
        have := nd_inj so2.nd h1 ap
        omega
      exact .inl ⟨stop, q _ S' A1 _ H' (fin acc S' hl hI) ⟨g1.pre, (g1.gw.trans (gp.gw.trans g2.gw)).trans g3⟩ so3 (.lst np hx (l.go g3))⟩
/-- each turn gives what es tells, and leaves the store -/
theorem wp_lcM {vs : List Nat} (h : WpI K wi ρ S fun ds S1 => ∃ es : List D, es.length = ds.length ∧ ds.length < 100000 ∧ (∀ (i : Nat) (d e : D) (S0 : Store), ds[i]? = some d → es[i]? = some e → WpGc K g (.dat d) (wipeR ρ vs) S0 vs fun ρ2 => ∀ Φ : R → Store → Prop, Φ (.dat e) S0 → Wp K te ρ2 S0 Φ) ∧ Φ (.dat (.lst es)) S1) : Wp K (tLc wi g tYes te vs) ρ S Φ :=
  wp_lc fun A σ H f Q q => h A σ H f Q fun ds S1 A1 J H1 ⟨es, el, lt, st, k⟩ => q ds S1 A1 J H1 ⟨fun i acc S' => acc = es.take i ∧ S' = S1, ⟨by simp, rfl⟩, ⟨fun i d acc S' hd hl ⟨ea, e2⟩ => by
    subst ea e2
    have li := (List.getElem?_eq_some_iff.mp hd).1
    have le : i < es.length := by omega
    refine ⟨by rw [List.length_take]; omega, fun A σ H v f rr Q q => st i d es[i] _ hd (List.getElem?_eq_getElem le) A σ H v f rr Q fun ρ2 σ2 k2 => q ρ2 σ2 (wt_yes ⟨fun _ => k2 _ ⟨es[i], S', rfl, rfl, rfl, ?_, rfl⟩, nofun⟩)⟩
    rw [List.take_succ, List.getElem?_eq_getElem le]
    rfl⟩, fun acc S' _ ⟨ea, e2⟩ => by
    subst ea e2
    rw [← el, List.take_length]
    exact k⟩
/-- .. some turns give nothing -/
theorem wp_lcF {vs : List Nat} (h : WpI K wi ρ S fun ds S1 => ∃ es : List (Option D), es.length = ds.length ∧ ds.length < 100000 ∧ (∀ (i : Nat) (d : D) (e : Option D) (S0 : Store), ds[i]? = some d → es[i]? = some e → WpGc K g (.dat d) (wipeR ρ vs) S0 vs fun ρ2 =>
      ∀ Φ : Bool → Store → Prop, Φ e.isSome S0 → WpT K tt ρ2 S0 Φ ∧ ∀ y, e = some y → ∀ Φ : R → Store → Prop, Φ (.dat y) S0 → Wp K te ρ2 S0 Φ) ∧ Φ (.dat (.lst (es.filterMap id))) S1) : Wp K (tLc wi g tt te vs) ρ S Φ :=
  wp_lc fun A σ H f Q q => h A σ H f Q fun ds S1 A1 J H1 ⟨es, el, lt, st, k⟩ => q ds S1 A1 J H1 ⟨fun i acc S' => acc = (es.take i).filterMap id ∧ S' = S1, ⟨by simp, rfl⟩, ⟨fun i d acc S' hd hl ⟨ea, e2⟩ => by
    subst ea e2
    have li := (List.getElem?_eq_some_iff.mp hd).1
    have le : i < es.length := by omega
    have ll : ((es.take i).filterMap id).length ≤ i := by
      have h1 := List.length_filterMap_le id (es.take i)
      rw [List.length_take] at h1
      omega
    have tk : es.take (i + 1) = es.take i ++ [es[i]] := by
      rw [List.take_succ, List.getElem?_eq_getElem le]
      rfl
    refine ⟨by omega, fun A σ H v f rr Q q => st i d es[i] _ hd (List.getElem?_eq_getElem le) A σ H v f rr Q fun ρ2 σ2 k2 => q ρ2 σ2 ((k2 _ ?_).1)⟩
    refine ⟨fun hs => ?_, fun hs => ?_⟩
    · obtain ⟨y, ey⟩ := Option.isSome_iff_exists.mp hs
      refine (k2 (fun _ _ => True) trivial).2 y ey _ ⟨y, S', rfl, rfl, rfl, ?_, rfl⟩
      rw [tk, List.filterMap_append, ey]
      rfl
    · have ey : es[i] = none := by simpa using hs
      refine ⟨S', rfl, rfl, ?_, rfl⟩
      rw [tk, List.filterMap_append, ey]
      simp⟩, fun acc S' _ ⟨ea, e2⟩ => by
    subst ea e2
    rw [← el, List.take_length]
    exact k⟩
/-! ### calls -/
/-- what a def does, told without heaps: of its arguments, the store, what is wanted -/
abbrev Sd := List R → Store → (D → Store → Prop) → Prop
def lift (K : PySem.W.Frag) (sd : Sd) : Sp := fun vs H Q _ => ∃ (A : List Addr) (S : Store) (rs : List R) (Φ : D → Store → Prop), SOk K A S H ∧ RepRs K A S H rs vs ∧ sd rs S Φ ∧
  ∀ (d : D) (S' : Store) (v : V) (H' : Hp), Φ d S' → Gw (Lv A S) H (Lv A S') H' → SOk K A S' H' → Rep K (Lv A S') H' d v → Q v H'
theorem wp_call {sd : Sd} {E : XK} (h : WpA K tl ρ S fun rs S1 => sd rs S1 fun d S2 => Φ (.dat d) S2) : Wp K (tCall (lift K sd) [] E tl) ρ S Φ := fun A σ H f Q q =>
  h A σ H f _ fun rs S1 A1 vs H1 hs g1 so1 rr => ⟨A1, S1, rs, _, so1, by rw [List.append_nil]; exact rr, hs, fun d S' v H' k g so r => q _ S' A1 v H' k ⟨g1.pre, g1.gw.trans g⟩ so r⟩
def Me (K : PySem.W.Frag) (C : Addr) (m : Str) (x : R) (Φ : Prop) : Prop := ∃ c fs, x = .dat (.ins c fs) ∧ He.ga K c = C ∧ fs.lookup m = none ∧ Φ
theorem wp_meth {sd : Sd} {E : XK} {C : Addr} {m : Str} (h : Wp K ta ρ S fun x S1 => Me K C m x (WpA K tl ρ S1 fun rs S2 => sd (x :: rs) S2 fun d S3 => Φ (.dat d) S3)) : Wp K (tMeth C m (lift K sd) [] E ta tl) ρ S Φ := fun A σ H f Q q =>
  h A σ H f _ fun x S1 A1 v H1 ⟨c, fs, ex, ec, hn, hw⟩ g1 so1 rx => by
    subst ex ec
    cases rx with
    | @ins a dx _ _ gs n hx rf =>
      refine ⟨_, dx, gs, rfl, hx, rf.no hn, hw A1 σ H1 (f.go g1 so1) _ fun rs S2 A2 vs H2 hs g2 so2 rr => ⟨A2, S2, _, _, so2, .cons (RepR.go (r := .dat (.ins c fs)) g2 (.ins n hx rf)) (by rw [List.append_nil]; exact rr), hs, fun d S' v H' k g so r => q _ S' A2 v H' k ⟨(g1.trans g2).pre, (g1.trans g2).gw.trans g⟩ so r⟩⟩
/-- behind a def's body -/
def retR (Φ : D → Store → Prop) (n : Nat) (r : R) (S' : Store) : Prop := match r with | .dat d => Φ d (S'.take n) | .mu k => ∃ ds, n ≤ k ∧ S'[k]? = some (.ls ds) ∧ Φ (.lst ds) (S'.take n) | .no => False
def retN (Φ : D → Store → Prop) (n : Nat) : PR := fun _ S' => Φ .non (S'.take n)
def noP : PR := fun _ _ => False
theorem rr_dat {Φ : D → Store → Prop} {d : D} (k : Φ d S) : retR Φ S.length (.dat d) S := by
  show Φ d (S.take S.length)
  rw [List.take_length]
  exact k
theorem rr_len {Φ : D → Store → Prop} {d : D} {n : Nat} (h : S.length = n) (k : Φ d S) : retR Φ n (.dat d) S := by
  subst h
  exact rr_dat k
/-- the new list is told as data -/
theorem rr_mu {Φ : D → Store → Prop} {ds : List D} {n j : Nat} (h : S.length = n) (hj : n = j) (k : Φ (.lst ds) S) : retR Φ n (.mu j) (S ++ [.ls ds]) := by
  subst h hj
  refine ⟨ds, Nat.le_refl _, ?_, ?_⟩
  · rw [List.getElem?_append_right (Nat.le_refl _), Nat.sub_self]
    rfl
  · rw [List.take_left]
    exact k
theorem start_ok {N : List Str} {rs : List R} {vs : List V} (r : RepRs K A S H rs vs) (n : Nat) (hn : n = N.length - rs.length) : EnvOk K A S H (rs ++ List.replicate n .no) (L2.start N vs) := by
  have hl : rs.length = vs.length := Paired.length r
  refine ⟨?_, fun i q e => ?_⟩
  · unfold L2.start
    rw [List.length_append, List.length_append, List.length_map, List.length_replicate, List.length_replicate, hn, hl]
  · by_cases lt : i < rs.length
    · rw [List.getElem?_append_left lt] at e
      have go : ∀ {rs : List R} {vs : List V} {i : Nat}, RepRs K A S H rs vs → rs[i]? = some q → ∃ v, vs[i]? = some v ∧ RepR K A S H q v := by
        intro rs vs i r e
        induction rs generalizing vs i with
        | nil => simp at e
        | cons x rs ih =>
          cases r with
          | cons a b =>
            cases i with
            | zero => simp at e; subst e; exact ⟨_, rfl, a⟩
            | succ i => simpa using ih b (by simpa using e)
      obtain ⟨v, hv, rv⟩ := go r e
      refine .inr ⟨v, ?_, rv⟩
      unfold L2.start
      rw [List.getElem?_append_left (by rw [List.length_map, ← hl]; exact lt), List.getElem?_map, hv]
      rfl
    · rw [List.getElem?_append_right (by omega)] at e
      exact .inl (List.eq_of_mem_replicate (List.mem_of_getElem? e))
end
end Dl
/-! Operations on data. -/
namespace Dl
open PySem PySem.Spec PyProof.Rows L2 _root_.Evl
section
variable {K : PySem.W.Frag} {A : List Addr} {S : Store} {H H' : Hp} {X : Addr → Prop} {Φ : R → Prop}
theorem op2_val {r : R2} {x y z : R} (h : ∀ (A : List Addr) (H : Hp) (v w : V), SOk K A S H → RepR K A S H x v → RepR K A S H y w → ∃ u, RepR K A S H z u ∧ ∀ Q : VK, Q u H → r v w H Q) (k : Φ z) : Op2 K r x y S Φ := fun A H v w so rx ry Q q => by
  obtain ⟨u, ru, hr⟩ := h A H v w so rx ry
  exact hr Q (q z u H k (Ex.refl _) ru)
theorem cb_val {r : List V → Hp → VK → Prop} {xs : List R} {z : R} (h : ∀ (A : List Addr) (H : Hp) (vs : List V), SOk K A S H → RepRs K A S H xs vs → ∃ u, RepR K A S H z u ∧ ∀ Q : VK, Q u H → r vs H Q) (k : Φ z) : Cb K r xs S Φ := fun A H vs so rx Q q => by
  obtain ⟨u, ru, hr⟩ := h A H vs so rx
  exact hr Q (q z u H k (Ex.refl _) ru)
theorem reps1 {x : R} {vs : List V} (r : RepRs K A S H [x] vs) : ∃ v, vs = [v] ∧ RepR K A S H x v := by
  cases r with
  | cons a b => cases b; exact ⟨_, rfl, a⟩
theorem reps2 {x y : R} {vs : List V} (r : RepRs K A S H [x, y] vs) : ∃ v w, vs = [v, w] ∧ RepR K A S H x v ∧ RepR K A S H y w := by
  cases r with
  | cons a b => cases b with | cons b c => cases c; exact ⟨_, _, rfl, a, b⟩
/-! ints -/
theorem o_Ii {i j : Int} {g : Int → Int → Int} (k : Φ (.dat (.int (g i j)))) : Op2 K (rI0 fun i j => .int (g i j)) (.dat (.int i)) (.dat (.int j)) S Φ := op2_val (fun A H v w so rx ry => by
  obtain rfl := rep_int rx
  obtain rfl := rep_int ry
  exact ⟨_, Rep.int _, fun Q q => ⟨i, j, rfl, rfl, q⟩⟩) k
theorem o_Ib {i j : Int} {g : Int → Int → Bool} (k : Φ (.dat (.bl (g i j)))) : Op2 K (rI0 fun i j => .bl (g i j)) (.dat (.int i)) (.dat (.int j)) S Φ := op2_val (fun A H v w so rx ry => by
  obtain rfl := rep_int rx
  obtain rfl := rep_int ry
  exact ⟨_, Rep.bl _, fun Q q => ⟨i, j, rfl, rfl, q⟩⟩) k
theorem o_Ci {C : Int → Int → Prop} {i j : Int} {g : Int → Int → Int} (hc : C i j) (k : Φ (.dat (.int (g i j)))) : Op2 K (rI C fun i j => .int (g i j)) (.dat (.int i)) (.dat (.int j)) S Φ := op2_val (fun A H v w so rx ry => by
  obtain rfl := rep_int rx
  obtain rfl := rep_int ry
  exact ⟨_, Rep.int _, fun Q q => ⟨i, j, rfl, rfl, hc, q⟩⟩) k
theorem o_powL {i j : Int} (h1 : 0 ≤ j) (h2 : j ≤ 1000000) (h3 : i.natAbs < 2 ^ 64) (k : Φ (.dat (.int (i ^ j.toNat)))) : Op2 K (rI CPow fun i j => .int (i ^ j.toNat)) (.dat (.int i)) (.dat (.int j)) S Φ := o_Ci ⟨h1, h2, h3⟩ k
theorem o_mod {i j : Int} (h : 0 < j) (k : Φ (.dat (.int (i % j)))) : Op2 K (rI (fun _ j => 0 < j) fun i j => .int (i % j)) (.dat (.int i)) (.dat (.int j)) S Φ := o_Ci h k
theorem o_mul {i j : Int} (n m : Nat) (hi : i.natAbs < 2 ^ n) (hj : j.natAbs < 2 ^ m) (h : n + m < 999990) (k : Φ (.dat (.int (i * j)))) : Op2 K (rI CMulW fun i j => .int (i * j)) (.dat (.int i)) (.dat (.int j)) S Φ := o_Ci (wide_mul (a := n + 1) (b := m + 1) (pow_big hi (by omega)) (pow_big hj (by omega)) (by omega) (by omega) (by omega)) k
/-- a small factor -/
theorem o_mulS {i j : Int} (hi : i.natAbs < 2 ^ 64) (hj : j.natAbs < 2 ^ 64) (k : Φ (.dat (.int (i * j)))) : Op2 K (rI CMulW fun i j => .int (i * j)) (.dat (.int i)) (.dat (.int j)) S Φ := o_mul 64 64 hi hj (by decide) k
theorem o_fdiv {i j : Int} (n : Nat) (h : 0 < j) (hj : j.natAbs < 2 ^ n) (hn : n < 9000) (k : Φ (.dat (.int (i / j)))) : Op2 K (rI CDivW fun i j => .int (i / j)) (.dat (.int i)) (.dat (.int j)) S Φ := o_Ci (wide_div (b := n + 1) h (pow_big hj (by omega)) (by omega) (by omega)) k
theorem o_divC {i j : Int} (h : 0 < j) (h' : j < 1073741824) (k : Φ (.dat (.int (i / j)))) : Op2 K (rI CDiv fun i j => .int (i / j)) (.dat (.int i)) (.dat (.int j)) S Φ := o_Ci ⟨h, h'⟩ k
theorem o_fdivS {i j : Int} (h : 0 < j) (hj : j.natAbs < 2 ^ 64) (k : Φ (.dat (.int (i / j)))) : Op2 K (rI CDivW fun i j => .int (i / j)) (.dat (.int i)) (.dat (.int j)) S Φ := o_fdiv 64 h hj (by decide) k
theorem u_neg {i : Int} (k : Φ (.dat (.int (-i)))) : Op1 K (rU fun i => .int (-i)) (.dat (.int i)) S Φ := fun A H v so rx Q q => by
  obtain rfl := rep_int rx
  exact ⟨i, rfl, q _ _ H k (Ex.refl _) (.int _)⟩
theorem ip_I {i j : Int} {f : Int → Int → Int} (k : Φ (.dat (.int (f i j)))) : Op2 K (ipI f) (.dat (.int i)) (.dat (.int j)) S Φ := op2_val (fun A H v w so rx ry => by
  obtain rfl := rep_int rx
  obtain rfl := rep_int ry
  exact ⟨_, Rep.int _, fun Q q => ⟨i, j, rfl, rfl, q⟩⟩) k
/-! equality of flat things -/
theorem o_eqI {i j : Int} (k : Φ (.dat (.bl (decide (i = j))))) : Op2 K rEq (.dat (.int i)) (.dat (.int j)) S Φ := op2_val (fun A H v w so rx ry => by
  obtain rfl := rep_int rx
  obtain rfl := rep_int ry
  exact ⟨_, Rep.bl _, fun Q q => ⟨rfl, by rw [show decide (V.int i = V.int j) = decide (i = j) from by simp]; exact q⟩⟩) k
theorem o_neI {i j : Int} (k : Φ (.dat (.bl (!decide (i = j))))) : Op2 K rNe (.dat (.int i)) (.dat (.int j)) S Φ := op2_val (fun A H v w so rx ry => by
  obtain rfl := rep_int rx
  obtain rfl := rep_int ry
  exact ⟨_, Rep.bl _, fun Q q => ⟨rfl, by rw [show decide (V.int i = V.int j) = decide (i = j) from by simp]; exact q⟩⟩) k
theorem o_eqS {i j : Str} (k : Φ (.dat (.bl (decide (i = j))))) : Op2 K rEq (.dat (.str i)) (.dat (.str j)) S Φ := op2_val (fun A H v w so rx ry => by
  obtain rfl := rep_str rx
  obtain rfl := rep_str ry
  exact ⟨_, Rep.bl _, fun Q q => ⟨rfl, by rw [show decide (V.str i = V.str j) = decide (i = j) from by simp]; exact q⟩⟩) k
theorem o_neS {i j : Str} (k : Φ (.dat (.bl (!decide (i = j))))) : Op2 K rNe (.dat (.str i)) (.dat (.str j)) S Φ := op2_val (fun A H v w so rx ry => by
  obtain rfl := rep_str rx
  obtain rfl := rep_str ry
  exact ⟨_, Rep.bl _, fun Q q => ⟨rfl, by rw [show decide (V.str i = V.str j) = decide (i = j) from by simp]; exact q⟩⟩) k
theorem o_eqB {i j : Bool} (k : Φ (.dat (.bl (decide (i = j))))) : Op2 K rEq (.dat (.bl i)) (.dat (.bl j)) S Φ := op2_val (fun A H v w so rx ry => by
  obtain rfl := rep_bl rx
  obtain rfl := rep_bl ry
  exact ⟨_, Rep.bl _, fun Q q => ⟨rfl, by rw [show decide (V.bl i = V.bl j) = decide (i = j) from by simp]; exact q⟩⟩) k
theorem o_neB {i j : Bool} (k : Φ (.dat (.bl (!decide (i = j))))) : Op2 K rNe (.dat (.bl i)) (.dat (.bl j)) S Φ := op2_val (fun A H v w so rx ry => by
  obtain rfl := rep_bl rx
  obtain rfl := rep_bl ry
  exact ⟨_, Rep.bl _, fun Q q => ⟨rfl, by rw [show decide (V.bl i = V.bl j) = decide (i = j) from by simp]; exact q⟩⟩) k
/-! None -/
def D.isNon : D → Bool
  | .non => true
  | _ => false
theorem rep_isNon {d : D} {v : V} (h : Rep K X H d v) : decide (v = .non) = d.isNon := by
  cases h <;> rfl
theorem o_isN {d : D} (k : Φ (.dat (.bl d.isNon))) : Op2 K (fun x y H Q => y = .non ∧ Q (.bl (decide (x = .non))) H) (.dat d) (.dat .non) S Φ := op2_val (fun A H v w so rx ry => by
  obtain rfl := rep_non ry
  exact ⟨_, Rep.bl _, fun Q q => ⟨rfl, by rw [rep_isNon rx]; exact q⟩⟩) k
theorem o_notN {d : D} (k : Φ (.dat (.bl (!d.isNon)))) : Op2 K (fun x y H Q => y = .non ∧ Q (.bl (!decide (x = .non))) H) (.dat d) (.dat .non) S Φ := op2_val (fun A H v w so rx ry => by
  obtain rfl := rep_non ry
  exact ⟨_, Rep.bl _, fun Q q => ⟨rfl, by rw [rep_isNon rx]; exact q⟩⟩) k
/-! items -/
theorem RepL.atI {ds : List D} {xs : List V} {i : Int} {d : D} (l : RepL K X H ds xs) (h : atI ds i = some d) : ∃ v, L2.atI xs i = some v ∧ Rep K X H d v := by
  unfold L2.atI at h ⊢
  rw [← l.length]
  cases e : ixN ds.length i with
  | none => rw [e] at h; cases h
  | some j => rw [e] at h; exact l.get h
theorem at_nat {ds : List D} {n : Nat} {d : D} (h : ds[n]? = some d) : atI ds (n : Int) = some d := atI_nat h
theorem at_zero {x : D} {ds : List D} : atI (x :: ds) 0 = some x := at_nat (n := 0) rfl
theorem at_one {x y : D} {ds : List D} : atI (x :: y :: ds) 1 = some y := at_nat (n := 1) rfl
theorem at_two {x y z : D} {ds : List D} : atI (x :: y :: z :: ds) 2 = some z := at_nat (n := 2) rfl
theorem at_int {ds : List D} {i : Int} (h0 : 0 ≤ i) (h1 : i < ds.length) : atI ds i = some (ds[i.toNat]'(by omega)) := by
  obtain ⟨n, rfl⟩ := Int.eq_ofNat_of_zero_le h0
  exact at_nat (List.getElem?_eq_getElem (by omega))
theorem o_ixT {ds : List D} {i : Int} {d : D} (h : atI ds i = some d) (k : Φ (.dat d)) : Op2 K (rIxT K) (.dat (.tup ds)) (.dat (.int i)) S Φ := op2_val (fun A H v w so rx ry => by
  obtain rfl := rep_int ry
  obtain ⟨a, xs, rfl, sq, l⟩ := rep_tup rx
  obtain ⟨v, hv, rv⟩ := l.atI h
  exact ⟨v, rv, fun Q q => ⟨a, xs, i, v, rfl, rfl, sq, hv, q⟩⟩) k
theorem o_ixF {ds : List D} {i : Int} {d : D} (h : atI ds i = some d) (k : Φ (.dat d)) : Op2 K (rIxT K) (.dat (.ftup ds)) (.dat (.int i)) S Φ := op2_val (fun A H v w so rx ry => by
  obtain rfl := rep_int ry
  obtain ⟨a, xs, rfl, sq, l⟩ := rep_ftup rx
  obtain ⟨v, hv, rv⟩ := l.atI h
  exact ⟨v, rv, fun Q q => ⟨a, xs, i, v, rfl, rfl, sq, hv, q⟩⟩) k
theorem o_ixL {ds : List D} {i : Int} {d : D} (h : atI ds i = some d) (k : Φ (.dat d)) : Op2 K (rIxL K) (.dat (.lst ds)) (.dat (.int i)) S Φ := op2_val (fun A H v w so rx ry => by
  obtain rfl := rep_int ry
  obtain ⟨a, xs, rfl, sq, l⟩ := rep_lst rx
  obtain ⟨v, hv, rv⟩ := l.atI h
  exact ⟨v, rv, fun Q q => ⟨a, xs, i, v, rfl, rfl, sq, hv, q⟩⟩) k
theorem o_ixFl {ds : List D} {i : Int} {d : D} (h : atI ds i = some d) (k : Φ (.dat d)) : Op2 K (rIxL K) (.dat (.flst ds)) (.dat (.int i)) S Φ := op2_val (fun A H v w so rx ry => by
  obtain rfl := rep_int ry
  obtain ⟨a, xs, rfl, sq, l⟩ := rep_flst rx
  obtain ⟨v, hv, rv⟩ := l.atI h
  exact ⟨v, rv, fun Q q => ⟨a, xs, i, v, rfl, rfl, sq, hv, q⟩⟩) k
theorem rep_mu {j : Nat} {v : V} {ds : List D} (so : SOk K A S H) (r : RepR K A S H (.mu j) v) (h : S[j]? = some (.ls ds)) : ∃ a xs, v = .ref a ∧ H a = some (.lst xs) ∧ RepL K (Lv A S) H ds xs := by
  obtain ⟨a, ha, rfl⟩ := r
  obtain ⟨xs, hx, l⟩ := so.ok j a _ ha h
  exact ⟨a, xs, rfl, hx, l⟩
theorem o_ixM {j : Nat} {ds : List D} {i : Int} {d : D} (hj : S[j]? = some (.ls ds)) (h : atI ds i = some d) (k : Φ (.dat d)) : Op2 K (rIxL K) (.mu j) (.dat (.int i)) S Φ := op2_val (fun A H v w so rx ry => by
  obtain rfl := rep_int ry
  obtain ⟨a, xs, rfl, hx, l⟩ := rep_mu so rx hj
  obtain ⟨v, hv, rv⟩ := l.atI h
  exact ⟨v, rv, fun Q q => ⟨a, xs, i, v, rfl, rfl, sq_of hx, hv, q⟩⟩) k
theorem o_ixS {z : Str} {i : Int} {c : Nat} (hz : z.length ≤ 100000) (h : atI z.cps.toList i = some c) (k : Φ (.dat (.str ⟨#[c]⟩))) : Op2 K rIxS (.dat (.str z)) (.dat (.int i)) S Φ := op2_val (fun A H v w so rx ry => by
  obtain rfl := rep_str rx
  obtain rfl := rep_int ry
  exact ⟨_, Rep.str _, fun Q q => ⟨z, i, c, rfl, rfl, sz_of hz, h, q⟩⟩) k
/-! len -/
abbrev rLen (K : PySem.W.Frag) : List V → Hp → VK → Prop := fun xs H Q => ∃ p ys, xs = [.ref p] ∧ (SqL K H p ys ∨ SqT K H p ys) ∧ Q (.int (ys.length : Nat)) H
theorem c_lenT {ds : List D} (k : Φ (.dat (.int (ds.length : Nat)))) : Cb K (fun xs H Q => ∃ p ys, xs = [.ref p] ∧ (SqL K H p ys ∨ SqT K H p ys) ∧ Q (.int (ys.length : Nat)) H) [.dat (.tup ds)] S Φ := cb_val (fun A H vs so rx => by
  obtain ⟨v, rfl, r⟩ := reps1 rx
  obtain ⟨a, xs, rfl, sq, l⟩ := rep_tup r
  exact ⟨.int (ds.length : Nat), .int _, fun Q q => ⟨a, xs, rfl, .inr sq, by rw [← l.length]; exact q⟩⟩) k
theorem c_lenF {ds : List D} (k : Φ (.dat (.int (ds.length : Nat)))) : Cb K (fun xs H Q => ∃ p ys, xs = [.ref p] ∧ (SqL K H p ys ∨ SqT K H p ys) ∧ Q (.int (ys.length : Nat)) H) [.dat (.ftup ds)] S Φ := cb_val (fun A H vs so rx => by
  obtain ⟨v, rfl, r⟩ := reps1 rx
  obtain ⟨a, xs, rfl, sq, l⟩ := rep_ftup r
  exact ⟨.int (ds.length : Nat), .int _, fun Q q => ⟨a, xs, rfl, .inr sq, by rw [← l.length]; exact q⟩⟩) k
theorem c_lenL {ds : List D} (k : Φ (.dat (.int (ds.length : Nat)))) : Cb K (fun xs H Q => ∃ p ys, xs = [.ref p] ∧ (SqL K H p ys ∨ SqT K H p ys) ∧ Q (.int (ys.length : Nat)) H) [.dat (.lst ds)] S Φ := cb_val (fun A H vs so rx => by
  obtain ⟨v, rfl, r⟩ := reps1 rx
  obtain ⟨a, xs, rfl, sq, l⟩ := rep_lst r
  exact ⟨.int (ds.length : Nat), .int _, fun Q q => ⟨a, xs, rfl, .inl sq, by rw [← l.length]; exact q⟩⟩) k
theorem c_lenFl {ds : List D} (k : Φ (.dat (.int (ds.length : Nat)))) : Cb K (fun xs H Q => ∃ p ys, xs = [.ref p] ∧ (SqL K H p ys ∨ SqT K H p ys) ∧ Q (.int (ys.length : Nat)) H) [.dat (.flst ds)] S Φ := cb_val (fun A H vs so rx => by
  obtain ⟨v, rfl, r⟩ := reps1 rx
  obtain ⟨a, xs, rfl, sq, l⟩ := rep_flst r
  exact ⟨.int (ds.length : Nat), .int _, fun Q q => ⟨a, xs, rfl, .inl sq, by rw [← l.length]; exact q⟩⟩) k
theorem c_lenM {j : Nat} {ds : List D} (hj : S[j]? = some (.ls ds)) (k : Φ (.dat (.int (ds.length : Nat)))) : Cb K (fun xs H Q => ∃ p ys, xs = [.ref p] ∧ (SqL K H p ys ∨ SqT K H p ys) ∧ Q (.int (ys.length : Nat)) H) [.mu j] S Φ := cb_val (fun A H vs so rx => by
  obtain ⟨v, rfl, r⟩ := reps1 rx
  obtain ⟨a, xs, rfl, hx, l⟩ := rep_mu so r hj
  exact ⟨.int (ds.length : Nat), .int _, fun Q q => ⟨a, xs, rfl, .inl (sq_of hx), by rw [← l.length]; exact q⟩⟩) k
theorem c_lenS {z : Str} (hz : z.length ≤ 100000) (k : Φ (.dat (.int (z.length : Nat)))) : Cb K (fun xs H Q => ∃ z, xs = [.str z] ∧ z.length ≤ sizeLine ∧ Q (.int (z.length : Nat)) H) [.dat (.str z)] S Φ := cb_val (fun A H vs so rx => by
  obtain ⟨v, rfl, r⟩ := reps1 rx
  obtain rfl := rep_str r
  exact ⟨_, Rep.int _, fun Q q => ⟨z, rfl, sz_of hz, q⟩⟩) k
/-! abs, max, min, int -/
theorem c_abs {i : Int} (k : Φ (.dat (.int (i.natAbs : Nat)))) : Cb K (fun xs H Q => ∃ i, xs = [.int i] ∧ Q (.int (if i < 0 then -i else i)) H) [.dat (.int i)] S Φ := cb_val (fun A H vs so rx => by
  obtain ⟨v, rfl, r⟩ := reps1 rx
  obtain rfl := rep_int r
  have e : (if i < 0 then -i else i) = (i.natAbs : Int) := by
    by_cases h : i < 0
    · rw [if_pos h]
      omega
    · rw [if_neg h]
      omega
  exact ⟨_, Rep.int _, fun Q q => ⟨i, rfl, by rw [e]; exact q⟩⟩) k
theorem c_max {i j : Int} (k : Φ (.dat (.int (max i j)))) : Cb K (fun xs H Q => ∃ i j, xs = [.int i, .int j] ∧ Q (.int (if j > i then j else i)) H) [.dat (.int i), .dat (.int j)] S Φ := cb_val (fun A H vs so rx => by
  obtain ⟨v, w, rfl, r1, r2⟩ := reps2 rx
  obtain rfl := rep_int r1
  obtain rfl := rep_int r2
  have e : (if j > i then j else i) = max i j := by
    by_cases h : j > i
    · rw [if_pos h]
      omega
    · rw [if_neg h]
      omega
  exact ⟨_, Rep.int _, fun Q q => ⟨i, j, rfl, by rw [e]; exact q⟩⟩) k
theorem c_min {i j : Int} (k : Φ (.dat (.int (min i j)))) : Cb K (fun xs H Q => ∃ i j, xs = [.int i, .int j] ∧ Q (.int (if j < i then j else i)) H) [.dat (.int i), .dat (.int j)] S Φ := cb_val (fun A H vs so rx => by
  obtain ⟨v, w, rfl, r1, r2⟩ := reps2 rx
  obtain rfl := rep_int r1
  obtain rfl := rep_int r2
  have e : (if j < i then j else i) = min i j := by
    by_cases h : j < i
    · rw [if_pos h]
      omega
    · rw [if_neg h]
      omega
  exact ⟨_, Rep.int _, fun Q q => ⟨i, j, rfl, by rw [e]; exact q⟩⟩) k
theorem c_intB {b : Bool} (k : Φ (.dat (.int (if b then 1 else 0)))) : Cb K (fun xs H Q => (∃ i, xs = [.int i] ∧ Q (.int i) H) ∨ ∃ k, xs = [.bl k] ∧ Q (.int (if k then 1 else 0)) H) [.dat (.bl b)] S Φ := cb_val (fun A H vs so rx => by
  obtain ⟨v, rfl, r⟩ := reps1 rx
  obtain rfl := rep_bl r
  exact ⟨_, Rep.int _, fun Q q => .inr ⟨b, rfl, q⟩⟩) k
/-! isinstance -/
def D.ty? : D → Option String
  | .non => some "NoneType" | .bl _ => some "bool" | .int _ => some "int" | .str _ => some "str" | .tup _ => some "tuple" | .ftup _ => some "tuple" | .lst _ => some "list" | .flst _ => some "list" | .dic _ => some "dict"
  | .ty _ => none | .glo _ => none | .ins _ _ => none | .exc _ _ => none | .fn _ => none
theorem rep_ty {d : D} {v : V} {t : String} (h : Rep K X H d v) (e : d.ty? = some t) : TyX K H v (.type t) := by
  cases h with
  | non => cases e; exact .base .non
  | bl b => cases e; exact .base (.bl b)
  | int i => cases e; exact .base (.int i)
  | str x => cases e; exact .base (.str x)
  | tup n r l =>
    cases e
    rcases r with r | ⟨o, r⟩
    · exact .base (.tup r)
    · exact .fTuple r
  | ftup n r l => cases e; exact FzT.ty r
  | lst n r l => cases e; exact .base (.lst r)
  | flst n r l =>
    cases e
    rcases r with r | ⟨o, r⟩
    · exact .base (.lst r)
    · exact .base (.frz r)
  | dic n r l => cases e; exact .base (.dK r)
  | ktup r l =>
    cases e
    rcases r (fun _ => none) with (r | ⟨o, r⟩) | ⟨o, its, n, h1, h2, _⟩
    · cases r
    · cases r
    · exact .kTuple h1 h2
  | klst r l =>
    cases e
    rcases r (fun _ => none) with (r | ⟨o, r⟩) | ⟨o, its, n, h1, h2, _⟩
    · cases r
    · cases r
    · exact .kList h1 h2
  | ty n => cases e
  | glo x => cases e
  | ins n h f => cases e
  | exc n m x l => cases e
  | exc0 n x => cases e
  | fn f => cases e
theorem c_isi {d : D} {t n : String} {b : Bool} (e : d.ty? = some t) (hk : kitB t n = some b) (k : Φ (.dat (.bl b))) : Cb K (rIsi K) [.dat d, .dat (.ty n)] S Φ := cb_val (fun A H vs so rx => by
  obtain ⟨v, w, rfl, r1, r2⟩ := reps2 rx
  cases r2
  exact ⟨_, Rep.bl _, fun Q q => ⟨v, .ty n, .type t, .type n, b, rfl, .ty n, rep_ty r1 e, kit_ty hk, q⟩⟩) k
def D.isInt : D → Bool
  | .int _ => true | .bl _ => true | _ => false
def D.isBool : D → Bool
  | .bl _ => true | _ => false
def D.isStr : D → Bool
  | .str _ => true | _ => false
def D.isTup : D → Bool
  | .tup _ => true | .ftup _ => true | _ => false
def D.isLst : D → Bool
  | .lst _ => true | .flst _ => true | _ => false
/-- a thing of a built-in kind -/
def D.Pl (d : D) : Prop := d.ty?.isSome = true
theorem c_isInt {d : D} (h : d.Pl) (k : Φ (.dat (.bl d.isInt))) : Cb K (rIsi K) [.dat d, .dat (.ty "int")] S Φ := by
  cases d <;> first | (cases h; done) | exact c_isi (t := "NoneType") (b := true) rfl (by decide +kernel) k | exact c_isi (t := "NoneType") (b := false) rfl (by decide +kernel) k | exact c_isi (t := "bool") (b := true) rfl (by decide +kernel) k | exact c_isi (t := "bool") (b := false) rfl (by decide +kernel) k | exact c_isi (t := "int") (b := true) rfl (by decide +kernel) k | exact c_isi (t := "int") (b := false) rfl (by decide +kernel) k | exact c_isi (t := "str") (b := true) rfl (by decide +kernel) k | exact c_isi (t := "str") (b := false) rfl (by decide +kernel) k | exact c_isi (t := "tuple") (b := true) rfl (by decide +kernel) k | exact c_isi (t := "tuple") (b := false) rfl (by decide +kernel) k | exact c_isi (t := "list") (b := true) rfl (by decide +kernel) k | exact c_isi (t := "list") (b := false) rfl (by decide +kernel) k | exact c_isi (t := "dict") (b := true) rfl (by decide +kernel) k | exact c_isi (t := "dict") (b := false) rfl (by decide +kernel) k
theorem c_isBool {d : D} (h : d.Pl) (k : Φ (.dat (.bl d.isBool))) : Cb K (rIsi K) [.dat d, .dat (.ty "bool")] S Φ := by
  cases d <;> first | (cases h; done) | exact c_isi (t := "NoneType") (b := true) rfl (by decide +kernel) k | exact c_isi (t := "NoneType") (b := false) rfl (by decide +kernel) k | exact c_isi (t := "bool") (b := true) rfl (by decide +kernel) k | exact c_isi (t := "bool") (b := false) rfl (by decide +kernel) k | exact c_isi (t := "int") (b := true) rfl (by decide +kernel) k | exact c_isi (t := "int") (b := false) rfl (by decide +kernel) k | exact c_isi (t := "str") (b := true) rfl (by decide +kernel) k | exact c_isi (t := "str") (b := false) rfl (by decide +kernel) k | exact c_isi (t := "tuple") (b := true) rfl (by decide +kernel) k | exact c_isi (t := "tuple") (b := false) rfl (by decide +kernel) k | exact c_isi (t := "list") (b := true) rfl (by decide +kernel) k | exact c_isi (t := "list") (b := false) rfl (by decide +kernel) k | exact c_isi (t := "dict") (b := true) rfl (by decide +kernel) k | exact c_isi (t := "dict") (b := false) rfl (by decide +kernel) k
theorem c_isStr {d : D} (h : d.Pl) (k : Φ (.dat (.bl d.isStr))) : Cb K (rIsi K) [.dat d, .dat (.ty "str")] S Φ := by
  cases d <;> first | (cases h; done) | exact c_isi (t := "NoneType") (b := true) rfl (by decide +kernel) k | exact c_isi (t := "NoneType") (b := false) rfl (by decide +kernel) k | exact c_isi (t := "bool") (b := true) rfl (by decide +kernel) k | exact c_isi (t := "bool") (b := false) rfl (by decide +kernel) k | exact c_isi (t := "int") (b := true) rfl (by decide +kernel) k | exact c_isi (t := "int") (b := false) rfl (by decide +kernel) k | exact c_isi (t := "str") (b := true) rfl (by decide +kernel) k | exact c_isi (t := "str") (b := false) rfl (by decide +kernel) k | exact c_isi (t := "tuple") (b := true) rfl (by decide +kernel) k | exact c_isi (t := "tuple") (b := false) rfl (by decide +kernel) k | exact c_isi (t := "list") (b := true) rfl (by decide +kernel) k | exact c_isi (t := "list") (b := false) rfl (by decide +kernel) k | exact c_isi (t := "dict") (b := true) rfl (by decide +kernel) k | exact c_isi (t := "dict") (b := false) rfl (by decide +kernel) k
theorem c_isTup {d : D} (h : d.Pl) (k : Φ (.dat (.bl d.isTup))) : Cb K (rIsi K) [.dat d, .dat (.ty "tuple")] S Φ := by
  cases d <;> first | (cases h; done) | exact c_isi (t := "NoneType") (b := true) rfl (by decide +kernel) k | exact c_isi (t := "NoneType") (b := false) rfl (by decide +kernel) k | exact c_isi (t := "bool") (b := true) rfl (by decide +kernel) k | exact c_isi (t := "bool") (b := false) rfl (by decide +kernel) k | exact c_isi (t := "int") (b := true) rfl (by decide +kernel) k | exact c_isi (t := "int") (b := false) rfl (by decide +kernel) k | exact c_isi (t := "str") (b := true) rfl (by decide +kernel) k | exact c_isi (t := "str") (b := false) rfl (by decide +kernel) k | exact c_isi (t := "tuple") (b := true) rfl (by decide +kernel) k | exact c_isi (t := "tuple") (b := false) rfl (by decide +kernel) k | exact c_isi (t := "list") (b := true) rfl (by decide +kernel) k | exact c_isi (t := "list") (b := false) rfl (by decide +kernel) k | exact c_isi (t := "dict") (b := true) rfl (by decide +kernel) k | exact c_isi (t := "dict") (b := false) rfl (by decide +kernel) k
theorem c_isLst {d : D} (h : d.Pl) (k : Φ (.dat (.bl d.isLst))) : Cb K (rIsi K) [.dat d, .dat (.ty "list")] S Φ := by
  cases d <;> first | (cases h; done) | exact c_isi (t := "NoneType") (b := true) rfl (by decide +kernel) k | exact c_isi (t := "NoneType") (b := false) rfl (by decide +kernel) k | exact c_isi (t := "bool") (b := true) rfl (by decide +kernel) k | exact c_isi (t := "bool") (b := false) rfl (by decide +kernel) k | exact c_isi (t := "int") (b := true) rfl (by decide +kernel) k | exact c_isi (t := "int") (b := false) rfl (by decide +kernel) k | exact c_isi (t := "str") (b := true) rfl (by decide +kernel) k | exact c_isi (t := "str") (b := false) rfl (by decide +kernel) k | exact c_isi (t := "tuple") (b := true) rfl (by decide +kernel) k | exact c_isi (t := "tuple") (b := false) rfl (by decide +kernel) k | exact c_isi (t := "list") (b := true) rfl (by decide +kernel) k | exact c_isi (t := "list") (b := false) rfl (by decide +kernel) k | exact c_isi (t := "dict") (b := true) rfl (by decide +kernel) k | exact c_isi (t := "dict") (b := false) rfl (by decide +kernel) k
/-! all, any -/
theorem repl_bl {bs : List Bool} {xs : List V} (l : RepL K X H (bs.map .bl) xs) : xs = bs.map V.bl := by
  induction bs generalizing xs with
  | nil => cases l; rfl
  | cons b bs ih => cases l with | cons h t => rw [rep_bl h, ih t]; rfl
theorem repl_int {bs : List Int} {xs : List V} (l : RepL K X H (bs.map .int) xs) : xs = bs.map V.int := by
  induction bs generalizing xs with
  | nil => cases l; rfl
  | cons b bs ih => cases l with | cons h t => rw [rep_int h, ih t]; rfl
theorem repl_str {bs : List Str} {xs : List V} (l : RepL K X H (bs.map .str) xs) : xs = bs.map V.str := by
  induction bs generalizing xs with
  | nil => cases l; rfl
  | cons b bs ih => cases l with | cons h t => rw [rep_str h, ih t]; rfl
theorem c_all {ds : List D} {bs : List Bool} (e : ds = bs.map .bl) (k : Φ (.dat (.bl (bs.all id)))) : Cb K (rAll K) [.dat (.lst ds)] S Φ := cb_val (fun A H vs so rx => by
  subst e
  obtain ⟨v, rfl, r⟩ := reps1 rx
  obtain ⟨a, xs, rfl, sq, l⟩ := rep_lst r
  rw [repl_bl l] at sq
  exact ⟨_, Rep.bl _, fun Q q => ⟨a, bs, rfl, sq, q⟩⟩) k
theorem c_any {ds : List D} {bs : List Bool} (e : ds = bs.map .bl) (k : Φ (.dat (.bl (bs.any id)))) : Cb K (rAny K) [.dat (.lst ds)] S Φ := cb_val (fun A H vs so rx => by
  subst e
  obtain ⟨v, rfl, r⟩ := reps1 rx
  obtain ⟨a, xs, rfl, sq, l⟩ := rep_lst r
  rw [repl_bl l] at sq
  exact ⟨_, Rep.bl _, fun Q q => ⟨a, bs, rfl, sq, q⟩⟩) k
end
end Dl
/-! Defs that hand back what may change; the law's pool. -/
namespace Dl
open PySem PySem.Spec PyProof.Rows L2 _root_.Evl
section
variable [Z : Zo] {K : PySem.W.Frag} {A A' A1 A2 : List Addr} {S S' S1 S2 : Store} {H H' H1 H2 : Hp} {ρ : List R} {σ : L2.St} {Φ : R → Store → Prop} {te ta tb tc : TE} {tl : TA} {t u : TS}
abbrev Sdm := List R → Store → (List D → Store → Prop) → Prop
def liftM (K : PySem.W.Frag) (sd : Sdm) : Sp := fun vs H Q _ => ∃ (A : List Addr) (S : Store) (rs : List R) (Φ : List D → Store → Prop), SOk K A S H ∧ RepRs K A S H rs vs ∧ sd rs S Φ ∧
  ∀ (ds : List D) (S' : Store) (p : Addr) (H' : Hp), Φ ds S' → Gr A S H (A ++ [p]) (S' ++ [.ls ds]) H' → SOk K (A ++ [p]) (S' ++ [.ls ds]) H' → Q (.ref p) H'
theorem last_get {α : Type} {A : List α} {p : α} {n : Nat} (h : A.length = n) : (A ++ [p])[n]? = some p := by
  subst h
  rw [List.getElem?_append_right (Nat.le_refl _), Nat.sub_self]
  rfl
theorem wp_callM {sd : Sdm} {E : XK} (h : WpA K tl ρ S fun rs S1 => sd rs S1 fun ds S2 => Φ (.mu S1.length) (S2 ++ [.ls ds])) : Wp K (tCall (liftM K sd) [] E tl) ρ S Φ := fun A σ H f Q q =>
  h A σ H f _ fun rs S1 A1 vs H1 hs g1 so1 rr => ⟨A1, S1, rs, _, so1, by rw [List.append_nil]; exact rr, hs, fun ds S' p H' k g so => q _ _ _ _ H' k (g1.trans g) so ⟨p, last_get so1.len, rfl⟩⟩
def retM (Φ : List D → Store → Prop) (n : Nat) (r : R) (S' : Store) : Prop := ∃ (ds : List D) (S0 : Store), r = .mu n ∧ S' = S0 ++ [.ls ds] ∧ S0.length = n ∧ Φ ds S0
theorem rm_mu {Φ : List D → Store → Prop} {ds : List D} (k : Φ ds S) : retM Φ S.length (.mu S.length) (S ++ [.ls ds]) := ⟨ds, S, rfl, rfl, rfl, k⟩
/-! ### new lists that may change -/
def WpN [Z : Zo] (K : PySem.W.Frag) (te : TE) (ρ : List R) (S : Store) (Φ : List D → Store → Prop) : Prop := ∀ (A : List Addr) (σ : L2.St) (H : Hp), Fr K A S H ρ σ → ∀ Q : VK,
  (∀ (ds : List D) (S' : Store) (A' : List Addr) (p : Addr) (H' : Hp), Φ ds S' → Gr A S H (A' ++ [p]) (S' ++ [.ls ds]) H' → SOk K (A' ++ [p]) (S' ++ [.ls ds]) H' → Q (.ref p) H') → te σ H Q
def tAsgM (te : TE) (i : Nat) : TS := tAsg te (gName i)
def tRetM (te : TE) : TS := tRet te
theorem ps_setM {X : Cx} {st : Stmt} {te : TE} {i : Nat} (h : PS X st (tAsg te (gName i))) : PS X st (tAsgM te i) := h
theorem ps_retM {X : Cx} {st : Stmt} {te : TE} (h : PS X st (tRet te)) : PS X st (tRetM te) := h
theorem ln_back {A : List Addr} {S : Store} {p : Addr} {m : MO} (so : SOk K (A ++ [p]) (S ++ [m]) H) : A.length = S.length := by
  have h := so.len
  simpa using h
section
variable {Nx Bk Ct : PR} {Rt : R → Store → Prop}
theorem ws_setM {i : Nat} (h : WpN K te ρ S fun ds S' => Nx (ρ.set i (.mu S'.length)) (S' ++ [.ls ds])) : WpS K (tAsgM te i) ρ S Nx Rt Bk Ct := fun A σ H f D e =>
  h A σ H f _ fun ds S' A' p H' k g so => e.nx _ _ _ _ H' k g ⟨so, (f.en.go g).set i (r := .mu S'.length) ⟨p, last_get (ln_back so), rfl⟩, Z.mono f.xo g⟩
theorem ws_retM (h : WpN K te ρ S fun ds S' => Rt (.mu S'.length) (S' ++ [.ls ds])) : WpS K (tRetM te) ρ S Nx Rt Bk Ct := fun A σ H f D e =>
  h A σ H f _ fun ds S' A' p H' k g so => e.rt _ _ _ _ H' k g so ⟨p, last_get (ln_back so), rfl⟩
end
theorem wn_new {Φ : List D → Store → Prop} {A A1 : List Addr} {S S1 : Store} {H H1 : Hp} {p : Addr} {ds : List D} {vs : List V} {Q : VK} (q : ∀ (ds : List D) (S' : Store) (A' : List Addr) (p : Addr) (H' : Hp), Φ ds S' → Gr A S H (A' ++ [p]) (S' ++ [.ls ds]) H' → SOk K (A' ++ [p]) (S' ++ [.ls ds]) H' → Q (.ref p) H')
    (g1 : Gr A S H A1 S1 H1) (so1 : SOk K A1 S1 H1) (hp : H1 p = none) (l : RepL K (Lv A1 S1) H1 ds vs) (k : Φ ds S1) : Q (.ref p) (upd H1 p (.lst vs)) := by
  obtain ⟨so2, g2⟩ := so1.add (m := .ls ds) (o := .lst vs) hp fun X g => ⟨vs, upd_same, l.go g⟩
  exact q ds S1 A1 p _ k (g1.trans g2) so2
theorem wn_lst {Φ : List D → Store → Prop} (h : WpA K tl ρ S fun xs S1 => Tu xs fun ds => Φ ds S1) : WpN K (tLst tl) ρ S Φ := fun A σ H f Q q =>
  h A σ H f _ fun xs S1 A1 vs H1 ⟨ds, hd, hl, k⟩ g1 so1 r1 => by
    have l := dats_rep hd r1
    exact ⟨by rw [← l.length]; exact sz_of hl, fun p hp => wn_new q g1 so1 hp l k⟩
/-! ### the pool -/
def PoolM (m : MO) : Prop := ∃ a b c : Int, m = .ls [.int a, .int b, .int c] ∧ 0 ≤ a ∧ a < 2147483549 ∧ 0 ≤ b
def Has (k : Nat) (S : Store) : Prop := ∃ m, PoolM m ∧ S[k]? = some m
def Pk (k : Nat) (S S1 : Store) : Prop := ∃ m, PoolM m ∧ S1 = S.set k m
theorem Has.lt {k : Nat} (h : Has k S) : k < S.length := by
  obtain ⟨m, _, e⟩ := h
  exact (List.getElem?_eq_some_iff.mp e).1
theorem Pk.len {k : Nat} (h : Pk k S S1) : S1.length = S.length := by
  obtain ⟨m, _, rfl⟩ := h
  exact List.length_set ..
theorem Pk.has {k : Nat} (h : Pk k S S1) (p : Has k S) : Has k S1 := by
  have l := p.lt
  obtain ⟨m, hm, rfl⟩ := h
  exact ⟨m, hm, List.getElem?_set_self l⟩
theorem Pk.trans {k : Nat} (h : Pk k S S1) (h' : Pk k S1 S2) : Pk k S S2 := by
  obtain ⟨m, hm, rfl⟩ := h
  obtain ⟨m', hm', rfl⟩ := h'
  exact ⟨m', hm', List.set_set ..⟩
theorem Has.refl {k : Nat} (h : Has k S) : Pk k S S := by
  obtain ⟨m, hm, e⟩ := h
  refine ⟨m, hm, ?_⟩
  obtain ⟨l, e⟩ := List.getElem?_eq_some_iff.mp e
  rw [← e, List.set_getElem_self]
theorem Has.app {k : Nat} {T : Store} (h : Has k S) : Has k (S ++ T) := by
  have l := h.lt
  obtain ⟨m, hm, e⟩ := h
  exact ⟨m, hm, by rw [List.getElem?_append_left l]; exact e⟩
theorem Pk.app {k : Nat} {T : Store} (p : Has k S) (h : Pk k (S ++ T) S1) : ∃ S1', S1 = S1' ++ T ∧ Pk k S S1' := by
  obtain ⟨m, hm, rfl⟩ := h
  exact ⟨S.set k m, List.set_append_left _ _ p.lt, m, hm, rfl⟩
def sd_cell : Sd := fun rs S Φ => ∃ (ns : List Int) (k : Nat), rs = [.dat (.flst (ns.map .int)), .dat (.int (k : Nat))] ∧ k < 100 ∧ ∀ i : Int, Φ (.int i) S
def sd_pool : Sdm := fun rs S Φ => ∃ c : Int, rs = [.dat (.int c)] ∧ ∀ ds, PoolM (.ls ds) → Φ ds S
def sd_take : Sd := fun rs S Φ => ∃ (k : Nat) (m : Int), rs = [.mu k, .dat (.int m)] ∧ 0 < m ∧ m < 1073741824 ∧ Has k S ∧ ∀ (d : Int) (S1 : Store), 0 ≤ d → d < m → Pk k S S1 → Φ (.int d) S1
theorem repl_ints {X : Addr → Prop} : ∀ ns : List Int, RepL K X H (ns.map .int) (ns.map V.int)
  | [] => .nil
  | i :: ns => .cons (.int i) (repl_ints ns)
theorem take_go {k : Nat} {m : Int} {Φ : D → Store → Prop} (hp : Has k S) (m0 : 0 < m) (m1 : m < 1073741824) (q : ∀ (d : Int) (S1 : Store), 0 ≤ d → d < m → Pk k S S1 → Φ (.int d) S1) : sd_take [.mu k, .dat (.int m)] S Φ := ⟨k, m, rfl, m0, m1, hp, q⟩
/-- the script as data -/
theorem rep_script {X : Addr → Prop} {a : Addr} {ns : List Int} (n : ¬ X a) (h : SqL K H a (ns.map V.int)) : Rep K X H (.flst (ns.map .int)) (.ref a) := by
  have l : RepL K X H (ns.map .int) (ns.map V.int) := repl_ints ns
  rcases h with h | h
  · exact .flst n h l
  · exact .klst (fun _ => .inr h) l
end
end Dl
/-! Further operations on data: ranges with a step, items stored by an operator, lists and tuples put together and cut. -/
namespace L2
open PySem PySem.Spec PyProof.Rows _root_.Evl
section
variable {X : Cx}
def rGetL (K : PySem.W.Frag) : V → V → Hp → VK → Prop := fun o i H Q => ∃ (p : Addr) (xs : List V) (j : Nat) (v : V), o = .ref p ∧ i = .int (j : Nat) ∧ SqL K H p xs ∧ xs[j]? = some v ∧ Q v H
theorem get_list : PGet X (rGetL X.K) := by
  intro pins s σ H o i ov iv Q I ro ri h
  obtain ⟨p, xs, j, v, rfl, rfl, hq, he, q⟩ := h
  cases ro
  obtain ⟨t, rfl⟩ := ri
  obtain ⟨its, r, pl, hz⟩ := I.list hq
  obtain ⟨w, ew, rw'⟩ := r.get he
  have lj := (List.getElem?_eq_some_iff.mp ew).1
  have hl := r.length
  have hn := line63
  exact wpAny_getItem_list pl.isList (by omega) (by omega) (by rw [Int.toNat_natCast]; simpa using ew) ⟨v, H, I, rw', q⟩
end
end L2
namespace Dl
open PySem PySem.Spec PyProof.Rows L2 _root_.Evl
section
variable [Z : Zo] {K : PySem.W.Frag} {A A' A1 A2 : List Addr} {S S' S1 S2 : Store} {H H' H1 H2 : Hp} {ρ : List R} {σ : L2.St} {Φ : R → Store → Prop} {Φ1 : R → Prop} {te ta tb tc : TE} {tl : TA} {t u : TS} {Nx Bk Ct : PR} {Rt : R → Store → Prop} {X : Addr → Prop}
/-- xs[i] op= e, xs of the store -/
def GetM (o i : R) (S : Store) (Φ : Nat → Nat → D → Prop) : Prop := ∃ (k j : Nat) (ds : List D) (d : D), o = .mu k ∧ i = .dat (.int (j : Nat)) ∧ S[k]? = some (.ls ds) ∧ ds[j]? = some d ∧ Φ k j d
def PutM (k j : Nat) (z : R) (S : Store) (Φ : Store → Prop) : Prop := ∃ (ds : List D) (d : D), z = .dat d ∧ S[k]? = some (.ls ds) ∧ j < ds.length ∧ Φ (S.set k (.ls (ds.set j d)))
theorem ws_augS {to ti : TE} {tip : TIp} (h : Wp K to ρ S fun o S1 => Wp K ti ρ S1 fun i S2 => GetM o i S2 fun k j x => Wp K te ρ S2 fun y S3 => Op2 K tip (.dat x) y S3 fun z => PutM k j z S3 fun S4 => Nx ρ S4) :
    WpS K (tAugS to ti te (rGetL K) tip rSetL) ρ S Nx Rt Bk Ct := fun A σ H f D e =>
  h A σ H f _ fun o S1 A1 vo H1 hw g1 so1 ro => hw A1 σ H1 (f.go g1 so1) _ fun i S2 A2 vi H2 ⟨k, j, ds, d, eo, ei, hk, hd, hw2⟩ g2 so2 ri => by
    subst eo ei
    have ro2 := ro.go g2
    obtain ⟨a, ha, rfl⟩ := ro2
    obtain rfl := rep_int ri
    obtain ⟨xs, hx, l⟩ := so2.ok k a _ ha hk
    obtain ⟨v, hv, rv⟩ := l.get hd
    refine ⟨a, xs, j, v, rfl, rfl, sq_of hx, hv, hw2 A2 σ H2 (f.go (g1.trans g2) so2) _ fun y S3 A3 vy H3 ho g3 so3 ry => ho A3 H3 v vy so3 (RepR.go (r := .dat d) g3 rv) ry _ fun z vz H4 ⟨es, d2, ez, hk3, lj, p⟩ e4 rz => ?_⟩
    subst ez
    have so4 := so3.ex e4
    have ha3 := pre_get g3.pre ha
    obtain ⟨ys, hy, l4⟩ := so4.ok k a _ ha3 hk3
    have lx : j < ys.length := by rw [← l4.length]; exact lj
    refine ⟨a, ys, (j : Int), j, rfl, rfl, hy, ixN_nat lx, ?_⟩
    obtain ⟨so5, g5⟩ := so4.put (m' := .ls (es.set j d2)) (o := .lst (ys.set j vz)) ha3 hk3 nofun nofun fun X _ g => ⟨_, upd_same, (RepL.go g l4).set (Rep.go g rz) j⟩
    have gg := (((g1.trans g2).trans g3).trans (Gr.ex (A := A3) (S := S3) e4)).trans g5
    exact e.nx ρ _ A3 σ _ p gg ⟨so5, f.en.go gg, Z.mono f.xo gg⟩
/-! ranges with a step -/
def rng3 (lo hi c : Int) : List D := (List.range (Builtin.Range.rangeSize lo hi c).toNat).map fun i => D.int (lo + (i : Nat) * c)
theorem it_rngC {lo c : Int} {n : Nat} : ItOk K X H (Itc lo c n) ((List.range n).map fun i => D.int (lo + (i : Nat) * c)) := fun X' H' g _ => by
  refine ⟨fun i d hd => ?_, ?_⟩
  · have hl := (List.getElem?_eq_some_iff.mp hd).1
    rw [List.length_map, List.length_range] at hl
    rw [List.getElem?_map, List.getElem?_range hl] at hd
    cases hd
    refine ⟨hl, fun x H'' y => ?_⟩
    obtain ⟨e, y⟩ := y
    subst e y
    exact ⟨Ex.refl _, .int _⟩
  · rw [List.length_map, List.length_range]
    exact Nat.le_refl n
theorem rgc {a b c : Int} (ha : -1000000 < a ∧ a < 1000000) (hb : -1000000 < b ∧ b < 1000000) (hc : 0 < c ∧ c < 1000000) : RgC a b c (Builtin.Range.rangeSize a b c).toNat := by
  refine ⟨by omega, by omega, ?_, rangeSize_toNat _ _ _⟩
  unfold Builtin.Range.small
  unfold Builtin.Range.rangeSize
  simp only [Builtin.Range.rangeFitsLong, Bool.and_eq_true, Bool.or_eq_true, decide_eq_true_eq, beq_iff_eq, if_pos hc.1]
  split
  · have h1 := Int.ediv_nonneg (show 0 ≤ b - a - 1 by omega) (show 0 ≤ c by omega)
    have h2 := Int.ediv_le_self c (show 0 ≤ b - a - 1 by omega)
    generalize (b - a - 1) / c = q at *
    omega
  · omega
def Rg3 (rs : List R) (Φ : Int → Int → Int → Prop) : Prop := ∃ i j c : Int, rs = [.dat (.int i), .dat (.int j), .dat (.int c)] ∧ RgC i j c (Builtin.Range.rangeSize i j c).toNat ∧ Φ i j c
theorem rg3 {i j c : Int} {Φ : Int → Int → Int → Prop} (hi : -1000000 < i ∧ i < 1000000) (hj : -1000000 < j ∧ j < 1000000) (hc : 0 < c ∧ c < 1000000) (k : Φ i j c) : Rg3 [.dat (.int i), .dat (.int j), .dat (.int c)] Φ := ⟨i, j, c, rfl, rgc hi hj hc, k⟩
theorem wi_rng3 {Φ : List D → Store → Prop} (h : WpA K tl ρ S fun rs S1 => Rg3 rs fun i j c => Φ (rng3 i j c) S1) : WpI K (iRng3 tl) ρ S Φ := fun A σ H f Q q =>
  h A σ H f _ fun rs S1 A1 vs H1 ⟨i, j, c, e, l, k⟩ g1 so1 rr => by
    subst e
    cases rr with
    | cons r1 rr =>
      obtain ⟨v, w, rfl, r2, r3⟩ := reps2 rr
      obtain rfl := rep_int r1
      obtain rfl := rep_int r2
      obtain rfl := rep_int r3
      exact ⟨i, j, c, _, rfl, l, q _ S1 A1 _ H1 k g1 so1 it_rngC⟩
/-! list(x), tuple(x), xs + ys, xs * k, as data and as new lists -/
/-- a list: data, or of the store -/
def LsR (S : Store) (r : R) (ds : List D) : Prop := r = .dat (.lst ds) ∨ ∃ k, r = .mu k ∧ S[k]? = some (.ls ds)
theorem ls_dat {ds : List D} : LsR S (.dat (.lst ds)) ds := .inl rfl
theorem ls_mu {k : Nat} {ds : List D} (h : S[k]? = some (.ls ds)) : LsR S (.mu k) ds := .inr ⟨k, rfl, h⟩
theorem LsR.rep {r : R} {ds : List D} {v : V} (h : LsR S r ds) (so : SOk K A S H) (rr : RepR K A S H r v) : ∃ a xs, v = .ref a ∧ H a = some (.lst xs) ∧ RepL K (Lv A S) H ds xs := by
  rcases h with rfl | ⟨k, rfl, hk⟩
  · exact rep_lstH rr
  · exact rep_mu so rr hk
/-- a list or a tuple of any kind -/
def SqR (S : Store) (r : R) (ds : List D) : Prop := LsR S r ds ∨ r = .dat (.flst ds) ∨ r = .dat (.tup ds) ∨ r = .dat (.ftup ds)
theorem SqR.rep {r : R} {ds : List D} {v : V} (h : SqR S r ds) (so : SOk K A S H) (rr : RepR K A S H r v) : ∃ a xs, v = .ref a ∧ (SqL K H a xs ∨ SqT K H a xs) ∧ RepL K (Lv A S) H ds xs := by
  rcases h with h | rfl | rfl | rfl
  · obtain ⟨a, xs, e, hx, l⟩ := h.rep so rr
    exact ⟨a, xs, e, .inl (sq_of hx), l⟩
  · obtain ⟨a, xs, e, sq, l⟩ := rep_flst rr
    exact ⟨a, xs, e, .inl sq, l⟩
  · obtain ⟨a, xs, e, sq, l⟩ := rep_tup rr
    exact ⟨a, xs, e, .inr sq, l⟩
  · obtain ⟨a, xs, e, sq, l⟩ := rep_ftup rr
    exact ⟨a, xs, e, .inr sq, l⟩
theorem sq_t {ds : List D} : SqR S (.dat (.tup ds)) ds := .inr (.inr (.inl rfl))
theorem sq_f {ds : List D} : SqR S (.dat (.ftup ds)) ds := .inr (.inr (.inr rfl))
theorem sq_l {ds : List D} : SqR S (.dat (.lst ds)) ds := .inl (.inl rfl)
theorem sq_fl {ds : List D} : SqR S (.dat (.flst ds)) ds := .inr (.inl rfl)
theorem sq_m {k : Nat} {ds : List D} (h : S[k]? = some (.ls ds)) : SqR S (.mu k) ds := .inl (.inr ⟨k, rfl, h⟩)
abbrev rListOf (K : PySem.W.Frag) : List V → Hp → VK → Prop := fun xs H Q => ∃ p ys, xs = [.ref p] ∧ (SqL K H p ys ∨ SqT K H p ys) ∧ ∀ l, H l = none → Q (.ref l) (upd H l (.lst ys))
theorem c_list {r : R} {ds : List D} (h : SqR S r ds) (k : Φ1 (.dat (.lst ds))) : Cb K (fun xs H Q => ∃ p ys, xs = [.ref p] ∧ (SqL K H p ys ∨ SqT K H p ys) ∧ ∀ l, H l = none → Q (.ref l) (upd H l (.lst ys))) [r] S Φ1 := fun A H vs so rx Q q => by
  obtain ⟨v, rfl, rr⟩ := reps1 rx
  obtain ⟨a, xs, rfl, sq, l⟩ := h.rep so rr
  exact ⟨a, xs, rfl, sq, fun p hp => q _ _ _ k (Ex.new hp) (rep_new (so := so) hp l).2⟩
def SqX (r : R) (S : Store) (Φ : List D → Prop) : Prop := ∃ ds, SqR S r ds ∧ Φ ds
def OneR (rs : List R) (Φ : R → Prop) : Prop := ∃ r, rs = [r] ∧ Φ r
theorem one {r : R} {Φ : R → Prop} (k : Φ r) : OneR [r] Φ := ⟨r, rfl, k⟩
theorem wn_list {Φ : List D → Store → Prop} (h : WpA K tl ρ S fun rs S1 => OneR rs fun r => SqX r S1 fun ds => Φ ds S1) : WpN K (tCB (fun xs H Q => ∃ p ys, xs = [.ref p] ∧ (SqL K H p ys ∨ SqT K H p ys) ∧ ∀ l, H l = none → Q (.ref l) (upd H l (.lst ys))) tl) ρ S Φ := fun A σ H f Q q =>
  h A σ H f _ fun rs S1 A1 vs H1 ⟨r, er, ds, hs, k⟩ g1 so1 rr => by
    subst er
    obtain ⟨v, rfl, r1⟩ := reps1 rr
    obtain ⟨a, xs, rfl, sq, l⟩ := hs.rep so1 r1
    exact ⟨a, xs, rfl, sq, fun p hp => wn_new q g1 so1 hp l k⟩
theorem c_tupF {r : R} {ds : List D} (h : LsR S r ds) (k : Φ1 (.dat (.ftup ds))) : Cb K (rTupF K) [r] S Φ1 := fun A H vs so rx Q q => by
  obtain ⟨v, rfl, rr⟩ := reps1 rx
  obtain ⟨a, xs, rfl, hx, l⟩ := h.rep so rr
  exact ⟨a, xs, rfl, sq_of hx, fun p H2 hp e2 fz => q _ _ _ k e2 (.ftup (so.new hp) fz (l.go (.ex e2)))⟩
theorem RepL.rep_ {ds : List D} {xs : List V} (l : RepL K X H ds xs) : ∀ n : Nat, RepL K X H (List.replicate n ds).flatten (List.replicate n xs).flatten
  | 0 => .nil
  | n + 1 => by
    rw [List.replicate_succ, List.replicate_succ, List.flatten_cons, List.flatten_cons]
    exact l.append (l.rep_ n)
theorem o_cat {r1 r2 : R} {ds es : List D} (h1 : LsR S r1 ds) (h2 : LsR S r2 es) (hl : ds.length + es.length ≤ 100000) (k : Φ1 (.dat (.lst (ds ++ es)))) : Op2 K rCat r1 r2 S Φ1 := fun A H v w so rx ry Q q => by
  obtain ⟨a, xs, rfl, hx, l⟩ := h1.rep so rx
  obtain ⟨b, ys, rfl, hy, l'⟩ := h2.rep so ry
  exact ⟨a, b, xs, ys, rfl, rfl, hx, hy, by rw [← l.length, ← l'.length]; exact sz_of hl, fun p hp => q _ _ _ k (Ex.new hp) (rep_new (so := so) hp (l.append l')).2⟩
def CatX (r1 r2 : R) (S : Store) (Φ : List D → Prop) : Prop := ∃ ds es, LsR S r1 ds ∧ LsR S r2 es ∧ ds.length + es.length ≤ 100000 ∧ Φ (ds ++ es)
theorem wn_cat {Φ : List D → Store → Prop} (h : Wp K ta ρ S fun x S1 => Wp K tb ρ S1 fun y S2 => CatX x y S2 fun ds => Φ ds S2) : WpN K (tOp rCat ta tb) ρ S Φ := fun A σ H f Q q =>
  h A σ H f _ fun x S1 A1 v1 H1 hw g1 so1 r1 => hw A1 σ H1 (f.go g1 so1) _ fun y S2 A2 v2 H2 ⟨ds, es, h1, h2, hl, k⟩ g2 so2 r2 => by
    obtain ⟨a, xs, rfl, hx, l⟩ := h1.rep so2 (r1.go g2)
    obtain ⟨b, ys, rfl, hy, l'⟩ := h2.rep so2 r2
    exact ⟨a, b, xs, ys, rfl, rfl, hx, hy, by rw [← l.length, ← l'.length]; exact sz_of hl, fun p hp => wn_new q (g1.trans g2) so2 hp (l.append l') k⟩
theorem o_rep {r1 : R} {ds : List D} {n : Int} (h1 : LsR S r1 ds) (h0 : -1000000 < n ∧ n < 1000000) (hl : ds.length * n.toNat ≤ 100000) (k : Φ1 (.dat (.lst (List.replicate n.toNat ds).flatten))) : Op2 K rRep r1 (.dat (.int n)) S Φ1 := fun A H v w so rx ry Q q => by
  obtain ⟨a, xs, rfl, hx, l⟩ := h1.rep so rx
  obtain rfl := rep_int ry
  exact ⟨a, n, xs, rfl, rfl, hx, by omega, by omega, by rw [← l.length]; exact sz_of hl, fun p hp => q _ _ _ k (Ex.new hp) (rep_new (so := so) hp (l.rep_ _)).2⟩
def RepX (r1 r2 : R) (S : Store) (Φ : List D → Prop) : Prop := ∃ ds n, LsR S r1 ds ∧ r2 = .dat (.int n) ∧ (-1000000 < n ∧ n < 1000000) ∧ ds.length * n.toNat ≤ 100000 ∧ Φ (List.replicate n.toNat ds).flatten
theorem wn_rep {Φ : List D → Store → Prop} (h : Wp K ta ρ S fun x S1 => Wp K tb ρ S1 fun y S2 => RepX x y S2 fun ds => Φ ds S2) : WpN K (tOp rRep ta tb) ρ S Φ := fun A σ H f Q q =>
  h A σ H f _ fun x S1 A1 v1 H1 hw g1 so1 r1 => hw A1 σ H1 (f.go g1 so1) _ fun y S2 A2 v2 H2 ⟨ds, n, h1, e2, h0, hl, k⟩ g2 so2 r2 => by
    subst e2
    obtain ⟨a, xs, rfl, hx, l⟩ := h1.rep so2 (r1.go g2)
    obtain rfl := rep_int r2
    exact ⟨a, n, xs, rfl, rfl, hx, by omega, by omega, by rw [← l.length]; exact sz_of hl, fun p hp => wn_new q (g1.trans g2) so2 hp (l.rep_ _) k⟩
theorem c_divmod {i j : Int} (h : CDiv i j) (k : Φ1 (.dat (.tup [.int (i / j), .int (i % j)]))) : Cb K (fun xs H Q => ∃ i j, xs = [.int i, .int j] ∧ CDiv i j ∧ ∀ p, H p = none → Q (.ref p) (upd H p (.tup [.int (i / j), .int (i % j)]))) [.dat (.int i), .dat (.int j)] S Φ1 := fun A H vs so rx Q q => by
  obtain ⟨v, w, rfl, r1, r2⟩ := reps2 rx
  obtain rfl := rep_int r1
  obtain rfl := rep_int r2
  exact ⟨i, j, rfl, h, fun p hp => q _ _ _ k (Ex.new hp) (rep_new (so := so) hp (.cons (.int _) (.cons (.int _) .nil))).1⟩
/-! tuples -/
def TpR (r : R) (ds : List D) : Prop := r = .dat (.tup ds) ∨ r = .dat (.ftup ds)
theorem tp_t {ds : List D} : TpR (.dat (.tup ds)) ds := .inl rfl
theorem tp_f {ds : List D} : TpR (.dat (.ftup ds)) ds := .inr rfl
theorem TpR.rep {r : R} {ds : List D} {v : V} (h : TpR r ds) (rr : RepR K A S H r v) : ∃ a xs, v = .ref a ∧ SqT K H a xs ∧ RepL K (Lv A S) H ds xs := by
  rcases h with rfl | rfl
  · exact rep_tup rr
  · exact rep_ftup rr
/-- as a tuple told plainly -/
theorem rep_plain {d : D} {ds : List D} {v : V} (h : d = .tup ds ∨ d = .ftup ds) (r : Rep K X H d v) : Rep K X H (.tup ds) v := by
  rcases h with rfl | rfl
  · exact r
  · cases r with
    | ftup n f l => obtain ⟨o, e, _⟩ := f; exact .tup n (.inr ⟨o, e⟩) l
theorem TpR.plain {r : R} {ds : List D} {v : V} (h : TpR r ds) (rr : RepR K A S H r v) : RepR K A S H (.dat (.tup ds)) v := by
  rcases h with rfl | rfl
  · exact rr
  · exact rep_plain (.inr rfl) rr
theorem o_catA {r1 r2 : R} {ds es : List D} (h1 : TpR r1 ds) (h2 : TpR r2 es) (hl : ds.length + es.length ≤ 100000) (k : Φ1 (.dat (.tup (ds ++ es)))) : Op2 K (rCatA K) r1 r2 S Φ1 := fun A H v w so rx ry Q q => by
  obtain ⟨a, xs, rfl, sx, l⟩ := h1.rep rx
  obtain ⟨b, ys, rfl, sy, l'⟩ := h2.rep ry
  refine ⟨a, b, xs, ys, rfl, rfl, sx, sy, by rw [← l.length, ← l'.length]; exact sz_of hl, fun e => ?_, fun _ e => ?_, fun _ _ p hp => q _ _ _ k (Ex.new hp) (rep_new (so := so) hp (l.append l')).1⟩
  · subst e
    cases l
    exact q _ _ _ k (Ex.refl _) (h2.plain ry)
  · subst e
    cases l'
    rw [List.append_nil] at k
    exact q _ _ _ k (Ex.refl _) (h1.plain rx)
def cutD (ds : List D) (lo hi : Option Int) : List D := (ds.drop (HT.sIx ds.length 0 lo)).take (HT.sIx ds.length ds.length hi - HT.sIx ds.length 0 lo)
theorem RepL.cut {ds : List D} {xs : List V} (l : RepL K X H ds xs) (lo hi : Option Int) : RepL K X H (cutD ds lo hi) (cutV xs lo hi) := by
  unfold cutD cutV
  rw [← l.length]
  exact (l.drop _).take _
theorem s_A {r : R} {ds : List D} {lo hi : Option Int} (h : TpR r ds) (k : Φ1 (.dat (.tup (cutD ds lo hi)))) : Sl K (rSlA K) r lo hi S Φ1 := fun A H v so rx Q q => by
  obtain ⟨a, xs, rfl, sx, l⟩ := h.rep rx
  refine ⟨a, xs, rfl, sx, fun e => ?_, fun _ p hp => q _ _ _ k (Ex.new hp) (rep_new (so := so) hp (l.cut lo hi)).1⟩
  have ec : cutD ds lo hi = ds := by
    unfold cutD
    rw [l.length, e.1, e.2, List.drop_zero, Nat.sub_zero, ← l.length, List.take_length]
  rw [ec] at k
  exact q _ _ _ k (Ex.refl _) (h.plain rx)
theorem s_L {r : R} {ds : List D} {lo hi : Option Int} (h : LsR S r ds ∨ r = .dat (.flst ds)) (k : Φ1 (.dat (.lst (cutD ds lo hi)))) : Sl K (rSlL K) r lo hi S Φ1 := fun A H v so rx Q q => by
  obtain ⟨a, xs, rfl, sx, l⟩ : ∃ a xs, v = .ref a ∧ SqL K H a xs ∧ RepL K (Lv A S) H ds xs := by
    rcases h with h | rfl
    · obtain ⟨a, xs, e, hx, l⟩ := h.rep so rx
      exact ⟨a, xs, e, sq_of hx, l⟩
    · exact rep_flst rx
  exact ⟨a, xs, rfl, sx, fun p hp => q _ _ _ k (Ex.new hp) (rep_new (so := so) hp (l.cut lo hi)).2⟩
theorem o_repT {r1 : R} {ds : List D} {n : Int} (h1 : TpR r1 ds) (h0 : ds ≠ []) (hn : 2 ≤ n ∧ n ≤ 1000) (hl : ds.length ≤ 1000) (k : Φ1 (.dat (.tup (List.replicate n.toNat ds).flatten))) : Op2 K (rRepT K) r1 (.dat (.int n)) S Φ1 := fun A H v w so rx ry Q q => by
  obtain ⟨a, xs, rfl, sx, l⟩ := h1.rep rx
  obtain rfl := rep_int ry
  exact ⟨a, n, xs, rfl, rfl, sx, fun e => h0 (by subst e; cases l; rfl), hn.1, hn.2, by rw [← l.length]; exact hl, fun p hp => q _ _ _ k (Ex.new hp) (rep_new (so := so) hp (l.rep_ _)).1⟩
end
end Dl
/-! == of data, in. -/
namespace Dl
theorem nt_f {b : Bool} (h : (!b) = false) : b = true := by cases b <;> first | rfl | cases h
theorem nt_t {b : Bool} (h : (!b) = true) : b = false := by cases b <;> first | rfl | cases h
open PySem PySem.Spec PyProof.Rows L2 _root_.Evl
mutual
def pyD : D → PyData
  | .bl b => .bool b
  | .int i => .int i
  | .str x => .str x
  | .tup ds => .tuple (pyL ds)
  | .ftup ds => .tuple (pyL ds)
  | .lst ds => .list (pyL ds)
  | .flst ds => .list (pyL ds)
  | .non => .none
  | .ty _ => .none
  | .glo _ => .none
  | .ins _ _ => .none
  | .dic _ => .none
  | .exc _ _ => .none
  | .fn _ => .none
def pyL : List D → List PyData
  | [] => []
  | d :: ds => pyD d :: pyL ds
end
mutual
/-- what == of data serves -/
def eqOk : D → Bool
  | .tup ds => eqOkL ds
  | .ftup ds => eqOkL ds
  | .lst ds => eqOkL ds
  | .flst ds => eqOkL ds
  | .non => true
  | .bl _ => true
  | .int _ => true
  | .str _ => true
  | .ty _ => false
  | .glo _ => false
  | .ins _ _ => false
  | .dic _ => false
  | .exc _ _ => false
  | .fn _ => false
def eqOkL : List D → Bool
  | [] => true
  | d :: ds => eqOk d && eqOkL ds
end
section
variable {K : PySem.W.Frag} {A A' A1 A2 : List Addr} {S S' S1 S2 : Store} {H H' H1 H2 : Hp} {X : Addr → Prop} {Φ : R → Prop}
mutual
theorem rep_dp : ∀ {d : D} {v : V}, Rep K X H d v → eqOk d = true → Dp K H v (pyD d)
  | _, _, .non, _ => by rw [pyD]; exact .non
  | _, _, .bl b, _ => by rw [pyD]; exact .bl b
  | _, _, .int i, _ => by rw [pyD]; exact .int i
  | _, _, .str x, _ => by rw [pyD]; exact .str x
  | _, _, .ty n, h => by rw [eqOk] at h; cases h
  | _, _, .glo x, h => by rw [eqOk] at h; cases h
  | _, _, .tup n r l, h => by rw [pyD]; exact .tup (.inl r) (repl_dp l (by rw [eqOk] at h; exact h))
  | _, _, .ftup n r l, h => by rw [pyD]; exact .tup (FzT.sq r) (repl_dp l (by rw [eqOk] at h; exact h))
  | _, _, .lst n r l, h => by rw [pyD]; exact .lst (sq_of r) (repl_dp l (by rw [eqOk] at h; exact h))
  | _, _, .flst n r l, h => by rw [pyD]; exact .lst (.inl r) (repl_dp l (by rw [eqOk] at h; exact h))
  | _, _, .ktup r l, h => by rw [pyD]; exact .tup (r H) (repl_dp l (by rw [eqOk] at h; exact h))
  | _, _, .klst r l, h => by rw [pyD]; exact .lst (r H) (repl_dp l (by rw [eqOk] at h; exact h))
  | _, _, .ins n r f, h => by rw [eqOk] at h; cases h
  | _, _, .dic n r f, h => by rw [eqOk] at h; cases h
  | _, _, .exc _ _ _ _, h => by rw [eqOk] at h; cases h
  | _, _, .exc0 _ _, h => by rw [eqOk] at h; cases h
  | _, _, .fn _, h => by rw [eqOk] at h; cases h
theorem repl_dp : ∀ {ds : List D} {vs : List V}, RepL K X H ds vs → eqOkL ds = true → DpAll K H vs (pyL ds)
  | _, _, .nil, _ => by rw [pyL]; exact .nil
  | _, _, .cons h t, e => by
    rw [eqOkL, Bool.and_eq_true] at e
    rw [pyL]
    exact .cons (rep_dp h e.1) (repl_dp t e.2)
end
theorem o_eqD {d e : D} (h1 : eqOk d = true) (h2 : eqOk e = true) (s1 : SeqAt.shaped (pyD d) = true) (s2 : SeqAt.shaped (pyD e) = true) (k : Φ (.dat (.bl (PyData.eqv (pyD d) (pyD e))))) : Op2 K (rEqD K) (.dat d) (.dat e) S Φ := op2_val (z := .dat (.bl (PyData.eqv (pyD d) (pyD e)))) (fun A H v w so rx ry =>
  ⟨_, Rep.bl _, fun Q q => ⟨_, _, rep_dp rx h1, rep_dp ry h2, s1, s2, q⟩⟩) k
theorem o_neD {d e : D} (h1 : eqOk d = true) (h2 : eqOk e = true) (s1 : SeqAt.shaped (pyD d) = true) (s2 : SeqAt.shaped (pyD e) = true) (k : Φ (.dat (.bl (!PyData.eqv (pyD d) (pyD e))))) : Op2 K (rNeD K) (.dat d) (.dat e) S Φ := op2_val (z := .dat (.bl (!PyData.eqv (pyD d) (pyD e)))) (fun A H v w so rx ry =>
  ⟨_, Rep.bl _, fun Q q => ⟨_, _, rep_dp rx h1, rep_dp ry h2, s1, s2, q⟩⟩) k
theorem eqOk_ints : ∀ ns : List Int, eqOkL (ns.map .int) = true
  | [] => by rw [List.map_nil, eqOkL]
  | n :: ns => by rw [List.map_cons, eqOkL, eqOk, eqOk_ints ns]; rfl
theorem pyL_ints : ∀ ns : List Int, pyL (ns.map .int) = ns.map .int
  | [] => by rw [List.map_nil, pyL]; rfl
  | n :: ns => by rw [List.map_cons, pyL, pyD, pyL_ints ns]; rfl
theorem lay_ints : ∀ ns : List Int, PyData.canLayAll0 (ns.map .int) = true
  | [] => by rw [List.map_nil, PyData.canLayAll0]
  | n :: ns => by rw [List.map_cons, PyData.canLayAll0, PyData.canLay0, lay_ints ns]; rfl
theorem depth_ints : ∀ ns : List Int, PyData.depthAll (ns.map .int) = 0
  | [] => by rw [List.map_nil, PyData.depthAll]
  | n :: ns => by rw [List.map_cons, PyData.depthAll, PyData.depth, depth_ints ns]; rfl
theorem eqv_ints : ∀ ns ms : List Int, PyData.eqvAll (ns.map .int) (ms.map .int) = decide (ns = ms)
  | [], [] => by rw [List.map_nil, PyData.eqvAll]; rfl
  | [], m :: ms => by rw [List.map_nil, List.map_cons, PyData.eqvAll]; rfl
  | n :: ns, [] => by rw [List.map_nil, List.map_cons, PyData.eqvAll]; rfl
  | n :: ns, m :: ms => by
    rw [List.map_cons, List.map_cons, PyData.eqvAll, PyData.eqv, eqv_ints ns ms]
    by_cases h : n = m
    · subst h
      simp
    · have : (n == m) = false := beq_eq_false_iff_ne.mpr h
      rw [this]
      simp [h]
theorem shp_tI (ns : List Int) : SeqAt.shaped (.tuple (ns.map .int)) = true := by
  unfold SeqAt.shaped
  rw [PyData.canLay0, lay_ints, PyData.depth, depth_ints]
  rfl
theorem shp_lI (ns : List Int) : SeqAt.shaped (.list (ns.map .int)) = true := by
  unfold SeqAt.shaped
  rw [PyData.canLay0, lay_ints, PyData.depth, depth_ints]
  rfl
/-- lists of ints -/
theorem o_eqL {r1 r2 : R} {ns ms : List Int} (h1 : LsR S r1 (ns.map .int)) (h2 : LsR S r2 (ms.map .int)) (k : Φ (.dat (.bl (decide (ns = ms))))) : Op2 K (rEqD K) r1 r2 S Φ := op2_val (fun A H v w so rx ry => by
  obtain ⟨a, xs, rfl, hx, l⟩ := h1.rep so rx
  obtain ⟨b, ys, rfl, hy, l'⟩ := h2.rep so ry
  have d1 := repl_dp l (eqOk_ints ns)
  have d2 := repl_dp l' (eqOk_ints ms)
  rw [pyL_ints] at d1 d2
  refine ⟨_, Rep.bl _, fun Q q => ⟨_, _, .lst (sq_of hx) d1, .lst (sq_of hy) d2, shp_lI _, shp_lI _, ?_⟩⟩
  rw [PyData.eqv, eqv_ints]
  exact q) k
theorem o_neL {r1 r2 : R} {ns ms : List Int} (h1 : LsR S r1 (ns.map .int)) (h2 : LsR S r2 (ms.map .int)) (k : Φ (.dat (.bl (!decide (ns = ms))))) : Op2 K (rNeD K) r1 r2 S Φ := op2_val (fun A H v w so rx ry => by
  obtain ⟨a, xs, rfl, hx, l⟩ := h1.rep so rx
  obtain ⟨b, ys, rfl, hy, l'⟩ := h2.rep so ry
  have d1 := repl_dp l (eqOk_ints ns)
  have d2 := repl_dp l' (eqOk_ints ms)
  rw [pyL_ints] at d1 d2
  refine ⟨_, Rep.bl _, fun Q q => ⟨_, _, .lst (sq_of hx) d1, .lst (sq_of hy) d2, shp_lI _, shp_lI _, ?_⟩⟩
  rw [PyData.eqv, eqv_ints]
  exact q) k
/-- tuples of ints -/
theorem o_eqT {r1 r2 : R} {ns ms : List Int} (h1 : TpR r1 (ns.map .int)) (h2 : TpR r2 (ms.map .int)) (k : Φ (.dat (.bl (decide (ns = ms))))) : Op2 K (rEqD K) r1 r2 S Φ := op2_val (fun A H v w so rx ry => by
  obtain ⟨a, xs, rfl, hx, l⟩ := h1.rep rx
  obtain ⟨b, ys, rfl, hy, l'⟩ := h2.rep ry
  have d1 := repl_dp l (eqOk_ints ns)
  have d2 := repl_dp l' (eqOk_ints ms)
  rw [pyL_ints] at d1 d2
  refine ⟨_, Rep.bl _, fun Q q => ⟨_, _, .tup hx d1, .tup hy d2, shp_tI _, shp_tI _, ?_⟩⟩
  rw [PyData.eqv, eqv_ints]
  exact q) k
theorem o_neT {r1 r2 : R} {ns ms : List Int} (h1 : TpR r1 (ns.map .int)) (h2 : TpR r2 (ms.map .int)) (k : Φ (.dat (.bl (!decide (ns = ms))))) : Op2 K (rNeD K) r1 r2 S Φ := op2_val (fun A H v w so rx ry => by
  obtain ⟨a, xs, rfl, hx, l⟩ := h1.rep rx
  obtain ⟨b, ys, rfl, hy, l'⟩ := h2.rep ry
  have d1 := repl_dp l (eqOk_ints ns)
  have d2 := repl_dp l' (eqOk_ints ms)
  rw [pyL_ints] at d1 d2
  refine ⟨_, Rep.bl _, fun Q q => ⟨_, _, .tup hx d1, .tup hy d2, shp_tI _, shp_tI _, ?_⟩⟩
  rw [PyData.eqv, eqv_ints]
  exact q) k
/-- an int in ints -/
theorem inV_ints (i : Int) (ns : List Int) : inV (.int i) (ns.map V.int) = ns.contains i := by
  induction ns with
  | nil => rfl
  | cons n ns ih =>
    rw [List.map_cons, List.contains_cons]
    unfold inV at ih ⊢
    rw [List.any_cons, ih]
    show ((n == i) || _) = ((i == n) || _)
    rw [BEq.comm]
theorem flat_ints (ns : List Int) : (ns.map V.int).all flatV = true := by
  induction ns with
  | nil => rfl
  | cons n ns ih => rw [List.map_cons, List.all_cons, ih]; rfl
theorem o_inI {neg : Bool} {i : Int} {r : R} {ns : List Int} (h : SqR S r (ns.map .int)) (k : Φ (.dat (.bl (if neg then !ns.contains i else ns.contains i)))) : Op2 K (rIn K neg) (.dat (.int i)) r S Φ := op2_val (fun A H v w so rx ry => by
  obtain rfl := rep_int rx
  obtain ⟨a, xs, rfl, sq, l⟩ := h.rep so ry
  rw [repl_int l] at sq
  exact ⟨_, Rep.bl _, fun Q q => ⟨a, _, rfl, sq, rfl, flat_ints ns, by rw [inV_ints]; exact q⟩⟩) k
theorem o_inK {neg : Bool} {i : Int} {x : Str} {ns : List Int} (h : ∀ H : Hp, SqT K H (He.ga K x) (ns.map V.int)) (k : Φ (.dat (.bl (if neg then !ns.contains i else ns.contains i)))) : Op2 K (rIn K neg) (.dat (.int i)) (.dat (.glo x)) S Φ := op2_val (fun A H v w so rx ry => by
  obtain rfl := rep_int rx
  cases ry
  exact ⟨_, Rep.bl _, fun Q q => ⟨_, _, rfl, .inr (h H), rfl, flat_ints ns, by rw [inV_ints]; exact q⟩⟩) k
end
end Dl
/-! Small words of the layer. -/
namespace Dl
open PySem PySem.Spec PyProof.Rows L2 _root_.Evl
section
variable [Z : Zo] {K : PySem.W.Frag} {A : List Addr} {S : Store} {H : Hp} {ρ : List R} {Φ : R → Prop} {Φ2 : PR}
theorem c_lenQ {r : R} {ds : List D} (h : SqR S r ds) (k : Φ (.dat (.int (ds.length : Nat)))) : Cb K (fun xs H Q => ∃ p ys, xs = [.ref p] ∧ (SqL K H p ys ∨ SqT K H p ys) ∧ Q (.int (ys.length : Nat)) H) [r] S Φ := cb_val (fun A H vs so rx => by
  obtain ⟨v, rfl, rr⟩ := reps1 rx
  obtain ⟨a, xs, rfl, sq, l⟩ := h.rep so rr
  exact ⟨.int (ds.length : Nat), .int _, fun Q q => ⟨a, xs, rfl, sq, by rw [← l.length]; exact q⟩⟩) k
theorem wp_varR {Φ : R → Store → Prop} {i : Nat} {r : R} (h : ρ[i]? = some r) (n : r ≠ .no) (k : Φ r S) : Wp K (tVar i) ρ S Φ := fun A σ H f Q q => by
  obtain ⟨v, e, rr⟩ := f.var h n
  exact ⟨v, e, q _ S A v H k .refl f.st rr⟩
theorem SqR.ne {r : R} {ds : List D} (h : SqR S r ds) : r ≠ .no := by
  rcases h with (rfl | ⟨k, rfl, _⟩) | rfl | rfl | rfl <;> nofun
theorem at_ints {L : List Int} {j : Int} (h0 : 0 ≤ j) (h1 : j < L.length) : ∃ v ∈ L, atI (L.map D.int) j = some (.int v) := by
  obtain ⟨n, rfl⟩ := Int.eq_ofNat_of_zero_le h0
  have hn : n < L.length := by omega
  exact ⟨L[n], List.getElem_mem hn, at_nat (by rw [List.getElem?_map, List.getElem?_eq_getElem hn]; rfl)⟩
theorem st_last {m : MO} : (S ++ [m])[S.length]? = some m := last_get rfl
theorem st_set {m m' : MO} : (S ++ [m]).set S.length m' = S ++ [m'] := by
  rw [List.set_append_right _ _ (Nat.le_refl _), Nat.sub_self]
  rfl
theorem st_setN {m m' : MO} {n : Nat} (h : S.length = n) : (S ++ [m]).set n m' = S ++ [m'] := by
  subst h
  exact st_set
theorem rr_cut {Φ : D → Store → Prop} {d : D} {n : Nat} {T : Store} (h : S.length = n) (k : Φ d S) : retR Φ n (.dat d) (S ++ T) := by
  subst h
  show Φ d ((S ++ T).take S.length)
  rw [List.take_left]
  exact k
theorem c_tupL {r : R} {ds : List D} (h : LsR S r ds) (k : Φ (.dat (.tup ds))) : Cb K (fun xs H Q => ∃ p ys, xs = [.ref p] ∧ ((SqL K H p ys ∧ ∀ l, H l = none → Q (.ref l) (upd H l (.tup ys))) ∨ (SqT K H p ys ∧ Q (.ref p) H))) [r] S Φ := fun A H vs so rx Q q => by
  obtain ⟨v, rfl, rr⟩ := reps1 rx
  obtain ⟨a, xs, rfl, hx, l⟩ := h.rep so rr
  exact ⟨a, xs, rfl, .inl ⟨sq_of hx, fun p hp => q _ _ _ k (Ex.new hp) (rep_new (so := so) hp l).1⟩⟩
theorem wg_tp3 {n : Nat} {gs : TGs} {d a b c : D} (hd : d = .tup [a, b, c] ∨ d = .ftup [a, b, c]) (hn : 3 = n) (h : WpGs K gs [.dat a, .dat b, .dat c] ρ S Φ2) : WpG K (gTup K n gs) (.dat d) ρ S Φ2 := by
  rcases hd with rfl | rfl
  · exact wg_tup3 hn h
  · exact wg_ftup3 hn h
theorem wg_tp2 {n : Nat} {gs : TGs} {d a b : D} (hd : d = .tup [a, b] ∨ d = .ftup [a, b]) (hn : 2 = n) (h : WpGs K gs [.dat a, .dat b] ρ S Φ2) : WpG K (gTup K n gs) (.dat d) ρ S Φ2 := by
  rcases hd with rfl | rfl
  · exact wg_tup2 hn h
  · exact wg_ftup2 hn h
/-- xs[i] op= e at the last thing of the store -/
theorem getM_last {ds : List D} {j : Nat} {d : D} {Φ : Nat → Nat → D → Prop} (h : ds[j]? = some d) (k : Φ S.length j d) : GetM (.mu S.length) (.dat (.int (j : Nat))) (S ++ [.ls ds]) Φ := ⟨S.length, j, ds, d, rfl, rfl, st_last, h, k⟩
theorem putM_last {ds : List D} {j : Nat} {d : D} {Φ : Store → Prop} (h : j < ds.length) (k : Φ (S ++ [.ls (ds.set j d)])) : PutM S.length j (.dat d) (S ++ [.ls ds]) Φ := ⟨ds, d, rfl, st_last, h, by rw [st_set]; exact k⟩
theorem app_last {ds : List D} {Φ : Nat → Prop} (k : Φ S.length) : App (.mu S.length) (S ++ [.ls ds]) Φ := ⟨S.length, ds, rfl, st_last, k⟩
theorem appTo_last {ds : List D} {d : D} {Φ : Store → Prop} (h : ds.length < 100000) (k : Φ (S ++ [.ls (ds ++ [d])])) : AppTo S.length (.dat d) (S ++ [.ls ds]) Φ := ⟨d, ds, rfl, st_last, h, by rw [st_set]; exact k⟩
end
end Dl
/-! t[::-1], t a tuple. -/
namespace L2
open PySem PySem.Spec PyProof.Rows _root_.Evl
section
variable {prog : Program} {w : World} {A : Around} {E : Value → Shared → Prop} {s : Shared}
theorem sliceApplied_rev {sl : Addr} {vl vu vs : Value} {n : Nat} {Q : Int × Int × Nat → Shared → Prop} (hs : s.heap.IsSliceOf sl vl vu vs) (pl : IsPart vl none) (pu : IsPart vu none) (ps : IsPart vs (some (-1)))
    (h : Q (((n : Int) - 1), -1, n) s) : wpAny (model prog w) A (Builtin.Slice.sliceApplied (.ref sl) (pure (n : Int))) Q E s := by
  obtain ⟨os, hos, hcs, hds⟩ := id hs
  unfold Builtin.Slice.sliceApplied Builtin.Slice.sliceFields
  refine wpAny_bind (wpAny_bind (wpAny_field hos hds (x := vl) rfl (wpAny_bind (wpAny_field hos hds (x := vu) rfl (wpAny_bind (wpAny_field hos hds (x := vs) rfl (wpAny_pure ?_)))))))
  refine wpAny_bind (HT.slicePart_ ps ?_)
  show wpAny _ _ (if ((-1 : Int) == 0) = true then _ else _) _ _ s
  rw [if_neg (by decide)]
  refine wpAny_bind (HT.slicePart_ pl (wpAny_bind (HT.slicePart_ pu (wpAny_bind (wpAny_pure ?_)))))
  show wpAny _ _ (match Builtin.Slice.sliceAdjust none none (-1) (n : Int) with | (lo, hi) => pure (lo, (-1 : Int), Builtin.Slice.slicePlaces lo hi (-1))) _ _ s
  have e : Builtin.Slice.sliceAdjust none none (-1) (n : Int) = ((n : Int) - 1, -1) := by
    unfold Builtin.Slice.sliceAdjust
    simp
  have e2 : Builtin.Slice.slicePlaces ((n : Int) - 1) (-1) (-1) = n := by
    unfold Builtin.Slice.slicePlaces
    simp
    omega
  rw [e]
  show wpAny _ _ (pure ((n : Int) - 1, (-1 : Int), Builtin.Slice.slicePlaces ((n : Int) - 1) (-1) (-1))) _ _ s
  rw [e2]
  exact wpAny_pure h
theorem fm_map {α β : Type} {f : α → Option β} {g : α → β} : ∀ l : List α, (∀ a ∈ l, f a = some (g a)) → l.filterMap f = l.map g
  | [], _ => rfl
  | a :: l, h => by
    rw [List.filterMap_cons, h a List.mem_cons_self, List.map_cons, fm_map l fun b hb => h b (List.mem_cons_of_mem _ hb)]
theorem pick_rev (xs : Array Value) : ((List.range xs.size).filterMap fun (m : Nat) => xs[(((xs.size : Int) - 1) + (m : Int) * -1).toNat]?).toArray = xs.toList.reverse.toArray := by
  congr 1
  rw [fm_map (g := fun m => (xs.toList.reverse[m]?).getD .none) _ fun m hm => ?_]
  · apply List.ext_getElem
    · simp
    · intro i h1 h2
      rw [List.getElem_map, List.getElem_range, List.getElem?_eq_getElem h2]
      rfl
  · have hm := List.mem_range.mp hm
    have e : (((xs.size : Int) - 1) + (m : Int) * -1).toNat = xs.size - 1 - m := by omega
    have hr : m < xs.toList.reverse.length := by rw [List.length_reverse, Array.length_toList]; exact hm
    rw [e, Array.getElem?_eq_getElem (by omega), List.getElem?_eq_getElem hr, List.getElem_reverse]
    simp
theorem getItem_tuple_rev {t sl : Addr} {items : Array Value} {vl vu vs : Value} {Q : Value → Shared → Prop} (ht : IsTup s.heap t items) (hs : s.heap.IsSliceOf sl vl vu vs) (pl : IsPart vl none) (pu : IsPart vu none) (ps : IsPart vs (some (-1)))
    (h : Q (.ref s.heap.objs.size) { s with heap := s.heap.push { cls := .type "tuple", data := .seq items.toList.reverse.toArray } })
    (hsz : items.size ≤ sizeLine) : wpAny (model prog w) A (getItem (.ref t) (.ref sl)) Q E s := by
  have htake : sizeOk (.seq items.toList.reverse.toArray) := by
    show items.toList.reverse.toArray.size ≤ sizeLine
    rw [List.size_toArray, List.length_reverse, Array.length_toList]
    exact hsz
  obtain ⟨os, hos, hcs, hds⟩ := id hs
  have hTs : s.TypeIs (.ref sl) "slice" := ⟨os, hos, hcs⟩
  unfold getItem
  try with_reducible refine wpAny_holding ?_
  first | refine wpAny_bind (wpAny_pure ?_) | skip
  refine wpAny_bind (wpAny_sequenceKey ht.typeIs (by decide) ?_)
  refine wpAny_bind (wpAny_callSpecial?_slot (name := Str.ofString "__getitem__") ht.typeIs PyProof.Rows.slot_tuple_getitem
    (wpAny_call_entry PyProof.Rows.slot_tuple_getitem ht.typeIs entry_tuple_getitem ?_ (args_tuple_getitem _ _)))
  show wpAny _ _ (Builtin.Tuple.tupleItemsOf (.ref t) >>= _) _ _ s
  refine wpAny_bind (tupleItemsOf_ ht ?_)
  refine wpAny_bind (wpAny_typeOf hTs ?_)
  rw [if_pos (by decide)]
  refine wpAny_bind (sliceApplied_rev hs pl pu ps ?_)
  have hno : ¬ ((((items.size : Int) - 1) == 0 && (-1 : Int) == 1 && items.size == items.size) = true) := by
    intro q
    rw [Bool.and_eq_true, Bool.and_eq_true] at q
    exact absurd q.1.2 (by decide)
  show wpAny _ _ (if ((((items.size : Int) - 1) == 0 && (-1 : Int) == 1 && items.size == items.size) = true) then _ else _) _ _ s
  rw [if_neg hno, pick_rev]
  first
    | exact wpAny_bind (m := Builtin.Tuple.tupleExact _) (wpAny_newObj_type (wpAny_pure ⟨_, rfl, wpAny_pure h⟩) htake)
    | exact wpAny_bind (m := Builtin.Tuple.tupleExact _) (wpAny_newObj_type (wpAny_bind (wpAny_pure (wpAny_pure ⟨_, rfl, wpAny_pure h⟩))) htake)
end
section
variable {X : Cx}
def tRevT (K : PySem.W.Frag) (te : TE) : TE := fun σ H Q => te σ H fun x H1 => ∃ a xs, x = .ref a ∧ SqT K H1 a xs ∧ ∀ p, H1 p = none → Q (.ref p) (upd H1 p (.tup xs.reverse))
theorem pe_revT {e : Expr} {te : TE} {k : Nat} {p1 p2 p3 pos : Pos} (he : PE X e te) : PE X (.Subscript e (.Slice none none (some (.UnaryOp .USub (.Constant (.int 1) k p1) p2)) p3) pos) (tRevT X.K te) := by
  refine ⟨fun pins s σ H Q I h => ?_⟩
  refine Subscript_ (thn (he.run pins s σ H _ I h) fun v s1 ⟨x, H1, I1, r1, q1⟩ => ?_)
  obtain ⟨a, xs, ex, hx, q⟩ := q1
  subst ex
  cases r1
  have hst : PO X (some (.UnaryOp .USub (.Constant (.int 1) k p1) p2)) (tPart (tUn (rU fun i => .int (-i)) (tC (.int 1)))) := po_some (pe_un un_neg pe_int)
  refine wpAny_Slice (thn (po_none.run pins s1 σ H1 (fun o H2 => o = none ∧ H2 = H1) I1 ⟨rfl, rfl⟩) fun vl s2 ⟨l, H2, I2, pl, el, e2⟩ => ?_)
  subst el e2
  refine thn (po_none.run pins s2 σ H2 (fun o H3 => o = none ∧ H3 = H2) I2 ⟨rfl, rfl⟩) fun vu s3 ⟨u, H3, I3, pu, eu, e3⟩ => ?_
  subst eu e3
  refine thn (hst.run pins s3 σ H3 (fun o H4 => o = some (-1) ∧ H4 = H3) I3 ⟨1, rfl, -1, rfl, rfl, rfl⟩) fun vs s4 ⟨o, H4, I4, ps, eo, e4⟩ => ?_
  subst eo e4
  have I5 : Inv X pins σ H4 { s4 with heap := s4.heap.push { cls := .type "slice", data := .fields #[vl, vu, vs] } } := I4.kept (t' := s4.toks) fun b ob q => Heap.get?_push_of_some _ q
  obtain ⟨its, r, ht, hz⟩ := I5.tuple hx
  have hlen := r.length
  show wpAny (model X.prog X.w) X.A (subscriptTail e (.Slice none none (some (.UnaryOp .USub (.Constant (.int 1) k p1) p2)) p3) (.ref a) (.ref s4.heap.objs.size)) (EP X pins σ Q) X.xe { s4 with heap := s4.heap.push { cls := .type "slice", data := .fields #[vl, vu, vs] } }
  refine tail_any (ops := [.ref a, .ref s4.heap.objs.size]) ht.typeIs (PyProof.Rows.slot_tuple_getitem.lookup) ?_ (by with_unfolding_all rfl)
  refine getItem_tuple_rev ht (Heap.IsSliceOf.new _ vl vu vs) pl pu ps ?_ (by rw [List.size_toArray]; omega)
  refine ⟨.ref _, _, I5.laid (t' := s4.toks) (o := .tup xs.reverse) (fun b ob q => Heap.get?_push_of_some _ q) (Nat.le_refl _) ?_, rfl, q _ (I5.hok.fresh (Nat.le_refl _))⟩
  exact ⟨by rw [List.length_reverse]; exact hz, _, r.reverse, IsTup.new _ _⟩
end
end L2
namespace Dl
open PySem PySem.Spec PyProof.Rows L2 _root_.Evl
section
variable [Z : Zo] {K : PySem.W.Frag} {S : Store} {ρ : List R} {Φ : R → Store → Prop} {te : TE}
def RevX (r : R) (Φ : R → Prop) : Prop := ∃ ds, TpR r ds ∧ Φ (.dat (.tup ds.reverse))
theorem rev_t {ds : List D} {Φ : R → Prop} (k : Φ (.dat (.tup ds.reverse))) : RevX (.dat (.tup ds)) Φ := ⟨ds, tp_t, k⟩
theorem wp_revT (h : Wp K te ρ S fun r S1 => RevX r fun z => Φ z S1) : Wp K (tRevT K te) ρ S Φ := fun A σ H f Q q =>
  h A σ H f _ fun r S1 A1 v H1 ⟨ds, ht, k⟩ g1 so1 rr => by
    obtain ⟨a, xs, rfl, sq, l⟩ := ht.rep rr
    exact ⟨a, xs, rfl, sq, fun p hp => q _ S1 A1 _ _ k (g1.trans (.ex (Ex.new hp))) (so1.ex (Ex.new hp)) (rep_new (so := so1) hp l.reverse).1⟩
/-- {} -/
theorem wp_dic (k : Φ (.dat (.dic [])) S) : Wp K tDNewK ρ S Φ := fun A σ H f Q q p hp => q _ S A _ _ k (.ex (Ex.new hp)) (f.st.ex (Ex.new hp)) (.dic (f.st.new hp) upd_same .nil)
/-- a list of the store becomes data: from here on it stays -/
theorem ws_frz {t : TS} {Nx Bk Ct : PR} {Rt : R → Store → Prop} (i : Nat) {k : Nat} {ds : List D} (hi : ρ[i]? = some (.mu k)) (hk : S[k]? = some (.ls ds)) (h : WpS K t (ρ.set i (.dat (.lst ds))) (S.set k .dead) Nx Rt Bk Ct) : WpS K t ρ S Nx Rt Bk Ct := fun A σ H f De e => by
  obtain ⟨so2, g2⟩ := f.st.freeze hk
  obtain ⟨v, ev, rv⟩ := f.var hi nofun
  obtain ⟨a, ha, rfl⟩ := rv
  obtain ⟨xs, hx, l⟩ := f.st.ok k a _ ha hk
  have lk : k < S.length := (List.getElem?_eq_some_iff.mp hk).1
  have na : ¬ Lv A (S.set k .dead) a := fun ⟨j, m, hj, hm, nm⟩ => by
    have ej := nd_inj f.st.nd ha hj
    subst ej
    rw [List.getElem?_set_self lk] at hm
    cases hm
    exact nm rfl
  have en := (f.en.go g2).set i (r := .dat (.lst ds)) (v := .ref a) (.lst na hx (l.go g2.gw))
  have es : σ.set i (some (.ref a)) = σ := by
    apply List.ext_getElem?
    intro j
    by_cases hj : i = j
    · subst hj
      rw [List.getElem?_set_self (List.getElem?_eq_some_iff.mp ev).1, ev]
    · rw [List.getElem?_set_ne hj]
  rw [es] at en
  exact h A σ H ⟨so2, en, Z.mono f.xo g2⟩ De (e.go g2)
end
end Dl
/-! t * k, k from 0 on. -/
namespace L2
open PySem PySem.Spec PyProof.Rows _root_.Evl
theorem tuple_mul1 (l : Addr) (items : Array Value) (n : Nat) (dd : Option Addr) (sl : Array (Option Value)) (x : Int) (u : Tok) (c0 : (decide (x < -(2 ^ 63)) || decide (x ≥ 2 ^ 63)) = false) (c1 : (items.isEmpty || x == 1) = true) :
    Meets (Builtin.«tuple.__mul__» ⟨[.ref l, .int x u], []⟩) (fun _ R s => s.heap.get? l = some { cls := .type "tuple", dict := dd, data := .seq items n, slots := sl } ∧ R (.ok (.ret (Value.ref l))) s) :=
  .of_wp fun prog w A R s h => by
    obtain ⟨hp, g, d, tk, os⟩ := s
    obtain ⟨hl, h⟩ := h
    have f1 := AutoSeq1.idx_int
    wp_walk using wpAny_loadPart' hl
    repeat (first
      | (refine wpAny_ite_false (decide_eq_false (by rw [c0]; exact Bool.false_ne_true)) ?_; wp_walk using wpAny_loadPart' hl)
      | (refine wpAny_ite_true (decide_eq_true (by rw [c1])) ?_; wp_walk using wpAny_loadPart' hl))
    exact ⟨_, rfl, h⟩
theorem tuple_mul0 (l : Addr) (items : Array Value) (n : Nat) (dd : Option Addr) (sl : Array (Option Value)) (x : Int) (u : Tok) (c0 : (decide (x < -(2 ^ 63)) || decide (x ≥ 2 ^ 63)) = false) (c1 : (items.isEmpty || x == 1) = false) (c2 : (decide (x ≤ 0) || items.isEmpty) = true) :
    Meets (Builtin.«tuple.__mul__» ⟨[.ref l, .int x u], []⟩) (fun _ R s => s.heap.get? l = some { cls := .type "tuple", dict := dd, data := .seq items n, slots := sl } ∧
      R (.ok (.ret (Value.ref s.heap.objs.size))) { s with heap := s.heap.push { cls := Value.type "tuple", data := Data.seq #[] }, toks := s.toks }) :=
  .of_wp fun prog w A R s h => by
    obtain ⟨hp, g, d, tk, os⟩ := s
    obtain ⟨hl, h⟩ := h
    have f1 := AutoSeq1.idx_int
    wp_walk using wpAny_loadPart' hl
    repeat (first
      | (refine wpAny_ite_false (decide_eq_false (by rw [c0]; exact Bool.false_ne_true)) ?_; wp_walk using wpAny_loadPart' hl)
      | (refine wpAny_ite_false (decide_eq_false (by rw [c1]; exact Bool.false_ne_true)) ?_; wp_walk using wpAny_loadPart' hl)
      | (refine wpAny_ite_true (decide_eq_true (by rw [c2])) ?_; wp_walk using wpAny_loadPart' hl))
    exact ⟨_, rfl, h⟩
def rRepA (K : PySem.W.Frag) : R2 := fun x y H Q => ∃ l k xs, x = .ref l ∧ y = .int k ∧ SqT K H l xs ∧ xs ≠ [] ∧ 0 ≤ k ∧ k ≤ 1000 ∧ xs.length ≤ 1000 ∧ (k = 1 → Q (.ref l) H) ∧ (k ≠ 1 → ∀ p, H p = none → Q (.ref p) (upd H p (.tup (List.replicate k.toNat xs).flatten)))
section
variable {X : Cx}
theorem op_repA : OpR X (binaryOp .Mult) (rRepA X.K) := by
  intro pins s σ H x y v u Q I rx ry h
  obtain ⟨l, k, xs, rfl, rfl, hT, hne, h1, h2, hz, q1, q2⟩ := h
  by_cases hk2 : 2 ≤ k
  · exact op_repT pins s σ H _ _ v u Q I rx ry ⟨l, k, xs, rfl, rfl, hT, hne, hk2, h2, hz, q2 (by omega)⟩
  cases rx
  obtain ⟨t, rfl⟩ := ry
  obtain ⟨its, r, ⟨⟨cls, dd, data, sl⟩, ho, hc, n, hd⟩, hs⟩ := I.tuple hT
  simp only at hc hd
  subst hc hd
  have hle : its.length = xs.length := r.length.symm
  have hn : its ≠ [] := fun e => hne (by
    rw [e] at hle
    exact List.eq_nil_of_length_eq_zero hle.symm)
  have hi : its.toArray.isEmpty = false := by
    cases its with
    | nil => exact absurd rfl hn
    | cons a b => rfl
  have c0 : (decide (k < -(2 ^ 63)) || decide (k ≥ 2 ^ 63)) = false := by
    rw [decide_eq_false (by omega), decide_eq_false (by omega)] <;> rfl
  by_cases hk1 : k = 1
  · subst hk1
    exact wpAny_binaryOp_repeat_ref (T := "tuple") (U := "int") (by decide) ⟨_, ho, rfl⟩ (fun s' => typeIs_int s' 1 t) noFill_tuple_mul F.fills_int_mul F.slot_int_rmul repeat_tuple F.slot_int_index.lookup
      (call_meets F.slot_int_rmul (typeIs_int s 1 t) F.entry_int_rmul (F.args_int_rmul_2 _ _) (int_rmul_tuple 1 t l its.toArray n dd sl)
        ⟨ho, rfl, ⟨_, ho, rfl⟩, call_meets F.slot_tuple_mul ⟨_, ho, rfl⟩ F.entry_tuple_mul (F.args_tuple_mul_2 _ _) (tuple_mul1 l its.toArray n dd sl 1 t c0 (by rw [hi]; rfl)) ⟨ho, ⟨.ref l, H, I, rfl, q1 rfl⟩⟩⟩)
  · have hk0 : k = 0 := by omega
    subst hk0
    refine wpAny_binaryOp_repeat_ref (T := "tuple") (U := "int") (by decide) ⟨_, ho, rfl⟩ (fun s' => typeIs_int s' 0 t) noFill_tuple_mul F.fills_int_mul F.slot_int_rmul repeat_tuple F.slot_int_index.lookup
      (call_meets F.slot_int_rmul (typeIs_int s 0 t) F.entry_int_rmul (F.args_int_rmul_2 _ _) (int_rmul_tuple 0 t l its.toArray n dd sl)
        ⟨ho, rfl, ⟨_, ho, rfl⟩, call_meets F.slot_tuple_mul ⟨_, ho, rfl⟩ F.entry_tuple_mul (F.args_tuple_mul_2 _ _) (tuple_mul0 l its.toArray n dd sl 0 t c0 (by rw [hi]; rfl) (by rw [hi]; rfl)) ⟨ho, ?_⟩⟩)
    refine ⟨.ref s.heap.objs.size, _, I.laid (t' := s.toks) (o := .tup []) (fun b ob q => Heap.get?_push_of_some _ q) (Nat.le_refl _) ?_, rfl, q2 (by omega) _ (I.hok.fresh (Nat.le_refl _))⟩
    exact ⟨Nat.zero_le _, [], .nil, IsTup.new _ _⟩
end
end L2
namespace Dl
open PySem PySem.Spec PyProof.Rows L2 _root_.Evl
theorem o_repA {K : PySem.W.Frag} {S : Store} {Φ : R → Prop} {r1 : R} {ds : List D} {n : Int} (h1 : TpR r1 ds) (h0 : ds ≠ []) (hn : 0 ≤ n ∧ n ≤ 1000) (hl : ds.length ≤ 1000) (k : Φ (.dat (.tup (List.replicate n.toNat ds).flatten))) : Op2 K (rRepA K) r1 (.dat (.int n)) S Φ := fun A H v w so rx ry Q q => by
  obtain ⟨a, xs, rfl, sx, l⟩ := h1.rep rx
  obtain rfl := rep_int ry
  refine ⟨a, n, xs, rfl, rfl, sx, fun e => h0 (by subst e; cases l; rfl), hn.1, hn.2, by rw [← l.length]; exact hl, fun e => ?_, fun _ p hp => q _ _ _ k (Ex.new hp) (rep_new (so := so) hp (l.rep_ _)).1⟩
  subst e
  have e : (List.replicate (1 : Int).toNat ds).flatten = ds := by
    show (List.replicate 1 ds).flatten = ds
    simp
  rw [e] at k
  exact q _ _ _ k (Ex.refl _) (h1.plain rx)
end Dl
/-! Lists and tuples walked alike. -/
namespace L2
open PySem PySem.Spec PyProof.Rows
section
variable {X : Cx} {tg : Expr}
def iSeq (K : PySem.W.Frag) (tl : TE) : TI := fun σ H R => tl σ H fun x H1 => ∃ a, x = .ref a ∧ (((∃ xs, SqL K H1 a xs) ∧ R (Itl K a) H1) ∨ ((∃ xs, SqT K H1 a xs) ∧ R (Itt K a) H1))
theorem pi_seq {l : Expr} {tl : TE} (hl : PE X l tl) : PI X tg l (iSeq X.K tl) := by
  refine ⟨fun pins s σ H R I h => ?_⟩
  refine thn (hl.run pins s σ H _ I h) fun v s1 ⟨x, H1, I1, r1, q1⟩ => ?_
  obtain ⟨a, e, q1⟩ := q1
  subst e
  cases r1
  rcases q1 with ⟨⟨xs, hq⟩, q⟩ | ⟨⟨xs, hq⟩, q⟩
  · obtain ⟨its, rv, p, hz⟩ := I1.list hq
    refine wpAny_pyIter_list p.isList ?_
    refine ⟨s1.heap.objs.size, [s1.heap.objs.size], _, _, H1, rfl, I1.kept (t' := s1.toks) fun b o e => Heap.get?_push_of_some _ e, turn_list a _, ⟨_, Heap.get?_push_size _ rfl, rfl, rfl⟩, fun b hb => ?_, q⟩
    have e : b = s1.heap.objs.size := by simpa using hb
    subst e
    exact I1.fpOk (Nat.le_refl _) (I1.hok.fresh (Nat.le_refl _))
  · obtain ⟨its, rv, p, hz⟩ := I1.tuple hq
    refine wpAny_pyIter_tuple (show s1.heap.IsTuple a its.toArray from p) ?_
    refine ⟨s1.heap.objs.size, [s1.heap.objs.size], _, _, H1, rfl, I1.kept (t' := s1.toks) fun b o e => Heap.get?_push_of_some _ e, turn_tuple a _, ⟨_, Heap.get?_push_size _ rfl, rfl, rfl⟩, fun b hb => ?_, q⟩
    have e : b = s1.heap.objs.size := by simpa using hb
    subst e
    exact I1.fpOk (Nat.le_refl _) (I1.hok.fresh (Nat.le_refl _))
/-- a tuple of the module, walked -/
def iGlo (K : PySem.W.Frag) (tl : TE) : TI := iTup K tl
theorem pi_glo {l : Expr} {tl : TE} (hl : PE X l tl) : PI X tg l (iGlo X.K tl) := pi_tup hl
end
end L2
namespace Dl
open PySem PySem.Spec PyProof.Rows L2 Evl
section
variable [Z : Zo] {K : PySem.W.Frag} {ρ : List R} {S : Store} {te : TE}
def Sqb (r : R) (Φ : List D → Prop) : Prop := ∃ ds, (r = .dat (.lst ds) ∨ r = .dat (.tup ds) ∨ r = .dat (.ftup ds)) ∧ Φ ds
theorem sqb_l {ds : List D} {Φ : List D → Prop} (k : Φ ds) : Sqb (.dat (.lst ds)) Φ := ⟨ds, .inl rfl, k⟩
theorem sqb_t {ds : List D} {Φ : List D → Prop} (k : Φ ds) : Sqb (.dat (.tup ds)) Φ := ⟨ds, .inr (.inl rfl), k⟩
theorem sqb_f {ds : List D} {Φ : List D → Prop} (k : Φ ds) : Sqb (.dat (.ftup ds)) Φ := ⟨ds, .inr (.inr rfl), k⟩
theorem wi_seq {Φ : List D → Store → Prop} (h : Wp K te ρ S fun r S1 => Sqb r fun ds => Φ ds S1) : WpI K (iSeq K te) ρ S Φ := fun A σ H f Q q =>
  h A σ H f _ fun r S1 A1 v H1 ⟨ds, e, k⟩ g1 so1 rr => by
    rcases e with rfl | rfl | rfl
    · obtain ⟨a, xs, rfl, sq, it⟩ := it_lst rr
      exact ⟨a, rfl, .inl ⟨⟨xs, sq⟩, q ds S1 A1 _ H1 k g1 so1 it⟩⟩
    · obtain ⟨a, xs, rfl, sq, it⟩ := it_tup (.inl rfl) rr
      exact ⟨a, rfl, .inr ⟨⟨xs, sq⟩, q ds S1 A1 _ H1 k g1 so1 it⟩⟩
    · obtain ⟨a, xs, rfl, sq, it⟩ := it_tup (.inr rfl) rr
      exact ⟨a, rfl, .inr ⟨⟨xs, sq⟩, q ds S1 A1 _ H1 k g1 so1 it⟩⟩
def Sqg (K : PySem.W.Frag) (r : R) (Φ : List D → Prop) : Prop := ∃ (x : Str) (ns : List Int), r = .dat (.glo x) ∧ (∀ H : Hp, SqT K H (He.ga K x) (ns.map V.int)) ∧ Φ (ns.map .int)
theorem sqg {x : Str} {ns : List Int} {Φ : List D → Prop} (h : ∀ H : Hp, SqT K H (He.ga K x) (ns.map V.int)) (k : Φ (ns.map .int)) : Sqg K (.dat (.glo x)) Φ := ⟨x, ns, rfl, h, k⟩
theorem wi_glo {Φ : List D → Store → Prop} (h : Wp K te ρ S fun r S1 => Sqg K r fun ds => Φ ds S1) : WpI K (iGlo K te) ρ S Φ := fun A σ H f Q q =>
  h A σ H f _ fun r S1 A1 v H1 ⟨x, ns, e, hx, k⟩ g1 so1 rr => by
    subst e
    cases rr
    refine ⟨_, rfl, ⟨_, hx H1⟩, q _ S1 A1 _ H1 k g1 so1 fun X1 H3 g _ => ?_⟩
    refine ⟨fun i d hd => ?_, ⟨_, hx H3, by rw [List.length_map, List.length_map]; exact Nat.le_refl _⟩⟩
    rw [List.getElem?_map] at hd
    cases e : ns[i]? with
    | none => rw [e] at hd; cases hd
    | some n =>
      rw [e] at hd
      cases hd
      have hv : (ns.map V.int)[i]? = some (.int n) := by rw [List.getElem?_map, e]; rfl
      refine ⟨⟨_, _, hx _, hv⟩, fun x H2 y => ?_⟩
      obtain ⟨e, y⟩ := y
      subst e
      have e2 := y _ (hx _)
      rw [hv] at e2
      cases e2
      exact ⟨Ex.refl _, .int n⟩
theorem c_sum {ds : List D} {ns : List Int} {Φ : R → Prop} (e : ds = ns.map .int) (k : Φ (.dat (.int ns.sum))) : Cb K (rSum K) [.dat (.lst ds)] S Φ := cb_val (fun A H vs so rx => by
  subst e
  obtain ⟨v, rfl, r⟩ := reps1 rx
  obtain ⟨a, xs, rfl, sq, l⟩ := rep_lst r
  rw [repl_int l] at sq
  exact ⟨_, Rep.int _, fun Q q => ⟨a, ns, rfl, sq, q⟩⟩) k
theorem wg_lst {n : Nat} {gs : TGs} {ds : List Dl.D} {Φ : List R → Store → Prop} (hn : ds.length = n) (h : WpGs K gs (ds.map .dat) ρ S Φ) : WpG K (gLst K n gs) (.dat (.lst ds)) ρ S Φ := fun A σ H v f rr Q q => by
  obtain ⟨a, xs, rfl, sq, l⟩ := rep_lst rr
  exact ⟨a, xs, rfl, sq, by rw [← l.length]; exact hn, h A σ H xs f (reps_of l) Q q⟩
theorem wg_lst2 {n : Nat} {gs : TGs} {a b : Dl.D} {Φ : List R → Store → Prop} (hn : 2 = n) (h : WpGs K gs [.dat a, .dat b] ρ S Φ) : WpG K (gLst K n gs) (.dat (.lst [a, b])) ρ S Φ := wg_lst hn h
end
end Dl
/-! Bodies of defs; instances of own classes; what is raised. -/
namespace Dl
open PySem PySem.Spec PyProof.Rows L2 _root_.Evl
/-- what an exception carries -/
def ExcD (K : PySem.W.Frag) (X : Addr → Prop) (H : Hp) (fs : List (Str × D)) : Option Addr → Prop
  | some d => ∃ gs, ¬ X d ∧ H d = some (.xd gs) ∧ RepF K X H fs gs
  | none => fs = []
theorem ExcD.go {K : PySem.W.Frag} {X X' : Addr → Prop} {H H' : Hp} (g : Gw X H X' H') {fs : List (Str × D)} : ∀ {d : Option Addr}, ExcD K X H fs d → ExcD K X' H' fs d
  | some _, ⟨gs, n, h, l⟩ => ⟨gs, g.no n h, g.h _ _ n h, l.go g⟩
  | none, h => h
/-- what is told of an exception that leaves a def -/
abbrev PX := Str → List (Str × D) → Store → Prop
/-- what a def does: of its arguments, the store, what is wanted of its answer, what is wanted of an exception -/
abbrev Sdx := List R → Store → (D → Store → Prop) → PX → Prop
def noX : PX := fun _ _ _ => False
def liftX (K : PySem.W.Frag) (sd : Sdx) : Sp := fun vs H Q E => ∃ (A : List Addr) (S : Store) (rs : List R) (Φ : D → Store → Prop) (Ψ : PX), SOk K A S H ∧ RepRs K A S H rs vs ∧ sd rs S Φ Ψ ∧
  (∀ (d : D) (S' : Store) (v : V) (H' : Hp), Φ d S' → Gw (Lv A S) H (Lv A S') H' → SOk K A S' H' → Rep K (Lv A S') H' d v → Q v H') ∧
  (∀ (c : Str) (fs : List (Str × D)) (S' : Store) (d : Option Addr) (H' : Hp), Ψ c fs S' → Gw (Lv A S) H (Lv A S') H' → SOk K A S' H' → ExcD K (Lv A S') H' fs d → E (.ref (He.ga K c)) d H')
/-- .. of a class's __init__, its new instance the last thing of the store -/
def liftI (K : PySem.W.Frag) (c : Str) (sd : Sdx) : Sp := fun vs H Q E => ∃ (A : List Addr) (S : Store) (rs : List R) (Φ : D → Store → Prop) (Ψ : PX) (a : Addr) (ws : List V), vs = .ref a :: ws ∧ SOk K (A ++ [a]) (S ++ [.ob c []]) H ∧ RepRs K (A ++ [a]) (S ++ [.ob c []]) H rs ws ∧ sd rs S Φ Ψ ∧
  (∀ (fs : List (Str × D)) (S' : Store) (H' : Hp), Φ (.ins c fs) S' → Gw (Lv (A ++ [a]) (S ++ [.ob c []])) H (Lv (A ++ [a]) (S' ++ [.ob c fs])) H' → SOk K (A ++ [a]) (S' ++ [.ob c fs]) H' → Q .non H') ∧
  (∀ (x : Str) (fs : List (Str × D)) (S' : Store) (d : Option Addr) (H' : Hp), Ψ x fs S' → Gw (Lv (A ++ [a]) (S ++ [.ob c []])) H (Lv A S') H' → SOk K A S' H' → ExcD K (Lv A S') H' fs d → E (.ref (He.ga K x)) d H')
/-- the wish W is met by what Ψ says -/
def Rz [Z : Zo] (K : PySem.W.Frag) (W : WX) (Ψ : Str → List (Str × D) → List R → Store → Prop) : Prop := ∀ (A : List Addr) (S : Store) (H : Hp) (ρ : List R) (σ : L2.St) (c : Str) (fs : List (Str × D)) (d : Option Addr),
  Fr K A S H ρ σ → Ψ c fs ρ S → ExcD K (Lv A S) H fs d → W (.ref (He.ga K c)) d σ H
section
variable {K : PySem.W.Frag} {A A' A1 A2 : List Addr} {S S' S1 S2 : Store} {H H' H1 H2 : Hp} {ρ : List R} {σ : L2.St} {t u : TS}
theorem fn_fin {Q : VK} {Φ : D → Store → Prop} (so : SOk K A S H) (k : ∀ (d : D) (S' : Store) (v : V) (H' : Hp), Φ d S' → Gw (Lv A S) H (Lv A S') H' → SOk K A S' H' → Rep K (Lv A S') H' d v → Q v H')
    (d : D) (S' : Store) (A' : List Addr) (v : V) (H' : Hp) (p : Φ d (S'.take S.length)) (g : Gr A S H A' S' H') (so' : SOk K A' S' H') (r : Gw (Lv A' S') H' (Lv A (S'.take S.length)) H' → (∀ a, a ∈ A' → a ∉ A → ¬ Lv A (S'.take S.length) a) → Rep K (Lv A (S'.take S.length)) H' d v) : Q v H' := by
  obtain ⟨A1, rfl⟩ := g.pre
  obtain ⟨so2, g2⟩ := so'.cut
  rw [so.len] at so2 g2
  exact k d _ v H' p (g.gw.trans g2) so2 (r g2 fun a _ na ⟨j, m, hj, _⟩ => na (List.mem_of_getElem? hj))
theorem ret_fin {Q : VK} {Φ : D → Store → Prop} (so : SOk K A S H) (k : ∀ (d : D) (S' : Store) (v : V) (H' : Hp), Φ d S' → Gw (Lv A S) H (Lv A S') H' → SOk K A S' H' → Rep K (Lv A S') H' d v → Q v H') :
    ∀ (r : R) (S' : Store) (A' : List Addr) (v : V) (H' : Hp), retR Φ S.length r S' → Gr A S H A' S' H' → SOk K A' S' H' → RepR K A' S' H' r v → Q v H' := by
  intro r S' A' v H' p g so' r'
  cases r with
  | dat d => exact fn_fin so k d S' A' v H' p g so' fun g2 _ => Rep.go g2 r'
  | mu j =>
    obtain ⟨ds, hj, hs, p⟩ := p
    obtain ⟨a, ha, rfl⟩ := r'
    obtain ⟨xs, hx, l⟩ := so'.ok j a _ ha hs
    refine fn_fin so k _ S' A' _ H' p g so' fun g2 nn => .lst (nn a (List.mem_of_getElem? ha) fun ma => ?_) hx (l.go g2)
    obtain ⟨A1, rfl⟩ := g.pre
    obtain ⟨i, li, ei⟩ := List.getElem_of_mem ma
    have h1 : (A ++ A1)[i]? = some a := by
      rw [List.getElem?_append_left li, List.getElem?_eq_getElem li, ei]
    have := nd_inj so'.nd h1 ha
    have := so.len
    omega
  | no => exact p.elim
theorem fn_body {N : List Str} {rs : List R} {vs : List V} {Q : VK} {Φ : D → Store → Prop} (n : Nat) (hn : n = N.length - rs.length) (so : SOk K A S H) (rr : RepRs K A S H rs vs)
    (k : ∀ (d : D) (S' : Store) (v : V) (H' : Hp), Φ d S' → Gw (Lv A S) H (Lv A S') H' → SOk K A S' H' → Rep K (Lv A S') H' d v → Q v H') (h : ∀ [Z : Zo], WpS K t (rs ++ List.replicate n .no) S (retN Φ S.length) (retR Φ S.length) noP noP) : t { nx := fun _ H' => Q .non H', rt := Q } (L2.start N vs) H :=
  @h zo0 A _ H ⟨so, start_ok rr n hn, trivial⟩ _ ⟨fun ρ' S' A' σ' H' p g f => fn_fin so k .non S' A' _ H' p g f.st fun _ _ => .non, ret_fin so k, fun _ _ _ _ _ p => p.elim, fun _ _ _ _ _ p => p.elim⟩
/-- from a place on -/
@[reducible] def zoG (A : List Addr) (S : Store) (H : Hp) : Zo := ⟨fun A' S' H' => Gr A S H A' S' H', fun h g => h.trans g⟩
theorem fn_bodyX {N : List Str} {rs : List R} {vs : List V} {Q : VK} {E : XK} {Φ : D → Store → Prop} {Ψ : PX} (n : Nat) (hn : n = N.length - rs.length) (so : SOk K A S H) (rr : RepRs K A S H rs vs)
    (k : ∀ (d : D) (S' : Store) (v : V) (H' : Hp), Φ d S' → Gw (Lv A S) H (Lv A S') H' → SOk K A S' H' → Rep K (Lv A S') H' d v → Q v H')
    (kx : ∀ (c : Str) (fs : List (Str × D)) (S' : Store) (d : Option Addr) (H' : Hp), Ψ c fs S' → Gw (Lv A S) H (Lv A S') H' → SOk K A S' H' → ExcD K (Lv A S') H' fs d → E (.ref (He.ga K c)) d H')
    (h : ∀ [Z : Zo], Rz K (fun cls d _ H => E cls d H) (fun c fs _ S' => Ψ c fs (S'.take S.length)) → WpS K t (rs ++ List.replicate n .no) S (retN Φ S.length) (retR Φ S.length) noP noP) : t { nx := fun _ H' => Q .non H', rt := Q } (L2.start N vs) H := by
  letI Z : Zo := zoG A S H
  refine h (fun A' S' H' ρ σ c fs d f p x => ?_) A _ H ⟨so, start_ok rr n hn, show Gr A S H A S H from Gr.refl⟩ _ ⟨fun ρ' S' A' σ' H' p g f => fn_fin so k .non S' A' _ H' p g f.st fun _ _ => .non, ret_fin so k, fun _ _ _ _ _ p => p.elim, fun _ _ _ _ _ p => p.elim⟩
  have g : Gr A S H A' S' H' := f.xo
  have so' := f.st
  obtain ⟨A1, rfl⟩ := g.pre
  obtain ⟨so2, g2⟩ := so'.cut
  rw [so.len] at so2 g2
  exact kx c fs _ d H' p (g.gw.trans g2) so2 (x.go g2)
theorem fn_bodyM {N : List Str} {rs : List R} {vs : List V} {Q : VK} {Φ : List D → Store → Prop} (n : Nat) (hn : n = N.length - rs.length) (so : SOk K A S H) (rr : RepRs K A S H rs vs)
    (k : ∀ (ds : List D) (S' : Store) (p : Addr) (H' : Hp), Φ ds S' → Gr A S H (A ++ [p]) (S' ++ [.ls ds]) H' → SOk K (A ++ [p]) (S' ++ [.ls ds]) H' → Q (.ref p) H') (h : ∀ [Z : Zo], WpS K t (rs ++ List.replicate n .no) S noP (retM Φ S.length) noP noP) : t { nx := fun _ H' => Q .non H', rt := Q } (L2.start N vs) H := by
  refine @h zo0 A _ H ⟨so, start_ok rr n hn, trivial⟩ _ ⟨fun _ _ _ _ _ p => p.elim, fun r S' A' v H' p g so' r' => ?_, fun _ _ _ _ _ p => p.elim, fun _ _ _ _ _ p => p.elim⟩
  obtain ⟨ds, S0, er, es, el, p⟩ := p
  subst er es
  obtain ⟨a, ha, rfl⟩ := r'
  obtain ⟨T, rfl⟩ := g.pre
  have hl := so'.len
  rw [List.length_append, List.length_append, so.len, el] at hl
  have ht : T.length = 1 := by simpa using hl
  obtain ⟨q, rfl⟩ := List.length_eq_one_iff.mp ht
  rw [last_get so.len] at ha
  cases ha
  exact k ds S0 _ H' p g so'
/-- behind an __init__: the instance is the last thing of the store -/
def iniN (c : Str) (Φ : D → Store → Prop) (n : Nat) : PR := fun _ S' => ∃ fs S0 T, S' = S0 ++ .ob c fs :: T ∧ S0.length = n ∧ Φ (.ins c fs) S0
theorem fn_bodyI {N : List Str} {c : Str} {rs : List R} {ws : List V} {a : Addr} {Q : VK} {E : XK} {Φ : D → Store → Prop} {Ψ : PX} (n : Nat) (hn : n = N.length - (rs.length + 1)) (so : SOk K (A ++ [a]) (S ++ [.ob c []]) H) (rr : RepRs K (A ++ [a]) (S ++ [.ob c []]) H rs ws)
    (k : ∀ (fs : List (Str × D)) (S' : Store) (H' : Hp), Φ (.ins c fs) S' → Gw (Lv (A ++ [a]) (S ++ [.ob c []])) H (Lv (A ++ [a]) (S' ++ [.ob c fs])) H' → SOk K (A ++ [a]) (S' ++ [.ob c fs]) H' → Q .non H')
    (kx : ∀ (x : Str) (fs : List (Str × D)) (S' : Store) (d : Option Addr) (H' : Hp), Ψ x fs S' → Gw (Lv (A ++ [a]) (S ++ [.ob c []])) H (Lv A S') H' → SOk K A S' H' → ExcD K (Lv A S') H' fs d → E (.ref (He.ga K x)) d H')
    (h : ∀ [Z : Zo], Rz K (fun cls d _ H => E cls d H) (fun x fs _ S' => Ψ x fs (S'.take S.length)) → WpS K t (.mu S.length :: rs ++ List.replicate n .no) (S ++ [.ob c []]) (iniN c Φ S.length) (fun _ _ => False) noP noP) : t { nx := fun _ H' => Q .non H', rt := Q } (L2.start N (.ref a :: ws)) H := by
  have la : A.length = S.length := ln_back so
  have r0 : RepRs K (A ++ [a]) (S ++ [.ob c []]) H (.mu S.length :: rs) (.ref a :: ws) := .cons ⟨a, last_get la, rfl⟩ rr
  letI Z : Zo := zoG (A ++ [a]) (S ++ [.ob c []]) H
  refine h (fun A' S' H' ρ σ x fs d f p y => ?_) (A ++ [a]) _ H ⟨so, start_ok r0 n (by rw [List.length_cons]; exact hn), show Gr (A ++ [a]) (S ++ [.ob c []]) H (A ++ [a]) (S ++ [.ob c []]) H from Gr.refl⟩ _ ⟨fun ρ' S' A' σ' H' p g f => ?_, fun _ _ _ _ _ p => p.elim, fun _ _ _ _ _ p => p.elim, fun _ _ _ _ _ p => p.elim⟩
  · have g : Gr (A ++ [a]) (S ++ [.ob c []]) H A' S' H' := f.xo
    have so' := f.st
    obtain ⟨A1, rfl⟩ := g.pre
    rw [List.append_assoc] at so' g y
    obtain ⟨so2, g2⟩ := so'.cut
    rw [la] at so2 g2
    exact kx x fs _ d H' p (g.gw.trans g2) so2 (y.go g2)
  · obtain ⟨fs, S0, T, rfl, l0, p⟩ := p
    have so' := f.st
    obtain ⟨A1, rfl⟩ := g.pre
    obtain ⟨so2, g2⟩ := so'.cut
    have et : (S0 ++ MO.ob c fs :: T).take (A ++ [a]).length = S0 ++ [.ob c fs] := by
      rw [show S0 ++ MO.ob c fs :: T = (S0 ++ [MO.ob c fs]) ++ T by simp, show (A ++ [a]).length = (S0 ++ [MO.ob c fs]).length by rw [List.length_append, List.length_append, la, l0]; rfl, List.take_left]
    rw [et] at so2 g2
    exact k fs S0 H' p (g.gw.trans g2) so2
end
section
variable [Z : Zo] {K : PySem.W.Frag} {A A' A1 A2 : List Addr} {S S' S1 S2 : Store} {H H' H1 H2 : Hp} {ρ : List R} {σ : L2.St} {Φ : R → Store → Prop} {te ta tb tc to : TE} {tl : TA} {t u : TS} {Nx Bk Ct : PR} {Rt : R → Store → Prop} {W : WX} {Ψ : Str → List (Str × D) → List R → Store → Prop}
/-- written values as data -/
def RepC (ds : List D) (vs : List V) : Prop := ∀ (K : PySem.W.Frag) (A : List Addr) (S : Store) (H : Hp), RepRs K A S H (ds.map .dat) vs
theorem rc_nil : RepC [] [] := fun _ _ _ _ => .nil
theorem rc_int {i : Int} {ds : List D} {vs : List V} (h : RepC ds vs) : RepC (.int i :: ds) (.int i :: vs) := fun K A S H => .cons (.int i) (h K A S H)
theorem rc_bl {b : Bool} {ds : List D} {vs : List V} (h : RepC ds vs) : RepC (.bl b :: ds) (.bl b :: vs) := fun K A S H => .cons (.bl b) (h K A S H)
theorem rc_non {ds : List D} {vs : List V} (h : RepC ds vs) : RepC (.non :: ds) (.non :: vs) := fun K A S H => .cons .non (h K A S H)
theorem reps_app {rs qs : List R} {vs us : List V} : RepRs K A S H rs vs → RepRs K A S H qs us → RepRs K A S H (rs ++ qs) (vs ++ us)
  | .nil, h => h
  | .cons a b, h => .cons a (reps_app b h)
/-- a call that doesn't raise, with defaults -/
theorem wp_callD {sd : Sd} {E : XK} {dvs : List V} {dv : List D} (hd : RepC dv dvs) (h : WpA K tl ρ S fun rs S1 => sd (rs ++ dv.map .dat) S1 fun d S2 => Φ (.dat d) S2) : Wp K (tCall (lift K sd) dvs E tl) ρ S Φ := fun A σ H f Q q =>
  h A σ H f _ fun rs S1 A1 vs H1 hs g1 so1 rr => ⟨A1, S1, _, _, so1, reps_app rr (hd K A1 S1 H1), hs, fun d S' v H' k g so r => q _ S' A1 v H' k ⟨g1.pre, g1.gw.trans g⟩ so r⟩
/-! ### fields -/
structure ClF (K : PySem.W.Frag) (c : Str) (xs : List Str) : Prop where
  cl : Cls K (He.ga K c)
  no : ∀ x ∈ xs, NoAttr K (He.ga K c) x
  own : OwnC K (He.ga K c)
def Fl (K : PySem.W.Frag) (r : R) (f : Str) (S : Store) (Φ : R → Prop) : Prop := ∃ c fs d, (r = .dat (.ins c fs) ∨ ∃ k, r = .mu k ∧ S[k]? = some (.ob c fs)) ∧ Cls K (He.ga K c) ∧ NoAttr K (He.ga K c) f ∧ fs.lookup f = some d ∧ Φ (.dat d)
theorem wp_fld {f : Str} (h : Wp K te ρ S fun r S1 => Fl K r f S1 fun z => Φ z S1) : Wp K (tFld K te f) ρ S Φ := fun A σ H g Q q =>
  h A σ H g _ fun r S1 A1 v H1 ⟨c, fs, d, hr, hc, hn, hl, k⟩ g1 so1 rr => by
    rcases hr with rfl | ⟨j, rfl, hj⟩
    · cases rr with
      | @ins a dx _ _ gs n hx rf =>
        obtain ⟨w, hw, rw⟩ := rf.get hl
        exact ⟨a, _, dx, gs, w, rfl, hx, hc, hn, hw, q _ S1 A1 _ H1 k g1 so1 rw⟩
    · obtain ⟨a, ha, rfl⟩ := rr
      obtain ⟨dx, gs, hx, rf⟩ := so1.ok j a _ ha hj
      obtain ⟨w, hw, rw⟩ := rf.get hl
      exact ⟨a, _, dx, gs, w, rfl, hx, hc, hn, hw, q _ S1 A1 _ H1 k g1 so1 rw⟩
omit Z in
theorem fl_ins {c f : Str} {xs : List Str} {fs : List (Str × D)} {d : D} {Φ : R → Prop} (h : ClF K c xs) (hx : xs.contains f = true) (hl : fs.lookup f = some d) (k : Φ (.dat d)) : Fl K (.dat (.ins c fs)) f S Φ :=
  ⟨c, fs, d, .inl rfl, h.cl, h.no f (List.contains_iff_mem.mp hx), hl, k⟩
omit Z in
theorem fl_ob {c f : Str} {j : Nat} {xs : List Str} {fs : List (Str × D)} {d : D} {Φ : R → Prop} (hj : S[j]? = some (.ob c fs)) (h : ClF K c xs) (hx : xs.contains f = true) (hl : fs.lookup f = some d) (k : Φ (.dat d)) : Fl K (.mu j) f S Φ :=
  ⟨c, fs, d, .inr ⟨j, rfl, hj⟩, h.cl, h.no f (List.contains_iff_mem.mp hx), hl, k⟩
omit Z in
theorem lk_hd {x : Str} {d : D} {fs : List (Str × D)} : ((x, d) :: fs).lookup x = some d := by simp [List.lookup]
omit Z in
theorem lk_tl {x y : Str} {d e : D} {fs : List (Str × D)} (h : (y == x) = false) (k : fs.lookup y = some e) : ((x, d) :: fs).lookup y = some e := by
  unfold List.lookup
  rw [h]
  exact k
omit Z in
theorem lk_no {x y : Str} {d : D} {fs : List (Str × D)} (h : (y == x) = false) (k : fs.lookup y = none) : ((x, d) :: fs).lookup y = none := by
  unfold List.lookup
  rw [h]
  exact k
/-- o.f = e -/
def putD (f : Str) (d : D) : List (Str × D) → List (Str × D)
  | [] => [(f, d)]
  | (g, x) :: r => if g = f then (g, d) :: r else (g, x) :: putD f d r
omit Z in
theorem RepF.put {X : Addr → Prop} {f : Str} {d : D} {v : V} (h : Rep K X H d v) : ∀ {fs : List (Str × D)} {gs : List (Str × V)}, RepF K X H fs gs → RepF K X H (putD f d fs) (putF f v gs)
  | _, _, .nil => .cons h .nil
  | _, _, .cons (x := x) r t => by
    unfold putD putF
    by_cases e : x = f
    · rw [if_pos e, if_pos e]
      exact .cons h t
    · rw [if_neg e, if_neg e]
      exact .cons r (RepF.put h t)
omit Z in
theorem RepF.len {X : Addr → Prop} : ∀ {fs : List (Str × D)} {gs : List (Str × V)}, RepF K X H fs gs → fs.length = gs.length
  | _, _, .nil => rfl
  | _, _, .cons _ t => congrArg (· + 1) t.len
def Pf (K : PySem.W.Frag) (y o : R) (f : Str) (S : Store) (Φ : Store → Prop) : Prop := ∃ (k : Nat) (c : Str) (fs : List (Str × D)) (d : D), o = .mu k ∧ y = .dat d ∧ S[k]? = some (.ob c fs) ∧ Cls K (He.ga K c) ∧ NoAttr K (He.ga K c) f ∧ fs.length < 1000 ∧ Φ (S.set k (.ob c (putD f d fs)))
theorem ws_fld {f : Str} (h : Wp K te ρ S fun y S1 => Wp K to ρ S1 fun o S2 => Pf K y o f S2 fun S3 => Nx ρ S3) : WpS K (sFld K to te f) ρ S Nx Rt Bk Ct := fun A σ H g D e =>
  h A σ H g _ fun y S1 A1 vy H1 hw g1 so1 ry => hw A1 σ H1 (g.go g1 so1) _ fun o S2 A2 vo H2 ⟨k, c, fs, d, eo, ey, hk, hc, hn, hl, p⟩ g2 so2 ro => by
    subst eo ey
    obtain ⟨a, ha, rfl⟩ := ro
    obtain ⟨dx, gs, hx, rf⟩ := so2.ok k a _ ha hk
    obtain ⟨so3, g3⟩ := so2.put (m' := .ob c (putD f d fs)) (o := .ins (He.ga K c) dx (putF f vy gs)) ha hk nofun nofun fun X _ g => ⟨dx, _, upd_same, (RepF.go g rf).put (Rep.go g (RepR.go (r := .dat d) g2 ry))⟩
    have gg := (g1.trans g2).trans g3
    exact ⟨a, _, dx, gs, rfl, hx, hc, hn, by rw [← rf.len]; exact hl, e.nx ρ _ A2 σ _ p gg ⟨so3, g.en.go gg, Z.mono g.xo gg⟩⟩
omit Z in
theorem pf_last {c f : Str} {xs : List Str} {fs : List (Str × D)} {d : D} {T : Store} {Φ : Store → Prop} (h : ClF K c xs) (hx : xs.contains f = true) (hl : fs.length < 1000) (k : Φ (S ++ .ob c (putD f d fs) :: T)) : Pf K (.dat d) (.mu S.length) f (S ++ .ob c fs :: T) Φ :=
  ⟨S.length, c, fs, d, rfl, rfl, by rw [List.getElem?_append_right (Nat.le_refl _), Nat.sub_self]; rfl, h.cl, h.no f (List.contains_iff_mem.mp hx), hl, by rw [List.set_append_right _ _ (Nat.le_refl _), Nat.sub_self]; exact k⟩
/-! ### makers -/
omit Z in
/-- what a maker's end gives -/
theorem mk_end {c : Str} {fs : List (Str × D)} {a : Addr} (so : SOk K (A ++ [a]) (S ++ [.ob c fs]) H) : SOk K A S H ∧ Gw (Lv (A ++ [a]) (S ++ [.ob c fs])) H (Lv A S) H ∧ Rep K (Lv A S) H (.ins c fs) (.ref a) := by
  have la : A.length = S.length := ln_back so
  obtain ⟨so2, g2⟩ := so.cut
  rw [la, List.take_left] at so2 g2
  obtain ⟨dx, gs, hx, rf⟩ := so.ok S.length a _ (last_get la) (last_get rfl)
  refine ⟨so2, g2, .ins (fun ⟨j, m, hj, _⟩ => ?_) hx (rf.go g2)⟩
  have lj := (List.getElem?_eq_some_iff.mp hj).1
  have h1 : (A ++ [a])[j]? = some a := by
    rw [List.getElem?_append_left lj]
    exact hj
  have := nd_inj so.nd h1 (last_get la)
  omega
omit Z in
theorem mk_new {c : Str} {x dx : Addr} (so : SOk K A S H) (hx : H x = none) (hd : H dx = none) (ne : dx ≠ x) : SOk K (A ++ [x]) (S ++ [.ob c []]) (upd (upd H dx (.own x)) x (.ins (He.ga K c) dx [])) ∧ Gr A S H (A ++ [x]) (S ++ [.ob c []]) (upd (upd H dx (.own x)) x (.ins (He.ga K c) dx [])) := by
  have so1 := so.ex (Ex.new (o := .own x) hd)
  have hx1 : (upd H dx (.own x)) x = none := by
    rw [upd_ne (Ne.symm ne)]
    exact hx
  obtain ⟨so2, g2⟩ := so1.add (m := .ob c []) (o := .ins (He.ga K c) dx []) hx1 fun X g => ⟨dx, [], upd_same, .nil⟩
  exact ⟨so2, (Gr.ex (Ex.new hd)).trans g2⟩
/-- o.m(..) that doesn't raise, with defaults -/
theorem wp_methD {sd : Sd} {E : XK} {C : Addr} {m : Str} {dvs : List V} {dv : List D} (hd : RepC dv dvs) (h : Wp K ta ρ S fun x S1 => Me K C m x (WpA K tl ρ S1 fun rs S2 => sd (x :: rs ++ dv.map .dat) S2 fun d S3 => Φ (.dat d) S3)) : Wp K (tMeth C m (lift K sd) dvs E ta tl) ρ S Φ := fun A σ H f Q q =>
  h A σ H f _ fun x S1 A1 v H1 ⟨c, fs, ex, ec, hn, hw⟩ g1 so1 rx => by
    subst ex ec
    cases rx with
    | @ins a dx _ _ gs n hx rf =>
      refine ⟨_, dx, gs, rfl, hx, rf.no hn, hw A1 σ H1 (f.go g1 so1) _ fun rs S2 A2 vs H2 hs g2 so2 rr => ⟨A2, S2, _, _, so2, .cons (RepR.go (r := .dat (.ins c fs)) g2 (.ins n hx rf)) (reps_app rr (hd K A2 S2 H2)), hs, fun d S' v H' k g so r => q _ S' A2 v H' k ⟨(g1.trans g2).pre, (g1.trans g2).gw.trans g⟩ so r⟩⟩
omit Z in
theorem me_ins {m c : Str} {fs : List (Str × D)} {P : Prop} (hn : fs.lookup m = none) (k : P) : Me K (He.ga K c) m (.dat (.ins c fs)) P := ⟨c, fs, rfl, rfl, hn, k⟩
/-! ### isinstance -/
omit Z in
theorem c_isO {c : Str} {xs : List Str} {fs : List (Str × D)} {Φ : R → Prop} (h : ClF K c xs) (k : Φ (.dat (.bl true))) : Cb K (rIsi K) [.dat (.ins c fs), .dat (.glo c)] S Φ := cb_val (fun A H vs so rx => by
  obtain ⟨v, w, rfl, r1, r2⟩ := reps2 rx
  cases r2
  cases r1 with
  | ins n hx rf => exact ⟨_, Rep.bl _, fun Q q => ⟨_, _, _, _, true, rfl, .own _, .base (.ins hx h.cl h.own.is.ha h.own.is.hn h.own.is.htk h.own.is.hm), kit_self, q⟩⟩) k
omit Z in
/-- a thing of a built-in kind is no instance of an own class -/
theorem c_isK {c : Str} {xs : List Str} {d : D} {T : String} {Φ : R → Prop} (h : ClF K c xs) (hd : d.ty? = some T) (hT : kindsT.contains T = true) (k : Φ (.dat (.bl false))) : Cb K (rIsi K) [.dat d, .dat (.glo c)] S Φ := cb_val (fun A H vs so rx => by
  obtain ⟨v, w, rfl, r1, r2⟩ := reps2 rx
  cases r2
  exact ⟨_, Rep.bl _, fun Q q => ⟨_, _, _, _, false, rfl, .own _, rep_ty r1 hd, h.own.kit (List.contains_iff_mem.mp hT), q⟩⟩) k
omit Z in
/-- an instance of another own class -/
theorem c_isX {c e : Str} {xs : List Str} {fs : List (Str × D)} {b : Bool} {Φ : R → Prop} (h : ClF K e xs) (hk : PySem.W.kitOne K (.ref (He.ga K e)) (.ref (He.ga K c)) = some b) (k : Φ (.dat (.bl b))) : Cb K (rIsi K) [.dat (.ins e fs), .dat (.glo c)] S Φ := cb_val (fun A H vs so rx => by
  obtain ⟨v, w, rfl, r1, r2⟩ := reps2 rx
  cases r2
  cases r1 with
  | ins n hx rf => exact ⟨_, Rep.bl _, fun Q q => ⟨_, _, _, _, b, rfl, .own _, .base (.ins hx h.cl h.own.is.ha h.own.is.hn h.own.is.htk h.own.is.hm), hk, q⟩⟩) k
/-! ### str, repr, len of own values -/
def StO (c : Str) (sd : Sd) (rs : List R) (S : Store) (Φ : Str → Store → Prop) : Prop := ∃ fs, rs = [.dat (.ins c fs)] ∧ sd rs S fun d S2 => ∃ z, d = .str z ∧ Φ z S2
theorem wp_strO {c : Str} {sd : Sd} (h : WpA K tl ρ S fun rs S1 => StO c sd rs S1 fun z S2 => Φ (.dat (.str z)) S2) : Wp K (tCB (rStrO (He.ga K c) (lift K sd)) tl) ρ S Φ := fun A σ H f Q q =>
  h A σ H f _ fun rs S1 A1 vs H1 ⟨fs, er, hs⟩ g1 so1 rr => by
    subst er
    obtain ⟨v, rfl, r⟩ := reps1 rr
    cases id r with
    | @ins a dx _ _ gs n hx rf =>
      refine ⟨a, dx, gs, rfl, hx, A1, S1, _, _, so1, rr, hs, fun d S' v H' ⟨z, e, k⟩ g so r' => ?_⟩
      subst e
      obtain rfl := rep_str r'
      exact ⟨z, rfl, q _ S' A1 _ H' k ⟨g1.pre, g1.gw.trans g⟩ so r'⟩
theorem wp_fmtO {c : Str} {sd : Sd} (h : Wp K te ρ S fun r S1 => StO c sd [r] S1 fun z S2 => Φ (.dat (.str z)) S2) : Wp K (tFmtO (He.ga K c) (lift K sd) te) ρ S Φ := fun A σ H f Q q =>
  h A σ H f _ fun r S1 A1 v H1 ⟨fs, er, hs⟩ g1 so1 rr => by
    cases er
    have rr' : RepRs K A1 S1 H1 [.dat (.ins c fs)] [v] := .cons rr .nil
    cases rr with
    | @ins a dx _ _ gs n hx rf =>
      refine ⟨a, dx, gs, rfl, hx, A1, S1, _, _, so1, rr', hs, fun d S' v H' ⟨z, e, k⟩ g so r' => ?_⟩
      subst e
      obtain rfl := rep_str r'
      exact ⟨z, rfl, q _ S' A1 _ H' k ⟨g1.pre, g1.gw.trans g⟩ so r'⟩
def LeO (c : Str) (sd : Sd) (rs : List R) (S : Store) (Φ : Int → Store → Prop) : Prop := ∃ fs, rs = [.dat (.ins c fs)] ∧ sd rs S fun d S2 => ∃ i : Int, d = .int i ∧ 0 ≤ i ∧ i < 2 ^ 63 ∧ Φ i S2
theorem wp_lenO {c : Str} {sd : Sd} (h : WpA K tl ρ S fun rs S1 => LeO c sd rs S1 fun z S2 => Φ (.dat (.int z)) S2) : Wp K (tCB (rLenO (He.ga K c) (lift K sd)) tl) ρ S Φ := fun A σ H f Q q =>
  h A σ H f _ fun rs S1 A1 vs H1 ⟨fs, er, hs⟩ g1 so1 rr => by
    subst er
    obtain ⟨v, rfl, r⟩ := reps1 rr
    cases id r with
    | @ins a dx _ _ gs n hx rf =>
      refine ⟨a, dx, gs, rfl, hx, A1, S1, _, _, so1, rr, hs, fun d S' v H' ⟨z, e, z0, z1, k⟩ g so r' => ?_⟩
      subst e
      obtain rfl := rep_int r'
      exact ⟨z, rfl, z0, z1, q _ S' A1 _ H' k ⟨g1.pre, g1.gw.trans g⟩ so r'⟩
omit Z in
theorem st_o {c : Str} {sd : Sd} {fs : List (Str × D)} {Φ : Str → Store → Prop} (h : sd [.dat (.ins c fs)] S fun d S2 => ∃ z, d = .str z ∧ Φ z S2) : StO c sd [.dat (.ins c fs)] S Φ := ⟨fs, rfl, h⟩
omit Z in
theorem le_o {c : Str} {sd : Sd} {fs : List (Str × D)} {Φ : Int → Store → Prop} (h : sd [.dat (.ins c fs)] S fun d S2 => ∃ i : Int, d = .int i ∧ 0 ≤ i ∧ i < 2 ^ 63 ∧ Φ i S2) : LeO c sd [.dat (.ins c fs)] S Φ := ⟨fs, rfl, h⟩
end
end Dl
/-! Defs, methods and makers by their names: how they are called, calm or with what they raise. -/
namespace L2
open PySem PySem.Spec PyProof.Rows
/-- the parameters are bound with these defaults behind what is written -/
def Bs (K : PySem.W.Frag) (fd : FuncData) (ps : List Str) (sfx : List (List V)) : Prop := ∀ us ∈ sfx, ∃ ds, Vals us ds ∧ Binds K fd ps ds
structure Df (P : Program) (w : World) (K : PySem.W.Frag) (mg : Str → Option Value) (base : Heap) (CX : CXT) (k : Nat) (x : Str) (ps : List Str) (sfx : List (List V)) (sp : Sp) : Prop where
  ex : ∃ (f : Addr) (fd : FuncData), FnOk P w K mg base CX k f fd ps sp ∧ mg x = some (.ref f) ∧ PySem.W.keepIn K (.ref f) = true ∧ Bs K fd ps sfx
structure Dm (P : Program) (w : World) (K : PySem.W.Frag) (mg : Str → Option Value) (base : Heap) (CX : CXT) (k : Nat) (c m : Str) (ps : List Str) (sfx : List (List V)) (sp : Sp) : Prop where
  ex : ∃ fd : FuncData, FnOk P w K mg base CX k (He.ma K (He.ga K c) m) fd ps sp ∧ Bs K fd ps sfx
section
variable {X : Cx} {CX : CXT} {k : Nat} {x c m : Str} {ps : List Str} {sfx : List (List V)} {us : List V} {sp : Sp} {e o : Expr} {es : List Expr} {t : TA} {ta : TE} {p pos apos : Pos} {E : St → XK}
theorem pe_df (D : Df X.prog X.w X.K X.mg X.base CX0 k x ps sfx sp) (hu : us ∈ sfx) (hr : Room k X.A) (hg : Gl X x) (ha : PA X (e :: es) t) (hdb : (x == ("__debug__" : Str)) = false := by decide)
    (he : starEach (e :: es) X.env = (false, eval e X.env) :: starEach es X.env := by rfl) (hpl : (backTo pos (starEach es X.env)).any (·.1) = false := by rfl) :
    PE X (.Call (.Name x p) (e :: es) [] pos) (tCall sp us E0 t) := by
  obtain ⟨f, fd, F, m, kp, b⟩ := D.ex
  obtain ⟨ds, hv, hb⟩ := b us hu
  exact pe_call F hr hg m kp hb hv pass0 ha hdb he hpl
theorem pe_df0 (D : Df X.prog X.w X.K X.mg X.base CX0 k x ps sfx sp) (hu : us ∈ sfx) (hr : Room k X.A) (hg : Gl X x) (hdb : (x == ("__debug__" : Str)) = false := by decide) :
    PE X (.Call (.Name x p) [] [] pos) (tCall sp us E0 tNil) := by
  obtain ⟨f, fd, F, m, kp, b⟩ := D.ex
  obtain ⟨ds, hv, hb⟩ := b us hu
  exact pe_call0 F hr hg m kp hb hv pass0 hdb
/-- what it raises is wished for at the slots -/
theorem pe_dx (D : Df X.prog X.w X.K X.mg X.base CX k x ps sfx sp) (hu : us ∈ sfx) (hr : Room k X.A) (hg : Gl X x) (hx : ∀ σ, PassesAt CX X σ (E σ)) (ha : PA X (e :: es) t) (hdb : (x == ("__debug__" : Str)) = false := by decide)
    (he : starEach (e :: es) X.env = (false, eval e X.env) :: starEach es X.env := by rfl) (hpl : (backTo pos (starEach es X.env)).any (·.1) = false := by rfl) :
    PE X (.Call (.Name x p) (e :: es) [] pos) (tCallSD sp us E t) := by
  obtain ⟨f, fd, F, m, kp, b⟩ := D.ex
  obtain ⟨ds, hv, hb⟩ := b us hu
  exact pe_callSD F hr hg m kp hb hv hx ha hdb he hpl
theorem pe_dm {pl : Sem Bool} (ho : PE X o ta) (cl : Cls X.K (He.ga X.K c)) (hm : Meth X.K (He.ga X.K c) m (He.ma X.K (He.ga X.K c) m)) (D : Dm X.prog X.w X.K X.mg X.base CX0 k c m ps sfx sp) (hu : us ∈ sfx) (hr : Room k X.A) (ha : PA X (e :: es) t)
    (hst : starEach (e :: es) X.env = (false, eval e X.env) :: starEach es X.env := by rfl) (hpl : (backTo pos (starEach es X.env)).any (·.1) = false := by rfl)
    (ht : eval (.Call (.Attribute o m apos) (e :: es) [] pos) X.env = (do
      let ov ← eval o X.env
      standAt apos.atName
      let (f, first) ← holding [ov] (getMethod ov m pl)
      callWith pos f first (backTo pos (starEach (e :: es) X.env)) (backToKw pos (keywordEach [] X.env))) := by rfl) :
    PE X (.Call (.Attribute o m apos) (e :: es) [] pos) (tMeth (He.ga X.K c) m sp us E0 ta t) := by
  obtain ⟨fd, F, b⟩ := D.ex
  obtain ⟨ds, hv, hb⟩ := b us hu
  exact pe_meth ho cl hm F hr hb hv pass0 ha hst hpl ht
theorem pe_dm0 {pl : Sem Bool} (ho : PE X o ta) (cl : Cls X.K (He.ga X.K c)) (hm : Meth X.K (He.ga X.K c) m (He.ma X.K (He.ga X.K c) m)) (D : Dm X.prog X.w X.K X.mg X.base CX0 k c m ps sfx sp) (hu : us ∈ sfx) (hr : Room k X.A)
    (ht : eval (.Call (.Attribute o m apos) [] [] pos) X.env = (do
      let ov ← eval o X.env
      standAt apos.atName
      let (f, first) ← holding [ov] (getMethod ov m pl)
      callWith pos f first (backTo pos (starEach [] X.env)) (backToKw pos (keywordEach [] X.env))) := by rfl) :
    PE X (.Call (.Attribute o m apos) [] [] pos) (tMeth (He.ga X.K c) m sp us E0 ta tNil) := by
  obtain ⟨fd, F, b⟩ := D.ex
  obtain ⟨ds, hv, hb⟩ := b us hu
  exact pe_meth0 ho cl hm F hr hb hv pass0 ht
/-- o.m(..) that may raise -/
def tMethX (C : Addr) (m : Str) (sp : Sp) (us : List V) (E : St → XK) (ta : TE) (t : TA) : TE := fun σ H Q => ta σ H fun x H1 => ∃ a dx fs, x = .ref a ∧ H1 a = some (.ins C dx fs) ∧ fs.lookup m = none ∧ t σ H1 fun vs H2 => sp (x :: (vs ++ us)) H2 Q (E σ)
theorem pe_mx {pl : Sem Bool} (ho : PE X o ta) (cl : Cls X.K (He.ga X.K c)) (hm : Meth X.K (He.ga X.K c) m (He.ma X.K (He.ga X.K c) m)) (D : Dm X.prog X.w X.K X.mg X.base CX k c m ps sfx sp) (hu : us ∈ sfx) (hr : Room k X.A) (hx : ∀ σ, PassesAt CX X σ (E σ)) (ha : PA X (e :: es) t)
    (hst : starEach (e :: es) X.env = (false, eval e X.env) :: starEach es X.env := by rfl) (hpl : (backTo pos (starEach es X.env)).any (·.1) = false := by rfl)
    (ht : eval (.Call (.Attribute o m apos) (e :: es) [] pos) X.env = (do
      let ov ← eval o X.env
      standAt apos.atName
      let (f, first) ← holding [ov] (getMethod ov m pl)
      callWith pos f first (backTo pos (starEach (e :: es) X.env)) (backToKw pos (keywordEach [] X.env))) := by rfl) :
    PE X (.Call (.Attribute o m apos) (e :: es) [] pos) (tMethX (He.ga X.K c) m sp us E ta t) := by
  obtain ⟨fd, F, b⟩ := D.ex
  obtain ⟨ds, hv, hb⟩ := b us hu
  refine ⟨fun pins s σ H Q I h => ?_⟩
  refine PySem.W.methodCall_KW (pl := pl) (thn (ho.run pins s σ H _ I h) fun u s1 ⟨x, H1, I1, rx, a, dx, fs, ex, ea, l, q⟩ => ?_) ht
  subst ex
  obtain rfl : u = Value.ref a := rx
  refine getmeth_ok I1 ea cl hm l ?_
  refine PySem.W.callWith_K (first := [.ref a]) (h₀ := X.base) I.ok.mod.kin hm.kp (thn (ha.run pos pins s1 σ H1 _ I1 q) fun us s2 ⟨vs, H2, I2, r, q2⟩ => ⟨I2.kIn, ?_⟩) hst hpl
  exact run_fnSD (us := .ref a :: us) (vs := .ref a :: vs) F hr hb hv (hx σ) I2 (.cons rfl r) q2
theorem pe_mx0 {pl : Sem Bool} (ho : PE X o ta) (cl : Cls X.K (He.ga X.K c)) (hm : Meth X.K (He.ga X.K c) m (He.ma X.K (He.ga X.K c) m)) (D : Dm X.prog X.w X.K X.mg X.base CX k c m ps sfx sp) (hu : us ∈ sfx) (hr : Room k X.A) (hx : ∀ σ, PassesAt CX X σ (E σ))
    (ht : eval (.Call (.Attribute o m apos) [] [] pos) X.env = (do
      let ov ← eval o X.env
      standAt apos.atName
      let (f, first) ← holding [ov] (getMethod ov m pl)
      callWith pos f first (backTo pos (starEach [] X.env)) (backToKw pos (keywordEach [] X.env))) := by rfl) :
    PE X (.Call (.Attribute o m apos) [] [] pos) (tMethX (He.ga X.K c) m sp us E ta tNil) := by
  obtain ⟨fd, F, b⟩ := D.ex
  obtain ⟨ds, hv, hb⟩ := b us hu
  refine ⟨fun pins s σ H Q I h => ?_⟩
  refine PySem.W.methodCall_KW (pl := pl) (thn (ho.run pins s σ H _ I h) fun u s1 ⟨x, H1, I1, rx, a, dx, fs, ex, ea, l, q⟩ => ?_) ht
  subst ex
  obtain rfl : u = Value.ref a := rx
  refine getmeth_ok I1 ea cl hm l ?_
  exact PySem.W.callWith_K0 (first := [.ref a]) I1.kIn hm.kp (run_fnSD (us := [.ref a]) (vs := [.ref a]) F hr hb hv (hx σ) I1 (.cons rfl .nil) q)
/-- C(..) -/
theorem pe_mk (M : Mk X.K (He.ga X.K c) (He.ma X.K (He.ga X.K c) "__init__")) (D : Dm X.prog X.w X.K X.mg X.base CX0 k c "__init__" ps sfx sp) (hu : us ∈ sfx) (hr : Room (k + 1) X.A) (hg : Gl X x) (hm : X.mg x = some (.ref (He.ga X.K c)))
    (ha : PA X (e :: es) t) (hdb : (x == ("__debug__" : Str)) = false := by decide) (he : starEach (e :: es) X.env = (false, eval e X.env) :: starEach es X.env := by rfl) (hpl : (backTo pos (starEach es X.env)).any (·.1) = false := by rfl) :
    PE X (.Call (.Name x p) (e :: es) [] pos) (tMake (He.ga X.K c) sp us E0 t) := by
  obtain ⟨fd, F, b⟩ := D.ex
  obtain ⟨ds, hv, hb⟩ := b us hu
  exact pe_make M F hr hg hm hb hv pass0 ha hdb he hpl
def tMakeX (C : Addr) (sp : Sp) (us : List V) (E : St → XK) (t : TA) : TE := fun σ H Q => t σ H fun vs H1 => ∀ x dx, H1 x = none → H1 dx = none → dx ≠ x →
  sp (.ref x :: (vs ++ us)) (upd (upd H1 dx (.own x)) x (.ins C dx [])) (fun v H2 => v = .non ∧ Q (.ref x) H2) (E σ)
theorem run_makeX {C f : Addr} {fd : FuncData} {ds : List Value} {pins : List (Addr × Obj)} {σ : St} {H : Hp} {s : Shared} {Q : VK} {us : List Value} {vs dvs : List V} (M : Mk X.K C f) (F : FnOk X.prog X.w X.K X.mg X.base CX k f fd ps sp) (hr : Room (k + 1) X.A) (hb : Binds X.K fd ps ds) (hd : Vals dvs ds)
    (hx : PassesAt CX X σ (E σ)) (I : Inv X pins σ H s) (r : Vals vs us)
    (h : ∀ x dx, H x = none → H dx = none → dx ≠ x → sp (.ref x :: (vs ++ dvs)) (upd (upd H dx (.own x)) x (.ins C dx [])) (fun v H2 => v = .non ∧ Q (.ref x) H2) (E σ)) :
    wpAny (model X.prog X.w) X.A (call (.ref C) us) (EP X pins σ Q) X.xe s := by
  have hq := h (s.heap.objs.size + 1) s.heap.objs.size (I.hok.fresh (Nat.le_succ _)) (I.hok.fresh (Nat.le_refl _)) (Nat.ne_of_lt (Nat.lt_succ_self _))
  have I2 := Inv.made (C := C) I
  have r2 : Vals (V.ref (s.heap.objs.size + 1) :: (vs ++ dvs)) (Value.ref (s.heap.objs.size + 1) :: (us ++ ds)) := .cons rfl (r.append hd)
  have hl : (Value.ref (s.heap.objs.size + 1) :: us ++ ds).length = ps.length := by
    have e := r2.length
    rw [F.len _ _ _ _ hq] at e
    exact e.symm
  refine wpAny_call (make_map (f := f) I.kIn M.makes M.init (beq_iff_eq.mp M.fn) (codeAny_mono (F.run _ X.stack _ _ ⟨Value.ref (s.heap.objs.size + 1) :: us, []⟩ (Value.ref (s.heap.objs.size + 1) :: (us ++ ds)) _ _ (E σ) (hr.make C us [])
    (I2.env0.make C us []) (hb _ (Value.ref (s.heap.objs.size + 1) :: us) I2.kIn hl) r2 hq) fun r s' hq' => ?_))
  cases r with
  | error e => exact hx pins _ _ e s' I2 hq'
  | ok fl =>
    cases fl with
    | ret u =>
      obtain ⟨v, H', I3, rv, ev, q3⟩ := I2.after hq'
      subst ev
      exact ⟨rv, ⟨V.ref (s.heap.objs.size + 1), H', I3, rfl, q3⟩⟩
    | next => exact False.elim hq'
    | brk => exact False.elim hq'
    | cont => exact False.elim hq'
theorem pe_mkx (M : Mk X.K (He.ga X.K c) (He.ma X.K (He.ga X.K c) "__init__")) (D : Dm X.prog X.w X.K X.mg X.base CX k c "__init__" ps sfx sp) (hu : us ∈ sfx) (hr : Room (k + 1) X.A) (hg : Gl X x) (hm : X.mg x = some (.ref (He.ga X.K c))) (hx : ∀ σ, PassesAt CX X σ (E σ))
    (ha : PA X (e :: es) t) (hdb : (x == ("__debug__" : Str)) = false := by decide) (he : starEach (e :: es) X.env = (false, eval e X.env) :: starEach es X.env := by rfl) (hpl : (backTo pos (starEach es X.env)).any (·.1) = false := by rfl) :
    PE X (.Call (.Name x p) (e :: es) [] pos) (tMakeX (He.ga X.K c) sp us E t) := by
  obtain ⟨fd, F, b⟩ := D.ex
  obtain ⟨ds, hv, hb⟩ := b us hu
  refine ⟨fun pins s σ H Q I h => ?_⟩
  refine wpAny_Call_Name_kw (ld_glob I hg hm ?_ hdb)
  refine PySem.W.callWith_K (h₀ := X.base) I.ok.mod.kin M.kp (thn (ha.run pos pins s σ H _ I h) fun us s1 ⟨vs, H1, I1, r, q⟩ => ⟨I1.kIn, ?_⟩) he hpl
  exact run_makeX M F hr hb hv (hx σ) I1 r q
/-- as a function without the names -/
theorem Dm.raw {P : Program} {w : World} {K : PySem.W.Frag} {mg : Str → Option Value} {base : Heap} (D : Dm P w K mg base CX k c m ps sfx sp) (hu : [] ∈ sfx) : FnR P w K mg base CX k (He.ma K (He.ga K c) m) sp := by
  obtain ⟨fd, F, b⟩ := D.ex
  obtain ⟨ds, hv, hb⟩ := b [] hu
  cases hv
  exact FnOk.raw0 F hb
end
end L2
namespace Dl
open PySem PySem.Spec PyProof.Rows L2 _root_.Evl
/-- where it doesn't raise -/
def calm (sd : Sdx) : Sd := fun rs S Φ => sd rs S Φ noX
def liftI0 (K : PySem.W.Frag) (c : Str) (sd : Sd) : Sp := fun vs H Q _ => ∃ (A : List Addr) (S : Store) (rs : List R) (Φ : D → Store → Prop) (a : Addr) (ws : List V), vs = .ref a :: ws ∧ SOk K (A ++ [a]) (S ++ [.ob c []]) H ∧ RepRs K (A ++ [a]) (S ++ [.ob c []]) H rs ws ∧ sd rs S Φ ∧
  (∀ (fs : List (Str × D)) (S' : Store) (H' : Hp), Φ (.ins c fs) S' → Gw (Lv (A ++ [a]) (S ++ [.ob c []])) H (Lv (A ++ [a]) (S' ++ [.ob c fs])) H' → SOk K (A ++ [a]) (S' ++ [.ob c fs]) H' → Q .non H')
section
variable {P : Program} {w : World} {K : PySem.W.Frag} {mg : Str → Option Value} {base : Heap} {k : Nat} {x c m : Str} {ps : List Str} {sfx : List (List V)} {sd : Sdx}
theorem lift_calm {vs : List V} {H : Hp} {Q : VK} {E : XK} (h : lift K (calm sd) vs H Q E) : liftX K sd vs H Q E0 := by
  obtain ⟨A, S, rs, Φ, so, rr, hs, q⟩ := h
  exact ⟨A, S, rs, Φ, noX, so, rr, hs, q, fun _ _ _ _ _ p => p.elim⟩
theorem liftI_calm {vs : List V} {H : Hp} {Q : VK} {E : XK} (h : liftI0 K c (calm sd) vs H Q E) : liftI K c sd vs H Q E0 := by
  obtain ⟨A, S, rs, Φ, a, ws, e, so, rr, hs, q⟩ := h
  exact ⟨A, S, rs, Φ, noX, a, ws, e, so, rr, hs, q, fun _ _ _ _ _ p => p.elim⟩
theorem _root_.L2.Df.calm (D : Df P w K mg base (L2.CX P w) k x ps sfx (liftX K sd)) : Df P w K mg base CX0 k x ps sfx (lift K (calm sd)) := by
  obtain ⟨f, fd, F, m, kp, b⟩ := D.ex
  exact ⟨f, fd, F.calm fun _ _ _ _ h => lift_calm h, m, kp, b⟩
theorem _root_.L2.Dm.calm (D : Dm P w K mg base (L2.CX P w) k c m ps sfx (liftX K sd)) : Dm P w K mg base CX0 k c m ps sfx (lift K (calm sd)) := by
  obtain ⟨fd, F, b⟩ := D.ex
  exact ⟨fd, F.calm fun _ _ _ _ h => lift_calm h, b⟩
theorem _root_.L2.Dm.calmI (D : Dm P w K mg base (L2.CX P w) k c m ps sfx (liftI K c sd)) : Dm P w K mg base CX0 k c m ps sfx (liftI0 K c (calm sd)) := by
  obtain ⟨fd, F, b⟩ := D.ex
  exact ⟨fd, F.calm fun _ _ _ _ h => liftI_calm h, b⟩
end
section
variable [Z : Zo] {K : PySem.W.Frag} {A A' A1 A2 : List Addr} {S S' S1 S2 : Store} {H H' H1 H2 : Hp} {ρ : List R} {σ : L2.St} {Φ : R → Store → Prop} {te ta tb tc to : TE} {tl : TA} {t u : TS} {Nx Bk Ct : PR} {Rt : R → Store → Prop} {W : WX} {Ψ : Str → List (Str × D) → List R → Store → Prop} {us : List V} {dv : List D} {c m : Str}
theorem wp_callX {sd : Sdx} (hz : Rz K W Ψ) (hd : RepC dv us) (h : WpA K tl ρ S fun rs S1 => sd (rs ++ dv.map .dat) S1 (fun d S2 => Φ (.dat d) S2) fun c fs S2 => Ψ c fs ρ S2) : Wp K (tCallSD (liftX K sd) us (WE W) tl) ρ S Φ := fun A σ H f Q q =>
  h A σ H f _ fun rs S1 A1 vs H1 hs g1 so1 rr => ⟨A1, S1, _, _, _, so1, reps_app rr (hd K A1 S1 H1), hs, fun d S' v H' k g so r => q _ S' A1 v H' k ⟨g1.pre, g1.gw.trans g⟩ so r,
    fun c fs S' d H' p g so x => hz A1 S' H' ρ σ c fs d (f.go ⟨g1.pre, g1.gw.trans g⟩ so) p x⟩
theorem wp_methX {sd : Sdx} {C : Addr} (hz : Rz K W Ψ) (hd : RepC dv us) (h : Wp K ta ρ S fun x S1 => Me K C m x (WpA K tl ρ S1 fun rs S2 => sd (x :: rs ++ dv.map .dat) S2 (fun d S3 => Φ (.dat d) S3) fun c fs S2 => Ψ c fs ρ S2)) : Wp K (tMethX C m (liftX K sd) us (WE W) ta tl) ρ S Φ := fun A σ H f Q q =>
  h A σ H f _ fun x S1 A1 v H1 ⟨c, fs, ex, ec, hn, hw⟩ g1 so1 rx => by
    subst ex ec
    cases rx with
    | @ins a dx _ _ gs n hx rf =>
      refine ⟨_, dx, gs, rfl, hx, rf.no hn, hw A1 σ H1 (f.go g1 so1) _ fun rs S2 A2 vs H2 hs g2 so2 rr => ⟨A2, S2, _, _, _, so2, .cons (RepR.go (r := .dat (.ins c fs)) g2 (.ins n hx rf)) (reps_app rr (hd K A2 S2 H2)), hs, fun d S' v H' k g so r => q _ S' A2 v H' k ⟨(g1.trans g2).pre, (g1.trans g2).gw.trans g⟩ so r,
        fun c fs S' d H' p g so x => hz A2 S' H' ρ σ c fs d (f.go ⟨(g1.trans g2).pre, (g1.trans g2).gw.trans g⟩ so) p x⟩⟩
theorem wp_mk {sd : Sd} {E : XK} (hd : RepC dv us) (h : WpA K tl ρ S fun rs S1 => sd (rs ++ dv.map .dat) S1 fun d S2 => Φ (.dat d) S2) : Wp K (tMake (He.ga K c) (liftI0 K c sd) us E tl) ρ S Φ := fun A σ H f Q q =>
  h A σ H f _ fun rs S1 A1 vs H1 hs g1 so1 rr x dx hx hdx ne => by
    obtain ⟨so2, g2⟩ := mk_new (c := c) so1 hx hdx ne
    refine ⟨A1, S1, _, _, x, _, rfl, so2, reps_app (RepRs.go g2 rr) (hd K _ _ _), hs, fun fs S' H' p g so => ⟨rfl, ?_⟩⟩
    obtain ⟨so3, g3, r3⟩ := mk_end so
    exact q _ S' A1 _ H' p ⟨g1.pre, g1.gw.trans (g2.gw.trans (g.trans g3))⟩ so3 r3
theorem wp_mkX {sd : Sdx} (hz : Rz K W Ψ) (hd : RepC dv us) (h : WpA K tl ρ S fun rs S1 => sd (rs ++ dv.map .dat) S1 (fun d S2 => Φ (.dat d) S2) fun c fs S2 => Ψ c fs ρ S2) : Wp K (tMakeX (He.ga K c) (liftI K c sd) us (WE W) tl) ρ S Φ := fun A σ H f Q q =>
  h A σ H f _ fun rs S1 A1 vs H1 hs g1 so1 rr x dx hx hdx ne => by
    obtain ⟨so2, g2⟩ := mk_new (c := c) so1 hx hdx ne
    refine ⟨A1, S1, _, _, _, x, _, rfl, so2, reps_app (RepRs.go g2 rr) (hd K _ _ _), hs, fun fs S' H' p g so => ⟨rfl, ?_⟩, fun y fs S' d H' p g so z => ?_⟩
    · obtain ⟨so3, g3, r3⟩ := mk_end so
      exact q _ S' A1 _ H' p ⟨g1.pre, g1.gw.trans (g2.gw.trans (g.trans g3))⟩ so3 r3
    · exact hz A1 S' H' ρ σ y fs d (f.go ⟨g1.pre, g1.gw.trans (g2.gw.trans g)⟩ so) p z
end
end Dl
/-! raise, try, what was caught. -/
namespace L2
open PySem PySem.Spec PyProof.Rows
def tRai (W : WX) (t : St → Hp → XK → Prop) : TS := fun _ σ H => t σ H fun cls d H' => W cls d σ H'
theorem ps_rai {X : Cx} {W : WX} {e : Expr} {t : St → Hp → XK → Prop} {pos : Pos} (hc : X.calm = true) (tk : Takes X W) (he : PMk X e t) : PS X (.Raise (some e) none pos) (tRai W t) := ps_raise hc tk he
def tTryH (K : PySem.W.Frag) (c : Value) (i : Nat) (ts : Addr → Value → Option Addr → TS) (Wo : WX) (tb : WX → TS) : TS := fun D σ H => tb (wHold K c i ts Wo D) D σ H
theorem ps_tryH {X : Cx} {x n : Str} {c : Value} {i : Nat} {body rest : List Stmt} {st0 : Stmt} {np pos pos' : Pos} {tb : WX → TS} {ts : Addr → Value → Option Addr → TS} {Wo : WX} (hs : X.stack = X.env :: X.outer) (hf : X.env.frame = some X.env.locals) (hex : X.ex = []) (hN : X.N.Nodup) (hi : X.N[i]? = some n) (hln : X.env.kindOf n = some .local) (hc : Names X x c) (tk : Takes X Wo)
    (hb : ∀ (W : WX) (pn : List (Addr × Obj)) (xe : Value → Shared → Prop), Takes (X.tr pn xe) W → PassesOwn (model X.prog X.w) X.A X.env xe → PSs (X.tr pn xe) body (tb W))
    (hu : ∀ (a : Addr) (oe : Obj) (cls : Value) (d : Option Addr) (pn : List (Addr × Obj)), Zc cls d oe → (∃ vs, oe.data = .fields vs) → PSs (X.suite a ((a, oe) :: pn)) (st0 :: rest) (ts a cls d)) :
    PS X (.Try body [.ExceptHandler (some (.Name x np)) (some n) (st0 :: rest) pos'] [] [] pos) (tTryH X.K c i ts Wo tb) := ps_try_hold hs hf hex hN hi hln hc tk hb hu
end L2
namespace Dl
open PySem PySem.Spec PyProof.Rows L2 _root_.Evl
section
variable [Z : Zo] {K : PySem.W.Frag} {A A' A1 A2 : List Addr} {S S' S1 S2 : Store} {H H' H1 H2 : Hp} {ρ : List R} {σ : L2.St} {Φ : R → Store → Prop} {te ta tb tc to : TE} {tl : TA} {t u : TS} {Nx Bk Ct : PR} {Rt : R → Store → Prop} {W : WX} {Ψ Ψ' : Str → List (Str × D) → List R → Store → Prop} {us : List V} {dv : List D} {c m f : Str}
/-- raise C(e) -/
def RaX (c f : Str) (Ψ : Str → List (Str × D) → List R → Store → Prop) (ρ : List R) (rs : List R) (S : Store) : Prop := ∃ d, rs = [.dat d] ∧ Ψ c [(f, d)] ρ S
theorem ws_raise (hz : Rz K W Ψ) (h : WpA K tl ρ S fun rs S1 => RaX c f Ψ ρ rs S1) : WpS K (tRai W (tMkO (He.ga K c) (sp_exi (He.ga K c) f) [] tl)) ρ S Nx Rt Bk Ct := fun A σ H g D e =>
  h A σ H g _ fun rs S1 A1 vs H1 ⟨d, er, k⟩ g1 so1 rr => by
    subst er
    obtain ⟨v, rfl, r⟩ := reps1 rr
    refine (show tMkO (He.ga K c) (sp_exi (He.ga K c) f) [] (fun _ H R => R [v] H) [] H1 (fun cls d H' => W cls d σ H') from mk_exi (fun H3 _ Q' q' => q' H3 (Ex.refl _)) fun H2 dx e2 hd => ?_)
    · have e3 : Ex H1 (upd H2 dx (.xd [(f, v)])) := e2.trans (Ex.new hd)
      have g3 : Gr A S H A1 S1 (upd H2 dx (.xd [(f, v)])) := g1.trans (.ex e3)
      have so3 := so1.ex e3
      refine hz A1 S1 _ ρ σ c [(f, d)] (some dx) (g.go g3 so3) k ⟨[(f, v)], (so1.ex e2).new hd, upd_same, .cons ?_ .nil⟩
      exact RepR.go (r := .dat d) (Gr.ex e3) r
omit Z in
theorem ra_x {d : D} (k : Ψ c [(f, d)] ρ S) : RaX c f Ψ ρ [.dat d] S := ⟨d, rfl, k⟩
/-- raise C("..") of a class without fields -/
theorem ws_raise0 (hz : Rz K W Ψ) (k : Ψ c [] ρ S) : WpS K (tRai W fun _ H Q => Q (.ref (He.ga K c)) none H) ρ S Nx Rt Bk Ct := fun A σ H g D e => hz A S H ρ σ c [] none g k rfl
omit Z in
theorem EnvOk.setNo (h : EnvOk K A S H ρ σ) (i : Nat) (x : Option V) : EnvOk K A S H (ρ.set i .no) (σ.set i x) := ⟨by rw [List.length_set, List.length_set]; exact h.len, fun j r e => by
  by_cases hj : i = j
  · subst hj
    have lj := (List.getElem?_eq_some_iff.mp e).1
    rw [List.length_set] at lj
    rw [List.getElem?_set_self lj] at e
    cases e
    exact .inl rfl
  · rw [List.getElem?_set_ne hj] at e
    rw [List.getElem?_set_ne hj]
    exact h.at' j r e⟩
/-- with what was known -/
@[reducible] def zoA (Z : Zo) (A : List Addr) (S : Store) (H : Hp) : Zo := ⟨fun A' S' H' => Z.ok A' S' H' ∧ Gr A S H A' S' H', fun h g => ⟨Z.mono h.1 g, h.2.trans g⟩⟩
omit Z in
theorem Fr.dn {Z : Zo} {A0 : List Addr} {S0 : Store} {H0 : Hp} (f : @Fr (zoA Z A0 S0 H0) K A S H ρ σ) : @Fr Z K A S H ρ σ := @Fr.mk Z _ _ _ _ _ _ (@Fr.st (zoA Z A0 S0 H0) _ _ _ _ _ _ f) (@Fr.en (zoA Z A0 S0 H0) _ _ _ _ _ _ f) (@Fr.xo (zoA Z A0 S0 H0) _ _ _ _ _ _ f).1
omit Z in
theorem Fr.gr {Z : Zo} {A0 : List Addr} {S0 : Store} {H0 : Hp} (f : @Fr (zoA Z A0 S0 H0) K A S H ρ σ) : Gr A0 S0 H0 A S H := (@Fr.xo (zoA Z A0 S0 H0) _ _ _ _ _ _ f).2
omit Z in
theorem EOk.up {Z : Zo} {De : Ends} (A0 : List Addr) (S0 : Store) (H0 : Hp) (e : @EOk Z K A S H De Nx Rt Bk Ct) : @EOk (zoA Z A0 S0 H0) K A S H De Nx Rt Bk Ct :=
  @EOk.mk (zoA Z A0 S0 H0) _ _ _ _ _ _ _ _ _ (fun ρ' S' A' σ' H' p g' f => @EOk.nx Z _ _ _ _ _ _ _ _ _ e ρ' S' A' σ' H' p g' f.dn) (@EOk.rt Z _ _ _ _ _ _ _ _ _ e) (fun ρ' S' A' σ' H' p g' f => @EOk.bk Z _ _ _ _ _ _ _ _ _ e ρ' S' A' σ' H' p g' f.dn) fun ρ' S' A' σ' H' p g' f => @EOk.ct Z _ _ _ _ _ _ _ _ _ e ρ' S' A' σ' H' p g' f.dn
omit Z in
theorem Fr.up {Z : Zo} (f : @Fr Z K A S H ρ σ) : @Fr (zoA Z A S H) K A S H ρ σ := @Fr.mk (zoA Z A S H) _ _ _ _ _ _ f.st f.en ⟨f.xo, Gr.refl⟩
/-- try: .. except C as e: y = e -/
theorem ws_tryH {tb : WX → TS} {cn : Str} {i j : Nat} {Wo : WX} (hz : Rz K Wo Ψ) (hij : i ≠ j) (h : ∀ (W : WX) [Z' : Zo], Rz K W Ψ' → WpS K (tb W) ρ S Nx Rt Bk Ct)
    (hc : ∀ c fs ρ' S', Ψ' c fs ρ' S' → i < ρ'.length ∧ ∃ b, PySem.W.exmOne K (.ref (He.ga K c)) (.ref (He.ga K cn)) = some b ∧ (b = true → Nx ((ρ'.set j (.dat (.exc c fs))).set i .no) S') ∧ (b = false → Ψ c fs ρ' S')) :
    WpS K (tTryH K (.ref (He.ga K cn)) i (fun _ _ _ => tAsg (tVar i) (gName j)) Wo tb) ρ S Nx Rt Bk Ct := fun A σ H g D e => by
  refine @h (wHold K (.ref (He.ga K cn)) i (fun _ _ _ => tAsg (tVar i) (gName j)) Wo D) (zoA Z A S H) (fun A' S' H' ρ' σ' c fs d f' p x => ?_) A σ H g.up D (e.up A S H)
  have gr := f'.gr
  have f := f'.dn
  clear f'
  obtain ⟨li, b, hb, yes, no⟩ := hc c fs ρ' S' p
  refine ⟨b, hb, fun e1 a ha => ?_, fun e1 => hz A' S' H' ρ' σ' c fs d f (no e1) x⟩
  have ls : i < σ'.length := by rw [← f.en.len]; exact li
  refine ⟨.ref a, List.getElem?_set_self ls, ?_⟩
  show D.nx (((σ'.set i (some (.ref a))).set j (some (.ref a))).set i none) (upd H' a (exk a (.ref (He.ga K c)) d))
  have so' := f.st
  have ex : Ex H' (upd H' a (exk a (.ref (He.ga K c)) d)) := Ex.new ha
  have g1 : Gr A' S' H' A' S' (upd H' a (exk a (.ref (He.ga K c)) d)) := .ex ex
  have na : ¬ Lv A' S' a := so'.new ha
  have rx : Rep K (Lv A' S') (upd H' a (exk a (.ref (He.ga K c)) d)) (.exc c fs) (.ref a) := by
    cases d with
    | none =>
      have ef : fs = [] := x
      subst ef
      exact .exc0 na upd_same
    | some d =>
      obtain ⟨gs, nd, hd, rf⟩ := x
      have ne : d ≠ a := fun z => by
        subst z
        rw [ha] at hd
        cases hd
      exact .exc na nd ⟨upd_same, by rw [upd_ne ne]; exact hd⟩ (rf.go (.ex ex))
  have es : (((σ'.set i (some (V.ref a))).set j (some (.ref a))).set i none) = ((σ'.set j (some (V.ref a))).set i none) := by
    rw [List.set_comm _ _ hij, List.set_set]
  rw [es]
  have gg := gr.trans g1
  exact e.nx _ S' A' _ _ (yes e1) gg ⟨so'.ex ex, ((f.en.go g1).set j (r := .dat (.exc c fs)) rx).setNo i none, Z.mono f.xo g1⟩
/-- fields of what was caught -/
def Xf (K : PySem.W.Frag) (r : R) (f : Str) (Φ : R → Prop) : Prop := ∃ c g gs d, r = .dat (.exc c (g :: gs)) ∧ XkC K (He.ga K c) ∧ NoAttr K (He.ga K c) f ∧ (g :: gs).lookup f = some d ∧ Φ (.dat d)
theorem wp_xk (h : Wp K te ρ S fun r S1 => Xf K r f fun z => Φ z S1) : Wp K (tXk K te f) ρ S Φ := fun A σ H g Q q =>
  h A σ H g _ fun r S1 A1 v H1 ⟨c, y, ys, d, er, hx, hn, hl, k⟩ g1 so1 rr => by
    subst er
    cases rr with
    | @exc a dx _ _ gs n m x rf =>
      obtain ⟨w, hw, rw⟩ := rf.get hl
      exact ⟨a, _, dx, gs, w, rfl, x, hx, hn, hw, q _ S1 A1 _ H1 k g1 so1 rw⟩
omit Z in
theorem xf_of {g : Str × D} {gs : List (Str × D)} {d : D} {Φ : R → Prop} (hx : XkC K (He.ga K c)) (hn : NoAttr K (He.ga K c) f) (hl : (g :: gs).lookup f = some d) (k : Φ (.dat d)) : Xf K (.dat (.exc c (g :: gs))) f Φ := ⟨c, g, gs, d, rfl, hx, hn, hl, k⟩
omit Z in
/-- isinstance(e, C) -/
theorem c_isk {g : Str × D} {gs : List (Str × D)} {b : Bool} {cn : Str} {Φ : R → Prop} (hx : XkC K (He.ga K c)) (hk : PySem.W.kitOne K (.ref (He.ga K c)) (.ref (He.ga K cn)) = some b) (k : Φ (.dat (.bl b))) : Cb K (rIsk K) [.dat (.exc c (g :: gs)), .dat (.glo cn)] S Φ := cb_val (fun A H vs so rx => by
  obtain ⟨v, w, rfl, r1, r2⟩ := reps2 rx
  cases r2
  cases r1 with
  | exc n m x rf => exact ⟨_, Rep.bl _, fun Q q => ⟨_, _, _, _, _, _, b, rfl, x, hx, .own _, hk, q⟩⟩) k
omit Z in
theorem c_iskT {g : Str × D} {gs : List (Str × D)} {b : Bool} {n : String} {Φ : R → Prop} (hx : XkC K (He.ga K c)) (hk : PySem.W.kitOne K (.ref (He.ga K c)) (.type n) = some b) (k : Φ (.dat (.bl b))) : Cb K (rIsk K) [.dat (.exc c (g :: gs)), .dat (.ty n)] S Φ := cb_val (fun A H vs so rx => by
  obtain ⟨v, w, rfl, r1, r2⟩ := reps2 rx
  cases r2
  cases r1 with
  | exc n m x rf => exact ⟨_, Rep.bl _, fun Q q => ⟨_, _, _, _, _, _, b, rfl, x, hx, .ty _, hk, q⟩⟩) k
end
end Dl
/-! Texts, and further operations on data. -/
namespace Dl
open PySem PySem.Spec PyProof.Rows L2 _root_.Evl
section
variable {K : PySem.W.Frag} {A : List Addr} {S : Store} {H H' : Hp} {X : Addr → Prop} {Φ : R → Prop}
abbrev rAddS : R2 := fun x y H Q => ∃ i j : Str, x = .str i ∧ y = .str j ∧ i.length + j.length ≤ sizeLine ∧ Q (.str (i ++ j)) H
theorem o_addS {x y : Str} (h : x.length + y.length ≤ 100000) (k : Φ (.dat (.str (x ++ y)))) : Op2 K (fun x y H Q => ∃ i j : Str, x = .str i ∧ y = .str j ∧ i.length + j.length ≤ sizeLine ∧ Q (.str (i ++ j)) H) (.dat (.str x)) (.dat (.str y)) S Φ := op2_val (fun A H v w so rx ry => by
  obtain rfl := rep_str rx
  obtain rfl := rep_str ry
  exact ⟨_, Rep.str _, fun Q q => ⟨x, y, rfl, rfl, sz_of h, q⟩⟩) k
theorem o_inSign {c : Nat} {z : Str} (k : Φ (.dat (.bl (decide (c ∈ cs z))))) : Op2 K (fun x y H Q => ∃ (c : Nat) (z : Str), x = .str ⟨#[c]⟩ ∧ y = .str z ∧ Q (.bl (decide (c ∈ z.cps.toList))) H) (.dat (.str ⟨#[c]⟩)) (.dat (.str z)) S Φ := op2_val (fun A H v w so rx ry => by
  obtain rfl := rep_str rx
  obtain rfl := rep_str ry
  exact ⟨.bl (decide (c ∈ cs z)), Rep.bl _, fun Q q => ⟨c, z, rfl, rfl, q⟩⟩) k
theorem o_notInSign {c : Nat} {z : Str} (k : Φ (.dat (.bl (!decide (c ∈ cs z))))) : Op2 K (fun x y H Q => ∃ (c : Nat) (z : Str), x = .str ⟨#[c]⟩ ∧ y = .str z ∧ Q (.bl (!decide (c ∈ z.cps.toList))) H) (.dat (.str ⟨#[c]⟩)) (.dat (.str z)) S Φ := op2_val (fun A H v w so rx ry => by
  obtain rfl := rep_str rx
  obtain rfl := rep_str ry
  exact ⟨.bl (!decide (c ∈ cs z)), Rep.bl _, fun Q q => ⟨c, z, rfl, rfl, q⟩⟩) k
theorem s_S {z : Str} {lo hi : Option Int} (h : z.length ≤ 100000) (k : Φ (.dat (.str (cutS z lo hi)))) : Sl K rSlS (.dat (.str z)) lo hi S Φ := fun A H v so rx Q q => by
  obtain rfl := rep_str rx
  exact ⟨z, rfl, sz_of h, q _ _ H k (Ex.refl _) (.str _)⟩
theorem o_mulSt {z : Str} {n : Nat} (h : z.length ≤ 1000) (h2 : n ≤ 1000) (k : Φ (.dat (.str (ofL (List.replicate n (cs z)).flatten)))) : Op2 K rMulS (.dat (.str z)) (.dat (.int (n : Nat))) S Φ := op2_val (fun A H v w so rx ry => by
  obtain rfl := rep_str rx
  obtain rfl := rep_int ry
  exact ⟨.str (ofL (List.replicate n (cs z)).flatten), Rep.str _, fun Q q => ⟨z, n, rfl, rfl, h, h2, q⟩⟩) k
/-- a text among texts -/
theorem inV_strs (z : Str) (ns : List Str) : inV (.str z) (ns.map V.str) = decide (z ∈ ns) := by
  induction ns with
  | nil => rfl
  | cons n ns ih =>
    rw [List.map_cons]
    unfold inV at ih ⊢
    rw [List.any_cons, ih]
    show ((n == z) || _) = _
    by_cases e : n = z
    · subst e
      simp
    · have e2 : ¬ z = n := fun q => e q.symm
      simp [e, e2]
theorem flat_strs (ns : List Str) : (ns.map V.str).all flatV = true := by
  induction ns with
  | nil => rfl
  | cons n ns ih => rw [List.map_cons, List.all_cons, ih]; rfl
theorem o_inStr {neg : Bool} {z : Str} {r : R} {ns : List Str} (h : SqR S r (ns.map .str)) (k : Φ (.dat (.bl (if neg then !decide (z ∈ ns) else decide (z ∈ ns))))) : Op2 K (rIn K neg) (.dat (.str z)) r S Φ := op2_val (fun A H v w so rx ry => by
  obtain rfl := rep_str rx
  obtain ⟨a, xs, rfl, sq, l⟩ := h.rep so ry
  rw [repl_str l] at sq
  exact ⟨_, Rep.bl _, fun Q q => ⟨a, _, rfl, sq, rfl, flat_strs ns, by rw [inV_strs]; exact q⟩⟩) k
theorem o_shl {i j : Int} (h1 : 0 ≤ j) (h2 : j ≤ 1000000) (h3 : i.natAbs < 2 ^ 64) (k : Φ (.dat (.int (i * 2 ^ j.toNat)))) : Op2 K (rI CPow fun i j => .int (i * 2 ^ j.toNat)) (.dat (.int i)) (.dat (.int j)) S Φ := o_Ci ⟨h1, h2, h3⟩ k
theorem c_strI {i : Int} (h : i.natAbs.log2 < 1920) (k : Φ (.dat (.str (Str.ofString (toString i))))) : Cb K (fun xs H Q => ∃ i : Int, xs = [.int i] ∧ i.natAbs.log2 < 1920 ∧ Q (.str (Str.ofString (toString i))) H) [.dat (.int i)] S Φ := cb_val (fun A H vs so rx => by
  obtain ⟨v, rfl, r⟩ := reps1 rx
  obtain rfl := rep_int r
  exact ⟨_, Rep.str _, fun Q q => ⟨i, rfl, h, q⟩⟩) k
theorem c_strS {z : Str} (k : Φ (.dat (.str z))) : Cb K (fun xs H Q => ∃ a, xs = [.str a] ∧ Q (.str a) H) [.dat (.str z)] S Φ := cb_val (fun A H vs so rx => by
  obtain ⟨v, rfl, r⟩ := reps1 rx
  obtain rfl := rep_str r
  exact ⟨_, Rep.str _, fun Q q => ⟨z, rfl, q⟩⟩) k
theorem c_divmodW {i j : Int} (h : CDivP i j) (k : Φ (.dat (.tup [.int (i / j), .int (i % j)]))) : Cb K (fun xs H Q => ∃ i j, xs = [.int i, .int j] ∧ CDivP i j ∧ ∀ p, H p = none → Q (.ref p) (upd H p (.tup [.int (i / j), .int (i % j)]))) [.dat (.int i), .dat (.int j)] S Φ := fun A H vs so rx Q q => by
  obtain ⟨v, w, rfl, r1, r2⟩ := reps2 rx
  obtain rfl := rep_int r1
  obtain rfl := rep_int r2
  exact ⟨i, j, rfl, h, fun p hp => q _ _ _ k (Ex.new hp) (rep_new (so := so) hp (.cons (.int _) (.cons (.int _) .nil))).1⟩
end
section
variable [Z : Zo] {K : PySem.W.Frag} {A A' A1 A2 : List Addr} {S S' S1 S2 : Store} {H H' H1 H2 : Hp} {ρ : List R} {σ : L2.St} {Φ : R → Store → Prop} {te ta tb tc to : TE} {tl : TA} {t u : TS} {Nx Bk Ct : PR} {Rt : R → Store → Prop}
/-- sep.join(xs) -/
def Jn (x y : R) (S : Store) (Φ : Str → Prop) : Prop := ∃ (z : Str) (ys : List Str), x = .dat (.str z) ∧ SqR S y (ys.map .str) ∧ (ys.map (·.length)).sum + ys.length * z.length ≤ 16777216 ∧ Φ (Txt.join z ys)
def Jz (x : R) (P : Prop) : Prop := ∃ z, x = .dat (.str z) ∧ P
omit Z in
theorem jz {z : Str} {P : Prop} (k : P) : Jz (.dat (.str z)) P := ⟨z, rfl, k⟩
theorem wp_join (h : Wp K to ρ S fun x S1 => Jz x (Wp K te ρ S1 fun y S2 => Jn x y S2 fun s => Φ (.dat (.str s)) S2)) : Wp K (tM1 (fun x xs H Q => ∃ a p, ∃ ys : List Str, x = .str a ∧ xs = [.ref p] ∧ (SqL K H p (ys.map V.str) ∨ SqT K H p (ys.map V.str)) ∧
      (ys.map (·.length)).sum + ys.length * a.length ≤ 16777216 ∧ Q (.str (Txt.join a ys)) H) to te) ρ S Φ := fun A σ H f Q q =>
  h A σ H f _ fun x S1 A1 v H1 ⟨z0, e0, hw⟩ g1 so1 rx => by
    subst e0
    obtain rfl := rep_str rx
    refine ⟨⟨z0, rfl⟩, hw A1 σ H1 (f.go g1 so1) _ fun y S2 A2 w H2 ⟨z, ys, ez, hs, hl, k⟩ g2 so2 ry => ?_⟩
    cases ez
    obtain ⟨a, xs, rfl, sq, l⟩ := hs.rep so2 ry
    rw [repl_str l] at sq
    exact ⟨z0, a, ys, rfl, rfl, sq, hl, q _ S2 A2 _ H2 k (g1.trans g2) so2 (.str _)⟩
omit Z in
theorem jn_of {z : Str} {y : R} {ys : List Str} {Φ : Str → Prop} (hs : SqR S y (ys.map .str)) (hl : (ys.map (·.length)).sum + ys.length * z.length ≤ 16777216) (k : Φ (Txt.join z ys)) : Jn (.dat (.str z)) y S Φ := ⟨z, ys, rfl, hs, hl, k⟩
/-- for sign in text -/
def signs (z : Str) : List D := (cs z).map fun c => D.str ⟨#[c]⟩
omit Z in
theorem it_str {X : Addr → Prop} (z : Str) : ItOk K X H (Its z) (signs z) := fun X' H' g _ => by
  have ls : (signs z).length = z.cps.size := by
    unfold signs
    rw [List.length_map]
    simp [cs]
  refine ⟨fun i d hd => ?_, by rw [ls]; exact Nat.le_refl _⟩
  have hl := (List.getElem?_eq_some_iff.mp hd).1
  rw [ls] at hl
  refine ⟨hl, fun x H'' y => ?_⟩
  obtain ⟨e, c, hc, ex⟩ := y
  subst e ex
  unfold signs at hd
  rw [List.getElem?_map] at hd
  have hc2 : (cs z)[i]? = some c := by
    rw [← hc]
    simp [cs]
  rw [hc2] at hd
  cases hd
  exact ⟨Ex.refl _, .str _⟩
def Txx (r : R) (Φ : Str → Prop) : Prop := ∃ z, r = .dat (.str z) ∧ Φ z
omit Z in
theorem txx {z : Str} {Φ : Str → Prop} (k : Φ z) : Txx (.dat (.str z)) Φ := ⟨z, rfl, k⟩
theorem wi_str {Φ : List D → Store → Prop} (h : Wp K te ρ S fun r S1 => Txx r fun z => Φ (signs z) S1) : WpI K (iStr te) ρ S Φ := fun A σ H f Q q =>
  h A σ H f _ fun r S1 A1 v H1 ⟨z, e, k⟩ g1 so1 rr => by
    subst e
    obtain rfl := rep_str rr
    exact ⟨z, rfl, q _ S1 A1 _ H1 k g1 so1 (it_str z)⟩
/-- f'..' -/
def WpJ (K : PySem.W.Frag) (ts : List TE) (acc : Str) (ρ : List R) (S : Store) (Φ : Str → Store → Prop) : Prop := ∀ (A : List Addr) (σ : L2.St) (H : Hp), Fr K A S H ρ σ → ∀ Q : Str → Hp → Prop,
  (∀ (z : Str) (S' : Store) (A' : List Addr) (H' : Hp), Φ z S' → Gr A S H A' S' H' → SOk K A' S' H' → Q z H') → tJs ts acc σ H Q
theorem wj_nil {acc : Str} {Φ : Str → Store → Prop} (k : Φ acc S) : WpJ K [] acc ρ S Φ := fun A σ H f Q q => q acc S A H k .refl f.st
theorem wj_cons {acc : Str} {ts : List TE} {Φ : Str → Store → Prop} (h : Wp K te ρ S fun r S1 => Txx r fun z => (acc ++ z).length ≤ 100000 ∧ WpJ K ts (acc ++ z) ρ S1 Φ) : WpJ K (te :: ts) acc ρ S Φ := fun A σ H f Q q =>
  h A σ H f _ fun r S1 A1 v H1 ⟨z, e, hl, hw⟩ g1 so1 rr => by
    subst e
    obtain rfl := rep_str rr
    exact ⟨z, rfl, sz_of hl, hw A1 σ H1 (f.go g1 so1) Q fun y S2 A2 H2 k g2 so2 => q y S2 A2 H2 k (g1.trans g2) so2⟩
theorem wp_joined {ts : List TE} (h : WpJ K ts Str.empty ρ S fun z S1 => Φ (.dat (.str z)) S1) : Wp K (fun σ H Q => tJs ts Str.empty σ H fun out H1 => Q (.str out) H1) ρ S Φ := fun A σ H f Q q =>
  h A σ H f _ fun z S1 A1 H1 k g1 so1 => q _ S1 A1 _ H1 k g1 so1 (.str z)
theorem wp_fmtS (h : Wp K te ρ S fun r S1 => Txx r fun z => z.length ≤ 100000 ∧ Φ (.dat (.str z)) S1) : Wp K (tFmt te) ρ S Φ := fun A σ H f Q q =>
  h A σ H f _ fun r S1 A1 v H1 ⟨z, e, hl, k⟩ g1 so1 rr => by
    subst e
    obtain rfl := rep_str rr
    exact .inl ⟨z, rfl, sz_of hl, q _ S1 A1 _ H1 k g1 so1 (.str z)⟩
theorem wp_fmtI (h : Wp K te ρ S fun r S1 => In1 r fun i => i.natAbs.log2 < 1920 ∧ Φ (.dat (.str (Str.ofString (toString i)))) S1) : Wp K (tFmt te) ρ S Φ := fun A σ H f Q q =>
  h A σ H f _ fun r S1 A1 v H1 ⟨i, e, hl, k⟩ g1 so1 rr => by
    subst e
    obtain rfl := rep_int rr
    exact .inr ⟨i, rfl, hl, q _ S1 A1 _ H1 k g1 so1 (.str _)⟩
theorem wp_fmtZ {w : Nat} (h : Wp K te ρ S fun r S1 => In1 r fun i => 0 ≤ i ∧ i.natAbs < 10 ^ 4300 ∧ Φ (.dat (.str (zpad w i))) S1) : Wp K (tFmtZ w te) ρ S Φ := fun A σ H f Q q =>
  h A σ H f _ fun r S1 A1 v H1 ⟨i, e, h0, hl, k⟩ g1 so1 rr => by
    subst e
    obtain rfl := rep_int rr
    exact ⟨i, rfl, h0, hl, q _ S1 A1 _ H1 k g1 so1 (.str _)⟩
/-- len(set(t)), t a tuple of unlike texts -/
def Ls (r : R) (Φ : Nat → Prop) : Prop := ∃ xs : List Str, TpR r (xs.map .str) ∧ xs.Nodup ∧ xs.length ≤ 1000 ∧ Φ xs.length
theorem wp_lenT (h : Wp K te ρ S fun r S1 => Ls r fun n => Φ (.dat (.int (n : Nat))) S1) : Wp K (tLenT K te) ρ S Φ := fun A σ H f Q q =>
  h A σ H f _ fun r S1 A1 v H1 ⟨xs, hr, nd, hl, k⟩ g1 so1 rr => by
    obtain ⟨a, ys, rfl, sq, l⟩ := hr.rep rr
    rw [repl_str l] at sq
    exact ⟨a, xs, rfl, sq, nd, hl, q _ S1 A1 _ H1 k g1 so1 (.int _)⟩
/-- t.index(z), t a known tuple of texts -/
theorem wp_tupI (h : Wp K to ρ S fun r S1 => ∃ ys : List Str, r = .dat (.ftup (ys.map .str)) ∧ WpA K tl ρ S1 fun rs S2 => ∃ (z : Str) (j : Nat), rs = [.dat (.str z)] ∧ ys[j]? = some z ∧ (∀ m, m < j → ys[m]? ≠ some z) ∧ Φ (.dat (.int (j : Nat))) S2) : Wp K (tTI to tl) ρ S Φ := fun A σ H f Q q =>
  h A σ H f _ fun r S1 A1 v H1 ⟨ys, er, hw⟩ g1 so1 rr => by
    subst er
    cases rr with
    | @ftup a _ xs n fz l =>
      have ex := repl_str l
      subst ex
      refine ⟨a, ys, rfl, fz, hw A1 σ H1 (f.go g1 so1) _ fun rs S2 A2 vs H2 ⟨z, j, e2, hj, hm, k⟩ g2 so2 r2 => ?_⟩
      subst e2
      obtain ⟨w, rfl, rz⟩ := reps1 r2
      obtain rfl := rep_str rz
      obtain ⟨o, e, c⟩ := fz
      exact ⟨z, j, rfl, ⟨o, g2.gw.h _ _ n e, c⟩, hj, hm, q _ S2 A2 _ H2 k (g1.trans g2) so2 (.int _)⟩
/-- len(range(n)) -/
theorem wp_lenR (h : WpA K tl ρ S fun rs S1 => ∃ n : Nat, rs = [.dat (.int (n : Nat))] ∧ n < 2 ^ 62 ∧ Φ (.dat (.int (n : Nat))) S1) : Wp K (tCB rLenR (tCons (tCB (fun vs H Q => ∃ j, vs = [V.int j] ∧ ∀ p, H p = none → Q (.ref p) (upd H p (.rng 0 j))) tl) tNil)) ρ S Φ := fun A σ H f Q q =>
  h A σ H f _ fun rs S1 A1 vs H1 ⟨n, e, hn, k⟩ g1 so1 rr => by
    subst e
    obtain ⟨v, rfl, r⟩ := reps1 rr
    obtain rfl := rep_int r
    refine ⟨(n : Int), rfl, fun p hp => ?_⟩
    exact ⟨p, n, rfl, upd_same, hn, q _ S1 A1 _ _ k (g1.trans (.ex (Ex.new hp))) (so1.ex (Ex.new hp)) (.int _)⟩
theorem ws_par3 {i j l : Nat} (h : WpA K tl ρ S fun rs S' => ∃ a b c, rs = [a, b, c] ∧ Nx (((ρ.set i a).set j b).set l c) S') : WpS K (tPar3 i j l tl) ρ S Nx Rt Bk Ct := fun A σ H f D e =>
  h A σ H f _ fun rs S' A' vs H' ⟨a, b, c, eq, p⟩ g so rr => by
    subst eq
    cases rr with
    | cons r1 rr =>
      obtain ⟨v2, v3, rfl, r2, r3⟩ := reps2 rr
      exact ⟨_, _, _, rfl, e.nx _ S' A' _ H' p g ⟨so, (((f.en.go g).set i r1).set j r2).set l r3, Z.mono f.xo g⟩⟩
end
end Dl
/-! Own values compared, as data. -/
namespace L2
open PySem PySem.Spec PyProof.Rows _root_.Evl
section
variable {X : Cx} {n : Nat} {C g : Addr} {R : Addr → V → Hp → Bool → Prop} {D D' : EqR} {op : CmpOp}
/-- x of a built-in kind, however it is held; y an instance -/
def DOfX (K : PySem.W.Frag) (C : Addr) (R : Addr → V → Hp → Bool → Prop) : EqR := fun x y H b => ∃ a dx fs T, y = .ref a ∧ H a = some (.ins C dx fs) ∧ TyX K H x (.type T) ∧ T ∈ kindsT ∧ R a x H b
theorem RcE.imp (h : RcE X n op D) (q : ∀ x y H b, D' x y H b → D x y H b) : RcE X n op D' := fun A pins s σ H x y u v b sb I rx ry d => h A pins s σ H x y u v b sb I rx ry (q _ _ _ _ d)
theorem EqE.imp (h : EqE X n D) (q : ∀ x y H b, D' x y H b → D x y H b) : EqE X n D' := fun A pins s σ H x y u v b sb I rx ry d => h A pins s σ H x y u v b sb I rx ry (q _ _ _ _ d)
/-- an instance is of no built-in kind -/
theorem ty_ins {pins : List (Addr × Obj)} {s : Shared} {σ : St} {H : Hp} {a dx : Addr} {fs : List (Str × V)} {T : String} (I : Inv X pins σ H s) (ha : H a = some (.ins C dx fs)) (ty : TyX X.K H (.ref a) (.type T)) : False := by
  have ko : ∀ {o : Obj} {t : String}, X.K.lookup a = some o → o.cls = .type t → False := fun {o t} e c => by
    obtain ⟨mA, J, _⟩ := ins_get I.hok ha
    obtain ⟨od, J, _⟩ := J.look
    have h1 := I.kIn a o e
    have h2 := J.1
    rw [h1] at h2
    cases h2
    cases c
  cases ty with
  | base b =>
    cases b with
    | lst e => rw [ha] at e; cases e
    | frz e => rw [ha] at e; cases e
    | tup e => rw [ha] at e; cases e
    | dK e => rw [ha] at e; cases e
    | dT e => rw [ha] at e; cases e
  | set e => rw [ha] at e; cases e
  | kList e c => exact ko e c
  | kTuple e c => exact ko e c
  | kDict e c => exact ko e c
  | fTuple e => rw [ha] at e; cases e
  | fDict e => rw [ha] at e; cases e
theorem rcE_ofX (c : OwnC X.K C) (m : Meth X.K C "__eq__" g) (F : FnR X.prog X.w X.K X.mg X.base CX0 n g (spEqE R)) : RcE X n .Eq (DOfX X.K C R) := by
  intro A pins s σ H x y u v b sb I rx ry d
  obtain ⟨a, dx, fs, T, rfl, ha, ty, hm, hr⟩ := d
  cases (show v = Value.ref a from ry)
  obtain ⟨mA, J0, _⟩ := ins_get I.hok ha
  have hx := J0.obj
  obtain ⟨od, J, _⟩ := J0.look
  obtain ⟨mm, hF⟩ := I.fr
  have back : wpAny (model X.prog X.w) A (tryCompare (.ref a) (cmpInfo .Eq).2.2 u) (fun r s' => ∃ v, r = some v ∧ v = .bool b ∧ ∃ H', Inv X pins σ H' s' ∧ Ex H H') X.xe s := by
    refine OwQ.try_eq (Q := fun v s' => v = .bool b ∧ ∃ H', Inv X pins σ H' s' ∧ Ex H H') I.kIn J m.at_ m.fn (wpAny_mono (own_runs F sb I rx hr) (fun r s' z => ?_) fun _ _ x => x)
    obtain ⟨rfl, z⟩ := z
    exact ⟨b, rfl, rfl, z⟩
  have lst : ∀ {l : Addr}, s.TypeIs (.ref l) "list" → u = .ref l → T = "list" → wpAny (model X.prog X.w) A (richCompare .Eq u (.ref a)) (fun r s' => r = .bool b ∧ ∃ H', Inv X pins σ H' s' ∧ Ex H H') X.xe s := fun {l} hT hu hTT => by
    subst hu hTT
    exact OwQ.right_K (op := .Eq) sb.room.units0 hF I.ok.mod.kin J hT (c.sub hm) PySem.F.slot_list_eq (fun P h => OwQ.dec_list hT I.kIn J (c.mro hm) h) back
  have tup : ∀ {l : Addr}, s.TypeIs (.ref l) "tuple" → u = .ref l → T = "tuple" → wpAny (model X.prog X.w) A (richCompare .Eq u (.ref a)) (fun r s' => r = .bool b ∧ ∃ H', Inv X pins σ H' s' ∧ Ex H H') X.xe s := fun {l} hT hu hTT => by
    subst hu hTT
    exact OwQ.right_K (op := .Eq) sb.room.units0 hF I.ok.mod.kin J hT (c.sub hm) PySem.F.slot_tuple_eq (fun P h => OwQ.dec_tuple hT I.kIn J (c.mro hm) h) back
  have dct : ∀ {l : Addr}, s.TypeIs (.ref l) "dict" → u = .ref l → T = "dict" → wpAny (model X.prog X.w) A (richCompare .Eq u (.ref a)) (fun r s' => r = .bool b ∧ ∃ H', Inv X pins σ H' s' ∧ Ex H H') X.xe s := fun {l} hT hu hTT => by
    subst hu hTT
    exact OwQ.right_K (op := .Eq) sb.room.units0 hF I.ok.mod.kin J hT (c.sub hm) PySem.F.slot_dict_eq (fun P h => OwQ.dec_dict hT I.kIn J (c.mro hm) h) back
  cases ty with
  | base b =>
    cases b with
    | non =>
      cases (show u = Value.none from rx)
      exact OwQ.right_K (op := .Eq) sb.room.units0 hF I.ok.mod.kin J rfl (c.sub hm) PySem.F.slot_NoneType_eq (fun P h => OwQ.dec_none h) back
    | bl y =>
      cases (show u = Value.bool y from rx)
      exact OwQ.right_K (op := .Eq) sb.room.units0 hF I.ok.mod.kin J rfl (c.sub hm) PySem.F.slot_bool_eq (fun P h => OwQ.dec_bool hx h) back
    | int i =>
      obtain ⟨t, e⟩ := (show ∃ t, u = Value.int i t from rx)
      cases e
      exact OwQ.right_K (op := .Eq) sb.room.units0 hF I.ok.mod.kin J (typeIs_int _ _ _) (c.sub hm) PySem.F.slot_int_eq (fun P h => OwQ.dec_int hx h) back
    | str z =>
      obtain ⟨t, e⟩ := (show ∃ t, u = Value.str z t from rx)
      cases e
      exact OwQ.right_K (op := .Eq) sb.room.units0 hF I.ok.mod.kin J (typeIs_str _ _ _) (c.sub hm) PySem.F.slot_str_eq (fun P h => OwQ.dec_str hx h) back
    | flt y => exact absurd hm (by decide)
    | @lst l xs ea =>
      obtain ⟨_, _, k, _, h1⟩ := (show ObjOk X.prog X.w H s.heap l (.lst xs) from I.hok l _ ea)
      exact lst ⟨_, h1, rfl⟩ rx rfl
    | @frz l ob xs ea =>
      obtain ⟨_, _, _, n, _, h1⟩ := (show ObjOk X.prog X.w H s.heap l (.frz ob (.lst xs)) from I.hok l _ ea)
      exact lst ⟨_, h1, rfl⟩ rx rfl
    | @tup l xs ea =>
      obtain ⟨_, _, _, o, h1, h2, _⟩ := (show ObjOk X.prog X.w H s.heap l (.tup xs) from I.hok l _ ea)
      exact tup ⟨_, h1, h2⟩ rx rfl
    | @dK l kvs ea =>
      obtain ⟨_, _, vs, _, o, es, ep, h1, h2, _⟩ := (show ObjOk X.prog X.w H s.heap l (.dK kvs) from I.hok l _ ea)
      exact dct ⟨_, h1, h2.1⟩ rx rfl
    | @dT l kvs ea =>
      obtain ⟨_, _, vs, _, o, es, ep, h1, h2, _⟩ := (show ObjOk X.prog X.w H s.heap l (.dT kvs) from I.hok l _ ea)
      exact dct ⟨_, h1, h2.1⟩ rx rfl
  | byt y => exact absurd hm (by decide)
  | set e => exact absurd hm (by decide)
  | @kList l o e c => exact lst ⟨o, I.kIn l o e, c⟩ rx rfl
  | @kTuple l o e c => exact tup ⟨o, I.kIn l o e, c⟩ rx rfl
  | @kDict l o e c => exact dct ⟨o, I.kIn l o e, c⟩ rx rfl
  | @fTuple l ob xs ea =>
    obtain ⟨_, _, _, _, o, h1, h2, _⟩ := (show ObjOk X.prog X.w H s.heap l (.frz ob (.tup xs)) from I.hok l _ ea)
    exact tup ⟨o, h1, h2⟩ rx rfl
  | @fDict l ob kvs ea =>
    obtain ⟨_, _, _, vs, _, o, es, ep, h1, h2, _⟩ := (show ObjOk X.prog X.w H s.heap l (.frz ob (.dK kvs)) from I.hok l _ ea)
    exact dct ⟨_, h1, h2.1⟩ rx rfl
theorem rel_ref {y : V} {a : Addr} (r : RelV y (.ref a)) : y = .ref a := by
  cases y with
  | ref z => cases (show Value.ref a = Value.ref z from r); rfl
  | non => cases (show Value.ref a = Value.none from r)
  | bl b => cases (show Value.ref a = Value.bool b from r)
  | int i => obtain ⟨k, e⟩ := (show ∃ k, Value.ref a = Value.int i k from r); cases e
  | str z => obtain ⟨k, e⟩ := (show ∃ k, Value.ref a = Value.str z k from r); cases e
  | byt z => obtain ⟨k, e⟩ := (show ∃ k, Value.ref a = Value.bytes z k from r); cases e
  | flt z => obtain ⟨k, e⟩ := (show ∃ k, Value.ref a = Value.float z k from r); cases e
  | ty z => cases (show Value.ref a = Value.type z from r)
theorem ty_flt {K : PySem.W.Frag} {H : Hp} {x : V} {u : Value} {T : String} (ty : TyX K H x (.type T)) (hm : T ∈ kindsT) (r : RelV x u) : ∀ y t, u ≠ .float y t := by
  intro y t e
  subst e
  have no : ∀ a : Addr, RelV (.ref a) (.float y t) → False := fun a r => by cases (show Value.float y t = Value.ref a from r)
  cases ty with
  | base b =>
    cases b with
    | non => cases (show Value.float y t = Value.none from r)
    | bl b => cases (show Value.float y t = Value.bool b from r)
    | int i => obtain ⟨k, e⟩ := (show ∃ k, Value.float y t = Value.int i k from r); cases e
    | str z => obtain ⟨k, e⟩ := (show ∃ k, Value.float y t = Value.str z k from r); cases e
    | flt y => exact absurd hm (by decide)
    | lst e => exact no _ r
    | frz e => exact no _ r
    | tup e => exact no _ r
    | dK e => exact no _ r
    | dT e => exact no _ r
  | byt y => exact absurd hm (by decide)
  | set e => exact no _ r
  | kList e c => exact no _ r
  | kTuple e c => exact no _ r
  | kDict e c => exact no _ r
  | fTuple e => exact no _ r
  | fDict e => exact no _ r
theorem eqE_ofX (c : OwnC X.K C) (m : Meth X.K C "__eq__" g) (F : FnR X.prog X.w X.K X.mg X.base CX0 n g (spEqE R)) : EqE X n (DOfX X.K C R) := by
  intro A pins s σ H x y u v b sb I rx ry d
  have d0 := d
  obtain ⟨a, dx, fs, T, rfl, ha, ty, hm, hr⟩ := d
  cases (show v = Value.ref a from ry)
  refine eqB_of (fun z => ?_) (ty_flt ty hm rx) (wpAny_mono (rcE_ofX c m F A pins s σ H _ _ _ _ _ sb I rx ry d0) (fun r s' q => ?_) fun _ _ x => x)
  · subst z
    cases rel_ref rx
    exact ty_ins I ha ty
  · exact ⟨b, q.1, rfl, q.2⟩
/-- .. two instances: one and the same is like itself -/
theorem eqE_ownX (m : Meth X.K C "__eq__" g) (F : FnR X.prog X.w X.K X.mg X.base CX0 n g (spEqE R)) (hself : ∀ a dx fs H b, H a = some (.ins C dx fs) → R a (.ref a) H b → b = true ∨ ∃ T, TyX X.K H (.ref a) (.type T)) : EqE X n (DOwn X.K C R) := by
  intro A pins s σ H x y u v b sb I rx ry d
  have d0 := d
  obtain ⟨a, dx, fs, t, rfl, ha, ty, hn, hr⟩ := d
  cases (show u = Value.ref a from rx)
  by_cases hv : v = .ref a
  · subst hv
    cases rel_ref ry
    rcases hself _ _ _ _ _ ha hr with rfl | ⟨T, h⟩
    · exact SeqAt.EqAt.same (A := A) (s := s) (.ref a) X.prog X.w X.xe _ ⟨rfl, H, I, Ex.refl _⟩
    · exact (ty_ins I ha h).elim
  · refine eqB_of (fun z => hv z.symm) (fun _ _ z => nomatch z) (wpAny_mono (rcE_own m F A pins s σ H _ _ _ _ _ sb I rx ry d0) (fun r s' q => ?_) fun _ _ x => x)
    exact ⟨b, q.1, rfl, q.2⟩
end
end L2
namespace Dl
open PySem PySem.Spec PyProof.Rows L2 _root_.Evl
section
variable {K : PySem.W.Frag} {A : List Addr} {S : Store} {H H' : Hp} {X : Addr → Prop} {Φ : R → Prop} {d e : D} {v w : V}
abbrev Rep0 (K : PySem.W.Frag) (H : Hp) (d : D) (v : V) : Prop := Rep K (fun _ => False) H d v
theorem rep0 (h : Rep K X H d v) : Rep0 K H d v := h.go ⟨fun _ z => z.elim, fun _ _ _ q => q⟩
theorem rep0_ex (h : Rep0 K H d v) (e : Ex H H') : Rep0 K H' d v := h.go ⟨fun _ z => z.elim, fun a o _ q => e a o q⟩
/-- no instance of the class c -/
def Els (K : PySem.W.Frag) (c : Str) (y : D) : Prop := (∃ T, y.ty? = some T ∧ T ∈ kindsT) ∨ ∃ c' fs, y = .ins c' fs ∧ Oth K (He.ga K c) (He.ga K c')
/-- how an instance of c compares: g, with its like -/
def GC (K : PySem.W.Frag) (c : Str) (g : D → D → Bool → Prop) (x y : D) (b : Bool) : Prop := (∃ fs fs', x = .ins c fs ∧ y = .ins c fs' ∧ g x y b) ∨ ((∃ fs, x = .ins c fs) ∧ b = false ∧ Els K c y)
def sdE (K : PySem.W.Frag) (c : Str) (g : D → D → Bool → Prop) : Sd := fun rs S Φ => ∃ x y b, rs = [.dat x, .dat y] ∧ GC K c g x y b ∧ Φ (.bl b) S
def RE (K : PySem.W.Frag) (c : Str) (g : D → D → Bool → Prop) (a : Addr) (y : V) (H : Hp) (b : Bool) : Prop := ∃ d e, Rep0 K H d (.ref a) ∧ Rep0 K H e y ∧ GC K c g d e b
theorem so0 : SOk K [] [] H := ⟨rfl, List.nodup_nil, fun k a m h => by cases h⟩
theorem lv0 : Lv [] [] = fun _ => False := by
  funext a
  refine propext ⟨fun ⟨k, m, h, _⟩ => (by cases h), fun z => z.elim⟩
theorem lift_eq {c : Str} {g : D → D → Bool → Prop} {vs : List V} {H : Hp} {Q : VK} {E : XK} (h : spEqE (RE K c g) vs H Q E) : lift K (sdE K c g) vs H Q E := by
  obtain ⟨a, y, b, rfl, ⟨d, e, hd, he, hg⟩, k⟩ := h
  refine ⟨[], [], [.dat d, .dat e], fun d S' => d = .bl b ∧ S' = [], so0, ?_, ⟨d, e, b, rfl, hg, rfl, rfl⟩, ?_⟩
  · have h1 : RepR K [] [] H (.dat d) (.ref a) := by
      show Rep K (Lv [] []) H d (.ref a)
      rw [lv0]
      exact hd
    have h2 : RepR K [] [] H (.dat e) y := by
      show Rep K (Lv [] []) H e y
      rw [lv0]
      exact he
    exact .cons h1 (.cons h2 .nil)
  · rintro z S' u H' ⟨rfl, rfl⟩ gw so r
    obtain rfl := rep_bl r
    rw [lv0] at gw
    exact k H' fun a o q => gw.h a o (fun z => z) q
/-! ### the relations of == -/
def DA (K : PySem.W.Frag) (c : Str) (g : D → D → Bool → Prop) : EqR := fun x y H b => ∃ d e, Rep0 K H d x ∧ Rep0 K H e y ∧ GC K c g d e b
def DB (K : PySem.W.Frag) (c : Str) : EqR := fun x y H b => ∃ fs e T, Rep0 K H e x ∧ Rep0 K H (.ins c fs) y ∧ e.ty? = some T ∧ T ∈ kindsT ∧ b = false
variable {c : Str} {g : D → D → Bool → Prop} {xs : List Str}
theorem da_own {x y : V} {b : Bool} (cf : ClF K c xs) (h : DA K c g x y H b) : DOwn K (He.ga K c) (RE K c g) x y H b := by
  obtain ⟨d, e, hd, he, hg⟩ := h
  have i := cf.own.is
  rcases id hg with ⟨fs, fs', rfl, rfl, _⟩ | ⟨⟨fs, rfl⟩, rfl, T⟩
  · cases hd with
    | @ins a dx _ _ gs n hx rf =>
      cases he with
      | @ins a' dx' _ _ gs' n' hx' rf' =>
        exact ⟨a, dx, gs, .ref (He.ga K c), rfl, hx, fun H1 e1 => .base (.ins (e1 _ _ hx') cf.cl i.ha i.hn i.htk i.hm), cf.own.nf, _, _, .ins n hx rf, .ins n' hx' rf', hg⟩
  · cases hd with
    | @ins a dx _ _ gs n hx rf =>
      rcases T with ⟨T, hT, hm⟩ | ⟨c', fs', rfl, o⟩
      · exact ⟨a, dx, gs, .type T, rfl, hx, fun H1 e1 => rep_ty (rep0_ex he e1) hT, cf.own.first hm, _, _, .ins n hx rf, he, hg⟩
      · cases he with
        | @ins a' dx' _ _ gs' n' hx' rf' =>
          exact ⟨a, dx, gs, .ref (He.ga K c'), rfl, hx, fun H1 e1 => .base (.ins (e1 _ _ hx') o.cl o.is.ha o.is.hn o.is.htk o.is.hm), o.nf, _, _, .ins n hx rf, .ins n' hx' rf', hg⟩
theorem db_of {x y : V} {b : Bool} (h : DB K c x y H b) : DOfX K (He.ga K c) (RE K c g) x y H b := by
  obtain ⟨fs, e, T, he, hd, hT, hm, rfl⟩ := h
  cases hd with
  | @ins a dx _ _ gs n hx rf => exact ⟨a, dx, gs, T, rfl, hx, rep_ty he hT, hm, _, _, .ins n hx rf, he, .inr ⟨⟨fs, rfl⟩, rfl, .inl ⟨T, hT, hm⟩⟩⟩
theorem re_self (hg : ∀ H a d e b, Rep0 K H d (.ref a) → Rep0 K H e (.ref a) → g d e b → b = true) : ∀ a dx fs H b, H a = some (.ins (He.ga K c) dx fs) → RE K c g a (.ref a) H b → b = true ∨ ∃ T, TyX K H (.ref a) (.type T) := by
  rintro a dx fs H b ha ⟨d, e, hd, he, h⟩
  rcases h with ⟨_, _, _, _, h⟩ | ⟨_, rfl, ⟨T, hT, _⟩ | ⟨c', fs', rfl, o⟩⟩
  · exact .inl (hg _ _ _ _ _ hd he h)
  · exact .inr ⟨T, rep_ty he hT⟩
  · cases he with
    | @ins a' dx' _ _ gs' n' hx' rf' =>
      rw [ha] at hx'
      injection hx' with hx'
      injection hx' with h1
      have := o.kit
      rw [← h1, kit_self] at this
      cases this
theorem monA : MonE (DA K c g) := fun x y H H' b e ⟨d, f, hd, hf, h⟩ => ⟨d, f, rep0_ex hd e, rep0_ex hf e, h⟩
theorem monB : MonE (DB K c) := fun x y H H' b e ⟨fs, f, T, h1, h2, h⟩ => ⟨fs, f, T, rep0_ex h1 e, rep0_ex h2 e, h⟩
theorem MonE.or {D D' : EqR} (h : MonE D) (h' : MonE D') : MonE (fun x y H b => D x y H b ∨ D' x y H b) := fun x y H H' b e d => d.elim (fun d => .inl (h x y H H' b e d)) fun d => .inr (h' x y H H' b e d)
end
section
variable {X : Cx} {n : Nat} {c : Str} {g : D → D → Bool → Prop} {xs ps : List Str} {sfx : List (List V)}
theorem dmEq (D : Dm X.prog X.w X.K X.mg X.base CX0 n c "__eq__" ps sfx (lift X.K (sdE X.K c g))) (hu : [] ∈ sfx) : FnR X.prog X.w X.K X.mg X.base CX0 n (He.ma X.K (He.ga X.K c) "__eq__") (spEqE (RE X.K c g)) := (D.raw hu).imp fun _ _ _ _ h => lift_eq h
theorem rcA (cf : ClF X.K c xs) (m : Meth X.K (He.ga X.K c) "__eq__" (He.ma X.K (He.ga X.K c) "__eq__")) (D : Dm X.prog X.w X.K X.mg X.base CX0 n c "__eq__" ps sfx (lift X.K (sdE X.K c g))) (hu : [] ∈ sfx := by decide) : RcE X n .Eq (DA X.K c g) := (rcE_own m (dmEq D hu)).imp fun _ _ _ _ h => da_own cf h
theorem rcB (cf : ClF X.K c xs) (m : Meth X.K (He.ga X.K c) "__eq__" (He.ma X.K (He.ga X.K c) "__eq__")) (D : Dm X.prog X.w X.K X.mg X.base CX0 n c "__eq__" ps sfx (lift X.K (sdE X.K c g))) (hu : [] ∈ sfx := by decide) : RcE X n .Eq (DB X.K c) := (rcE_ofX cf.own m (dmEq D hu)).imp fun _ _ _ _ h => db_of h
theorem neA (cf : ClF X.K c xs) (m : Meth X.K (He.ga X.K c) "__eq__" (He.ma X.K (He.ga X.K c) "__eq__")) (D : Dm X.prog X.w X.K X.mg X.base CX0 n c "__eq__" ps sfx (lift X.K (sdE X.K c g))) (hu : [] ∈ sfx := by decide) : RcE X (n + 1) .NotEq (fun x y H b => DA X.K c g x y H (!b)) := (neE_own cf.own m (dmEq D hu)).imp fun _ _ _ _ h => da_own cf h
theorem eqA (cf : ClF X.K c xs) (m : Meth X.K (He.ga X.K c) "__eq__" (He.ma X.K (He.ga X.K c) "__eq__")) (D : Dm X.prog X.w X.K X.mg X.base CX0 n c "__eq__" ps sfx (lift X.K (sdE X.K c g))) (hg : ∀ H a d e b, Rep0 X.K H d (.ref a) → Rep0 X.K H e (.ref a) → g d e b → b = true) (hu : [] ∈ sfx := by decide) : EqE X n (DA X.K c g) := (eqE_ownX m (dmEq D hu) (re_self hg)).imp fun _ _ _ _ h => da_own cf h
theorem eqB (cf : ClF X.K c xs) (m : Meth X.K (He.ga X.K c) "__eq__" (He.ma X.K (He.ga X.K c) "__eq__")) (D : Dm X.prog X.w X.K X.mg X.base CX0 n c "__eq__" ps sfx (lift X.K (sdE X.K c g))) (hu : [] ∈ sfx := by decide) : EqE X n (DB X.K c) := (eqE_ofX cf.own m (dmEq D hu)).imp fun _ _ _ _ h => db_of h
end
section
variable {K : PySem.W.Frag} {A : List Addr} {S : Store} {H H' : Hp} {Φ : R → Prop} {d e : D} {c : Str} {g : D → D → Bool → Prop} {xs : List Str} {E : EqR} {b : Bool}
/-- the data d and e compare as E says -/
def CmpO (K : PySem.W.Frag) (E : EqR) (d e : D) (b : Bool) : Prop := ∀ H v w, Rep0 K H d v → Rep0 K H e w → E v w H b
theorem o_cmp (h : CmpO K E d e b) (k : Φ (.dat (.bl b))) : Op2 K (rCmpE E) (.dat d) (.dat e) S Φ := fun A H v w so rx ry Q q => ⟨b, h H v w (rep0 rx) (rep0 ry), fun H' ex => q _ _ H' k ex (Rep.bl b)⟩
theorem o_inO {ds : List D} {bs : List Bool} (hl : bs.length = ds.length) (h : ∀ (i : Nat) (d : D) (b : Bool), ds[i]? = some d → bs[i]? = some b → CmpO K E d e b) (k : Φ (.dat (.bl (bs.any id)))) : Op2 K (rInE E) (.dat e) (.dat (.lst ds)) S Φ := fun A H v w so rx ry Q q => by
  cases ry with
  | @lst a _ zs n hx rl =>
    have ll := rl.length
    refine ⟨a, zs, bs, rfl, hx, ⟨by omega, by rw [List.length_replicate], fun i x y b h1 h2 h3 => ?_⟩, fun H' ex => q _ _ H' k ex (Rep.bl _)⟩
    obtain ⟨d, hd, rd⟩ := rl.get' h1
    have e2 := List.eq_of_mem_replicate (List.mem_of_getElem? h2)
    subst e2
    exact h i d b hd h3 H x y (rep0 rd) (rep0 rx)
theorem cmp_same {fs fs' : List (Str × D)} (h : g (.ins c fs) (.ins c fs') b) : CmpO K (DA K c g) (.ins c fs) (.ins c fs') b := fun _ _ _ h1 h2 => ⟨_, _, h1, h2, .inl ⟨fs, fs', rfl, rfl, h⟩⟩
theorem cmp_els {fs : List (Str × D)} (h : Els K c e) : CmpO K (DA K c g) (.ins c fs) e false := fun _ _ _ h1 h2 => ⟨_, _, h1, h2, .inr ⟨⟨fs, rfl⟩, rfl, h⟩⟩
theorem cmp_off {fs : List (Str × D)} {T : String} (h : d.ty? = some T) (hm : T ∈ kindsT) : CmpO K (DB K c) d (.ins c fs) false := fun _ _ _ h1 h2 => ⟨fs, d, T, h1, h2, h, hm, rfl⟩
theorem els_oth {c' : Str} {fs : List (Str × D)} {xs : List Str} (cf : ClF K c' xs) (h : othB K c c' = true) : Els K c (.ins c' fs) := .inr ⟨c', fs, rfl, othB_ok cf.cl cf.own.is h⟩
theorem els_kd {T : String} (h : e.ty? = some T) (hm : T ∈ kindsT) : Els K c e := .inl ⟨T, h, hm⟩
theorem c_isE (cf : ClF K c xs) (h : Els K c e) (k : Φ (.dat (.bl false))) : Cb K (rIsi K) [.dat e, .dat (.glo c)] S Φ := by
  rcases h with ⟨T, hT, hm⟩ | ⟨c', fs, rfl, o⟩
  · exact c_isK cf hT (List.contains_iff_mem.mpr hm) k
  · refine cb_val (fun A H vs so rx => ?_) k
    obtain ⟨v, w, rfl, r1, r2⟩ := reps2 rx
    cases r1 with
    | @ins a dx _ _ gs n hx rf =>
      cases r2 with
      | glo =>
        exact ⟨_, Rep.bl false, fun Q q => ⟨_, _, _, _, false, rfl, .own _, .base (.ins hx o.cl o.is.ha o.is.hn o.is.htk o.is.hm), o.kit, q⟩⟩
end
end Dl
/-! bool of an own value that has a __len__. -/
namespace L2
open PySem PySem.Spec PyProof.Rows _root_.Evl
section
variable {X : Cx} {n : Nat} {C g : Addr} {sp : Sp}
theorem len_runs {A : Around} {pins : List (Addr × Obj)} {s : Shared} {σ : St} {H : Hp} {a : Addr} {Q : VK} (F : FnR X.prog X.w X.K X.mg X.base CX0 n g sp) (sb : Sub X n A) (I : Inv X pins σ H s) (hr : sp [.ref a] H Q E0) :
    wpAny (model X.prog X.w) A (call (.ref g) [.ref a]) (fun r s' => ∃ z H', Inv X pins σ H' s' ∧ RelV z r ∧ Q z H') X.xe s := by
  have e0 : Env0 X.prog X.w X.K X.mg X.base A X.stack s H := by
    have e := I.env0
    exact ⟨by rw [sb.fr]; exact e.frames, e.mod, e.bs, e.bsz, e.funs, e.frf, e.hok, e.bare⟩
  refine wpAny_mono (wpAny_call (SlX.run_at (us := [.ref a]) (ws := [.ref a]) (Q := Q) F sb.room e0 pass0 I (.cons rfl .nil) hr)) (fun r s' z => ?_) fun _ _ x => x
  obtain ⟨z', H', I', rz, q⟩ := z
  exact ⟨z', H', I', rz, q⟩
theorem truthy_len {A : Around} {pins : List (Addr × Obj)} {s : Shared} {σ : St} {H : Hp} {a dx : Addr} {fs : List (Str × V)} {Q : Bool → Hp → Prop} (F : FnR X.prog X.w X.K X.mg X.base CX0 n g sp) (sb : Sub X (n + 1) A) (I : Inv X pins σ H s) (ha : H a = some (.ins C dx fs))
    (m : Meth X.K C "__len__" g) (nb : PySem.W.findIn X.K (.ref C) "__bool__" = some none) (hr : sp [.ref a] H (fun v H' => ∃ i : Int, v = .int i ∧ 0 ≤ i ∧ i < 2 ^ 63 ∧ Q (i != 0) H') E0) :
    wpAny (model X.prog X.w) A (truthy (.ref a)) (fun b s' => ∃ H', Inv X pins σ H' s' ∧ Q b H') X.xe s := by
  obtain ⟨mA, J, _⟩ := ins_get I.hok ha
  obtain ⟨od, J, _⟩ := J.look
  have key : wpAny (model X.prog X.w) A (runValue (.builtin "len" ⟨[.ref a], []⟩)) (fun r s' => ∃ (i : Int) (t : Tok), r = .int i t ∧ ∃ H', Inv X pins σ H' s' ∧ Q (i != 0) H') X.xe s := by
    refine wpAny_runValue (codeAny_builtin PySem.entry_len ?_)
    rw [Around.under_plainId PySem.plain_len _]
    show wpAny _ _ (Builtin.«len» _) _ _ _
    unfold Builtin.«len»
    refine wpAny_bind (m := oneArg "len" _) (wpAny_pure ?_)
    refine wpAny_bind (m := callSpecial? (.ref a) (Str.ofString "__len__")) (PySem.W.special_fn I.kIn J m.at_ (beq_iff_eq.mp m.fn) (wpAny_mono (len_runs F sb.in1 I hr) (fun r s' hr => ?_) fun _ _ y => y))
    obtain ⟨z, H', I', rz, i, rfl, i0, i1, q⟩ := hr
    obtain ⟨t, e⟩ := (show ∃ t, r = Value.int i t from rz)
    subst e
    refine wpAny_bind (wpAny_holding (wpAny_pure ?_))
    refine wpAny_bind (wpAny_letGo ?_)
    show wpAny _ _ (if i < 0 then _ else _) _ _ _
    rw [if_neg (by omega)]
    show wpAny _ _ (if i ≥ 2 ^ 63 then _ else _) _ _ _
    rw [if_neg (by omega)]
    exact wpAny_bind (wpAny_mkInt (wpAny_pure ⟨i, _, rfl, H', I'.tok _, q⟩))
  have hsp : ∀ {Q' : Option Value → Shared → Prop}, Q' (some (.ref g)) s → wpAny (model X.prog X.w) A (specialOf (.ref a) "__len__") Q' X.xe s := fun q => by
    unfold specialOf
    exact wpAny_bind (J.type.here ((PySem.W.looks_findIn I.kIn m.at_).here q))
  unfold truthy
  refine wpAny_bind (DSub.special_no (name := Str.ofString "__bool__") I.kIn J nb ?_)
  refine wpAny_bind (hsp ?_)
  exact wpAny_bind (wpAny_mono key (fun r s' h' => by obtain ⟨i, t, rfl, q⟩ := h'; exact wpAny_pure q) fun _ _ e => e)
theorem meets_bool_ref (prog : Program) (w : World) (a : Addr) : MeetsIn prog w (Builtin.«bool.__new__» ⟨[.type "bool", .ref a], []⟩) (fun A R s => wpAny (model prog w) A.in1 (truthy (.ref a)) (fun b s' => R (.ok (.ret (.bool b))) s') (fun e s' => R (.error e) s') s) :=
  .of_wp fun A R s h => by
    have f1 := PySem.F.conv_sub_bool
    repeat (any_goals (first | assumption | (with_reducible refine wpAny_mono h (fun b s' z => ?_) fun _ _ x => x) | wp_step))
    exact ⟨_, rfl, by assumption⟩
def rBoolO (C : Addr) (sp : Sp) : List V → Hp → VK → Prop := fun xs H Q => ∃ a dx fs, xs = [V.ref a] ∧ H a = some (.ins C dx fs) ∧ sp [.ref a] H (fun v H' => ∃ i : Int, v = .int i ∧ 0 ≤ i ∧ i < 2 ^ 63 ∧ Q (.bl (i != 0)) H') E0
theorem call_boolO (m : Meth X.K C "__len__" g) (nb : PySem.W.findIn X.K (.ref C) "__bool__" = some none) (F : FnR X.prog X.w X.K X.mg X.base CX0 n g sp) (hr : Room (n + 3) X.A) : CallR X (.type "bool") (rBoolO C sp) := by
  intro pins s σ H xs us Q I r h
  obtain ⟨a, dx, fs, rfl, ha, q⟩ := h
  obtain ⟨u, rfl, ru⟩ := r.one
  cases (show u = Value.ref a from ru)
  have sb : Sub X (n + 1) X.A.in1.in1 := (Sub.in1 (Sub.in1 ⟨hr, rfl⟩))
  refine callType_newIn PySem.F.called_bool PySem.F.newNe_bool (PySem.F.typeCall_bool_1 _) (PySem.F.newCall_bool_1 _) (fun obj => PySem.F.args_object_init_2 obj _) PySem.F.entry_bool_new (meets_bool_ref X.prog X.w a) ?_
  refine wpAny_mono (truthy_len (Q := fun b H' => Q (.bl b) H') F sb I ha m nb q) (fun b s' z => ?_) fun _ _ x => x
  obtain ⟨H', I', q⟩ := z
  exact ⟨rfl, .bl b, H', I', rfl, q⟩
end
end L2
namespace Dl
open PySem PySem.Spec PyProof.Rows L2 _root_.Evl
section
variable [Z : Zo] {K : PySem.W.Frag} {ρ : List R} {S : Store} {Φ : R → Store → Prop} {tl : TA}
theorem wp_boolO {c : Str} {sd : Sd} (h : WpA K tl ρ S fun rs S1 => LeO c sd rs S1 fun z S2 => Φ (.dat (.bl (z != 0))) S2) : Wp K (tCB (rBoolO (He.ga K c) (lift K sd)) tl) ρ S Φ := fun A σ H f Q q =>
  h A σ H f _ fun rs S1 A1 vs H1 ⟨fs, er, hs⟩ g1 so1 rr => by
    subst er
    obtain ⟨v, rfl, r⟩ := reps1 rr
    cases id r with
    | @ins a dx _ _ gs n hx rf =>
      refine ⟨a, dx, gs, rfl, hx, A1, S1, _, _, so1, rr, hs, fun d S' v H' ⟨z, e, z0, z1, k⟩ g so r' => ?_⟩
      subst e
      obtain rfl := rep_int r'
      exact ⟨z, rfl, z0, z1, q _ S' A1 _ H' k ⟨g1.pre, g1.gw.trans g⟩ so (Rep.bl _)⟩
end
end Dl
/-! l[::-1], l a list; texts in the f-strings of own values. -/
namespace Dl
open PySem PySem.Spec PyProof.Rows L2 _root_.Evl
section
variable [Z : Zo] {K : PySem.W.Frag} {S : Store} {ρ : List R} {Φ : R → Store → Prop} {te : TE}
def RevL (r : R) (S : Store) (Φ : R → Prop) : Prop := ∃ ds, LsR S r ds ∧ Φ (.dat (.lst ds.reverse))
theorem wp_revL (h : Wp K te ρ S fun r S1 => RevL r S1 fun z => Φ z S1) : Wp K (tRevL K te) ρ S Φ := fun A σ H f Q q =>
  h A σ H f _ fun r S1 A1 v H1 ⟨ds, hl, k⟩ g1 so1 rr => by
    obtain ⟨a, xs, rfl, hx, l⟩ := hl.rep so1 rr
    refine ⟨a, xs, rfl, sq_of hx, fun p hp => q _ S1 A1 _ _ k (g1.trans (.ex (Ex.new hp))) (so1.ex (Ex.new hp)) ?_⟩
    exact .lst (so1.new hp) upd_same ((l.go (Gw.ex (Ex.new hp))).reverse)
theorem ws_mid {t u : TS} {Nx Bk Ct : PR} {Rt : R → Store → Prop} (I : PR) (h1 : WpS K t ρ S I Rt Bk Ct) (h2 : ∀ ρ' S', I ρ' S' → WpS K u ρ' S' Nx Rt Bk Ct) : WpS K (tSeq t u) ρ S Nx Rt Bk Ct := fun A σ H f D e =>
  h1 A σ H f _ ⟨fun ρ' S' A' σ' H' p g f' => h2 ρ' S' p A' σ' H' f' D (e.go g), e.rt, e.bk, e.ct⟩
omit Z in
theorem cmp_ne {E : EqR} {d e : D} {b : Bool} (h : CmpO K E d e b) : CmpO K (fun x y H b => E x y H (!b)) d e (!b) := fun H v w h1 h2 => by
  show E v w H (!(!b))
  rw [Bool.not_not]
  exact h H v w h1 h2
end
end Dl
/-! Dicts written out and compared, unions of rules, isinstance of what was caught by rows of classes, partition, int(text), makers by keywords. -/
namespace L2
open PySem PySem.Spec PyProof.Rows _root_.Evl
section
variable {X : Cx}
def rOr (r r' : R2) : R2 := fun x y H Q => r x y H Q ∨ r' x y H Q
theorem op_uni {f : Value → Value → Sem Value} {r r' : R2} (h : OpR X f r) (h' : OpR X f r') : OpR X f (rOr r r') := fun pins s σ H x y v u Q I rx ry q => q.elim (h pins s σ H x y v u Q I rx ry) (h' pins s σ H x y v u Q I rx ry)
/-- a dict and a text are never alike -/
def rEqDS : R2 := fun x y H Q => ∃ a z ks, x = .ref a ∧ y = .str z ∧ H a = some (.dK ks) ∧ Q (.bl false) H
theorem op_eqDS (hu : X.A.units < cLine) : OpR X (compareOp .Eq) rEqDS := by
  intro pins s σ H x y v u Q I rx ry h
  obtain ⟨a, z, ks, rfl, rfl, ea, q⟩ := h
  obtain rfl : v = Value.ref a := rx
  obtain ⟨t, rfl⟩ := ry
  obtain ⟨_, _, vs, _, q0, es, ep, hg, ⟨hc, hdd, hsl⟩, hd, _⟩ := dk_of I.hok ea
  obtain ⟨cls, dd, data, sl⟩ := q0
  simp only at hc hd hdd hsl
  subst hc hd hdd hsl
  have hl : s.TypeIs (.ref a) "dict" := ⟨_, hg, rfl⟩
  refine PySem.SeqAt.rc_eq_decline_or (k := false) hl (typeIs_str s z t) (by decide) PySem.F.sub_str_dict PySem.F.slot_dict_eq PySem.F.slot_str_eq_refl (fun Q' hq => ?_) (fun Q' hq => ?_) (fun _ hq => wpAny_of_eq (rfl : isSame (.ref a) (.str z t) = pure false) hq) (.inr hu) ⟨.bl false, H, I, rfl, q⟩
  · refine wpAny_call_entry PySem.F.slot_dict_eq hl PySem.F.entry_dict_eq ?_ (PySem.F.args_dict_eq_2 _ _)
    have f1 := PySem.F.sub_str_dict
    obtain ⟨hp, g, d, tk, os⟩ := s
    wp_walk
    exact ⟨_, rfl, hq⟩
  · refine wpAny_call_entry PySem.F.slot_str_eq_refl (typeIs_str _ _ _) PySem.F.entry_str_eq ?_ (PySem.F.args_str_eq_2 _ _)
    obtain ⟨hp, g, d, tk, os⟩ := s
    wp_walk using AutoSeq1.wpAny_loadPart' hg
    exact ⟨_, rfl, hq⟩
/-- lists of unlike lengths -/
def rEqLn (K : PySem.W.Frag) : R2 := fun x y H Q => ∃ a b xs ys, x = .ref a ∧ y = .ref b ∧ SqL K H a xs ∧ SqL K H b ys ∧ xs.length ≠ ys.length ∧ Q (.bl false) H
theorem op_eqLn (hu : X.A.units < cLine) : OpR X (compareOp .Eq) (rEqLn X.K) := by
  intro pins s σ H x y v u Q I rx ry h
  obtain ⟨a, b, xs, ys, rfl, rfl, ha, hb, hn, q⟩ := h
  obtain rfl : v = Value.ref a := rx
  obtain rfl : u = Value.ref b := ry
  obtain ⟨i1, r1, p1, _⟩ := I.list ha
  obtain ⟨i2, r2, p2, _⟩ := I.list hb
  have l1 := r1.length
  have l2 := r2.length
  exact PySem.SeqAt.RcAt.lists_lengths p1.isList p2.isList (by simp; omega) hu _ _ _ _ ⟨.bl false, H, I, rfl, q⟩
end
end L2

namespace L2
open PySem PySem.Spec PyProof.Rows _root_.Evl
section
variable {X : Cx} {CX : CXT} {k n : Nat} {c x : Str} {ps ks : List Str} {sp : Sp} {E : St → XK} {p pos : Pos} {e : Expr} {es : List Expr} {kws : List Keyword} {t tk : TA} {gV : List V → List V → List V}
/-- a def of a class, called by keywords -/
structure DmK (P : Program) (w : World) (K : PySem.W.Frag) (mg : Str → Option Value) (base : Heap) (CX : CXT) (k : Nat) (c m : Str) (ps : List Str) (n : Nat) (ks : List Str) (gV : List V → List V → List V) (sp : Sp) : Prop where
  ex : ∃ (fd : FuncData) (g : List Value → List Value → List Value), FnOk P w K mg base CX k (He.ma K (He.ga K c) m) fd ps sp ∧ KBn K fd ps n ks g gV
def tMakeKX (C : Addr) (n m : Nat) (sp : Sp) (gV : List V → List V → List V) (E : St → XK) (t tk : TA) : TE := fun σ H Q => t σ H fun vs H1 => tk σ H1 fun zs H2 => vs.length = n ∧ zs.length = m ∧
  ∀ x dx, H2 x = none → H2 dx = none → dx ≠ x → sp (gV (.ref x :: vs) zs) (upd (upd H2 dx (.own x)) x (.ins C dx [])) (fun v H3 => v = .non ∧ Q (.ref x) H3) (E σ)
theorem run_makeKX {C f : Addr} {fd : FuncData} {g : List Value → List Value → List Value} {pins : List (Addr × Obj)} {σ : St} {H : Hp} {s : Shared} {Q : VK} {us ws : List Value} {vs zs : List V} (M : Mk X.K C f) (F : FnOk X.prog X.w X.K X.mg X.base CX k f fd ps sp) (hr : Room (k + 1) X.A) (hb : KBn X.K fd ps (n + 1) ks g gV)
    (hx : PassesAt CX X σ (E σ)) (I : Inv X pins σ H s) (r : Vals vs us) (rz : Vals zs ws) (l1 : vs.length = n) (l2 : zs.length = ks.length)
    (h : ∀ x dx, H x = none → H dx = none → dx ≠ x → sp (gV (.ref x :: vs) zs) (upd (upd H dx (.own x)) x (.ins C dx [])) (fun v H2 => v = .non ∧ Q (.ref x) H2) (E σ)) :
    wpAny (model X.prog X.w) X.A (call (.ref C) us (ks.zip ws)) (EP X pins σ Q) X.xe s := by
  have hq := h (s.heap.objs.size + 1) s.heap.objs.size (I.hok.fresh (Nat.le_succ _)) (I.hok.fresh (Nat.le_refl _)) (Nat.ne_of_lt (Nat.lt_succ_self _))
  have I2 := Inv.made (C := C) I
  have r1 : Vals (V.ref (s.heap.objs.size + 1) :: vs) (Value.ref (s.heap.objs.size + 1) :: us) := .cons rfl r
  have r2 := hb.rel r1 rz
  have e1 : (Value.ref (s.heap.objs.size + 1) :: us).length = n + 1 := r1.length.symm.trans (congrArg Nat.succ l1)
  have e2 : ws.length = ks.length := rz.length.symm.trans l2
  refine wpAny_call (make_map (f := f) I.kIn M.makes M.init (beq_iff_eq.mp M.fn) (codeAny_mono (F.run _ X.stack _ _ ⟨Value.ref (s.heap.objs.size + 1) :: us, ks.zip ws⟩ (g (Value.ref (s.heap.objs.size + 1) :: us) ws) _ _ (E σ) (hr.make C us (ks.zip ws))
    (I2.env0.make C us (ks.zip ws)) (hb.to _ (Value.ref (s.heap.objs.size + 1) :: us) ws I2.kIn e1 e2) r2 hq) fun r s' hq' => ?_))
  cases r with
  | error e => exact hx pins _ _ e s' I2 hq'
  | ok fl =>
    cases fl with
    | ret u =>
      obtain ⟨v, H', I3, rv, ev, q3⟩ := I2.after hq'
      subst ev
      exact ⟨rv, ⟨V.ref (s.heap.objs.size + 1), H', I3, rfl, q3⟩⟩
    | next => exact False.elim hq'
    | brk => exact False.elim hq'
    | cont => exact False.elim hq'
theorem pe_mkKx (M : Mk X.K (He.ga X.K c) (He.ma X.K (He.ga X.K c) "__init__")) (D : DmK X.prog X.w X.K X.mg X.base CX k c "__init__" ps (n + 1) ks gV sp) (hr : Room (k + 1) X.A) (hg : Gl X x) (hm : X.mg x = some (.ref (He.ga X.K c))) (hx : ∀ σ, PassesAt CX X σ (E σ))
    (ha : PA X (e :: es) t) (hkw : PK X kws tk) (hall : (backToKw pos (keywordEach kws X.env)).all (·.1.isSome) = true := by rfl) (hks : (backToKw pos (keywordEach kws X.env)).filterMap (·.1) = ks := by rfl)
    (hdb : (x == ("__debug__" : Str)) = false := by decide) (he : starEach (e :: es) X.env = (false, eval e X.env) :: starEach es X.env := by rfl)
    (hpl : ((backTo pos (starEach (e :: es) X.env)).any (·.1) || (backToKw pos (keywordEach kws X.env)).any (·.1.isNone)) = false := by rfl) :
    PE X (.Call (.Name x p) (e :: es) kws pos) (tMakeKX (He.ga X.K c) n ks.length sp gV E t tk) := by
  obtain ⟨fd, g, F, hb⟩ := D.ex
  refine ⟨fun pins s σ H Q I h => ?_⟩
  refine wpAny_Call_Name_kw (ld_glob I hg hm ?_ hdb)
  refine PySem.W.callWith_KW (h₀ := X.base) I.ok.mod.kin M.kp hall (thn (ha.run pos pins s σ H _ I h) fun us s1 ⟨vs, H1, I1, r, q⟩ => ?_) hpl he
  refine thn (hkw.run pos pins s1 σ H1 _ I1 q) fun ws s2 ⟨zs, H2, I2, rz, l1, l2, q2⟩ => ⟨I2.kIn, ?_⟩
  rw [hks]
  exact run_makeKX M F hr hb (hx σ) I2 r rz l1 l2 q2
end
end L2
namespace Dl
open PySem PySem.Spec PyProof.Rows L2 _root_.Evl
section
variable [Z : Zo] {K : PySem.W.Frag} {A A' A1 A2 : List Addr} {S S' S1 S2 : Store} {H H' H1 H2 : Hp} {ρ : List R} {σ : L2.St} {Φ : R → Store → Prop} {Φ1 : R → Prop} {te ta tb tc to : TE} {tl tk : TA} {t u : TS} {Nx Bk Ct : PR} {Rt : R → Store → Prop} {X : Addr → Prop} {W : WX} {Ψ : Str → List (Str × D) → List R → Store → Prop} {x y : R} {c : Str}
omit Z in
theorem o_orL {r r' : R2} (h : Op2 K r x y S Φ1) : Op2 K (rOr r r') x y S Φ1 := fun A H v w so rx ry Q q => .inl (h A H v w so rx ry Q q)
omit Z in
theorem o_orR {r r' : R2} (h : Op2 K r' x y S Φ1) : Op2 K (rOr r r') x y S Φ1 := fun A H v w so rx ry Q q => .inr (h A H v w so rx ry Q q)
omit Z in
theorem o_eqDS {ks : List (Key × D)} {z : Str} (k : Φ1 (.dat (.bl false))) : Op2 K rEqDS (.dat (.dic ks)) (.dat (.str z)) S Φ1 := fun A H v w so rx ry Q q => by
  obtain rfl := rep_str ry
  cases rx with
  | dic n h l => exact ⟨_, _, _, rfl, rfl, h, q _ _ _ k (Ex.refl _) (.bl false)⟩
omit Z in
theorem o_eqLn {ds es : List D} (hn : ds.length ≠ es.length) (k : Φ1 (.dat (.bl false))) : Op2 K (rEqLn K) (.dat (.lst ds)) (.dat (.lst es)) S Φ1 := fun A H v w so rx ry Q q => by
  obtain ⟨a, xs, rfl, sx, l⟩ := rep_lst rx
  obtain ⟨b, ys, rfl, sy, l'⟩ := rep_lst ry
  exact ⟨a, b, xs, ys, rfl, rfl, sx, sy, by rw [← l.length, ← l'.length]; exact hn, q _ _ _ k (Ex.refl _) (.bl false)⟩
omit Z in
theorem repk_int {ks : List (Key × Int)} {gs : List (Key × V)} (l : RepK K X H (ks.map fun p => (p.1, D.int p.2)) gs) : gs = ks.map fun p => (p.1, V.int p.2) := by
  induction ks generalizing gs with
  | nil => cases l; rfl
  | cons p ks ih => cases l with | cons h t => rw [rep_int h, ih t]; rfl
omit Z in
theorem o_eqDI {ks : List (Key × Int)} (nd : (ks.map (·.1)).Nodup) (k : Φ1 (.dat (.bl true))) : Op2 K (fun x y H Q => ∃ a b kvs, x = .ref a ∧ y = .ref b ∧ H a = some (.dK kvs) ∧ H b = some (.dK kvs) ∧ (kvs.map (·.1)).Nodup ∧ (∀ p ∈ kvs, flatB p.2 = true) ∧ Q (.bl true) H) (.dat (.dic (ks.map fun p => (p.1, D.int p.2)))) (.dat (.dic (ks.map fun p => (p.1, D.int p.2)))) S Φ1 := fun A H v w so rx ry Q q => by
  cases rx with
  | dic n h l =>
    cases ry with
    | dic n' h' l' =>
      rw [repk_int l] at h
      rw [repk_int l'] at h'
      refine ⟨_, _, _, rfl, rfl, h, h', by rw [List.map_map]; exact nd, fun p hp => ?_, q _ _ _ k (Ex.refl _) (.bl true)⟩
      obtain ⟨p', _, rfl⟩ := List.mem_map.mp hp
      rfl
theorem wp_disp1 {i j : Int} (k : Φ (.dat (.dic [(.inl i, .int j)])) S) : Wp K (tDisp [(tC (.int i), tC (.int j))]) ρ S Φ := fun A σ H f Q q p hp => by
  refine ⟨upd_same, [(.inl i, .int j)], rfl, by show 1 ≤ 15; decide, ?_⟩
  have e : upd (upd H p (.dK [])) p (.dK (mergeK [] [((Sum.inl i : Key), V.int j)])) = upd H p (.dK [((Sum.inl i : Key), V.int j)]) := by
    funext a
    unfold upd
    split <;> rfl
  rw [e]
  exact q _ S A _ _ k (.ex (Ex.new hp)) (f.st.ex (Ex.new hp)) (.dic (f.st.new hp) upd_same (.cons (.int j) .nil))
/-! isinstance by rows of classes -/
def clsU (K : PySem.W.Frag) : D → Option Value
  | .glo x => some (.ref (He.ga K x))
  | .ty n => some (.type n)
  | _ => none
def ClsR (K : PySem.W.Frag) : List R → List Value → Prop
  | [], [] => True
  | .dat d :: rs, u :: us => clsU K d = some u ∧ ClsR K rs us
  | _, _ => False
omit Z in
theorem clsR_ok : ∀ {rs : List R} {us : List Value} {vs : List V}, ClsR K rs us → RepRs K A S H rs vs → Paired ClsV vs us
  | [], [], _, _, .nil => .nil
  | .dat d :: rs, u :: us, _, h, .cons r t => by
    refine .cons ?_ (clsR_ok h.2 t)
    have h1 := h.1
    cases r <;> first | (cases h1; done) | (cases h1; exact .own _) | (cases h1; exact .ty _)
def Isk (K : PySem.W.Frag) (r : R) (rs : List R) (Φ : R → Prop) : Prop := ∃ c g gs us b, r = .dat (.exc c (g :: gs)) ∧ XkC K (He.ga K c) ∧ ClsR K rs us ∧ PySem.W.kitAny K (.ref (He.ga K c)) us = some b ∧ rs.length ≤ 100000 ∧ Φ (.dat (.bl b))
theorem wp_iskT (h : Wp K te ρ S fun r S1 => WpA K tl ρ S1 fun rs S2 => Isk K r rs fun z => Φ z S2) : Wp K (tCB (rIskT K) (tCons te (tCons (tTup tl) tNil))) ρ S Φ := fun A σ H f Q q =>
  h A σ H f _ fun r S1 A1 v H1 hw g1 so1 rr => hw A1 σ H1 (f.go g1 so1) _ fun rs S2 A2 vs H2 ⟨c, g, gs, us, b, er, xk, cr, kt, hl, k⟩ g2 so2 rv => by
    subst er
    have pv := clsR_ok cr rv
    refine ⟨by rw [← rv.length]; exact sz_of hl, fun p hp => ?_⟩
    have rr2 := RepR.go (K := K) g2 rr
    have g3 : Gr A2 S2 H2 A2 S2 (upd H2 p (.tup vs)) := .ex (Ex.new hp)
    cases rr2 with
    | exc n m xa l => exact ⟨_, _, _, _, _, _, _, _, rfl, ⟨g3.gw.h _ _ n xa.at_, g3.gw.h _ _ m xa.dict⟩, xk, upd_same, pv, kt, q _ S2 A2 _ _ k ((g1.trans g2).trans g3) (so2.ex (Ex.new hp)) (.bl b)⟩
omit Z in
theorem c_isT {xs : List Str} {fs : List (Str × D)} {n : String} {b : Bool} (h : ClF K c xs) (hk : PySem.W.kitOne K (.ref (He.ga K c)) (.type n) = some b) (k : Φ1 (.dat (.bl b))) : Cb K (rIsi K) [.dat (.ins c fs), .dat (.ty n)] S Φ1 := cb_val (fun A H vs so rx => by
  obtain ⟨v, w, rfl, r1, r2⟩ := reps2 rx
  cases r2
  cases r1 with
  | ins _ hx rf => exact ⟨_, Rep.bl _, fun Q q => ⟨_, _, _, _, b, rfl, .ty n, .base (.ins hx h.cl h.own.is.ha h.own.is.hn h.own.is.htk h.own.is.hm), hk, q⟩⟩) k
/-! texts -/
omit Z in
theorem c_intS {a : Str} {n : Int} (hn : PySem.intText? a = some n) (hl : a.length ≤ 640) (k : Φ1 (.dat (.int n))) : Cb K (fun xs H Q => ∃ a n, xs = [.str a] ∧ PySem.intText? a = some n ∧ a.length ≤ 640 ∧ Q (.int n) H) [.dat (.str a)] S Φ1 := cb_val (fun A H vs so rx => by
  obtain ⟨v, rfl, r⟩ := reps1 rx
  obtain rfl := rep_str r
  exact ⟨_, Rep.int _, fun Q q => ⟨a, n, rfl, hn, hl, q⟩⟩) k
def Prt (x y : R) (Φ : R → Prop) : Prop := ∃ a b : Str, x = .dat (.str a) ∧ y = .dat (.str b) ∧ (b.length == 0) = false ∧ a.length ≤ 100000 ∧ Φ (.dat (.tup [.str (Txt.partition a b).1, .str (Txt.partition a b).2.1, .str (Txt.partition a b).2.2]))
theorem wp_part (h : Wp K to ρ S fun x S1 => Jz x (Wp K te ρ S1 fun y S2 => Prt x y fun z => Φ z S2)) : Wp K (tM1 (fun x xs H Q => ∃ a b, x = .str a ∧ xs = [.str b] ∧ (b.length == 0) = false ∧ a.length ≤ sizeLine ∧
      ∀ p, H p = none → Q (.ref p) (upd H p (.tup [.str (Txt.partition a b).1, .str (Txt.partition a b).2.1, .str (Txt.partition a b).2.2]))) to te) ρ S Φ := fun A σ H f Q q =>
  h A σ H f _ fun x S1 A1 v H1 ⟨z, ex, hw⟩ g1 so1 rx => by
    subst ex
    obtain rfl := rep_str rx
    refine ⟨⟨z, rfl⟩, hw A1 σ H1 (f.go g1 so1) _ fun y S2 A2 w H2 ⟨a, b, e1, e2, hb, hl, k⟩ g2 so2 ry => ?_⟩
    cases e1
    subst e2
    obtain rfl := rep_str ry
    exact ⟨z, b, rfl, rfl, hb, sz_of hl, fun p hp => q _ S2 A2 _ _ k ((g1.trans g2).trans (.ex (Ex.new hp))) (so2.ex (Ex.new hp)) (rep_new (so := so2) hp (.cons (.str _) (.cons (.str _) (.cons (.str _) .nil)))).1⟩
/-! makers by keywords -/
theorem wp_mkKX {n m : Nat} {sd : Sdx} (hz : Rz K W Ψ) (h : WpA K tl ρ S fun rs S1 => WpA K tk ρ S1 fun qs S2 => rs.length = n ∧ qs.length = m ∧ sd (rs ++ qs) S2 (fun d S3 => Φ (.dat d) S3) fun c fs S3 => Ψ c fs ρ S3) :
    Wp K (tMakeKX (He.ga K c) n m (liftI K c sd) (fun vs zs => vs ++ zs) (WE W) tl tk) ρ S Φ := fun A σ H f Q q =>
  h A σ H f _ fun rs S1 A1 vs H1 hw g1 so1 rr => hw A1 σ H1 (f.go g1 so1) _ fun qs S2 A2 zs H2 ⟨l1, l2, hs⟩ g2 so2 rq => by
    refine ⟨by rw [← rr.length]; exact l1, by rw [← rq.length]; exact l2, fun x dx hx hdx ne => ?_⟩
    obtain ⟨so3, g3⟩ := mk_new (c := c) so2 hx hdx ne
    have g12 := g1.trans g2
    refine ⟨A2, S2, _, _, _, x, _, rfl, so3, reps_app (RepRs.go g3 (RepRs.go g2 rr)) (RepRs.go g3 rq), hs, fun fs S' H' p g so => ⟨rfl, ?_⟩, fun y fs S' d H' p g so z => ?_⟩
    · obtain ⟨so4, g4, r4⟩ := mk_end so
      exact q _ S' A2 _ H' p ⟨g12.pre, g12.gw.trans (g3.gw.trans (g.trans g4))⟩ so4 r4
    · exact hz A2 S' H' ρ σ y fs d (f.go ⟨g12.pre, g12.gw.trans (g3.gw.trans g)⟩ so) p z
end
end Dl
namespace L2
open PySem PySem.Spec PyProof.Rows _root_.Evl
theorem takes_no {X : Cx} : Takes X (fun _ _ _ _ => False) := fun _ _ ⟨_, _, _, _, _, _, _, _, _, _, _, _, _, _, _, _, w⟩ => w.elim
theorem pe_asK {X : Cx} {e : Expr} {t t' : TE} (h : PE X e t) (ht : t = t') : PE X e t' := ht ▸ h
/-- C(e, .., k = v): by one keyword -/
theorem pe_mkK1x {X : Cx} {CX : CXT} {k n : Nat} {c x : Str} {ps : List Str} {sp : Sp} {E : St → XK} {p pos kpos : Pos} {e e2 : Expr} {es : List Expr} {t : TA} {t2 : TE} {gV : List V → List V → List V} (K : PySem.W.Frag) (hK : X.K = K) (nm : Str)
    (M : Mk X.K (He.ga X.K c) (He.ma X.K (He.ga X.K c) "__init__")) (D : DmK X.prog X.w X.K X.mg X.base CX k c "__init__" ps (n + 1) [nm] gV sp) (hr : Room (k + 1) X.A) (hg : Gl X x) (hm : X.mg x = some (.ref (He.ga X.K c))) (hx : ∀ σ, PassesAt CX X σ (E σ))
    (ha : PA X (e :: es) t) (h2 : PE X e2 t2) (hdb : (x == ("__debug__" : Str)) = false := by decide) (he : starEach (e :: es) X.env = (false, eval e X.env) :: starEach es X.env := by rfl) (hpl : (backTo pos (starEach (e :: es) X.env)).any (·.1) = false := by rfl) :
    PE X (.Call (.Name x p) (e :: es) [⟨some nm, e2, kpos⟩] pos) (tMakeKX (He.ga K c) n 1 sp gV E t (tCons t2 tNil)) := by
  subst hK
  exact pe_mkKx (ks := [nm]) M D hr hg hm hx ha (pk_cons h2 pk_nil) rfl rfl hdb he (by rw [hpl]; rfl)
end L2
/-! Assertions between statements, isinstance of what was caught by rows of classes. -/
namespace Dl
open PySem PySem.Spec PyProof.Rows L2 _root_.Evl
section
variable [Z : Zo] {K : PySem.W.Frag} {S : Store} {ρ : List R} {t : TS} {Nx Bk Ct : PR} {Rt : R → Store → Prop}
theorem ws_nx {I : PR} (h : WpS K t ρ S I Rt Bk Ct) (k : ∀ ρ' S', I ρ' S' → Nx ρ' S') : WpS K t ρ S Nx Rt Bk Ct := fun A σ H f D e => h A σ H f D ⟨fun ρ' S' A' σ' H' p g f' => e.nx ρ' S' A' σ' H' (k _ _ p) g f', e.rt, e.bk, e.ct⟩
/-- all that is raised is caught, and kept -/
theorem ws_tryA {tb : WX → TS} {cn : Str} {i j : Nat} {Wo : WX} {Ψ' : Str → List (Str × D) → List R → Store → Prop} (hij : i ≠ j) (h : ∀ (W : WX) [Z' : Zo], Rz K W Ψ' → WpS K (tb W) ρ S Nx Rt Bk Ct)
    (hc : ∀ c fs ρ' S', Ψ' c fs ρ' S' → i < ρ'.length ∧ PySem.W.exmOne K (.ref (He.ga K c)) (.ref (He.ga K cn)) = some true ∧ Nx ((ρ'.set j (.dat (.exc c fs))).set i .no) S') :
    WpS K (tTryH K (.ref (He.ga K cn)) i (fun _ _ _ => tAsg (tVar i) (gName j)) Wo tb) ρ S Nx Rt Bk Ct :=
  ws_tryH (Ψ := fun _ _ _ _ => False) (fun _ _ _ _ _ _ _ _ _ p => p.elim) hij h fun c fs ρ' S' p => ⟨(hc c fs ρ' S' p).1, true, (hc c fs ρ' S' p).2.1, fun _ => (hc c fs ρ' S' p).2.2, nofun⟩
end
section
variable {K : PySem.W.Frag}
theorem kit_off {c : Str} {ks : List (Str × Bool)} (h : kitsB K c ks = true) : ∀ {xs : List Str}, (xs.all fun y => decide ((y, false) ∈ ks)) = true → PySem.W.kitAny K (.ref (He.ga K c)) (xs.map fun y => .ref (He.ga K y)) = some false
  | [], _ => kitAny_nil
  | y :: xs, hm => by
    rw [List.all_cons, Bool.and_eq_true] at hm
    exact kitAny_cons (kitsB_ok h (of_decide_eq_true hm.1)) (fun _ => kit_off h hm.2) nofun
theorem clsR_glo : ∀ xs : List Str, ClsR K (xs.map fun y => .dat (.glo y)) (xs.map fun y => .ref (He.ga K y))
  | [] => trivial
  | _ :: xs => ⟨rfl, clsR_glo xs⟩
theorem isk_off {c : Str} {ks : List (Str × Bool)} {g : Str × D} {gs : List (Str × D)} {Φ : R → Prop} (xs : List Str) (hx : XkC K (He.ga K c)) (h : kitsB K c ks = true) (hm : (xs.all fun y => decide ((y, false) ∈ ks)) = true) (hl : xs.length ≤ 1000) (k : Φ (.dat (.bl false))) :
    Isk K (.dat (.exc c (g :: gs))) (xs.map fun y => .dat (.glo y)) Φ := ⟨c, g, gs, _, false, rfl, hx, clsR_glo xs, kit_off h hm, by rw [List.length_map]; omega, k⟩
end
end Dl
/-! Defs called by keywords; count and index of truths; isinstance by rows of classes, of any data; zip; exceptions without fields. -/
namespace L2
open PySem PySem.Spec PyProof.Rows _root_.Evl
/-- the arguments in the parameters' order: those by place, then for each further one a keyword's or a default -/
def gK {α : Type} (pk : List (Nat ⊕ Nat)) (xs ds zs : List α) : List α := xs ++ (pk.map fun c => match c with | .inl j => (zs.drop j).take 1 | .inr i => (ds.drop i).take 1).flatten
theorem vals_pick {xs : List V} {us : List Value} (h : Vals xs us) (i : Nat) : Vals ((xs.drop i).take 1) ((us.drop i).take 1) := by
  induction h generalizing i with
  | nil => simp; exact .nil
  | cons r t ih =>
    cases i with
    | zero => exact .cons r (by simp; exact .nil)
    | succ i => exact ih i
theorem vals_gK (pk : List (Nat ⊕ Nat)) {vs ds zs : List V} {us its ws : List Value} (h1 : Vals vs us) (h2 : Vals ds its) (h3 : Vals zs ws) : Vals (gK pk vs ds zs) (gK pk us its ws) := by
  refine h1.append ?_
  induction pk with
  | nil => exact .nil
  | cons c pk ih =>
    rw [List.map_cons, List.map_cons, List.flatten_cons, List.flatten_cons]
    refine Vals.append ?_ ih
    cases c with
    | inl j => exact vals_pick h3 j
    | inr i => exact vals_pick h2 i
structure DfK (P : Program) (w : World) (K : PySem.W.Frag) (mg : Str → Option Value) (base : Heap) (CX : CXT) (k : Nat) (x : Str) (ps : List Str) (n : Nat) (ks : List Str) (pk : List (Nat ⊕ Nat)) (dvs : List V) (sp : Sp) : Prop where
  ex : ∃ (f : Addr) (fd : FuncData) (its : List Value), FnOk P w K mg base CX k f fd ps sp ∧ mg x = some (.ref f) ∧ PySem.W.keepIn K (.ref f) = true ∧ KBn K fd ps n ks (fun us ws => gK pk us its ws) (fun vs zs => gK pk vs dvs zs)
def tCallKX (n m : Nat) (sp : Sp) (pk : List (Nat ⊕ Nat)) (dvs : List V) (E : St → XK) (t tk : TA) : TE := fun σ H Q => t σ H fun vs H1 => tk σ H1 fun zs H2 => vs.length = n ∧ zs.length = m ∧ sp (gK pk vs dvs zs) H2 Q (E σ)
section
variable {X : Cx} {CX : CXT} {k n : Nat} {x : Str} {ps ks : List Str} {sp : Sp} {E : St → XK} {p pos : Pos} {e : Expr} {es : List Expr} {kws : List Keyword} {t tk : TA} {pk : List (Nat ⊕ Nat)} {dvs : List V}
theorem pe_dkx (D : DfK X.prog X.w X.K X.mg X.base CX k x ps n ks pk dvs sp) (hr : Room k X.A) (hg : Gl X x) (hx : ∀ σ, PassesAt CX X σ (E σ)) (ha : PA X (e :: es) t) (hkw : PK X kws tk)
    (hall : (backToKw pos (keywordEach kws X.env)).all (·.1.isSome) = true) (hks : (backToKw pos (keywordEach kws X.env)).filterMap (·.1) = ks) (hdb : (x == ("__debug__" : Str)) = false)
    (he : starEach (e :: es) X.env = (false, eval e X.env) :: starEach es X.env) (hpl : ((backTo pos (starEach (e :: es) X.env)).any (·.1) || (backToKw pos (keywordEach kws X.env)).any (·.1.isNone)) = false) :
    PE X (.Call (.Name x p) (e :: es) kws pos) (tCallKX n ks.length sp pk dvs E t tk) := by
  obtain ⟨f, fd, its, F, hm, hk, hb⟩ := D.ex
  refine ⟨fun pins s σ H Q I h => ?_⟩
  refine wpAny_Call_Name_kw (ld_glob I hg hm ?_ hdb)
  refine PySem.W.callWith_KW (h₀ := X.base) I.ok.mod.kin hk hall (thn (ha.run pos pins s σ H _ I h) fun us s1 ⟨vs, H1, I1, r, q⟩ => ?_) hpl he
  refine thn (hkw.run pos pins s1 σ H1 _ I1 q) fun ws s2 ⟨zs, H2, I2, rz, l1, l2, q2⟩ => ⟨I2.kIn, ?_⟩
  rw [hks]
  have r2 := hb.rel r rz
  refine wpAny_call (codeAny_mono (F.run X.A X.stack s2 H2 ⟨us, ks.zip ws⟩ _ _ Q (E σ) hr I2.env0 (hb.to s2 us ws I2.kIn (by rw [← r.length]; exact l1) (by rw [← rz.length]; exact l2)) r2 q2) fun r s' hq => ?_)
  cases r with
  | error e => exact hx σ pins H2 s2 e s' I2 hq
  | ok fl =>
    cases fl with
    | ret u => exact I2.after hq
    | next => exact False.elim hq
    | brk => exact False.elim hq
    | cont => exact False.elim hq
theorem pe_dk1 {kp1 : Pos} {e1 : Expr} {t1 : TE} (nm1 : Str) (D : DfK X.prog X.w X.K X.mg X.base CX k x ps n [nm1] pk dvs sp) (hr : Room k X.A) (hg : Gl X x) (hx : ∀ σ, PassesAt CX X σ (E σ)) (ha : PA X (e :: es) t) (h1 : PE X e1 t1)
    (hdb : (x == ("__debug__" : Str)) = false := by decide) (he : starEach (e :: es) X.env = (false, eval e X.env) :: starEach es X.env := by rfl) (hpl : (backTo pos (starEach (e :: es) X.env)).any (·.1) = false := by rfl) :
    PE X (.Call (.Name x p) (e :: es) [⟨some nm1, e1, kp1⟩] pos) (tCallKX n 1 sp pk dvs E t (tCons t1 tNil)) :=
  pe_dkx D hr hg hx ha (pk_cons h1 pk_nil) rfl rfl hdb he (by rw [hpl]; rfl)
theorem pe_dk2 {kp1 kp2 : Pos} {e1 e2 : Expr} {t1 t2 : TE} (nm1 nm2 : Str) (D : DfK X.prog X.w X.K X.mg X.base CX k x ps n [nm1, nm2] pk dvs sp) (hr : Room k X.A) (hg : Gl X x) (hx : ∀ σ, PassesAt CX X σ (E σ)) (ha : PA X (e :: es) t) (h1 : PE X e1 t1) (h2 : PE X e2 t2)
    (hdb : (x == ("__debug__" : Str)) = false := by decide) (he : starEach (e :: es) X.env = (false, eval e X.env) :: starEach es X.env := by rfl) (hpl : (backTo pos (starEach (e :: es) X.env)).any (·.1) = false := by rfl) :
    PE X (.Call (.Name x p) (e :: es) [⟨some nm1, e1, kp1⟩, ⟨some nm2, e2, kp2⟩] pos) (tCallKX n 2 sp pk dvs E t (tCons t1 (tCons t2 tNil))) :=
  pe_dkx D hr hg hx ha (pk_cons h1 (pk_cons h2 pk_nil)) rfl rfl hdb he (by rw [hpl]; rfl)
theorem pass00' : ∀ σ, PassesAt CX0 X σ E0 := fun σ pins H s e s' I h => pass0 pins σ H s e s' I h
end
/-- an exception, with fields or none -/
def ExcX (H : Hp) (a C : Addr) : Prop := (∃ d fs, ExcAt H a C d fs) ∨ H a = some (exk a (.ref C) none)
section
variable {X : Cx} {pins : List (Addr × Obj)} {σ : St} {H : Hp} {s : Shared} {a C : Addr}
theorem xx_kit (I : Inv X pins σ H s) (x : ExcX H a C) (T : XkC X.K C) : ∃ P : Heap → Prop, PySem.W.KitX X.K (.ref a) (.ref C) P ∧ P s.heap := by
  rcases x with ⟨d, fs, x⟩ | x
  · exact xk_kit I x T
  · obtain ⟨oe, vs, e1, z, e2⟩ := exk_at I.hok x
    obtain ⟨cd, hcd, _⟩ := PySem.W.any_some T.hd
    have J : PySem.W.InstAt s.heap a oe C none := ⟨e1, z.1, by unfold PySem.W.notCls; rw [e2] <;> rfl, by rw [z.2]; trivial⟩
    exact ⟨_, PySem.W.kitx_exc (by rw [hcd]; rfl) T.ga T.gg T.sub T.is.ha T.is.hn T.is.htk T.is.hm, J⟩
def rIsx (K : PySem.W.Frag) : List V → Hp → VK → Prop := fun xs H Q => ∃ (a C : Addr) (c : V) (u : Value) (b : Bool), xs = [.ref a, c] ∧ ExcX H a C ∧ XkC K C ∧ ClsV c u ∧ PySem.W.kitOne K (.ref C) u = some b ∧ Q (.bl b) H
theorem call_isx : CallR X (.builtin "isinstance") (rIsx X.K) := by
  intro pins s σ H xs us Q I r h
  obtain ⟨a, C, c, u, b, rfl, xa, T, k, e, q⟩ := h
  obtain ⟨u1, u2, rfl, r1, r2⟩ := vals2 r
  obtain rfl : u1 = Value.ref a := r1
  have e2 := k.eq r2
  subst e2
  obtain ⟨P, Z, p⟩ := xx_kit I xa T
  exact PySem.W.kia_one Z I.kIn p e (fun z => nomatch z) fun tk => ⟨.bl b, H, I.tok tk, rfl, q⟩
end
end L2
namespace Dl
open PySem PySem.Spec PyProof.Rows L2 _root_.Evl
section
variable {P : Program} {w : World} {K : PySem.W.Frag} {mg : Str → Option Value} {base : Heap} {k n : Nat} {x : Str} {ps ks : List Str} {pk : List (Nat ⊕ Nat)} {dvs : List V} {sd : Sdx}
theorem _root_.L2.DfK.calm (D : L2.DfK P w K mg base (L2.CX P w) k x ps n ks pk dvs (liftX K sd)) : L2.DfK P w K mg base CX0 k x ps n ks pk dvs (lift K (calm sd)) := by
  obtain ⟨f, fd, its, F, m, kp, b⟩ := D.ex
  exact ⟨f, fd, its, FnOk.calm F fun _ _ _ _ h => lift_calm h, m, kp, b⟩
end
section
variable [Z : Zo] {K : PySem.W.Frag} {A A' A1 A2 : List Addr} {S S' S1 S2 : Store} {H H' H1 H2 : Hp} {ρ : List R} {σ : L2.St} {Φ : R → Store → Prop} {Φ1 : R → Prop} {te ta tb tc to : TE} {tl tk : TA} {X : Addr → Prop} {W : WX} {Ψ : Str → List (Str × D) → List R → Store → Prop} {c : Str}
omit Z in
theorem reps_pick {rs : List R} {vs : List V} (h : RepRs K A S H rs vs) (i : Nat) : RepRs K A S H ((rs.drop i).take 1) ((vs.drop i).take 1) := by
  induction h generalizing i with
  | nil => simp; exact .nil
  | cons r t ih =>
    cases i with
    | zero => exact .cons r (by simp; exact .nil)
    | succ i => exact ih i
omit Z in
theorem reps_gK (pk : List (Nat ⊕ Nat)) {rs ds zs : List R} {us its ws : List V} (h1 : RepRs K A S H rs us) (h2 : RepRs K A S H ds its) (h3 : RepRs K A S H zs ws) : RepRs K A S H (gK pk rs ds zs) (gK pk us its ws) := by
  refine reps_app h1 ?_
  induction pk with
  | nil => exact .nil
  | cons c pk ih =>
    rw [List.map_cons, List.map_cons, List.flatten_cons, List.flatten_cons]
    refine reps_app ?_ ih
    cases c with
    | inl j => exact reps_pick h3 j
    | inr i => exact reps_pick h2 i
theorem wp_callKX {n m : Nat} {sd : Sdx} {pk : List (Nat ⊕ Nat)} {dvs : List V} {dv : List D} (hz : Rz K W Ψ) (hd : RepC dv dvs) (h : WpA K tl ρ S fun rs S1 => WpA K tk ρ S1 fun qs S2 => rs.length = n ∧ qs.length = m ∧ sd (gK pk rs (dv.map .dat) qs) S2 (fun d S3 => Φ (.dat d) S3) fun c fs S3 => Ψ c fs ρ S3) :
    Wp K (tCallKX n m (liftX K sd) pk dvs (WE W) tl tk) ρ S Φ := fun A σ H f Q q =>
  h A σ H f _ fun rs S1 A1 vs H1 hw g1 so1 rr => hw A1 σ H1 (f.go g1 so1) _ fun qs S2 A2 zs H2 ⟨l1, l2, hs⟩ g2 so2 rq => by
    refine ⟨by rw [← rr.length]; exact l1, by rw [← rq.length]; exact l2, ?_⟩
    have g12 := g1.trans g2
    exact ⟨A2, S2, _, _, _, so2, reps_gK pk (RepRs.go g2 rr) (hd K A2 S2 H2) rq, hs, fun d S' v H' p g so r => q _ S' A2 v H' p ⟨g12.pre, g12.gw.trans g⟩ so r, fun y fs S' d H' p g so z => hz A2 S' H' ρ σ y fs d (f.go ⟨g12.pre, g12.gw.trans g⟩ so) p z⟩
theorem wp_callK {n m : Nat} {sd : Sd} {pk : List (Nat ⊕ Nat)} {dvs : List V} {dv : List D} (hd : RepC dv dvs) (h : WpA K tl ρ S fun rs S1 => WpA K tk ρ S1 fun qs S2 => rs.length = n ∧ qs.length = m ∧ sd (gK pk rs (dv.map .dat) qs) S2 (fun d S3 => Φ (.dat d) S3)) :
    Wp K (tCallKX n m (lift K sd) pk dvs (fun _ => E0) tl tk) ρ S Φ := fun A σ H f Q q =>
  h A σ H f _ fun rs S1 A1 vs H1 hw g1 so1 rr => hw A1 σ H1 (f.go g1 so1) _ fun qs S2 A2 zs H2 ⟨l1, l2, hs⟩ g2 so2 rq => by
    refine ⟨by rw [← rr.length]; exact l1, by rw [← rq.length]; exact l2, ?_⟩
    have g12 := g1.trans g2
    exact ⟨A2, S2, _, _, so2, reps_gK pk (RepRs.go g2 rr) (hd K A2 S2 H2) rq, hs, fun d S' v H' p g so r => q _ S' A2 v H' p ⟨g12.pre, g12.gw.trans g⟩ so r⟩
/-! truths counted and found -/
def Cnt (o : R) (S : Store) (Φ : List Bool → Prop) : Prop := ∃ bs : List Bool, LsR S o (bs.map .bl) ∧ Φ bs
theorem wp_cntB (h : Wp K ta ρ S fun o S1 => Cnt o S1 fun bs => Φ (.dat (.int (bs.count true : Nat))) S1) : Wp K (tBM K "list" (rCntB K) ta (tCons (tC (.bl true)) tNil)) ρ S Φ := fun A σ H f Q q =>
  h A σ H f _ fun o S1 A1 v H1 ⟨bs, hl, k⟩ g1 so1 ro => by
    obtain ⟨a, xs, rfl, hx, l⟩ := hl.rep so1 ro
    rw [repl_bl l] at hx
    exact ⟨Or.inl ⟨rfl, _, sq_of hx⟩, a, bs, true, rfl, rfl, sq_of hx, q _ S1 A1 _ H1 k g1 so1 (.int _)⟩
omit Z in
theorem flat_bls (bs : List Bool) : (bs.map V.bl).all flatV = true := by
  rw [List.all_map]
  exact List.all_eq_true.mpr fun b _ => rfl
def Idx (o : R) (S : Store) (Φ : Nat → Prop) : Prop := ∃ (bs : List Bool) (j : Nat), LsR S o (bs.map .bl) ∧ bs[j]? = some true ∧ (∀ m, m < j → bs[m]? = some false) ∧ Φ j
theorem wp_idxB (h : Wp K ta ρ S fun o S1 => Idx o S1 fun j => Φ (.dat (.int (j : Nat))) S1) : Wp K (tBM K "list" (rIndex K) ta (tCons (tC (.bl true)) tNil)) ρ S Φ := fun A σ H f Q q =>
  h A σ H f _ fun o S1 A1 v H1 ⟨bs, j, hl, hj, hm, k⟩ g1 so1 ro => by
    obtain ⟨a, xs, rfl, hx, l⟩ := hl.rep so1 ro
    rw [repl_bl l] at hx
    refine ⟨Or.inl ⟨rfl, _, sq_of hx⟩, a, _, .bl true, j, .bl true, rfl, rfl, sq_of hx, rfl, flat_bls bs, by rw [List.getElem?_map, hj]; rfl, rfl, fun m z' lm e => ?_, q _ S1 A1 _ H1 k g1 so1 (.int _)⟩
    rw [List.getElem?_map, hm m lm] at e
    cases e
    rfl
/-! isinstance by a row of classes, of data -/
def IsiT (K : PySem.W.Frag) (r : R) (rs : List R) (Φ : R → Prop) : Prop := ∃ d t us b, r = .dat d ∧ d.ty? = some t ∧ ClsR K rs us ∧ PySem.W.kitAny K (.type t) us = some b ∧ rs.length ≤ 100000 ∧ Φ (.dat (.bl b))
theorem wp_isiT (h : Wp K te ρ S fun r S1 => WpA K tl ρ S1 fun rs S2 => IsiT K r rs fun z => Φ z S2) : Wp K (tCB (rIsiT K) (tCons te (tCons (tTup tl) tNil))) ρ S Φ := fun A σ H f Q q =>
  h A σ H f _ fun r S1 A1 v H1 hw g1 so1 rr => hw A1 σ H1 (f.go g1 so1) _ fun rs S2 A2 vs H2 ⟨d, t, us, b, er, ty, cr, kt, hl, k⟩ g2 so2 rv => by
    subst er
    have pv := clsR_ok cr rv
    refine ⟨by rw [← rv.length]; exact sz_of hl, fun p hp => ?_⟩
    have g3 : Gr A2 S2 H2 A2 S2 (upd H2 p (.tup vs)) := .ex (Ex.new hp)
    have rr3 := RepR.go (K := K) g3 (RepR.go (K := K) g2 rr)
    exact ⟨_, _, _, _, _, _, rfl, upd_same, pv, rep_ty rr3 ty, kt, q _ S2 A2 _ _ k ((g1.trans g2).trans g3) (so2.ex (Ex.new hp)) (.bl b)⟩
omit Z in
theorem kitT {t n : String} {b : Bool} (h : kitB t n = some b) : PySem.W.kitOne K (.type t) (.type n) = some b := kit_ty h
/-! zip -/
def zipD (xs ys : List D) : List D := (xs.zip ys).map fun p => .tup [p.1, p.2]
omit Z in
theorem it_zip {J : It} {a b : Addr} {xs ys : List D} {Sq : PySem.W.Frag → Hp → Addr → List V → Prop}
    (hJ : J = ⟨fun i H => ∃ (xs ys : List V) (x y : V), Sq K H a xs ∧ Sq K H b ys ∧ xs[i]? = some x ∧ ys[i]? = some y, fun i H v H' => ∃ T x y, v = .ref T ∧ H T = none ∧ H' = upd H T (.tup [x, y]) ∧ (∀ xs, Sq K H a xs → xs[i]? = some x) ∧ ∀ ys, Sq K H b ys → ys[i]? = some y, fun i H => ∃ xs ys : List V, Sq K H a xs ∧ Sq K H b ys ∧ (xs.length ≤ i ∨ ys.length ≤ i)⟩)
    (h1 : ∀ X' H', Gw X H X' H' → ∃ vs, Sq K H' a vs ∧ RepL K X' H' xs vs) (h2 : ∀ X' H', Gw X H X' H' → ∃ vs, Sq K H' b vs ∧ RepL K X' H' ys vs) : ItOk K X H J (zipD xs ys) := fun X' H' g dom => by
  subst hJ
  obtain ⟨vs, s1, l1⟩ := h1 X' H' g
  obtain ⟨us, s2, l2⟩ := h2 X' H' g
  refine ⟨fun i d hd => ?_, ⟨vs, us, s1, s2, ?_⟩⟩
  · unfold zipD at hd
    rw [List.getElem?_map] at hd
    cases e : (xs.zip ys)[i]? with
    | none => rw [e] at hd; cases hd
    | some p =>
      rw [e] at hd
      cases hd
      obtain ⟨e1, e2⟩ := List.getElem?_zip_eq_some.mp e
      obtain ⟨x, hx, rx⟩ := l1.get e1
      obtain ⟨y, hy, ry⟩ := l2.get e2
      refine ⟨⟨vs, us, x, y, s1, s2, hx, hy⟩, fun v H'' z => ?_⟩
      obtain ⟨T, x', y', rfl, hT, rfl, z1, z2⟩ := z
      have q1 := z1 vs s1
      have q2 := z2 us s2
      rw [hx] at q1
      rw [hy] at q2
      cases q1
      cases q2
      have nT : ¬ X' T := fun z => dom T z hT
      have gx : Gw X' H' X' (upd H' T (.tup [x, y])) := .ex (Ex.new hT)
      exact ⟨Ex.new hT, .tup nT (.inl upd_same) (.cons (Rep.go gx rx) (.cons (Rep.go gx ry) .nil))⟩
  · unfold zipD
    rw [List.length_map, List.length_zip, ← l1.length, ← l2.length]
    omega
def Zp (rs : List R) (Φ : List D → Prop) : Prop := ∃ xs ys, (rs = [.dat (.lst xs), .dat (.lst ys)] ∨ ∃ r1 r2, rs = [r1, r2] ∧ TpR r1 xs ∧ TpR r2 ys) ∧ Φ (zipD xs ys)
theorem wi_zip {Φ : List D → Store → Prop} (h : WpA K tl ρ S fun rs S1 => Zp rs fun ds => Φ ds S1) : WpI K (RZ.iZipA K tl) ρ S Φ := fun A σ H f Q q =>
  h A σ H f _ fun rs S1 A1 vs H1 ⟨xs, ys, hr, k⟩ g1 so1 rr => by
    rcases hr with rfl | ⟨r1, r2, rfl, t1, t2⟩
    · obtain ⟨v, w, rfl, r1, r2⟩ := reps2 rr
      obtain ⟨a, us, rfl, s1, l1⟩ := rep_lst r1
      obtain ⟨b, ws, rfl, s2, l2⟩ := rep_lst r2
      refine ⟨a, b, us, ws, rfl, .inl ⟨s1, s2, q _ S1 A1 _ H1 k g1 so1 (it_zip (Sq := SqL) rfl (fun X' H' g => ?_) (fun X' H' g => ?_))⟩⟩
      · obtain ⟨a', us', e, s', l'⟩ := rep_lst (Rep.go g r1)
        cases e
        exact ⟨us', s', l'⟩
      · obtain ⟨a', us', e, s', l'⟩ := rep_lst (Rep.go g r2)
        cases e
        exact ⟨us', s', l'⟩
    · obtain ⟨v, w, rfl, q1, q2⟩ := reps2 rr
      have p1 := t1.plain q1
      have p2 := t2.plain q2
      obtain ⟨a, us, rfl, s1, l1⟩ := rep_tup p1
      obtain ⟨b, ws, rfl, s2, l2⟩ := rep_tup p2
      refine ⟨a, b, us, ws, rfl, .inr ⟨s1, s2, q _ S1 A1 _ H1 k g1 so1 (it_zip (Sq := SqT) rfl (fun X' H' g => ?_) (fun X' H' g => ?_))⟩⟩
      · obtain ⟨a', us', e, s', l'⟩ := rep_tup (Rep.go g p1)
        cases e
        exact ⟨us', s', l'⟩
      · obtain ⟨a', us', e, s', l'⟩ := rep_tup (Rep.go g p2)
        cases e
        exact ⟨us', s', l'⟩
/-! what was caught, with fields or none -/
omit Z in
theorem rep_excx {c : Str} {fs : List (Str × D)} {v : V} (h : Rep K X H (.exc c fs) v) : ∃ a, v = .ref a ∧ ExcX H a (He.ga K c) := by
  cases h with
  | exc n m x l => exact ⟨_, rfl, .inl ⟨_, _, x⟩⟩
  | exc0 n x => exact ⟨_, rfl, .inr x⟩
omit Z in
theorem c_isx {fs : List (Str × D)} {b : Bool} {cn : Str} (hx : XkC K (He.ga K c)) (hk : PySem.W.kitOne K (.ref (He.ga K c)) (.ref (He.ga K cn)) = some b) (k : Φ1 (.dat (.bl b))) : Cb K (rIsx K) [.dat (.exc c fs), .dat (.glo cn)] S Φ1 := cb_val (fun A H vs so rx => by
  obtain ⟨v, w, rfl, r1, r2⟩ := reps2 rx
  cases r2
  obtain ⟨a, rfl, xx⟩ := rep_excx r1
  exact ⟨_, Rep.bl _, fun Q q => ⟨_, _, _, _, b, rfl, xx, hx, .own _, hk, q⟩⟩) k
omit Z in
theorem c_isxT {fs : List (Str × D)} {b : Bool} {n : String} (hx : XkC K (He.ga K c)) (hk : PySem.W.kitOne K (.ref (He.ga K c)) (.type n) = some b) (k : Φ1 (.dat (.bl b))) : Cb K (rIsx K) [.dat (.exc c fs), .dat (.ty n)] S Φ1 := cb_val (fun A H vs so rx => by
  obtain ⟨v, w, rfl, r1, r2⟩ := reps2 rx
  cases r2
  obtain ⟨a, rfl, xx⟩ := rep_excx r1
  exact ⟨_, Rep.bl _, fun Q q => ⟨_, _, _, _, b, rfl, xx, hx, .ty n, hk, q⟩⟩) k
end
end Dl
/-! Tuples put together that are known; bool of truths. -/
namespace L2
open PySem PySem.Spec PyProof.Rows _root_.Evl
section
variable {X : Cx}
def rCatF (K : PySem.W.Frag) : R2 := fun x y H Q => ∃ a b xs ys, x = .ref a ∧ y = .ref b ∧ SqT K H a xs ∧ SqT K H b ys ∧ xs ≠ [] ∧ ys ≠ [] ∧ xs.length + ys.length ≤ sizeLine ∧ ∀ l H2, H l = none → Ex H H2 → FzT H2 l (xs ++ ys) → Q (.ref l) H2
theorem op_catF : OpR X (binaryOp .Add) (rCatF X.K) := by
  intro pins s σ H x y v u Q I rx ry h
  obtain ⟨a, b, xs, ys, rfl, rfl, ha, hb, hx, hy, hz, q2⟩ := h
  cases rx
  cases ry
  obtain ⟨its, r1, p1, _⟩ := I.tuple ha
  obtain ⟨its2, r2, p2, _⟩ := I.tuple hb
  refine HT.cat_tup p1 p2 (fun z => hx (r1.nil_iff.mp z)) (fun z => absurd (r2.nil_iff.mp z) hy) (fun z => ?_) (by rw [← r1.length, ← r2.length]; exact hz)
  have hn := I.hok.fresh (Nat.le_refl s.heap.objs.size)
  refine ⟨.ref s.heap.objs.size, _, I.laid (t' := s.toks) (o := .frz { cls := .type "tuple", data := .seq (its ++ its2).toArray } (.tup (xs ++ ys))) (fun b ob q => Heap.get?_push_of_some _ q) (Nat.le_refl _) ?_, rfl, q2 _ _ hn (Ex.new hn) ⟨_, upd_same, rfl, rfl⟩⟩
  exact ⟨Heap.get?_push_size _ rfl, by rw [List.length_append]; exact hz, _, r1.append r2, IsTup.new _ _⟩
end
end L2
namespace Dl
open PySem PySem.Spec PyProof.Rows L2 _root_.Evl
section
variable {K : PySem.W.Frag} {S : Store} {Φ1 : R → Prop}
theorem o_catF {r1 r2 : R} {ds es : List D} (h1 : TpR r1 ds) (h2 : TpR r2 es) (n1 : ds ≠ []) (n2 : es ≠ []) (hl : ds.length + es.length ≤ 100000) (k : Φ1 (.dat (.ftup (ds ++ es)))) : Op2 K (rCatF K) r1 r2 S Φ1 := fun A H v w so rx ry Q q => by
  obtain ⟨a, xs, rfl, sx, l⟩ := h1.rep rx
  obtain ⟨b, ys, rfl, sy, l'⟩ := h2.rep ry
  refine ⟨a, b, xs, ys, rfl, rfl, sx, sy, fun e => ?_, fun e => ?_, by rw [← l.length, ← l'.length]; exact sz_of hl, fun p H2 hp e2 fz => q _ _ _ k e2 (.ftup (so.new hp) fz ((l.append l').go (.ex e2)))⟩
  · subst e
    cases l
    exact n1 rfl
  · subst e
    cases l'
    exact n2 rfl
theorem c_boolB {b : Bool} (k : Φ1 (.dat (.bl b))) : Cb K (fun xs H Q => (∃ i, xs = [.int i] ∧ Q (.bl (i != 0)) H) ∨ ∃ k, xs = [.bl k] ∧ Q (.bl k) H) [.dat (.bl b)] S Φ1 := cb_val (fun A H vs so rx => by
  obtain ⟨v, rfl, r⟩ := reps1 rx
  obtain rfl := rep_bl r
  exact ⟨_, Rep.bl _, fun Q q => .inr ⟨b, rfl, q⟩⟩) k
end
end Dl
/-! New lists by comprehension that may change; zip of a list that may change; clear. -/
namespace Dl
open PySem PySem.Spec PyProof.Rows L2 _root_.Evl
section
variable [Z : Zo] {K : PySem.W.Frag} {A A' A1 A2 : List Addr} {S S' S1 S2 : Store} {H H' H1 H2 : Hp} {ρ : List R} {σ : L2.St} {Nx Bk Ct : PR} {Rt : R → Store → Prop} {Φ : R → Store → Prop} {te ta : TE} {tt : TT} {tl : TA} {wi : TI} {g : TG}
theorem lc_run {vs : List Nat} {ds : List D} {J : It} {I : Nat → List D → Store → Prop} {Q : VK} (f : Fr K A S H ρ σ) (g1 : Gr A S H A1 S1 H1) (so1 : SOk K A1 S1 H1) (i0 : I 0 [] S1) (lc : Lc K g tt te vs ρ ds S1.length I)
    (hh : ∀ p, H1 p = none → ∀ acc S' H', S'.length = S1.length → Gr A1 S1 H1 (A1 ++ [p]) (S' ++ [.ls acc]) H' → SOk K (A1 ++ [p]) (S' ++ [.ls acc]) H' → (∀ i, I i acc S' → ∀ d, ds[i]? = some d → J.go i H' ∧ ∀ x H'', J.yld i H' x H'' → Ex H' H'' ∧ Rep K (Lv (A1 ++ [p]) (S' ++ [.ls acc])) H'' d x) ∧ (I ds.length acc S' → J.stop ds.length H' ∧ Q (.ref p) H')) : tLc (fun _ _ k => k J H1) g tt te vs σ H Q := fun p hp => by
  obtain ⟨sop, gp⟩ := so1.add (m := .ls []) (o := .lst []) hp fun X g => ⟨[], upd_same, .nil⟩
  have la := so1.len
  refine ⟨fun i m H' => m = ds.length - i ∧ i ≤ ds.length ∧ ∃ acc S', I i acc S' ∧ S'.length = S1.length ∧ Gr (A1 ++ [p]) (S1 ++ [.ls []]) (upd H1 p (.lst [])) (A1 ++ [p]) (S' ++ [.ls acc]) H' ∧ SOk K (A1 ++ [p]) (S' ++ [.ls acc]) H', ⟨ds.length, by simp, Nat.zero_le _, [], S1, i0, rfl, .refl, sop⟩, ?_⟩
  rintro i m H' ⟨rfl, hi, acc, S', hI, hl, g2, so2⟩
  have ap : (A1 ++ [p])[S'.length]? = some p := by
    rw [hl, ← la, List.getElem?_append_right (Nat.le_refl _), Nat.sub_self]
    rfl
  have sp : ∀ (S' : Store) (acc : List D), (S' ++ [MO.ls acc])[S'.length]? = some (.ls acc) := fun S' acc => by
    rw [List.getElem?_append_right (Nat.le_refl _), Nat.sub_self]
    rfl
  have g12 := gp.trans g2
  obtain ⟨go, stop⟩ := hh p hp acc S' H' hl g12 so2
  by_cases lt : i < ds.length
  · obtain ⟨go1, go2⟩ := go i hI ds[i] (List.getElem?_eq_getElem lt)
    refine .inr ⟨go1, fun H5 => ∃ acc S5, I (i + 1) acc S5 ∧ S5.length = S1.length ∧ Gr (A1 ++ [p]) (S1 ++ [.ls []]) (upd H1 p (.lst [])) (A1 ++ [p]) (S5 ++ [.ls acc]) H5 ∧ SOk K (A1 ++ [p]) (S5 ++ [.ls acc]) H5, fun H5 q => ⟨ds.length - (i + 1), by omega, rfl, lt, q⟩, fun x H3 y => ?_⟩
    obtain ⟨e3, rx⟩ := go2 x H3 y
    have so3 := so2.ex e3
    have g13 : Gr A S H (A1 ++ [p]) (S' ++ [.ls acc]) H3 := (g1.trans g12).trans (Gr.ex e3)
    have gq3 := g2.trans (Gr.ex (A := A1 ++ [p]) (S := S' ++ [.ls acc]) e3)
    obtain ⟨la, hw⟩ := lc.step i ds[i] acc S' (List.getElem?_eq_getElem lt) hl hI
    refine hw (A1 ++ [p]) (L2.wipe σ vs) H3 x ⟨so3, (f.en.go g13).wipe vs, Z.mono f.xo g13⟩ rx _ fun ρ2 σ2 hw l2 s2 en2 => ⟨wipe_same l2 s2, hw (A1 ++ [p]) σ2 H3 ⟨so3, en2, Z.mono f.xo g13⟩ _ fun b S4 A4 H4 hb g4 so4 => ?_⟩
    have pre4 := g4.pre
    cases b with
    | false =>
      obtain ⟨S5, e5, l5, hI5⟩ := hb.2 rfl
      subst e5
      have ea : A4 = A1 ++ [p] := pre_eq pre4 (by rw [so4.len, List.length_append, List.length_append]; simp; omega)
      subst ea
      exact ⟨acc, S5, hI5, l5, gq3.trans g4, so4⟩
    | true =>
      refine hb.1 rfl A4 σ2 H4 ⟨so4, en2.go g4, Z.mono (Z.mono f.xo g13) g4⟩ _ fun r S6 A6 v H6 ⟨y, S5, er, e5, l5, hI5⟩ g6 so6 r6 => ?_
      subst er e5
      have pre6 := pre4.trans g6.pre
      have ea : A6 = A1 ++ [p] := pre_eq pre6 (by rw [so6.len, List.length_append, List.length_append]; simp; omega)
      subst ea
      have ap6 : (A1 ++ [p])[S5.length]? = some p := by
        rw [l5, ← hl]
        exact ap
      obtain ⟨xs, hx, l⟩ := so6.ok _ p _ ap6 (sp S5 acc)
      obtain ⟨so7, g7⟩ := so6.put (m' := .ls (acc ++ [y])) (o := .lst (xs ++ [v])) ap6 (sp S5 acc) nofun nofun fun X _ g => ⟨_, upd_same, (RepL.go g l).append (.cons (Rep.go g r6) .nil)⟩
      have es : (S5 ++ [MO.ls acc]).set S5.length (.ls (acc ++ [y])) = S5 ++ [MO.ls (acc ++ [y])] := by
        rw [List.set_append_right _ _ (Nat.le_refl _), Nat.sub_self]
        rfl
      rw [es] at so7 g7
      exact ⟨xs, hx, sz_lt (by rw [← l.length]; exact la), acc ++ [y], S5, hI5, l5, ((gq3.trans g4).trans g6).trans g7, so7⟩
  · have ei : i = ds.length := by omega
    subst ei
    exact .inl (stop hI)
theorem wn_lc {vs : List Nat} {Φ : List D → Store → Prop} (h : WpI K wi ρ S fun ds S1 => ∃ I : Nat → List D → Store → Prop, I 0 [] S1 ∧ Lc K g tt te vs ρ ds S1.length I ∧ ∀ acc S', S'.length = S1.length → I ds.length acc S' → Φ acc S') : WpN K (tLc wi g tt te vs) ρ S Φ := fun A σ H f Q q =>
  h A σ H f _ fun ds S1 A1 J H1 ⟨I, i0, lc, fin⟩ g1 so1 it => lc_run f g1 so1 i0 lc fun p hp acc S' H' hl g12 so2 => by
    obtain ⟨go, stop⟩ := it _ H' g12.gw fun a l => so2.dom l
    exact ⟨fun i _ d hd => go i d hd, fun hI => ⟨stop, q acc S' A1 p H' (fin acc S' hl hI) (g1.trans g12) so2⟩⟩
theorem lc_pure {vs : List Nat} {ds es : List D} {S1 : Store} (el : es.length = ds.length) (lt : ds.length < 100000) (st : ∀ (i : Nat) (d e : D) (S0 : Store), ds[i]? = some d → es[i]? = some e → WpGc K g (.dat d) (wipeR ρ vs) S0 vs fun ρ2 => ∀ Φ : R → Store → Prop, Φ (.dat e) S0 → Wp K te ρ2 S0 Φ) : Lc K g tYes te vs ρ ds S1.length (fun i acc S' => acc = es.take i ∧ S' = S1) := ⟨fun i d acc S' hd hl ⟨ea, e2⟩ => by
    subst ea e2
    have li := (List.getElem?_eq_some_iff.mp hd).1
    have le : i < es.length := by omega
    refine ⟨by rw [List.length_take]; omega, fun A σ H v f rr Q q => st i d es[i] _ hd (List.getElem?_eq_getElem le) A σ H v f rr Q fun ρ2 σ2 k2 => q ρ2 σ2 (wt_yes ⟨fun _ => k2 _ ⟨es[i], S', rfl, rfl, rfl, ?_, rfl⟩, nofun⟩)⟩
    rw [List.take_succ, List.getElem?_eq_getElem le]
    rfl⟩
theorem wn_lcM {vs : List Nat} {Φ : List D → Store → Prop} (h : WpI K wi ρ S fun ds S1 => ∃ es : List D, es.length = ds.length ∧ ds.length < 100000 ∧ (∀ (i : Nat) (d e : D) (S0 : Store), ds[i]? = some d → es[i]? = some e → WpGc K g (.dat d) (wipeR ρ vs) S0 vs fun ρ2 => ∀ Φ : R → Store → Prop, Φ (.dat e) S0 → Wp K te ρ2 S0 Φ) ∧ Φ es S1) : WpN K (tLc wi g tYes te vs) ρ S Φ :=
  wn_lc fun A σ H f Q q => h A σ H f Q fun ds S1 A1 J H1 ⟨es, el, lt, st, k⟩ => q ds S1 A1 J H1 ⟨_, ⟨by simp, rfl⟩, lc_pure el lt st, fun acc S' _ ⟨ea, e2⟩ => by
    subst ea e2
    rw [← el, List.take_length]
    exact k⟩
omit Z in
theorem zip_at {X : Addr → Prop} {a b : Addr} {xs ys : List D} {vs us : List V} (s1 : SqL K H a vs) (l1 : RepL K X H xs vs) (s2 : SqL K H b us) (l2 : RepL K X H ys us) (dom : ∀ a, X a → H a ≠ none) : (∀ (i : Nat) (d : D), (zipD xs ys)[i]? = some d → (L2.Itz K a b).go i H ∧ ∀ x H'', (L2.Itz K a b).yld i H x H'' → Ex H H'' ∧ Rep K X H'' d x) ∧ (L2.Itz K a b).stop (zipD xs ys).length H := by
  refine ⟨fun i d hd => ?_, ⟨vs, us, s1, s2, ?_⟩⟩
  · unfold zipD at hd
    rw [List.getElem?_map] at hd
    cases e : (xs.zip ys)[i]? with
    | none => rw [e] at hd; cases hd
    | some p =>
      rw [e] at hd
      cases hd
      obtain ⟨e1, e2⟩ := List.getElem?_zip_eq_some.mp e
      obtain ⟨x, hx, rx⟩ := l1.get e1
      obtain ⟨y, hy, ry⟩ := l2.get e2
      refine ⟨⟨vs, us, x, y, s1, s2, hx, hy⟩, fun v H'' z => ?_⟩
      obtain ⟨T, x', y', rfl, hT, rfl, z1, z2⟩ := z
      have q1 := z1 vs s1
      have q2 := z2 us s2
      rw [hx] at q1
      rw [hy] at q2
      cases q1
      cases q2
      have nT : ¬ X T := fun z => dom T z hT
      have gx : Gw X H X (upd H T (.tup [x, y])) := .ex (Ex.new hT)
      exact ⟨Ex.new hT, .tup nT (.inl upd_same) (.cons (Rep.go gx rx) (.cons (Rep.go gx ry) .nil))⟩
  · unfold zipD
    rw [List.length_map, List.length_zip, ← l1.length, ← l2.length]
    omega
theorem wp_lcZ {vs : List Nat} (h : WpA K tl ρ S fun rs S1 => ∃ (k : Nat) (xs ys es : List D), rs = [.mu k, .dat (.lst ys)] ∧ S1[k]? = some (.ls xs) ∧ es.length = (zipD xs ys).length ∧ (zipD xs ys).length < 100000 ∧ (∀ (i : Nat) (d e : D) (S0 : Store), (zipD xs ys)[i]? = some d → es[i]? = some e → WpGc K g (.dat d) (wipeR ρ vs) S0 vs fun ρ2 => ∀ Φ : R → Store → Prop, Φ (.dat e) S0 → Wp K te ρ2 S0 Φ) ∧ Φ (.dat (.lst es)) S1) : Wp K (tLc (RZ.iZipA K tl) g tYes te vs) ρ S Φ := fun A σ H f Q q =>
  h A σ H f _ fun rs S1 A1 vs' H1 ⟨k, xs, ys, es, er, hk, el, lt, st, kk⟩ g1 so1 rr => by
    subst er
    obtain ⟨v, w, rfl, r1, r2⟩ := reps2 rr
    obtain ⟨a, ha, rfl⟩ := r1
    obtain ⟨us, hu, lu⟩ := so1.ok k a _ ha hk
    obtain ⟨b, ws, rfl, s2, l2⟩ := rep_lst r2
    have lk := (List.getElem?_eq_some_iff.mp hk).1
    have lka := (List.getElem?_eq_some_iff.mp ha).1
    refine ⟨a, b, us, ws, rfl, .inl ⟨sq_of hu, s2, ?_⟩⟩
    refine lc_run (Q := Q) (J := L2.Itz K a b) f g1 so1 ⟨by simp, rfl⟩ (lc_pure (S1 := S1) el lt st) fun p hp acc S' H' hl g12 so2 => ?_
    have main : S' = S1 → (∀ (i : Nat) (d : D), (zipD xs ys)[i]? = some d → (L2.Itz K a b).go i H' ∧ ∀ x H'', (L2.Itz K a b).yld i H' x H'' → Ex H' H'' ∧ Rep K (Lv (A1 ++ [p]) (S' ++ [.ls acc])) H'' d x) ∧ (L2.Itz K a b).stop (zipD xs ys).length H' := fun e => by
      subst e
      obtain ⟨us', hu', lu'⟩ := so2.ok k a (.ls xs) (by rw [List.getElem?_append_left lka]; exact ha) (by rw [List.getElem?_append_left lk]; exact hk)
      obtain ⟨b', ws', e, s', l'⟩ := rep_lst (Rep.go g12.gw r2)
      cases e
      exact zip_at (sq_of hu') lu' s' l' fun a l => so2.dom l
    refine ⟨fun i ⟨_, e⟩ d hd => (main e).1 i d hd, fun ⟨ea, e⟩ => ⟨(main e).2, ?_⟩⟩
    subst e
    obtain ⟨xs', hx, l⟩ := so2.ok S'.length p (.ls acc) (by rw [← so1.len, List.getElem?_append_right (Nat.le_refl _), Nat.sub_self]; rfl) (by rw [List.getElem?_append_right (Nat.le_refl _), Nat.sub_self]; rfl)
    obtain ⟨so3, g3⟩ := so2.cut
    have et : (S' ++ [MO.ls acc]).take A1.length = S' := by rw [so1.len, List.take_left]
    rw [et] at so3 g3
    have np : ¬ Lv A1 S' p := fun ⟨j, m, hj, _⟩ => by
      have lj := (List.getElem?_eq_some_iff.mp hj).1
      have h1 : (A1 ++ [p])[j]? = some p := by
        rw [List.getElem?_append_left lj]
        exact hj
      have h2 : (A1 ++ [p])[A1.length]? = some p := by
        rw [List.getElem?_append_right (Nat.le_refl _), Nat.sub_self]
        rfl
      have := nd_inj so2.nd h1 h2
      omega
    have ee : acc = es := by
      rw [ea, ← el, List.take_length]
    subst ee
    exact q _ S' A1 _ H' kk ⟨g1.pre, (g1.gw.trans g12.gw).trans g3⟩ so3 (.lst np hx (l.go g3))
/-- isinstance of a list that may change -/
theorem c_isiM {k : Nat} {ds : List D} {n : String} {b : Bool} {Φ : R → Prop} (hj : S[k]? = some (.ls ds)) (hk : kitB "list" n = some b) (q : Φ (.dat (.bl b))) : Cb K (rIsi K) [.mu k, .dat (.ty n)] S Φ := cb_val (fun A H vs so rx => by
  obtain ⟨v, w, rfl, r1, r2⟩ := reps2 rx
  cases r2
  obtain ⟨a, ha, rfl⟩ := r1
  obtain ⟨xs, hx, _⟩ := so.ok k a _ ha hj
  exact ⟨_, Rep.bl _, fun Q q => ⟨_, .ty n, .type "list", .type n, b, rfl, .ty n, .base (.lst hx), kit_ty hk, q⟩⟩) q
/-- xs.clear() -/
theorem ws_clear (h : Wp K ta ρ S fun o S1 => ∃ (k : Nat) (ds : List D), o = .mu k ∧ S1[k]? = some (.ls ds) ∧ Nx ρ (S1.set k (.ls []))) : WpS K (tDrop (tBM0 K "list" rClear ta)) ρ S Nx Rt Bk Ct := fun A σ H f D e =>
  h A σ H f _ fun o S1 A1 v H1 ⟨k, ds, eo, hk, p⟩ g1 so1 ro => by
    subst eo
    obtain ⟨a, ha, rfl⟩ := ro
    obtain ⟨xs, hx, l⟩ := so1.ok k a _ ha hk
    obtain ⟨so3, g3⟩ := so1.put (m' := .ls []) (o := .lst []) ha hk nofun nofun fun X _ g => ⟨_, upd_same, .nil⟩
    exact ⟨Or.inl ⟨rfl, xs, sq_of hx⟩, a, xs, rfl, rfl, hx, e.nx ρ _ A1 σ _ p (g1.trans g3) ⟨so3, (f.en.go g1).go g3, Z.mono f.xo (g1.trans g3)⟩⟩
end
end Dl
/-! enumerate(tuple). -/
namespace L2
open PySem PySem.Spec PyProof.Rows
set_option maxHeartbeats 1000000 in
theorem meets_enum1 {v : Value} {o : Obj} {H : Heap → Prop} (B : Begins v o H) :
    Meets (Builtin.«enumerate.__new__» ⟨[.type "enumerate", v], []⟩) (fun _ R s => H s.heap ∧
      R (.ok (.ret (.ref (s.heap.push o).objs.size))) { s with heap := (s.heap.push o).push { cls := .type "enumerate", data := .fields #[.none, .bool false, .ref s.heap.objs.size, rawInt 0, .none, .none] } }) :=
  .of_wp fun prog w A R s h => by
    obtain ⟨hp, g, d, tk, os⟩ := s
    obtain ⟨h1, h⟩ := h
    have hsub := sub_enumerate
    have q1 : ∀ {A' : Around} {E : Value → Shared → Prop} {Q : Value → Shared → Prop}, Q (.ref hp.objs.size) ⟨hp.push o, g, d, tk, os⟩ → wpAny (model prog w) A' (pyIter v) Q E ⟨hp, g, d, tk, os⟩ :=
      fun q => B.iter prog w _ _ ⟨hp, g, d, tk, os⟩ _ h1 q
    wp_walk using q1
    refine wpAny_stack_any fun st => wpAny_pure ?_
    split
    · rename_i c _ _ _ _ _
      cases (c == Value.type "enumerate")
      · wp_walk using q1
        exact ⟨_, rfl, h⟩
      · wp_walk using q1
        exact ⟨_, rfl, h⟩
    · wp_walk using q1
      exact ⟨_, rfl, h⟩
theorem call_enumT {prog : Program} {w : World} {A : Around} {E : Value → Shared → Prop} {s : Shared} {t : Addr} {items : Array Value} {Q : Value → Shared → Prop} (hT : s.heap.IsTuple t items)
    (h : ∀ h', IsEnum h' (s.heap.objs.size + 1) s.heap.objs.size 0 .none → h'.IsTupleIter s.heap.objs.size t 0 → h'.objs.size = s.heap.objs.size + 2 →
      (∀ b o, s.heap.get? b = some o → h'.get? b = some o) → Q (.ref (s.heap.objs.size + 1)) { s with heap := h' }) :
    wpAny (model prog w) A (call (.type "enumerate") [.ref t]) Q E s := by
  refine callType_new F.called_enumerate (by decide) (F.typeCall_enumerate_1 _) (F.newCall_enumerate_1 _) (fun obj => F.args_object_init_2 obj _) F.entry_enumerate_new
    (meets_enum1 (begins_tuple t items)) ⟨hT, ?_⟩
  have hz : (s.heap.push { cls := .type "tuple_iterator", data := .fields #[.ref t, .int 0 0] }).objs.size = s.heap.objs.size + 1 := Heap.size_push ..
  show _ ∧ _
  rw [hz]
  have he : IsEnum ((s.heap.push { cls := .type "tuple_iterator", data := .fields #[.ref t, .int 0 0] }).push
      { cls := .type "enumerate", data := .fields #[.none, .bool false, .ref s.heap.objs.size, rawInt 0, .none, .none] }) (s.heap.objs.size + 1) s.heap.objs.size 0 .none := by
    have := Heap.get?_push_size (s.heap.push { cls := .type "tuple_iterator", data := .fields #[.ref t, .int 0 0] })
      (o := { cls := .type "enumerate", data := .fields #[.none, .bool false, .ref s.heap.objs.size, rawInt 0, .none, .none] }) rfl
    rw [hz] at this
    exact this
  exact ⟨⟨_, he, rfl⟩, h _ he ⟨_, Heap.get?_push_of_some _ (Heap.get?_push_size _ rfl), rfl, rfl⟩ (by rw [Heap.size_push, hz]) fun b o y => Heap.get?_push_of_some _ (Heap.get?_push_of_some _ y)⟩
/-- the tuple at a, each item with its number in a new pair -/
def Itte (K : PySem.W.Frag) (a : Addr) : It :=
  ⟨fun i H => ∃ (xs : List V) (x : V), SqT K H a xs ∧ xs[i]? = some x, fun i H v H' => ∃ T x, v = .ref T ∧ H T = none ∧ H' = upd H T (.tup [.int (i : Nat), x]) ∧ ∀ xs, SqT K H a xs → xs[i]? = some x, fun i H => ∃ xs : List V, SqT K H a xs ∧ i = xs.length⟩
theorem turn_enumT {P : Program} {w : World} {K : PySem.W.Frag} {elts : List Expr} {kk : Nat} {tpos : Pos} (a e it : Addr) :
    Turn P w K (.Tuple elts kk tpos) (Itte K a) [e, it] e (fun i h => (∃ old, IsEnum h e it ((i : Nat) : Int) old) ∧ h.IsTupleIter it a i ∧ e ≠ it) where
  mem := by simp
  obj := fun i h st b hb => by
    obtain ⟨⟨old, he⟩, ⟨o, ho, hc, hd⟩, _⟩ := st
    have bb : b = e ∨ b = it := by simpa using hb
    rcases bb with q | q
    · subst q
      exact ⟨_, he, fun v y => nomatch y⟩
    · subst q
      exact ⟨o, ho, fun v y => by rw [hd] at y; cases y⟩
  keep := fun i h h' st k => by
    obtain ⟨⟨old, he⟩, ⟨o, ho, r⟩, ne⟩ := st
    exact ⟨⟨old, k e (by simp) _ he⟩, ⟨o, k it (by simp) _ ho, r⟩, ne⟩
  item := by
    intro X hP hw hK hc i pins s σ H E I hf st hg
    subst hP hw hK
    obtain ⟨⟨old, he⟩, hit, ne⟩ := st
    obtain ⟨xs, x, hq, hx⟩ := hg
    obtain ⟨its, rv, p, hz⟩ := I.tuple hq
    obtain ⟨u, hu, ru⟩ := rv.get hx
    have le : e < s.heap.objs.size := Heap.lt_size he
    have li : it < s.heap.objs.size := by
      obtain ⟨_, q, _⟩ := hit
      exact Heap.lt_size q
    have na : a ≠ it := fun z => by
      obtain ⟨o, h1, h2, _⟩ := p
      obtain ⟨o', g1, g2, _⟩ := hit
      rw [z, g1] at h1
      cases h1
      rw [g2] at h2
      exact absurd (Value.type.inj h2) (by decide)
    have nea : e ≠ a := fun z => by
      obtain ⟨o, h1, h2, _⟩ := p
      have he' : s.heap.get? e = some _ := he
      rw [z, h1] at he'
      have e2 := congrArg Obj.cls (Option.some.inj he')
      rw [h2] at e2
      exact absurd (Value.type.inj e2) (by decide)
    have lx : i < its.length := (List.getElem?_eq_some_iff.mp hu).1
    refine wpAny_pyNext_enum_itemD (Draws.tuple (A := X.A.in1) (I.ok.hd hc) it a na its.toArray) he ⟨hit, p⟩ (by simpa using lx) ne (by simp [ne, nea]) fun x' h' tk px ho st' hT hz' hk => ?_
    have ex : x' = u := by
      have : its[i]? = some x' := by simpa using px
      rw [hu] at this
      exact (Option.some.inj this).symm
    subst ex
    refine ⟨_, rfl, wpAny_letOwnedTupleGo_enum (s := { s with heap := h', toks := tk + 1 }) ho fun h'' he' sb => ?_⟩
    have hT2 : h''.get? s.heap.objs.size = some { cls := .type "tuple", data := .seq #[.int i tk, x'] } := (sb.2 _ (Nat.ne_of_gt le)).trans hT
    have new : ObjOk X.prog X.w (upd H s.heap.objs.size (.tup [.int (i : Nat), x])) h'' s.heap.objs.size (.tup [.int (i : Nat), x]) :=
      ⟨by show 2 ≤ sizeLine; decide, [.int i tk, x'], .cons ⟨_, rfl⟩ (.cons ru .nil), ⟨_, hT2, rfl, _, rfl⟩⟩
    have J : Inv X pins σ (upd H s.heap.objs.size (.tup [.int (i : Nat), x])) { s with heap := h'', toks := tk + 1 } :=
      I.turnedNew (ch := [e, it]) (fun b ob hb q => (sb.2 b (fun y => hb (by simp [y]))).trans (hk b ob (fun y => hb (by simp [y])) (fun y => hb (by simp [y])) q)) hf (Nat.le_refl _) new
    refine ⟨.ref s.heap.objs.size, _, J, rfl, ⟨_, x, rfl, I.hok.fresh (Nat.le_refl _), rfl, fun ys hy => by rw [I.tuple_inj hy hq]; exact hx⟩, ⟨⟨x', ?_⟩, ?_, ne⟩, fun b hb => ?_⟩
    · have e1 : ((i + 1 : Nat) : Int) = (i : Int) + 1 := by omega
      rw [e1]
      exact he'
    · obtain ⟨⟨o, q, r⟩, _⟩ := st'
      exact ⟨o, (sb.2 it (Ne.symm ne)).trans q, r⟩
    · have lb : b < s.heap.objs.size := by
        have bb : b = e ∨ b = it := by simpa using hb
        rcases bb with q | q
        · rw [q]
          exact le
        · rw [q]
          exact li
      rw [upd_ne (Nat.ne_of_lt lb)]
      exact (hf b hb).1
  done := by
    intro X hP hw hK hc i pins s σ H E I hf st hg
    subst hP hw hK
    obtain ⟨⟨old, he⟩, hit, ne⟩ := st
    obtain ⟨xs, hq, hx⟩ := hg
    obtain ⟨its, rv, p, hz⟩ := I.tuple hq
    obtain ⟨f0, f1, f2, f3, f4, f5⟩ := hf it (by simp)
    have na : a ≠ it := fun z => by
      obtain ⟨o, h1, h2, _⟩ := p
      obtain ⟨o', g1, g2, _⟩ := hit
      rw [z, g1] at h1
      cases h1
      rw [g2] at h2
      exact absurd (Value.type.inj h2) (by decide)
    have hl := rv.length
    have e : i = its.toArray.size := by simp; omega
    subst e
    exact wpAny_pyNext_enum_endD (Draws.tuple (A := X.A.in1) (I.ok.hd hc) it a na its.toArray) he ⟨hit, p⟩ fun h' eb => ⟨rfl, I.turned (t' := s.toks) (fun b o hb y => eb b o hb y) f0 f1 f3 f4 f5⟩
  self := fun A i s Q E st h => by
    obtain ⟨⟨_, he⟩, _⟩ := st
    exact wpAny_pyIter_enum he h
def iEnumT (K : PySem.W.Frag) (ta : TA) : TI := fun σ H R => ta σ H fun vs H1 => ∃ a xs, vs = [.ref a] ∧ SqT K H1 a xs ∧ R (Itte K a) H1
theorem pi_enumT {X : Cx} {e : Expr} {ta : TA} {p pos tpos : Pos} {elts : List Expr} {kk : Nat} (hg : Gl X "enumerate") (hm : X.mg "enumerate" = none) (ha : PA X [e] ta) (hs : starEach [e] X.env = [(false, eval e X.env)] := by rfl) :
    PI X (.Tuple elts kk tpos) (.Call (.Name "enumerate" p) [e] [] pos) (iEnumT X.K ta) := by
  refine ⟨fun pins s σ H R I h => ?_⟩
  refine Call_ (ld_blt I hg hm boot_enumerate (PyProof.Rows.callWith_type1 (thn (ha.run pos pins s σ H _ I h) fun us s1 ⟨vs, H1, I1, r1, q1⟩ => ?_) hs rfl))
  obtain ⟨a, xs, ex, hq, q⟩ := q1
  subst ex
  cases r1 with
  | cons r rr =>
    cases rr
    cases r
    obtain ⟨its, rv, p', hz⟩ := I1.tuple hq
    refine call_enumT p' fun h' he hit hsz hk => wpAny_pyIter_enum he ?_
    have I2 : Inv X pins σ H1 { s1 with heap := h' } := I1.kept (t' := s1.toks) hk
    refine ⟨s1.heap.objs.size + 1, [s1.heap.objs.size + 1, s1.heap.objs.size], _, _, H1, rfl, I2, turn_enumT a (s1.heap.objs.size + 1) s1.heap.objs.size, ⟨⟨.none, he⟩, hit, Nat.succ_ne_self _⟩, fun b hb => ?_, q⟩
    have e' : b = s1.heap.objs.size + 1 ∨ b = s1.heap.objs.size := by simpa using hb
    have hle : s1.heap.objs.size ≤ b := by
      rcases e' with z | z
      · rw [z]
        exact Nat.le_add_right _ _
      · rw [z]
        exact Nat.le_refl _
    exact I1.fpOk hle (I1.hok.fresh hle)
end L2
namespace Dl
open PySem PySem.Spec PyProof.Rows L2 _root_.Evl
def enumD (xs : List D) : List D := (xs.zipIdx).map fun p => .tup [.int (p.2 : Nat), p.1]
section
variable [Z : Zo] {K : PySem.W.Frag} {A : List Addr} {S : Store} {H : Hp} {ρ : List R} {σ : L2.St} {tl : TA}
omit Z in
theorem en_get {xs : List D} {i : Nat} {d : D} (h : (enumD xs)[i]? = some d) : ∃ x, xs[i]? = some x ∧ d = .tup [.int (i : Nat), x] := by
  unfold enumD at h
  rw [List.getElem?_map] at h
  cases e : xs.zipIdx[i]? with
  | none => rw [e] at h; cases h
  | some p =>
    rw [e] at h
    cases h
    rw [List.getElem?_zipIdx] at e
    cases e2 : xs[i]? with
    | none => rw [e2] at e; cases e
    | some x =>
      rw [e2] at e
      cases e
      exact ⟨x, rfl, by rw [Nat.zero_add]⟩
omit Z in
theorem en_len (xs : List D) : (enumD xs).length = xs.length := by
  unfold enumD
  rw [List.length_map, List.length_zipIdx]
/-- enumerate(t) -/
theorem wi_enumT {Φ : List D → Store → Prop} (h : WpA K tl ρ S fun rs S1 => ∃ r xs, rs = [r] ∧ TpR r xs ∧ Φ (enumD xs) S1) : WpI K (iEnumT K tl) ρ S Φ := fun A σ H f Q q =>
  h A σ H f _ fun rs S1 A1 vs H1 ⟨r, xs, e, tp, k⟩ g1 so1 rr => by
    subst e
    obtain ⟨v, rfl, r1⟩ := reps1 rr
    obtain ⟨a, us, rfl, s1, l1⟩ := tp.rep r1
    refine ⟨a, us, rfl, s1, q _ S1 A1 _ H1 k g1 so1 fun X' H' g dom => ?_⟩
    obtain ⟨us', s', l'⟩ : ∃ us', SqT K H' a us' ∧ RepL K X' H' xs us' := by
      rcases tp with rfl | rfl
      · obtain ⟨a', us', e, s', l'⟩ := rep_tup (Rep.go g r1)
        cases e
        exact ⟨us', s', l'⟩
      · obtain ⟨a', us', e, s', l'⟩ := rep_ftup (Rep.go g r1)
        cases e
        exact ⟨us', s', l'⟩
    refine ⟨fun i d hd => ?_, ⟨us', s', ?_⟩⟩
    · obtain ⟨x, hx, rfl⟩ := en_get hd
      obtain ⟨y, hy, ry⟩ := l'.get hx
      refine ⟨⟨us', y, s', hy⟩, fun v H'' z => ?_⟩
      obtain ⟨T, x', rfl, hT, rfl, z1⟩ := z
      have q1 := z1 us' s'
      rw [hy] at q1
      cases q1
      have nT : ¬ X' T := fun z => dom T z hT
      have gx : Gw X' H' X' (upd H' T (.tup [.int (i : Nat), y])) := .ex (Ex.new hT)
      exact ⟨Ex.new hT, .tup nT (.inl upd_same) (.cons (.int _) (.cons (Rep.go gx ry) .nil))⟩
    · rw [en_len]
      exact l'.length
end
end Dl
/-! Dicts that change, by ints and texts. -/
namespace L2
open PySem PySem.Spec PyProof.Rows _root_.Evl
theorem Room.u1 {k : Nat} {A : Around} (r : Room k A) : A.units + 1 < cLine := by
  have := r.un
  omega
/-- name = {}: a dict that changes -/
def tAsgDM (i : Nat) : TS := tAsg tDNewK (gName i)
theorem ps_dsetM {X : Cx} {st : Stmt} {i : Nat} (h : PS X st (tAsg tDNewK (gName i))) : PS X st (tAsgDM i) := h
end L2
namespace Dl
open PySem PySem.Spec PyProof.Rows L2 _root_.Evl
def keyD : Key → D
  | .inl i => .int i
  | .inr z => .str z
def getK (ks : List (Key × D)) (k : Key) : Option D := (ks.find? fun kv => decide (kv.1 = k)).map (·.2)
def putKD (ks : List (Key × D)) (k : Key) (d : D) : List (Key × D) :=
  if (ks.any fun kv => decide (kv.1 = k)) = true then ks.map (fun kv => if kv.1 = k then (kv.1, d) else kv) else ks ++ [(k, d)]
section
variable {K : PySem.W.Frag} {X : Addr → Prop} {H : Hp}
theorem rep_key {k : Key} {v : V} (h : Rep K X H (keyD k) v) : v = kV k := by
  cases k with
  | inl i => exact rep_int h
  | inr z => exact rep_str h
theorem RepK.length : ∀ {ks : List (Key × D)} {gs : List (Key × V)}, RepK K X H ks gs → ks.length = gs.length
  | _, _, .nil => rfl
  | _, _, .cons _ t => congrArg (· + 1) t.length
theorem RepK.val {k : Key} : ∀ {ks : List (Key × D)} {gs : List (Key × V)} {d : D}, RepK K X H ks gs → getK ks k = some d → ∃ v, valV gs k = some v ∧ Rep K X H d v
  | _, _, d, .nil, e => by cases e
  | _, _, d, .cons (x := x) (d := d0) (v := v) (fs := fs) (gs := gs) h t, e => by
    by_cases q : x = k
    · have e2 : getK ((x, d0) :: fs) k = some d0 := by simp [getK, List.find?_cons, q]
      rw [e2] at e
      cases e
      exact ⟨v, valV_pos (p := (x, v)) q, h⟩
    · have e2 : getK ((x, d0) :: fs) k = getK fs k := by simp [getK, List.find?_cons, q]
      rw [e2] at e
      obtain ⟨w, hw, rw_⟩ := RepK.val t e
      exact ⟨w, by rw [valV_neg (p := (x, v)) q]; exact hw, rw_⟩
theorem RepK.none {k : Key} : ∀ {ks : List (Key × D)} {gs : List (Key × V)}, RepK K X H ks gs → getK ks k = none → valV gs k = none
  | _, _, .nil, e => rfl
  | _, _, .cons (x := x) (d := d0) (v := v) (fs := fs) (gs := gs) h t, e => by
    by_cases q : x = k
    · have e2 : getK ((x, d0) :: fs) k = some d0 := by simp [getK, List.find?_cons, q]
      rw [e2] at e
      cases e
    · have e2 : getK ((x, d0) :: fs) k = getK fs k := by simp [getK, List.find?_cons, q]
      rw [e2] at e
      rw [valV_neg (p := (x, v)) q]
      exact RepK.none t e
theorem RepK.any {k : Key} : ∀ {ks : List (Key × D)} {gs : List (Key × V)}, RepK K X H ks gs → (ks.any fun kv => decide (kv.1 = k)) = gs.any fun kv => decide (kv.1 = k)
  | _, _, .nil => rfl
  | _, _, .cons h t => by
    rw [List.any_cons, List.any_cons, RepK.any t]
theorem RepK.repl {k : Key} {d : D} {v : V} (r : Rep K X H d v) : ∀ {ks : List (Key × D)} {gs : List (Key × V)}, RepK K X H ks gs → RepK K X H (ks.map fun kv => if kv.1 = k then (kv.1, d) else kv) (gs.map fun kv => if kv.1 = k then (kv.1, v) else kv)
  | _, _, .nil => .nil
  | _, _, .cons (x := x) h t => by
    rw [List.map_cons, List.map_cons]
    by_cases q : x = k
    · rw [if_pos q, if_pos q]
      exact .cons r (RepK.repl r t)
    · rw [if_neg q, if_neg q]
      exact .cons h (RepK.repl r t)
theorem RepK.snoc {k : Key} {d : D} {v : V} (r : Rep K X H d v) : ∀ {ks : List (Key × D)} {gs : List (Key × V)}, RepK K X H ks gs → RepK K X H (ks ++ [(k, d)]) (gs ++ [(k, v)])
  | _, _, .nil => .cons r .nil
  | _, _, .cons h t => .cons h (RepK.snoc r t)
theorem RepK.put {k : Key} {d : D} {v : V} {ks : List (Key × D)} {gs : List (Key × V)} (r : Rep K X H d v) (l : RepK K X H ks gs) : RepK K X H (putKD ks k d) (putK gs k v) := by
  unfold putKD putK
  rw [l.any (k := k)]
  split
  · exact l.repl r
  · exact l.snoc r
end
section
variable [Z : Zo] {K : PySem.W.Frag} {A A' A1 A2 : List Addr} {S S' S1 S2 : Store} {H H' H1 H2 : Hp} {ρ : List R} {σ : L2.St} {Φ : R → Store → Prop} {te ta tb tc : TE} {tl : TA} {t u : TS} {Nx Bk Ct : PR} {Rt : R → Store → Prop}
theorem ws_dnew {i : Nat} (k : Nx (ρ.set i (.mu S.length)) (S ++ [.dc []])) : WpS K (tAsgDM i) ρ S Nx Rt Bk Ct := fun A σ H f De e => by
  show ∀ p, H p = none → De.nx (σ.set i (some (.ref p))) (upd H p (.dK []))
  intro p hp
  obtain ⟨so, g⟩ := f.st.add (m := .dc []) (o := .dK []) hp fun X g => ⟨[], upd_same, .nil⟩
  refine e.nx _ _ (A ++ [p]) _ _ k g ⟨so, (f.en.go g).set i (r := .mu S.length) ⟨p, ?_, rfl⟩, Z.mono f.xo g⟩
  rw [← f.st.len]
  exact last_get rfl
/-- d[y] -/
theorem wp_dget {td ty : TE} (h : Wp K td ρ S fun o S1 => Wp K ty ρ S1 fun y S2 => ∃ (k : Nat) (ks : List (Key × D)) (q : Key) (d : D), o = .mu k ∧ S2[k]? = some (.dc ks) ∧ y = .dat (keyD q) ∧ getK ks q = some d ∧ Φ (.dat d) S2) : Wp K (tDGet td ty) ρ S Φ := fun A σ H f Q q =>
  h A σ H f _ fun o S1 A1 v H1 hw g1 so1 ro => hw A1 σ H1 (f.go g1 so1) _ fun y S2 A2 w H2 ⟨k, ks, key, d, eo, hk, ey, hg, p⟩ g2 so2 ry => by
    subst eo ey
    obtain ⟨a, ha, rfl⟩ := ro.go g2
    obtain rfl := rep_key ry
    obtain ⟨gs, hx, l⟩ := so2.ok k a _ ha hk
    obtain ⟨x, hx2, rx⟩ := l.val hg
    exact ⟨a, x, rfl, .inl ⟨gs, key, .inl hx, rfl, hx2.symm⟩, q _ S2 A2 _ H2 p (g1.trans g2) so2 rx⟩
/-- d[y] = v -/
theorem ws_dput {td ty tv : TE} (h : Wp K tv ρ S fun r S1 => Wp K td ρ S1 fun o S2 => Wp K ty ρ S2 fun y S3 => ∃ (k : Nat) (ks : List (Key × D)) (q : Key) (d : D), r = .dat d ∧ o = .mu k ∧ S3[k]? = some (.dc ks) ∧ ks.length < 100000 ∧ y = .dat (keyD q) ∧ Nx ρ (S3.set k (.dc (putKD ks q d)))) : WpS K (sDPut td ty tv) ρ S Nx Rt Bk Ct := fun A σ H f De e =>
  h A σ H f _ fun r S1 A1 v H1 h1 g1 so1 rv => h1 A1 σ H1 (f.go g1 so1) _ fun o S2 A2 u H2 h2 g2 so2 ro => h2 A2 σ H2 ((f.go g1 so1).go g2 so2) _ fun y S3 A3 w H3 ⟨k, ks, key, d, er, eo, hk, lt, ey, p⟩ g3 so3 ry => by
    subst er eo ey
    obtain ⟨a, ha, rfl⟩ := ro.go g3
    obtain rfl := rep_key ry
    obtain ⟨gs, hx, l⟩ := so3.ok k a _ ha hk
    have rv3 := RepR.go (K := K) (r := .dat d) (g2.trans g3) rv
    obtain ⟨so4, g4⟩ := so3.put (m' := .dc (putKD ks key d)) (o := .dK (putK gs key v)) ha hk nofun nofun fun X ⟨gs', hx', l'⟩ g => by
      rw [hx] at hx'
      cases hx'
      exact ⟨_, upd_same, (RepK.go g l).put (Rep.go g rv3)⟩
    exact ⟨a, _, rfl, .inl ⟨gs, key, hx, rfl, by rw [← l.length]; exact sz_lt lt, rfl⟩, e.nx ρ _ A3 σ _ p ((((g1.trans g2).trans g3)).trans g4) ⟨so4, (f.en.go ((g1.trans g2).trans g3)).go g4, Z.mono f.xo (((g1.trans g2).trans g3).trans g4)⟩⟩
end
section
theorem getK_put (ks : List (Key × D)) (k j : Key) (d : D) : getK (putKD ks k d) j = if j = k then some d else getK ks j := by
  unfold putKD
  split
  · rename_i h
    induction ks with
    | nil => cases h
    | cons p r ih =>
      rw [List.map_cons]
      by_cases q : p.1 = k
      · rw [if_pos q]
        by_cases jk : j = k
        · subst jk
          simp [getK, List.find?_cons, q]
        · have n1 : ¬ p.1 = j := fun z => jk (z.symm.trans q)
          rw [if_neg jk]
          have e1 : getK ((p.1, d) :: List.map (fun kv => if kv.1 = k then (kv.1, d) else kv) r) j = getK (List.map (fun kv => if kv.1 = k then (kv.1, d) else kv) r) j := by simp [getK, List.find?_cons, n1]
          have e2 : getK (p :: r) j = getK r j := by simp [getK, List.find?_cons, n1]
          rw [e1, e2]
          by_cases hr : (r.any fun kv => decide (kv.1 = k)) = true
          · rw [ih hr, if_neg jk]
          · have em : List.map (fun kv => if kv.1 = k then (kv.1, d) else kv) r = r := by
              have : ∀ x ∈ r, ¬ x.1 = k := fun x hx hk => hr (List.any_eq_true.mpr ⟨x, hx, decide_eq_true hk⟩)
              conv => rhs; rw [← List.map_id r]
              exact List.map_congr_left fun x hx => by rw [if_neg (this x hx)]; rfl
            rw [em]
      · rw [if_neg q]
        have hr : (r.any fun kv => decide (kv.1 = k)) = true := by
          rw [List.any_cons, decide_eq_false q, Bool.false_or] at h
          exact h
        by_cases pj : p.1 = j
        · have jk : ¬ j = k := fun z => q (pj.trans z)
          rw [if_neg jk]
          simp [getK, List.find?_cons, pj]
        · have e1 : getK (p :: List.map (fun kv => if kv.1 = k then (kv.1, d) else kv) r) j = getK (List.map (fun kv => if kv.1 = k then (kv.1, d) else kv) r) j := by simp [getK, List.find?_cons, pj]
          have e2 : getK (p :: r) j = getK r j := by simp [getK, List.find?_cons, pj]
          rw [e1, e2, ih hr]
  · rename_i h
    induction ks with
    | nil =>
      by_cases jk : j = k
      · subst jk
        simp [getK]
      · have : ¬ k = j := fun z => jk z.symm
        simp [getK, jk, this]
    | cons p r ih =>
      have hp : ¬ p.1 = k := fun z => h (by rw [List.any_cons, decide_eq_true z]; rfl)
      have hr : ¬ (r.any fun kv => decide (kv.1 = k)) = true := fun z => h (by rw [List.any_cons, z, Bool.or_true])
      rw [List.cons_append]
      by_cases pj : p.1 = j
      · have jk : ¬ j = k := fun z => hp (pj.trans z)
        rw [if_neg jk]
        simp [getK, List.find?_cons, pj]
      · have e1 : getK (p :: (r ++ [(k, d)])) j = getK (r ++ [(k, d)]) j := by simp [getK, List.find?_cons, pj]
        have e2 : getK (p :: r) j = getK r j := by simp [getK, List.find?_cons, pj]
        rw [e1, e2, ih hr]
theorem put_len (ks : List (Key × D)) (k : Key) (d : D) : (putKD ks k d).length ≤ ks.length + 1 := by
  unfold putKD
  split
  · rw [List.length_map]
    omega
  · rw [List.length_append]
    exact Nat.le_refl _
end
end Dl
/-! Methods called by keywords. -/
namespace L2
open PySem PySem.Spec PyProof.Rows _root_.Evl
structure DmQ (P : Program) (w : World) (K : PySem.W.Frag) (mg : Str → Option Value) (base : Heap) (CX : CXT) (k : Nat) (c m : Str) (ps : List Str) (n : Nat) (ks : List Str) (pk : List (Nat ⊕ Nat)) (dvs : List V) (sp : Sp) : Prop where
  ex : ∃ (fd : FuncData) (its : List Value), FnOk P w K mg base CX k (He.ma K (He.ga K c) m) fd ps sp ∧ KBn K fd ps (n + 1) ks (fun us ws => gK pk us its ws) (fun vs zs => gK pk vs dvs zs)
def tMethKX (C : Addr) (m : Str) (n nk : Nat) (sp : Sp) (pk : List (Nat ⊕ Nat)) (dvs : List V) (E : St → XK) (ta : TE) (t tk : TA) : TE := fun σ H Q => ta σ H fun x H1 => ∃ a dx fs, x = .ref a ∧ H1 a = some (.ins C dx fs) ∧ fs.lookup m = none ∧
  t σ H1 fun vs H2 => tk σ H2 fun zs H3 => vs.length = n ∧ zs.length = nk ∧ sp (gK pk (x :: vs) dvs zs) H3 Q (E σ)
section
variable {X : Cx} {CX : CXT} {k n : Nat} {c m : Str} {ps ks : List Str} {sp : Sp} {E : St → XK} {p pos apos : Pos} {o e : Expr} {es : List Expr} {kws : List Keyword} {ta : TE} {t tk : TA} {pk : List (Nat ⊕ Nat)} {dvs : List V} {pl : Sem Bool}
theorem pe_mqx (he : PE X o ta) (cl : Cls X.K (He.ga X.K c)) (hm : Meth X.K (He.ga X.K c) m (He.ma X.K (He.ga X.K c) m)) (D : DmQ X.prog X.w X.K X.mg X.base CX k c m ps n ks pk dvs sp) (hr : Room k X.A) (hx : ∀ σ, PassesAt CX X σ (E σ)) (ha : PA X (e :: es) t) (hkw : PK X kws tk)
    (hall : (backToKw pos (keywordEach kws X.env)).all (·.1.isSome) = true) (hks : (backToKw pos (keywordEach kws X.env)).filterMap (·.1) = ks)
    (hst : starEach (e :: es) X.env = (false, eval e X.env) :: starEach es X.env) (hpl : ((backTo pos (starEach (e :: es) X.env)).any (·.1) || (backToKw pos (keywordEach kws X.env)).any (·.1.isNone)) = false)
    (ht : eval (.Call (.Attribute o m apos) (e :: es) kws pos) X.env = (do
      let ov ← eval o X.env
      standAt apos.atName
      let (f, first) ← holding [ov] (getMethod ov m pl)
      callWith pos f first (backTo pos (starEach (e :: es) X.env)) (backToKw pos (keywordEach kws X.env)))) :
    PE X (.Call (.Attribute o m apos) (e :: es) kws pos) (tMethKX (He.ga X.K c) m n ks.length sp pk dvs E ta t tk) := by
  obtain ⟨fd, its, F, hb⟩ := D.ex
  refine ⟨fun pins s σ H Q I h => ?_⟩
  refine PySem.W.methodCall_KW (pl := pl) (thn (he.run pins s σ H _ I h) fun u s1 ⟨x, H1, I1, rx, a, dx, fs, ex, ea, l, q⟩ => ?_) ht
  subst ex
  obtain rfl : u = Value.ref a := rx
  refine getmeth_ok I1 ea cl hm l ?_
  refine PySem.W.callWith_KW (first := [.ref a]) (h₀ := X.base) I.ok.mod.kin hm.kp hall (thn (ha.run pos pins s1 σ H1 _ I1 q) fun us s2 ⟨vs, H2, I2, r, q2⟩ => ?_) hpl hst
  refine thn (hkw.run pos pins s2 σ H2 _ I2 q2) fun ws s3 ⟨zs, H3, I3, rz, l1, l2, q3⟩ => ⟨I3.kIn, ?_⟩
  rw [hks]
  have r1 : Vals (.ref a :: vs) (.ref a :: us) := .cons rfl r
  have r2 := hb.rel r1 rz
  refine wpAny_call (codeAny_mono (F.run X.A X.stack s3 H3 ⟨.ref a :: us, ks.zip ws⟩ _ _ Q (E σ) hr I3.env0 (hb.to s3 (.ref a :: us) ws I3.kIn (by rw [List.length_cons, ← r.length, l1]) (by rw [← rz.length]; exact l2)) r2 q3) fun r s' hq => ?_)
  cases r with
  | error e => exact hx σ pins H3 s3 e s' I3 hq
  | ok fl =>
    cases fl with
    | ret u => exact I3.after hq
    | next => exact False.elim hq
    | brk => exact False.elim hq
    | cont => exact False.elim hq
theorem pe_mq1 {kp1 : Pos} {e1 : Expr} {t1 : TE} (nm1 : Str) (he : PE X o ta) (cl : Cls X.K (He.ga X.K c)) (hm : Meth X.K (He.ga X.K c) m (He.ma X.K (He.ga X.K c) m)) (D : DmQ X.prog X.w X.K X.mg X.base CX k c m ps n [nm1] pk dvs sp) (hr : Room k X.A) (hx : ∀ σ, PassesAt CX X σ (E σ)) (ha : PA X (e :: es) t) (h1 : PE X e1 t1)
    (hst : starEach (e :: es) X.env = (false, eval e X.env) :: starEach es X.env := by rfl) (hpl : (backTo pos (starEach (e :: es) X.env)).any (·.1) = false := by rfl)
    (ht : eval (.Call (.Attribute o m apos) (e :: es) [⟨some nm1, e1, kp1⟩] pos) X.env = (do
      let ov ← eval o X.env
      standAt apos.atName
      let (f, first) ← holding [ov] (getMethod ov m pl)
      callWith pos f first (backTo pos (starEach (e :: es) X.env)) (backToKw pos (keywordEach [⟨some nm1, e1, kp1⟩] X.env))) := by rfl) :
    PE X (.Call (.Attribute o m apos) (e :: es) [⟨some nm1, e1, kp1⟩] pos) (tMethKX (He.ga X.K c) m n 1 sp pk dvs E ta t (tCons t1 tNil)) :=
  pe_mqx he cl hm D hr hx ha (pk_cons h1 pk_nil) rfl rfl hst (by rw [hpl]; rfl) ht
end
end L2
namespace Dl
open PySem PySem.Spec PyProof.Rows L2 _root_.Evl
section
variable [Z : Zo] {K : PySem.W.Frag} {S : Store} {ρ : List R} {Φ : R → Store → Prop} {ta : TE} {tl tk : TA}
theorem wp_methQ {sd : Sd} {C : Addr} {m : Str} {n nk : Nat} {pk : List (Nat ⊕ Nat)} {dvs : List V} {dv : List D} (hd : RepC dv dvs) (h : Wp K ta ρ S fun x S1 => Me K C m x (WpA K tl ρ S1 fun rs S2 => WpA K tk ρ S2 fun qs S3 => rs.length = n ∧ qs.length = nk ∧ sd (gK pk (x :: rs) (dv.map .dat) qs) S3 fun d S4 => Φ (.dat d) S4)) :
    Wp K (tMethKX C m n nk (lift K sd) pk dvs (fun _ => E0) ta tl tk) ρ S Φ := fun A σ H f Q q =>
  h A σ H f _ fun x S1 A1 v H1 ⟨c, fs, ex, ec, hn, hw⟩ g1 so1 rx => by
    subst ex ec
    cases rx with
    | @ins a dx _ _ gs n hx rf =>
      refine ⟨_, dx, gs, rfl, hx, rf.no hn, hw A1 σ H1 (f.go g1 so1) _ fun rs S2 A2 vs H2 hw2 g2 so2 rr => hw2 A2 σ H2 ((f.go g1 so1).go g2 so2) _ fun qs S3 A3 zs H3 ⟨l1, l2, hs⟩ g3 so3 rq => ⟨by rw [← rr.length]; exact l1, by rw [← rq.length]; exact l2, ?_⟩⟩
      have r0 := RepR.go (K := K) (r := .dat (.ins c fs)) (g2.trans g3) (.ins n hx rf)
      have g := (g1.trans g2).trans g3
      exact ⟨A3, S3, _, _, so3, reps_gK pk (.cons r0 (RepRs.go g3 rr)) (hd K A3 S3 H3) rq, hs, fun d S' v H' p g' so r => q _ S' A3 v H' p ⟨g.pre, g.gw.trans g'⟩ so r⟩
theorem wp_mkKJ {c : Str} {n m : Nat} {sd : Sd} (h : WpA K tl ρ S fun rs S1 => WpA K tk ρ S1 fun qs S2 => rs.length = n ∧ qs.length = m ∧ sd (rs ++ qs) S2 fun d S3 => Φ (.dat d) S3) :
    Wp K (tMakeKX (He.ga K c) n m (liftI0 K c sd) (fun vs zs => vs ++ zs) (fun _ => E0) tl tk) ρ S Φ := fun A σ H f Q q =>
  h A σ H f _ fun rs S1 A1 vs H1 hw g1 so1 rr => hw A1 σ H1 (f.go g1 so1) _ fun qs S2 A2 zs H2 ⟨l1, l2, hs⟩ g2 so2 rq => by
    refine ⟨by rw [← rr.length]; exact l1, by rw [← rq.length]; exact l2, fun x dx hx hdx ne => ?_⟩
    obtain ⟨so3, g3⟩ := mk_new (c := c) so2 hx hdx ne
    have g12 := g1.trans g2
    refine ⟨A2, S2, _, _, x, _, rfl, so3, reps_app (RepRs.go g3 (RepRs.go g2 rr)) (RepRs.go g3 rq), hs, fun fs S' H' p g so => ⟨rfl, ?_⟩⟩
    obtain ⟨so4, g4, r4⟩ := mk_end so
    exact q _ S' A2 _ H' p ⟨g12.pre, g12.gw.trans (g3.gw.trans (g.trans g4))⟩ so4 r4
end
end Dl
/-! Lists that change: insert and extend; the greatest of a list of whole numbers. -/
namespace L2
open PySem PySem.Spec PyProof.Rows _root_.Evl
/-- xs.insert(i, y), i a natural number -/
def rIns : V → List V → Hp → VK → Prop := fun x vs H Q => ∃ (l : Addr) (xs : List V) (i : Nat) (y : V), x = .ref l ∧ vs = [.int (i : Nat), y] ∧ H l = some (.lst xs) ∧ xs.length < 100000 ∧ i ≤ 100000 ∧ Q .non (upd H l (.lst (xs.take i ++ [y] ++ xs.drop i)))
theorem mt_ins {X : Cx} : MtR X "list.insert" rIns := by
  intro pins s σ H x vs v us Q I rx rv h
  obtain ⟨l, xs, i, y, rfl, rfl, hH, hz, h0, q⟩ := h
  exact mt_insert pins s σ H _ _ v us Q I rx rv ⟨l, xs, (i : Int), y, rfl, rfl, hH, sz_lt hz, by omega, by omega, q⟩
/-- a, b = x, y by way of a pair, one of them a thing of the store -/
def tTwo (te : TE) (g : TG) : TS := tAsg te g
theorem ps_two {X : Cx} {st : Stmt} {te : TE} {g : TG} (h : PS X st (tAsg te g)) : PS X st (tTwo te g) := h
end L2
namespace Dl
open PySem PySem.Spec PyProof.Rows L2 _root_.Evl
section
variable [Z : Zo] {K : PySem.W.Frag} {A A' A1 A2 : List Addr} {S S' S1 S2 : Store} {H H' H1 H2 : Hp} {ρ : List R} {σ : L2.St} {Φ : R → Store → Prop} {te tf ta tb tc : TE} {tl : TA} {t u : TS} {Nx Bk Ct : PR} {Rt : R → Store → Prop}
def InsTo (k : Nat) (x y : R) (S : Store) (Φ : Store → Prop) : Prop := ∃ (i : Nat) (d : D) (ds : List D), x = .dat (.int (i : Nat)) ∧ y = .dat d ∧ S[k]? = some (.ls ds) ∧ ds.length < 100000 ∧ i ≤ 100000 ∧ Φ (S.set k (.ls (ds.take i ++ [d] ++ ds.drop i)))
def ExtTo (k : Nat) (y : R) (S : Store) (Φ : Store → Prop) : Prop := ∃ (ds es : List D), y = .dat (.lst es) ∧ S[k]? = some (.ls ds) ∧ ds.length + es.length ≤ 100000 ∧ Φ (S.set k (.ls (ds ++ es)))
theorem ws_ins (h : Wp K ta ρ S fun o S1 => App o S1 fun k => Wp K te ρ S1 fun x S2 => Wp K tf ρ S2 fun y S3 => InsTo k x y S3 fun S4 => Nx ρ S4) : WpS K (tDrop (tBM K "list" rIns ta (tCons te (tCons tf tNil)))) ρ S Nx Rt Bk Ct := fun A σ H f D e =>
  h A σ H f _ fun o S1 A1 v H1 ⟨k, ds', eo, hk1, hw⟩ g1 so1 ro => by
    subst eo
    obtain ⟨a, ha, rfl⟩ := ro
    obtain ⟨xs', hx', _⟩ := so1.ok k a _ ha hk1
    refine ⟨Or.inl ⟨rfl, xs', sq_of hx'⟩, hw A1 σ H1 (f.go g1 so1) _ fun x S2 A2 u H2 hv g2 so2 rx => hv A2 σ H2 ((f.go g1 so1).go g2 so2) _ fun y S3 A3 w H3 ⟨i, d, ds, ex, ey, hk, lt, li, p⟩ g3 so3 ry => ?_⟩
    subst ex ey
    obtain rfl := rep_int rx
    have ha3 := pre_get g3.pre (pre_get g2.pre ha)
    obtain ⟨xs, hx, l⟩ := so3.ok k a _ ha3 hk
    obtain ⟨so4, g4⟩ := so3.put (m' := .ls (ds.take i ++ [d] ++ ds.drop i)) (o := .lst (xs.take i ++ [w] ++ xs.drop i)) ha3 hk nofun nofun fun X _ g => ⟨_, upd_same, (((RepL.go g l).take i).append (.cons (Rep.go g ry) .nil)).append ((RepL.go g l).drop i)⟩
    have G := (g1.trans g2).trans g3
    exact ⟨a, xs, i, w, rfl, rfl, hx, by rw [← l.length]; exact lt, li, e.nx ρ _ A3 σ _ p (G.trans g4) ⟨so4, (f.en.go G).go g4, Z.mono f.xo (G.trans g4)⟩⟩
theorem ws_ext (h : Wp K ta ρ S fun o S1 => App o S1 fun k => Wp K te ρ S1 fun y S2 => ExtTo k y S2 fun S3 => Nx ρ S3) : WpS K (tDrop (tBM K "list" rExtend ta (tCons te tNil))) ρ S Nx Rt Bk Ct := fun A σ H f D e =>
  h A σ H f _ fun o S1 A1 v H1 ⟨k, ds', eo, hk1, hw⟩ g1 so1 ro => by
    subst eo
    obtain ⟨a, ha, rfl⟩ := ro
    obtain ⟨xs', hx', _⟩ := so1.ok k a _ ha hk1
    refine ⟨Or.inl ⟨rfl, xs', sq_of hx'⟩, hw A1 σ H1 (f.go g1 so1) _ fun y S2 A2 w H2 ⟨ds, es, ey, hk, lt, p⟩ g2 so2 ry => ?_⟩
    subst ey
    have ha2 := pre_get g2.pre ha
    obtain ⟨xs, hx, l⟩ := so2.ok k a _ ha2 hk
    cases ry with
    | @lst b _ zs hb hz lz =>
      obtain ⟨so3, g3⟩ := so2.put (m' := .ls (ds ++ es)) (o := .lst (xs ++ zs)) ha2 hk nofun nofun fun X _ g => ⟨_, upd_same, (RepL.go g l).append (RepL.go g lz)⟩
      exact ⟨a, b, xs, zs, rfl, rfl, hx, hz, by rw [← l.length, ← lz.length]; exact Nat.le_trans lt (by decide), e.nx ρ _ A2 σ _ p ((g1.trans g2).trans g3) ⟨so3, (f.en.go (g1.trans g2)).go g3, Z.mono f.xo ((g1.trans g2).trans g3)⟩⟩
theorem ws_two {n i j : Nat} (hn : 2 = n) (h : WpA K tl ρ S fun rs S1 => Two rs fun a b => Nx ((ρ.set i a).set j b) S1) : WpS K (tTwo (tTup tl) (gTup K n (gCons (gName i) (gCons (gName j) gNil)))) ρ S Nx Rt Bk Ct := fun A σ H f D e =>
  h A σ H f _ fun rs S1 A1 vs H1 ⟨a, b, eq, p⟩ g so rr => by
    subst eq hn
    cases rr with
    | cons r1 rr =>
      cases rr with
      | cons r2 rr =>
        cases rr
        refine ⟨by show 2 ≤ _; decide, fun q hq => ⟨q, _, rfl, .inl (.inl upd_same), rfl, _, _, rfl, _, _, rfl, rfl, ?_⟩⟩
        exact e.nx _ S1 A1 _ _ p (g.trans (.ex (Ex.new hq))) ⟨so.ex (Ex.new hq), ((f.en.go (g.trans (.ex (Ex.new hq)))).set i (r1.go (.ex (Ex.new hq)))).set j (r2.go (.ex (Ex.new hq))), Z.mono f.xo (g.trans (.ex (Ex.new hq)))⟩
/-- list(xs) as a thing of the store -/
theorem wp_listM (h : WpA K tl ρ S fun rs S1 => OneR rs fun r => SqX r S1 fun ds => Φ (.mu S1.length) (S1 ++ [.ls ds])) : Wp K (tCB (fun xs H Q => ∃ p ys, xs = [.ref p] ∧ (SqL K H p ys ∨ SqT K H p ys) ∧ ∀ l, H l = none → Q (.ref l) (upd H l (.lst ys))) tl) ρ S Φ := fun A σ H f Q q =>
  wn_list (Φ := fun ds S' => Φ (.mu S'.length) (S' ++ [.ls ds])) h A σ H f Q fun ds S' A' p H' k g so => q _ _ _ _ _ k g so ⟨p, last_get (ln_back so), rfl⟩
/-- max(xs) of a list of whole numbers -/
theorem c_maxL {ds : List D} {ns : List Int} {m : Int} {Φ : R → Prop} (e : ds = ns.map .int) (h0 : m ∈ ns) (h1 : ∀ y ∈ ns, y ≤ m) (k : Φ (.dat (.int m))) : Cb K (rMax K) [.dat (.lst ds)] S Φ := cb_val (fun A H vs so rx => by
  subst e
  obtain ⟨v, rfl, r⟩ := reps1 rx
  obtain ⟨a, xs, rfl, sq, l⟩ := rep_lst r
  rw [repl_int l] at sq
  refine ⟨_, Rep.int m, fun Q q => ⟨a, ns, rfl, sq, List.length_pos_of_mem h0, fun m' h2 h3 => ?_⟩⟩
  have : m' = m := Int.le_antisymm (h1 m' h2) (h3 m h0)
  rw [this]
  exact q) k
end
end Dl
/-! != with a built-in kind on the left; both ways about; rows of truths; is not True. -/
namespace OwQ
open PySem PySem.W PySem.Spec PyProof.Rows
section
variable {prog : Program} {w : World} {A : Around} {E : Value → Shared → Prop} {s : Shared} {K : PySem.W.Frag} {x C f : Addr} {ox : Obj} {od : Option Obj} {b tb : Value} {P : Value → Shared → Prop}
theorem decN_none (h : P .notImplemented s) : wpAny (model prog w) A (call (.builtin "NoneType.__ne__") [.none, .ref x]) P E s := by
  refine wpAny_call_entry PySem.F.slot_NoneType_ne rfl PySem.F.entry_NoneType_ne ?_ (PySem.F.args_NoneType_ne_2 _ _)
  obtain ⟨hp, g, d, tk, os⟩ := s
  wp_walk
  exact ⟨_, rfl, h⟩
theorem decN_str {z : Str} {t : Tok} {dx : Addr} (hx : s.heap.get? x = some (instObj C dx)) (h : P .notImplemented s) : wpAny (model prog w) A (call (.builtin "str.__ne__") [.str z t, .ref x]) P E s := by
  refine wpAny_call_entry PySem.F.slot_str_ne (typeIs_str _ _ _) PySem.F.entry_str_ne ?_ (PySem.F.args_str_ne_2 _ _)
  obtain ⟨hp, g, d, tk, os⟩ := s
  wp_walk using AutoSeq1.wpAny_loadPart' hx
  exact ⟨_, rfl, h⟩
theorem decN_int {i : Int} {t : Tok} {dx : Addr} (hx : s.heap.get? x = some (instObj C dx)) (h : P .notImplemented s) : wpAny (model prog w) A (call (.builtin "int.__ne__") [.int i t, .ref x]) P E s := by
  refine wpAny_call_entry PySem.F.slot_int_ne (typeIs_int _ _ _) PySem.F.entry_int_ne ?_ (PySem.F.args_int_ne_2 _ _)
  obtain ⟨hp, g, d, tk, os⟩ := s
  wp_walk using AutoSeq1.wpAny_loadPart' hx
  exact ⟨_, rfl, h⟩
theorem decN_bool {b : Bool} {dx : Addr} (hx : s.heap.get? x = some (instObj C dx)) (h : P .notImplemented s) : wpAny (model prog w) A (call (.builtin "int.__ne__") [.bool b, .ref x]) P E s := by
  refine wpAny_call_entry PySem.F.slot_bool_ne rfl PySem.F.entry_int_ne ?_ (PySem.F.args_int_ne_2 _ _)
  obtain ⟨hp, g, d, tk, os⟩ := s
  wp_walk using AutoSeq1.wpAny_loadPart' hx
  exact ⟨_, rfl, h⟩
theorem decN_list {l : Addr} (hl : s.TypeIs (.ref l) "list") (X : K.In s.heap) (I : InstAt s.heap x ox C od) (hm : mroIn K C (.type "list") = some false) (h : P .notImplemented s) : wpAny (model prog w) A (call (.builtin "list.__ne__") [.ref l, .ref x]) P E s := by
  have hi : Looks (model prog w) s.heap (isInstance (.ref x) (.type "list")) false := I.type.andThen (looks_mroIn X hm)
  refine wpAny_call_entry PySem.F.slot_list_ne hl PySem.F.entry_list_ne ?_ (PySem.F.args_list_ne_2 _ _)
  refine wpAny_bind (m := slotArgs "__ne__" 1 _) (wpAny_pure ?_)
  refine wpAny_bind (m := isInstance (.ref x) (.type "list")) (hi.here ?_)
  exact wpAny_pure ⟨_, rfl, h⟩
theorem decN_tuple {l : Addr} (hl : s.TypeIs (.ref l) "tuple") (X : K.In s.heap) (I : InstAt s.heap x ox C od) (hm : mroIn K C (.type "tuple") = some false) (h : P .notImplemented s) : wpAny (model prog w) A (call (.builtin "tuple.__ne__") [.ref l, .ref x]) P E s := by
  have hi : Looks (model prog w) s.heap (isInstance (.ref x) (.type "tuple")) false := I.type.andThen (looks_mroIn X hm)
  refine wpAny_call_entry PySem.F.slot_tuple_ne hl PySem.F.entry_tuple_ne ?_ (PySem.F.args_tuple_ne_2 _ _)
  refine wpAny_bind (m := slotArgs "__ne__" 1 _) (wpAny_pure ?_)
  refine wpAny_bind (m := isInstance (.ref x) (.type "tuple")) (hi.here ?_)
  exact wpAny_pure ⟨_, rfl, h⟩
theorem decN_dict {l : Addr} (hl : s.TypeIs (.ref l) "dict") (X : K.In s.heap) (I : InstAt s.heap x ox C od) (hm : mroIn K C (.type "dict") = some false) (h : P .notImplemented s) : wpAny (model prog w) A (call (.builtin "dict.__ne__") [.ref l, .ref x]) P E s := by
  have hi : Looks (model prog w) s.heap (isInstance (.ref x) (.type "dict")) false := I.type.andThen (looks_mroIn X hm)
  refine wpAny_call_entry PySem.F.slot_dict_ne hl PySem.F.entry_dict_ne ?_ (PySem.F.args_dict_ne_2 _ _)
  refine wpAny_bind (m := Builtin.Dict.dictSlotArgs "__ne__" _) (wpAny_pure ?_)
  refine wpAny_bind (m := isInstance (.ref x) (.type "dict")) (hi.here ?_)
  exact wpAny_bind (wpAny_rule (wpAny_pure ⟨_, rfl, h⟩))
theorem try_ne {Q : Value → Shared → Prop} (hu : A.in1.units < cLine) (X : K.In s.heap) (I : InstAt s.heap x ox C od) (hne : findIn K (.ref C) "__ne__" = some (some (.builtin "object.__ne__"))) (hm : mroIn K C (.type "object") = some true) (hs : findIn K (.ref C) "__eq__" = some (some (.ref f))) (hf : isFn K (.ref f) = true)
    (h : wpAny (model prog w) A.in1 (call (.ref f) [.ref x, b]) (fun v s' => ∃ r, v = .bool r ∧ Q (.bool (!r)) s') E s) : wpAny (model prog w) A (tryCompare (.ref x) (cmpInfo .NotEq).2.2 b) (fun r s' => ∃ v, r = some v ∧ Q v s') E s := by
  unfold tryCompare
  refine wpAny_bind (ifBound_B X I hne PySem.F.slot_object_ne.bind (one_ne hu X I hm hs hf (wpAny_mono h (fun v s' hv => ?_) fun _ _ e => e)))
  obtain ⟨r, rfl, hq⟩ := hv
  exact ⟨r, rfl, wpAny_pure ⟨_, rfl, hq⟩⟩
end
end OwQ
namespace L2
open PySem PySem.Spec PyProof.Rows _root_.Evl
section
variable {X : Cx} {n : Nat} {C g : Addr} {R : Addr → V → Hp → Bool → Prop}
theorem rcN_ofX (c : OwnC X.K C) (m : Meth X.K C "__eq__" g) (F : FnR X.prog X.w X.K X.mg X.base CX0 n g (spEqE R)) : RcE X (n + 1) .NotEq (fun x y H b => DOfX X.K C R x y H (!b)) := by
  intro A pins s σ H x y u v b sb I rx ry d
  obtain ⟨a, dx, fs, T, rfl, ha, ty, hm, hr⟩ := d
  cases (show v = Value.ref a from ry)
  obtain ⟨mA, J0, _⟩ := ins_get I.hok ha
  have hx := J0.obj
  obtain ⟨od, J, _⟩ := J0.look
  obtain ⟨mm, hF⟩ := I.fr
  have back : wpAny (model X.prog X.w) A (tryCompare (.ref a) (cmpInfo .NotEq).2.2 u) (fun r s' => ∃ v, r = some v ∧ v = .bool b ∧ ∃ H', Inv X pins σ H' s' ∧ Ex H H') X.xe s := by
    refine OwQ.try_ne (Q := fun v s' => v = .bool b ∧ ∃ H', Inv X pins σ H' s' ∧ Ex H H') sb.in1.room.units0 I.kIn J c.ne c.is.hm m.at_ m.fn (wpAny_mono (own_runs F sb.in1 I rx hr) (fun r s' z => ?_) fun _ _ x => x)
    obtain ⟨rfl, z⟩ := z
    exact ⟨!b, rfl, by rw [Bool.not_not], z⟩
  have lst : ∀ {l : Addr}, s.TypeIs (.ref l) "list" → u = .ref l → T = "list" → wpAny (model X.prog X.w) A (richCompare .NotEq u (.ref a)) (fun r s' => r = .bool b ∧ ∃ H', Inv X pins σ H' s' ∧ Ex H H') X.xe s := fun {l} hT hu hTT => by
    subst hu hTT
    exact OwQ.right_K (op := .NotEq) sb.room.units0 hF I.ok.mod.kin J hT (c.sub hm) PySem.F.slot_list_ne (fun P h => OwQ.decN_list hT I.kIn J (c.mro hm) h) back
  have tup : ∀ {l : Addr}, s.TypeIs (.ref l) "tuple" → u = .ref l → T = "tuple" → wpAny (model X.prog X.w) A (richCompare .NotEq u (.ref a)) (fun r s' => r = .bool b ∧ ∃ H', Inv X pins σ H' s' ∧ Ex H H') X.xe s := fun {l} hT hu hTT => by
    subst hu hTT
    exact OwQ.right_K (op := .NotEq) sb.room.units0 hF I.ok.mod.kin J hT (c.sub hm) PySem.F.slot_tuple_ne (fun P h => OwQ.decN_tuple hT I.kIn J (c.mro hm) h) back
  have dct : ∀ {l : Addr}, s.TypeIs (.ref l) "dict" → u = .ref l → T = "dict" → wpAny (model X.prog X.w) A (richCompare .NotEq u (.ref a)) (fun r s' => r = .bool b ∧ ∃ H', Inv X pins σ H' s' ∧ Ex H H') X.xe s := fun {l} hT hu hTT => by
    subst hu hTT
    exact OwQ.right_K (op := .NotEq) sb.room.units0 hF I.ok.mod.kin J hT (c.sub hm) PySem.F.slot_dict_ne (fun P h => OwQ.decN_dict hT I.kIn J (c.mro hm) h) back
  cases ty with
  | base b =>
    cases b with
    | non =>
      cases (show u = Value.none from rx)
      exact OwQ.right_K (op := .NotEq) sb.room.units0 hF I.ok.mod.kin J rfl (c.sub hm) PySem.F.slot_NoneType_ne (fun P h => OwQ.decN_none h) back
    | bl y =>
      cases (show u = Value.bool y from rx)
      exact OwQ.right_K (op := .NotEq) sb.room.units0 hF I.ok.mod.kin J rfl (c.sub hm) PySem.F.slot_bool_ne (fun P h => OwQ.decN_bool hx h) back
    | int i =>
      obtain ⟨t, e⟩ := (show ∃ t, u = Value.int i t from rx)
      cases e
      exact OwQ.right_K (op := .NotEq) sb.room.units0 hF I.ok.mod.kin J (typeIs_int _ _ _) (c.sub hm) PySem.F.slot_int_ne (fun P h => OwQ.decN_int hx h) back
    | str z =>
      obtain ⟨t, e⟩ := (show ∃ t, u = Value.str z t from rx)
      cases e
      exact OwQ.right_K (op := .NotEq) sb.room.units0 hF I.ok.mod.kin J (typeIs_str _ _ _) (c.sub hm) PySem.F.slot_str_ne (fun P h => OwQ.decN_str hx h) back
    | flt y => exact absurd hm (by decide)
    | @lst l xs ea =>
      obtain ⟨_, _, k, _, h1⟩ := (show ObjOk X.prog X.w H s.heap l (.lst xs) from I.hok l _ ea)
      exact lst ⟨_, h1, rfl⟩ rx rfl
    | @frz l ob xs ea =>
      obtain ⟨_, _, _, n, _, h1⟩ := (show ObjOk X.prog X.w H s.heap l (.frz ob (.lst xs)) from I.hok l _ ea)
      exact lst ⟨_, h1, rfl⟩ rx rfl
    | @tup l xs ea =>
      obtain ⟨_, _, _, o, h1, h2, _⟩ := (show ObjOk X.prog X.w H s.heap l (.tup xs) from I.hok l _ ea)
      exact tup ⟨_, h1, h2⟩ rx rfl
    | @dK l kvs ea =>
      obtain ⟨_, _, vs, _, o, es, ep, h1, h2, _⟩ := (show ObjOk X.prog X.w H s.heap l (.dK kvs) from I.hok l _ ea)
      exact dct ⟨_, h1, h2.1⟩ rx rfl
    | @dT l kvs ea =>
      obtain ⟨_, _, vs, _, o, es, ep, h1, h2, _⟩ := (show ObjOk X.prog X.w H s.heap l (.dT kvs) from I.hok l _ ea)
      exact dct ⟨_, h1, h2.1⟩ rx rfl
  | byt y => exact absurd hm (by decide)
  | set e => exact absurd hm (by decide)
  | @kList l o e c => exact lst ⟨o, I.kIn l o e, c⟩ rx rfl
  | @kTuple l o e c => exact tup ⟨o, I.kIn l o e, c⟩ rx rfl
  | @kDict l o e c => exact dct ⟨o, I.kIn l o e, c⟩ rx rfl
  | @fTuple l ob xs ea =>
    obtain ⟨_, _, _, _, o, h1, h2, _⟩ := (show ObjOk X.prog X.w H s.heap l (.frz ob (.tup xs)) from I.hok l _ ea)
    exact tup ⟨o, h1, h2⟩ rx rfl
  | @fDict l ob kvs ea =>
    obtain ⟨_, _, _, vs, _, o, es, ep, h1, h2, _⟩ := (show ObjOk X.prog X.w H s.heap l (.frz ob (.dK kvs)) from I.hok l _ ea)
    exact dct ⟨_, h1, h2.1⟩ rx rfl
/-- x is True, x is not True, x a truth -/
def rIsT : R2 := fun x y H Q => ∃ b : Bool, x = .bl b ∧ y = .bl true ∧ Q (.bl b) H
def rNotT : R2 := fun x y H Q => ∃ b : Bool, x = .bl b ∧ y = .bl true ∧ Q (.bl (!b)) H
theorem op_isT {X : Cx} : OpR X (compareOp .Is) rIsT := by
  intro pins s σ H x y v u Q I rx ry h
  obtain ⟨b, rfl, rfl, q⟩ := h
  cases (show v = Value.bool b from rx)
  cases (show u = Value.bool true from ry)
  cases b with
  | true => exact wpAny_is_self rfl ⟨.bl true, H, I, rfl, q⟩
  | false => exact wpAny_is_other rfl nofun ⟨.bl false, H, I, rfl, q⟩
theorem op_notT {X : Cx} : OpR X (compareOp .IsNot) rNotT := by
  intro pins s σ H x y v u Q I rx ry h
  obtain ⟨b, rfl, rfl, q⟩ := h
  cases (show v = Value.bool b from rx)
  cases (show u = Value.bool true from ry)
  cases b with
  | true => exact wpAny_isNot_self rfl ⟨.bl false, H, I, rfl, q⟩
  | false => exact wpAny_isNot_other rfl nofun ⟨.bl true, H, I, rfl, q⟩
end
end L2
namespace Dl
open PySem PySem.Spec PyProof.Rows L2 _root_.Evl
section
variable {K : PySem.W.Frag} {c : Str} {g : D → D → Bool → Prop}
/-- an instance of c, on either side -/
def DAB (K : PySem.W.Frag) (c : Str) (g : D → D → Bool → Prop) : EqR := fun x y H b => DA K c g x y H b ∨ DB K c x y H b
def DABn (K : PySem.W.Frag) (c : Str) (g : D → D → Bool → Prop) : EqR := fun x y H b => DA K c g x y H (!b) ∨ DB K c x y H (!b)
theorem cab_l {d e : D} {b : Bool} (h : CmpO K (DA K c g) d e b) : CmpO K (DAB K c g) d e b := fun H v w h1 h2 => .inl (h H v w h1 h2)
theorem cab_r {d : D} {fs : List (Str × D)} {T : String} (h : d.ty? = some T) (hm : T ∈ kindsT) : CmpO K (DAB K c g) d (.ins c fs) false := fun H v w h1 h2 => .inr (cmp_off h hm H v w h1 h2)
theorem cab_n {d e : D} {b : Bool} (h : CmpO K (DAB K c g) d e b) : CmpO K (DABn K c g) d e (!b) := fun H v w h1 h2 => by
  show DA K c g v w H (!(!b)) ∨ DB K c v w H (!(!b))
  rw [Bool.not_not]
  exact h H v w h1 h2
end
section
variable {X : Cx} {n : Nat} {c : Str} {g : D → D → Bool → Prop} {xs ps : List Str} {sfx : List (List V)}
theorem neB (cf : ClF X.K c xs) (m : Meth X.K (He.ga X.K c) "__eq__" (He.ma X.K (He.ga X.K c) "__eq__")) (D : Dm X.prog X.w X.K X.mg X.base CX0 n c "__eq__" ps sfx (lift X.K (sdE X.K c g))) (hu : [] ∈ sfx := by decide) : RcE X (n + 1) .NotEq (fun x y H b => DB X.K c x y H (!b)) := (rcN_ofX cf.own m (dmEq D hu)).imp fun _ _ _ _ h => db_of h
theorem rcAB (cf : ClF X.K c xs) (m : Meth X.K (He.ga X.K c) "__eq__" (He.ma X.K (He.ga X.K c) "__eq__")) (D : Dm X.prog X.w X.K X.mg X.base CX0 n c "__eq__" ps sfx (lift X.K (sdE X.K c g))) (hu : [] ∈ sfx := by decide) : RcE X n .Eq (DAB X.K c g) := (rcA cf m D hu).or (rcB cf m D hu)
theorem neAB (cf : ClF X.K c xs) (m : Meth X.K (He.ga X.K c) "__eq__" (He.ma X.K (He.ga X.K c) "__eq__")) (D : Dm X.prog X.w X.K X.mg X.base CX0 n c "__eq__" ps sfx (lift X.K (sdE X.K c g))) (hu : [] ∈ sfx := by decide) : RcE X (n + 1) .NotEq (DABn X.K c g) := (neA cf m D hu).or (neB cf m D hu)
end
section
variable {K : PySem.W.Frag} {A A' A1 A2 : List Addr} {S S' S1 S2 : Store} {H H' H1 H2 : Hp} {X : Addr → Prop} {Φ : R → Prop}
theorem o_isT {b : Bool} (k : Φ (.dat (.bl b))) : Op2 K rIsT (.dat (.bl b)) (.dat (.bl true)) S Φ := op2_val (fun A H v w so rx ry => by
  obtain rfl := rep_bl rx
  obtain rfl := rep_bl ry
  exact ⟨_, Rep.bl _, fun Q q => ⟨b, rfl, rfl, q⟩⟩) k
theorem o_notT {b : Bool} (k : Φ (.dat (.bl (!b)))) : Op2 K rNotT (.dat (.bl b)) (.dat (.bl true)) S Φ := op2_val (fun A H v w so rx ry => by
  obtain rfl := rep_bl rx
  obtain rfl := rep_bl ry
  exact ⟨_, Rep.bl _, fun Q q => ⟨b, rfl, rfl, q⟩⟩) k
/-! rows of truths -/
theorem eqOk_bls : ∀ ns : List Bool, eqOkL (ns.map .bl) = true
  | [] => by rw [List.map_nil, eqOkL]
  | n :: ns => by rw [List.map_cons, eqOkL, eqOk, eqOk_bls ns]; rfl
theorem pyL_bls : ∀ ns : List Bool, pyL (ns.map .bl) = ns.map .bool
  | [] => by rw [List.map_nil, pyL]; rfl
  | n :: ns => by rw [List.map_cons, pyL, pyD, pyL_bls ns]; rfl
theorem lay_bls : ∀ ns : List Bool, PyData.canLayAll0 (ns.map .bool) = true
  | [] => by rw [List.map_nil, PyData.canLayAll0]
  | n :: ns => by rw [List.map_cons, PyData.canLayAll0, PyData.canLay0, lay_bls ns]; rfl
theorem depth_bls : ∀ ns : List Bool, PyData.depthAll (ns.map .bool) = 0
  | [] => by rw [List.map_nil, PyData.depthAll]
  | n :: ns => by rw [List.map_cons, PyData.depthAll, PyData.depth, depth_bls ns]; rfl
theorem eqv_bls : ∀ ns ms : List Bool, PyData.eqvAll (ns.map .bool) (ms.map .bool) = decide (ns = ms)
  | [], [] => by rw [List.map_nil, PyData.eqvAll]; rfl
  | [], m :: ms => by rw [List.map_nil, List.map_cons, PyData.eqvAll]; rfl
  | n :: ns, [] => by rw [List.map_nil, List.map_cons, PyData.eqvAll]; rfl
  | n :: ns, m :: ms => by
    rw [List.map_cons, List.map_cons, PyData.eqvAll, PyData.eqv, eqv_bls ns ms]
    cases n <;> cases m <;> simp
theorem shp_lB (ns : List Bool) : SeqAt.shaped (.list (ns.map .bool)) = true := by
  unfold SeqAt.shaped
  rw [PyData.canLay0, lay_bls, PyData.depth, depth_bls]
  rfl
theorem o_eqLB {r1 r2 : R} {ns ms : List Bool} (h1 : LsR S r1 (ns.map .bl)) (h2 : LsR S r2 (ms.map .bl)) (k : Φ (.dat (.bl (decide (ns = ms))))) : Op2 K (rEqD K) r1 r2 S Φ := op2_val (fun A H v w so rx ry => by
  obtain ⟨a, xs, rfl, hx, l⟩ := h1.rep so rx
  obtain ⟨b, ys, rfl, hy, l'⟩ := h2.rep so ry
  have d1 := repl_dp l (eqOk_bls ns)
  have d2 := repl_dp l' (eqOk_bls ms)
  rw [pyL_bls] at d1 d2
  refine ⟨_, Rep.bl _, fun Q q => ⟨_, _, .lst (sq_of hx) d1, .lst (sq_of hy) d2, shp_lB _, shp_lB _, ?_⟩⟩
  rw [PyData.eqv, eqv_bls]
  exact q) k
theorem st_two {m m' x : MO} : (S ++ [m] ++ [x]).set S.length m' = S ++ [m'] ++ [x] := by
  rw [List.append_assoc, List.set_append_right _ _ (Nat.le_refl _), Nat.sub_self, List.append_assoc]
  rfl
theorem st_twoN {m m' x : MO} {n : Nat} (h : S.length = n) : (S ++ [m] ++ [x]).set n m' = S ++ [m'] ++ [x] := by
  subst h
  exact st_two
theorem st_get {m x : MO} : (S ++ [m] ++ [x])[S.length]? = some m := by
  rw [List.append_assoc, List.getElem?_append_right (Nat.le_refl _), Nat.sub_self]
  rfl
end
end Dl
namespace Dl
open PySem PySem.Spec PyProof.Rows L2 _root_.Evl
section
variable [Z : Zo] {K : PySem.W.Frag} {ρ : List R} {S : Store} {Φ : R → Store → Prop} {te : TE} {tt : TT} {wi : TI} {g : TG}
/-- some turns give nothing, and the store may be read -/
theorem wp_lcS {vs : List Nat} (h : WpI K wi ρ S fun ds S1 => ∃ es : List (Option D), es.length = ds.length ∧ ds.length < 100000 ∧ (∀ (i : Nat) (d : D) (e : Option D) (acc : List D), ds[i]? = some d → es[i]? = some e → WpGc K g (.dat d) (wipeR ρ vs) (S1 ++ [.ls acc]) vs fun ρ2 =>
      ∀ Φ : Bool → Store → Prop, Φ e.isSome (S1 ++ [.ls acc]) → WpT K tt ρ2 (S1 ++ [.ls acc]) Φ ∧ ∀ y, e = some y → ∀ Φ : R → Store → Prop, Φ (.dat y) (S1 ++ [.ls acc]) → Wp K te ρ2 (S1 ++ [.ls acc]) Φ) ∧ Φ (.dat (.lst (es.filterMap id))) S1) : Wp K (tLc wi g tt te vs) ρ S Φ :=
  wp_lc fun A σ H f Q q => h A σ H f Q fun ds S1 A1 J H1 ⟨es, el, lt, st, k⟩ => q ds S1 A1 J H1 ⟨fun i acc S' => acc = (es.take i).filterMap id ∧ S' = S1, ⟨by simp, rfl⟩, ⟨fun i d acc S' hd hl ⟨ea, e2⟩ => by
    subst ea e2
    have li := (List.getElem?_eq_some_iff.mp hd).1
    have le : i < es.length := by omega
    have ll : ((es.take i).filterMap id).length ≤ i := by
      have h1 := List.length_filterMap_le id (es.take i)
      rw [List.length_take] at h1
      omega
    have tk : es.take (i + 1) = es.take i ++ [es[i]] := by
      rw [List.take_succ, List.getElem?_eq_getElem le]
      rfl
    refine ⟨by omega, fun A σ H v f rr Q q => st i d es[i] _ hd (List.getElem?_eq_getElem le) A σ H v f rr Q fun ρ2 σ2 k2 => q ρ2 σ2 ((k2 _ ?_).1)⟩
    refine ⟨fun hs => ?_, fun hs => ?_⟩
    · obtain ⟨y, ey⟩ := Option.isSome_iff_exists.mp hs
      refine (k2 (fun _ _ => True) trivial).2 y ey _ ⟨y, S', rfl, rfl, rfl, ?_, rfl⟩
      rw [tk, List.filterMap_append, ey]
      rfl
    · have ey : es[i] = none := by simpa using hs
      refine ⟨S', rfl, rfl, ?_, rfl⟩
      rw [tk, List.filterMap_append, ey]
      simp⟩, fun acc S' _ ⟨ea, e2⟩ => by
    subst ea e2
    rw [← el, List.take_length]
    exact k⟩
theorem wg_lst3 {n : Nat} {gs : TGs} {a b c : D} {Φ2 : List R → Store → Prop} (hn : 3 = n) (h : WpGs K gs [.dat a, .dat b, .dat c] ρ S Φ2) : WpG K (gLst K n gs) (.dat (.lst [a, b, c])) ρ S Φ2 := wg_lst hn h
theorem rr_two {Φ : D → Store → Prop} {d : D} {n : Nat} {a b : MO} (h : S.length = n) (k : Φ d S) : retR Φ n (.dat d) (S ++ [a] ++ [b]) := by
  rw [List.append_assoc]
  exact rr_cut h k
end
end Dl
/-! xs[i::j]; sorted(xs) of whole numbers. -/
namespace L2
open PySem PySem.Spec PyProof.Rows _root_.Evl
def stepIx (n i j : Nat) : List Nat := sliceRange (sliceBounds (some (i : Int)) none (some (j : Int)) n).1 (sliceBounds (some (i : Int)) none (some (j : Int)) n).2.1 (sliceBounds (some (i : Int)) none (some (j : Int)) n).2.2
def pickS {α : Type} (xs : List α) (i j : Nat) : List α := (stepIx xs.length i j).filterMap (xs[·]?)
theorem pickS_len {α : Type} (xs : List α) (i j : Nat) (hj : 0 < j) : (pickS xs i j).length ≤ xs.length := by
  unfold pickS stepIx
  refine Nat.le_trans (List.length_filterMap_le _ _) (sliceRange_length_le _ _ _ _ (fun hc => ?_) fun hc => ?_)
  · simp only [sliceBounds] at hc ⊢
    simp only [hc, if_true]
    constructor
    · show (0 : Int) ≤ max 0 _
      omega
    · omega
  · have : (sliceBounds (some (i : Int)) none (some (j : Int)) xs.length).2.2 = (j : Int) := rfl
    omega
theorem stepIx_eq {n i j s : Nat} (hn : n = s * j) (hi : i < j) (hs : 0 < s) : stepIx n i j = (List.range s).map fun k => i + k * j := by
  have hj : 0 < j := by omega
  have hin : i < n := by
    rw [hn]
    exact Nat.lt_of_lt_of_le hi (Nat.le_mul_of_pos_left _ hs)
  have b : sliceBounds (some (i : Int)) none (some (j : Int)) n = ((i : Int), (n : Int), (j : Int)) := by
    simp only [sliceBounds, Option.getD_some]
    rw [if_pos (show ((j : Int) > 0) by omega), if_pos (show ((j : Int) > 0) by omega), if_neg (show ¬ ((i : Int) < 0) by omega)]
    congr 1
    omega
  unfold stepIx
  rw [b]
  unfold sliceRange
  have c : ((n : Int) - (i : Int) + (j : Int) - 1) / (j : Int) = (s : Int) := by
    have e : (n : Int) - (i : Int) + (j : Int) - 1 = ((j - 1 - i : Nat) : Int) + (s : Int) * (j : Int) := by
      rw [hn, Int.natCast_mul]
      omega
    rw [e, Int.add_mul_ediv_right _ _ (by omega), Int.ediv_eq_zero_of_lt (by omega) (by omega)]
    omega
  show List.map _ (List.range (Int.toNat (if (j : Int) > 0 then if (i : Int) < (n : Int) then ((n : Int) - (i : Int) + (j : Int) - 1) / (j : Int) else 0 else _))) = _
  rw [if_pos (by omega), if_pos (by omega), c]
  show List.map _ (List.range s) = _
  refine List.map_congr_left fun k _ => ?_
  show ((i : Int) + (j : Int) * (k : Int)).toNat = i + k * j
  rw [← Int.natCast_mul, ← Int.natCast_add, Int.toNat_natCast, Nat.mul_comm]
theorem pickS_get {α : Type} {xs : List α} {i j s : Nat} (hn : xs.length = s * j) (hi : i < j) (hs : 0 < s) (f : Nat → α) (hf : ∀ k, k < s → xs[i + k * j]? = some (f k)) : pickS xs i j = (List.range s).map f := by
  unfold pickS
  rw [stepIx_eq hn hi hs, List.filterMap_map]
  have : ∀ L : List Nat, (∀ k ∈ L, k < s) → L.filterMap ((xs[·]?) ∘ fun k => i + k * j) = L.map f := fun L => by
    induction L with
    | nil => intro _; rfl
    | cons a L ih =>
      intro h
      rw [List.filterMap_cons, List.map_cons, ih fun k hk => h k (List.mem_cons_of_mem _ hk)]
      show (match xs[i + a * j]? with | none => _ | some b => _) = _
      rw [hf a (h a List.mem_cons_self)]
  exact this _ fun k hk => List.mem_range.mp hk
theorem vals_pickS {xs : List V} {us : List Value} (r : Vals xs us) (L : List Nat) : Vals (L.filterMap (xs[·]?)) (L.filterMap (us[·]?)) := by
  induction L with
  | nil => exact .nil
  | cons a L ih =>
    have hl := r.length
    rw [List.filterMap_cons, List.filterMap_cons]
    cases e : xs[a]? with
    | none =>
      have : us[a]? = none := by
        rw [List.getElem?_eq_none_iff] at e ⊢
        omega
      rw [this]
      exact ih
    | some x =>
      obtain ⟨u, hu, ru⟩ := r.get e
      rw [hu]
      exact .cons ru ih
def tStepL (K : PySem.W.Frag) (te : TE) (tf ts : TO) : TE := fun σ H Q => te σ H fun x H1 => tf σ H1 fun o H2 => ts σ H2 fun c H3 => ∃ (a : Addr) (xs : List V) (i j : Nat), x = .ref a ∧ o = some (i : Int) ∧ c = some (j : Int) ∧ 0 < j ∧ SqL K H3 a xs ∧ ∀ p, H3 p = none → Q (.ref p) (upd H3 p (.lst (pickS xs i j)))
theorem pe_step {X : Cx} {e fe se : Expr} {te : TE} {tf ts : TO} {p3 pos : Pos} (he : PE X e te) (hf : PO X (some fe) tf) (hst : PO X (some se) ts) (hb : ∀ v u, subscripted (.Slice (some fe) none (some se) p3) false v u = operate [v, u] (getItem v u) := by (intros; with_unfolding_all rfl)) : PE X (.Subscript e (.Slice (some fe) none (some se) p3) pos) (tStepL X.K te tf ts) := by
  refine ⟨fun pins s σ H Q I h => ?_⟩
  refine Subscript_ (thn (he.run pins s σ H _ I h) fun v s1 ⟨x, H1, I1, r1, q1⟩ => ?_)
  refine wpAny_Slice (thn (hf.run pins s1 σ H1 _ I1 q1) fun vl s2 ⟨l, H2, I2, pl, q2⟩ => ?_)
  refine thn (po_none.run pins s2 σ H2 (fun o H3 => o = none ∧ H3 = H2) I2 ⟨rfl, rfl⟩) fun vu s3 ⟨u, H3, I3, pu, eu, e3⟩ => ?_
  subst eu e3
  refine thn (hst.run pins s3 σ H3 _ I3 q2) fun vs s4 ⟨o, H4, I4, ps, q4⟩ => ?_
  obtain ⟨a, xs, i, j, ex, el, eo, hj, hx, q⟩ := q4
  subst ex el eo
  cases r1
  have I5 : Inv X pins σ H4 { s4 with heap := s4.heap.push { cls := .type "slice", data := .fields #[vl, vu, vs] } } := I4.kept (t' := s4.toks) fun b ob q => Heap.get?_push_of_some _ q
  obtain ⟨its, r, ht, hz⟩ := I5.list hx
  have hlen := r.length
  show wpAny (model X.prog X.w) X.A (subscriptTail e (.Slice (some fe) none (some se) p3) (.ref a) (.ref s4.heap.objs.size)) (EP X pins σ Q) X.xe { s4 with heap := s4.heap.push { cls := .type "slice", data := .fields #[vl, vu, vs] } }
  refine tail_any (ops := [.ref a, .ref s4.heap.objs.size]) ht.isList.typeIs (PySem.slot_list_getitem.lookup) ?_ (hb _ _)
  refine wpAny_getItem_list_slice ht.isList (Heap.IsSliceOf.new _ vl vu vs) pl pu ps (by intro z; injection z with z; omega) ?_ (by rw [List.size_toArray]; omega)
  have ep : slicePick its.toArray (some (i : Int)) none (some (j : Int)) = ((stepIx its.length i j).filterMap (its[·]?)).toArray := by
    unfold slicePick stepIx
    rw [List.size_toArray]
    congr 1
    have : (fun x : Nat => its.toArray[x]?) = fun x : Nat => its[x]? := by
      funext x
      exact List.getElem?_toArray ..
    rw [this]
  rw [ep]
  have rp : Vals (pickS xs i j) ((stepIx its.length i j).filterMap (its[·]?)) := by
    unfold pickS
    rw [hlen]
    exact vals_pickS r _
  refine ⟨.ref _, _, I5.laid (t' := s4.toks) (o := .lst (pickS xs i j)) (fun b ob q => Heap.get?_push_of_some _ q) (Nat.le_refl _) ?_, rfl, q _ (I5.hok.fresh (Nat.le_refl _))⟩
  exact ⟨Nat.le_trans (pickS_len xs i j hj) hz, _, 0, rp, Heap.get?_push_size _ rfl⟩
end L2
namespace Dl
open PySem PySem.Spec PyProof.Rows L2 _root_.Evl
section
variable [Z : Zo] {K : PySem.W.Frag} {X : Addr → Prop} {A : List Addr} {S : Store} {H : Hp} {ρ : List R} {Φ : R → Store → Prop} {te : TE}
theorem RepL.pick {ds : List D} {xs : List V} (l : RepL K X H ds xs) (L : List Nat) : RepL K X H (L.filterMap (ds[·]?)) (L.filterMap (xs[·]?)) := by
  induction L with
  | nil => exact .nil
  | cons a L ih =>
    have hl := l.length
    rw [List.filterMap_cons, List.filterMap_cons]
    cases e : ds[a]? with
    | none =>
      have : xs[a]? = none := by
        rw [List.getElem?_eq_none_iff] at e ⊢
        omega
      rw [this]
      exact ih
    | some d =>
      obtain ⟨v, hv, rv⟩ := l.get e
      rw [hv]
      exact .cons rv ih
theorem wp_step {tf ts : TO} (h : Wp K te ρ S fun r S1 => WpO K tf ρ S1 fun o S2 => WpO K ts ρ S2 fun c S3 => ∃ (ds : List D) (i j : Nat), LsR S3 r ds ∧ o = some (i : Int) ∧ c = some (j : Int) ∧ 0 < j ∧ Φ (.dat (.lst (pickS ds i j))) S3) : Wp K (tStepL K te tf ts) ρ S Φ := fun A σ H f Q q =>
  h A σ H f _ fun r S1 A1 v1 H1 hf g1 so1 r1 => hf A1 σ H1 (f.go g1 so1) _ fun o S2 A2 H2 hs g2 so2 => hs A2 σ H2 ((f.go g1 so1).go g2 so2) _ fun c S3 A3 H3 ⟨ds, i, j, hl, eo, ec, hj, k⟩ g3 so3 => by
    obtain ⟨a, xs, e, hx, l⟩ := hl.rep so3 ((r1.go g2).go g3)
    refine ⟨a, xs, i, j, e, eo, ec, hj, sq_of hx, fun p hp => q _ S3 A3 _ _ k (((g1.trans g2).trans g3).trans (.ex (Ex.new hp))) (so3.ex (Ex.new hp)) ?_⟩
    have z := (RepL.go (X' := Lv A3 S3) (Gw.ex (Ex.new (o := .lst (pickS xs i j)) hp)) l).pick (stepIx ds.length i j)
    refine .lst (so3.new hp) upd_same (?_ : RepL K (Lv A3 S3) _ (pickS ds i j) (pickS xs i j))
    unfold pickS at z ⊢
    rw [← l.length] at z ⊢
    exact z
theorem c_sortedI {r : R} {ns : List Int} {Φ : R → Prop} (h : LsR S r (ns.map .int)) (k : ∀ ns' : List Int, ns'.Perm ns → ns'.Pairwise (· ≤ ·) → Φ (.dat (.lst (ns'.map .int)))) : Cb K (rSortedI K) [r] S Φ := fun A H vs so rx Q q => by
  obtain ⟨v, rfl, rr⟩ := reps1 rx
  obtain ⟨a, xs, rfl, hx, l⟩ := h.rep so rr
  rw [repl_int l] at hx
  refine ⟨a, ns, rfl, sq_of hx, fun ns' p hp hs hn => q _ _ _ (k ns' hp hs) (Ex.new hn) ?_⟩
  refine .lst (so.new hn) upd_same ?_
  have : ∀ ms : List Int, RepL K (Lv A S) (upd H p (.lst (ns'.map V.int))) (ms.map .int) (ms.map .int) := fun ms => by
    induction ms with
    | nil => exact .nil
    | cons a ms ih => exact .cons (.int a) ih
  exact this ns'
end
end Dl
namespace Dl
open PySem PySem.Spec PyProof.Rows L2 _root_.Evl
section
variable [Z : Zo] {K : PySem.W.Frag} {A : List Addr} {S : Store} {H : Hp} {ρ : List R} {σ : L2.St} {tl : TA}
/-- enumerate(list), a list as data -/
theorem wi_enumL {Φ : List D → Store → Prop} (h : WpA K tl ρ S fun rs S1 => ∃ xs, rs = [.dat (.lst xs)] ∧ Φ (enumD xs) S1) : WpI K (iEnum K tl) ρ S Φ := fun A σ H f Q q =>
  h A σ H f _ fun rs S1 A1 vs H1 ⟨xs, e, k⟩ g1 so1 rr => by
    subst e
    obtain ⟨v, rfl, r1⟩ := reps1 rr
    obtain ⟨a, us, rfl, s1, l1⟩ := rep_lst r1
    refine ⟨a, us, rfl, s1, q _ S1 A1 _ H1 k g1 so1 fun X' H' g dom => ?_⟩
    obtain ⟨us', s', l'⟩ : ∃ us', SqL K H' a us' ∧ RepL K X' H' xs us' := by
      obtain ⟨a', us', e, s', l'⟩ := rep_lst (Rep.go g r1)
      cases e
      exact ⟨us', s', l'⟩
    refine ⟨fun i d hd => ?_, ⟨us', s', ?_⟩⟩
    · obtain ⟨x, hx, rfl⟩ := en_get hd
      obtain ⟨y, hy, ry⟩ := l'.get hx
      refine ⟨⟨us', y, s', hy⟩, fun v H'' z => ?_⟩
      obtain ⟨T, x', rfl, hT, rfl, z1⟩ := z
      have q1 := z1 us' s'
      rw [hy] at q1
      cases q1
      have nT : ¬ X' T := fun z => dom T z hT
      have gx : Gw X' H' X' (upd H' T (.tup [.int (i : Nat), y])) := .ex (Ex.new hT)
      exact ⟨Ex.new hT, .tup nT (.inl upd_same) (.cons (.int _) (.cons (Rep.go gx ry) .nil))⟩
    · rw [en_len]
      exact Nat.le_of_eq l'.length.symm
end
end Dl
/-! whole numbers and texts in lists; sums of lists that change. -/
namespace Dl
open PySem PySem.Spec PyProof.Rows L2 _root_.Evl
section
variable [Z : Zo] {K : PySem.W.Frag} {A : List Addr} {S : Store} {H : Hp} {ρ : List R} {Φ1 : R → Prop} {Φ : R → Store → Prop} {ta te : TE}
theorem eqV_int (a b : Int) : eqV (.int a) (.int b) = decide (a = b) := by
  show (a == b) = _
  by_cases h : a = b
  · subst h
    simp
  · simp [h]
theorem eqV_str (a b : Str) : eqV (.str a) (.str b) = decide (a = b) := by
  show (a == b) = _
  by_cases h : a = b
  · subst h
    simp
  · simp [h]
theorem wp_idxI (h : Wp K ta ρ S fun o S1 => ∃ ns : List Int, LsR S1 o (ns.map .int) ∧ Wp K te ρ S1 fun y S2 => ∃ (i : Int) (j : Nat), LsR S2 o (ns.map .int) ∧ y = .dat (.int i) ∧ ns[j]? = some i ∧ (∀ m, m < j → ns[m]? ≠ some i) ∧ Φ (.dat (.int (j : Nat))) S2) : Wp K (tBM K "list" (rIndex K) ta (tCons te tNil)) ρ S Φ := fun A σ H f Q q =>
  h A σ H f _ fun o S1 A1 v H1 ⟨ns, hl1, hw⟩ g1 so1 ro => by
    obtain ⟨a, xs, rfl, hx, l⟩ := hl1.rep so1 ro
    refine ⟨Or.inl ⟨rfl, _, sq_of hx⟩, hw A1 σ H1 (f.go g1 so1) _ fun y S2 A2 w H2 ⟨i, j, hl, ey, hj, hm, k⟩ g2 so2 ry => ?_⟩
    subst ey
    obtain rfl := rep_int ry
    obtain ⟨a', ys, ea, hy, l2⟩ := hl.rep so2 (ro.go g2)
    cases ea
    rw [repl_int l2] at hy
    refine ⟨a, _, .int i, j, .int i, rfl, rfl, sq_of hy, rfl, flat_ints ns, by rw [List.getElem?_map, hj]; rfl, by rw [eqV_int]; exact decide_eq_true rfl, fun m z' lm e => ?_, q _ S2 A2 _ H2 k (g1.trans g2) so2 (.int _)⟩
    rw [List.getElem?_map] at e
    cases e3 : ns[m]? with
    | none => rw [e3] at e; cases e
    | some x =>
      rw [e3] at e
      cases e
      rw [eqV_int]
      exact decide_eq_false fun z => hm m lm (by rw [e3, z])
theorem wp_idxS (h : Wp K ta ρ S fun o S1 => ∃ ns : List Str, LsR S1 o (ns.map .str) ∧ Wp K te ρ S1 fun y S2 => ∃ (i : Str) (j : Nat), LsR S2 o (ns.map .str) ∧ y = .dat (.str i) ∧ ns[j]? = some i ∧ (∀ m, m < j → ns[m]? ≠ some i) ∧ Φ (.dat (.int (j : Nat))) S2) : Wp K (tBM K "list" (rIndex K) ta (tCons te tNil)) ρ S Φ := fun A σ H f Q q =>
  h A σ H f _ fun o S1 A1 v H1 ⟨ns, hl1, hw⟩ g1 so1 ro => by
    obtain ⟨a, xs, rfl, hx, l⟩ := hl1.rep so1 ro
    refine ⟨Or.inl ⟨rfl, _, sq_of hx⟩, hw A1 σ H1 (f.go g1 so1) _ fun y S2 A2 w H2 ⟨i, j, hl, ey, hj, hm, k⟩ g2 so2 ry => ?_⟩
    subst ey
    obtain rfl := rep_str ry
    obtain ⟨a', ys, ea, hy, l2⟩ := hl.rep so2 (ro.go g2)
    cases ea
    rw [repl_str l2] at hy
    refine ⟨a, _, .str i, j, .str i, rfl, rfl, sq_of hy, rfl, flat_strs ns, by rw [List.getElem?_map, hj]; rfl, by rw [eqV_str]; exact decide_eq_true rfl, fun m z' lm e => ?_, q _ S2 A2 _ H2 k (g1.trans g2) so2 (.int _)⟩
    rw [List.getElem?_map] at e
    cases e3 : ns[m]? with
    | none => rw [e3] at e; cases e
    | some x =>
      rw [e3] at e
      cases e
      rw [eqV_str]
      exact decide_eq_false fun z => hm m lm (by rw [e3, z])
theorem c_sumR {r : R} {ns : List Int} (h : LsR S r (ns.map .int)) (k : Φ1 (.dat (.int ns.sum))) : Cb K (rSum K) [r] S Φ1 := cb_val (fun A H vs so rx => by
  obtain ⟨v, rfl, rr⟩ := reps1 rx
  obtain ⟨a, xs, rfl, hx, l⟩ := h.rep so rr
  rw [repl_int l] at hx
  exact ⟨_, Rep.int _, fun Q q => ⟨a, ns, rfl, sq_of hx, q⟩⟩) k
omit Z in
theorem RepL.eraseIdx {X : Addr → Prop} : ∀ {ds : List D} {xs : List V} (i : Nat), RepL K X H ds xs → RepL K X H (ds.eraseIdx i) (xs.eraseIdx i)
  | _, _, _, .nil => .nil
  | _, _, 0, .cons _ t => t
  | _, _, i + 1, .cons h t => .cons h (RepL.eraseIdx i t)
/-- xs.pop(i) -/
theorem wp_pop (h : Wp K ta ρ S fun o S1 => App o S1 fun k => Wp K te ρ S1 fun y S2 => ∃ (i : Nat) (d : D) (ds : List D), y = .dat (.int (i : Nat)) ∧ S2[k]? = some (.ls ds) ∧ ds[i]? = some d ∧ ds.length ≤ 100000 ∧ Φ (.dat d) (S2.set k (.ls (ds.eraseIdx i)))) : Wp K (tBM K "list" rPopAt ta (tCons te tNil)) ρ S Φ := fun A σ H f Q q =>
  h A σ H f _ fun o S1 A1 v H1 ⟨k, ds', eo, hk1, hw⟩ g1 so1 ro => by
    subst eo
    obtain ⟨a, ha, rfl⟩ := ro
    obtain ⟨xs', hx', _⟩ := so1.ok k a _ ha hk1
    refine ⟨Or.inl ⟨rfl, xs', sq_of hx'⟩, hw A1 σ H1 (f.go g1 so1) _ fun y S2 A2 w H2 ⟨i, d, ds, ey, hk, hd, hl, p⟩ g2 so2 ry => ?_⟩
    subst ey
    obtain rfl := rep_int ry
    have ha2 := pre_get g2.pre ha
    obtain ⟨xs, hx, l⟩ := so2.ok k a _ ha2 hk
    obtain ⟨u, hu, ru⟩ := l.get hd
    obtain ⟨so3, g3⟩ := so2.put (m' := .ls (ds.eraseIdx i)) (o := .lst (xs.eraseIdx i)) ha2 hk nofun nofun fun X _ g => ⟨_, upd_same, (RepL.go g l).eraseIdx i⟩
    have li := (List.getElem?_eq_some_iff.mp hu).1
    have lx := l.length
    refine ⟨a, xs, (i : Nat), i, u, rfl, rfl, hx, by omega, by omega, ?_, hu, q _ _ A2 _ _ p ((g1.trans g2).trans g3) so3 (Rep.go g3.gw ru)⟩
    unfold seqIndex?
    simp
    omega
end
end Dl
/-! one and the same own value, what is tracked being at hand -/
namespace L2
open PySem PySem.Spec PyProof.Rows _root_.Evl
theorem eqE_ownI {X : Cx} {n : Nat} {C g : Addr} {R : Addr → V → Hp → Bool → Prop} (m : Meth X.K C "__eq__" g) (F : FnR X.prog X.w X.K X.mg X.base CX0 n g (spEqE R)) (hself : ∀ pins s σ H, Inv X pins σ H s → ∀ a dx fs b, H a = some (.ins C dx fs) → R a (.ref a) H b → b = true ∨ ∃ T, TyX X.K H (.ref a) (.type T)) : EqE X n (DOwn X.K C R) := by
  intro A pins s σ H x y u v b sb I rx ry d
  have d0 := d
  obtain ⟨a, dx, fs, t, rfl, ha, ty, hn, hr⟩ := d
  cases (show u = Value.ref a from rx)
  by_cases hv : v = .ref a
  · subst hv
    cases rel_ref ry
    rcases hself _ _ _ _ I _ _ _ _ ha hr with rfl | ⟨T, h⟩
    · exact SeqAt.EqAt.same (A := A) (s := s) (.ref a) X.prog X.w X.xe _ ⟨rfl, H, I, Ex.refl _⟩
    · exact (ty_ins I ha h).elim
  · refine eqB_of (fun z => hv z.symm) (fun _ _ z => nomatch z) (wpAny_mono (rcE_own m F A pins s σ H _ _ _ _ _ sb I rx ry d0) (fun r s' q => ?_) fun _ _ x => x)
    exact ⟨b, q.1, rfl, q.2⟩
end L2
namespace Dl
open PySem PySem.Spec PyProof.Rows L2 _root_.Evl
theorem eqAI {X : Cx} {n : Nat} {c : Str} {g : D → D → Bool → Prop} {xs ps : List Str} {sfx : List (List V)} (cf : ClF X.K c xs) (m : Meth X.K (He.ga X.K c) "__eq__" (He.ma X.K (He.ga X.K c) "__eq__")) (D : Dm X.prog X.w X.K X.mg X.base CX0 n c "__eq__" ps sfx (lift X.K (sdE X.K c g))) (hg : ∀ pins s σ H, Inv X pins σ H s → ∀ a d e b, Rep0 X.K H d (.ref a) → Rep0 X.K H e (.ref a) → g d e b → b = true) (hu : [] ∈ sfx := by decide) : EqE X n (DA X.K c g) :=
  (eqE_ownI m (dmEq D hu) (by
    rintro pins s σ H I a dx fs b ha ⟨d, e, hd, he, h⟩
    rcases h with ⟨_, _, _, _, h⟩ | ⟨_, rfl, ⟨T, hT, _⟩ | ⟨c', fs', rfl, o⟩⟩
    · exact .inl (hg _ _ _ _ I _ _ _ _ hd he h)
    · exact .inr ⟨T, rep_ty he hT⟩
    · cases he with
      | @ins a' dx' _ _ gs' n' hx' rf' =>
        rw [ha] at hx'
        injection hx' with hx'
        injection hx' with h1
        have := o.kit
        rw [← h1, kit_self] at this
        cases this)).imp fun _ _ _ _ h => da_own cf h
end Dl
/-! except clauses whose suites read the exception: it is tracked within the suite already. -/
namespace L2
open PySem PySem.Spec PyProof.Rows
section
variable {X : Cx} {pins : List (Addr × Obj)} {σ : St} {H : Hp} {s : Shared}
theorem Inv.suite0 (I : Inv X pins σ H s) (a : Addr) : Inv (X.suite a (X.pn ++ pins)) [] σ H s :=
  ⟨I.ok.suite _ _, I.os, I.bare, I.base, I.loc, I.cell, I.free, I.freeC, fun p hp => by
    have hp' : p ∈ X.pn ++ pins := by rw [List.append_nil] at hp; exact hp
    exact I.pin p hp', I.hok, I.len⟩
theorem Inv.unsuite0 {a : Addr} {pn' : List (Addr × Obj)} (I : Inv (X.suite a (X.pn ++ pins)) pn' σ H s) (ok : X.Ok) : Inv X pins σ H s :=
  ⟨ok, I.os, I.bare, I.base, I.loc, I.cell, I.free, I.freeC, fun p hp => I.pin p (List.mem_append_left _ hp), I.hok, I.len⟩
end
/-- what 'except x as n: suite' wishes of the body -/
def wOwnX (K : PySem.W.Frag) (c : Value) (i : Nat) (ts : TS) (Wo : WX) (D : Ends) : WX := fun cls d σ H => ∃ b, PySem.W.exmOne K cls c = some b ∧
  (b = true → ∀ a, H a = none → ts ⟨fun σ' H' => D.nx (σ'.set i none) H', D.rt, fun _ _ => False, fun _ _ => False⟩ (σ.set i (some (.ref a))) (upd H a (exk a cls d))) ∧ (b = false → Wo cls d σ H)
def tTryB (K : PySem.W.Frag) (c : Value) (i : Nat) (ts : TS) (Wo : WX) (tb : WX → TS) : TS := fun D σ H => tb (wOwnX K c i ts Wo D) D σ H
section
variable {X : Cx} {x n : Str} {c : Value} {i : Nat} {body rest : List Stmt} {st0 : Stmt} {np pos pos' : Pos} {tb : WX → TS} {ts : TS} {Wo : WX}
theorem ps_tryB (hs : X.stack = X.env :: X.outer) (hf : X.env.frame = some X.env.locals) (hex : X.ex = []) (hN : X.N.Nodup) (hi : X.N[i]? = some n) (hln : X.env.kindOf n = some .local) (hc : Names X x c) (tk : Takes X Wo)
    (hb : ∀ (W : WX) (pn : List (Addr × Obj)) (xe : Value → Shared → Prop), Takes (X.tr pn xe) W → PassesOwn (model X.prog X.w) X.A X.env xe → PSs (X.tr pn xe) body (tb W))
    (hu : ∀ (a : Addr) (pn : List (Addr × Obj)), PSs (X.suite a pn) (st0 :: rest) ts) :
    PS X (.Try body [.ExceptHandler (some (.Name x np)) (some n) (st0 :: rest) pos'] [] [] pos) (tTryB X.K c i ts Wo tb) := by
  refine ⟨fun pins s σ H D I h => ?_⟩
  have ok := I.ok
  have frA : X.A.frames = some (X.env :: X.outer) := ok.frames.trans (congrArg some hs)
  refine wpAny_Try_except ?_
  let xe1 : Value → Shared → Prop := fun e s1 => wpAny (model X.prog X.w) X.A (noteFrame e X.env) (fun _ s2 => wpAny (model X.prog X.w) X.A (setFlight e none) (fun _ s3 =>
    wpAny (model X.prog X.w) X.A (handleBy e X.env [.ExceptHandler (some (.Name x np)) (some n) (st0 :: rest) pos']) (SP X pins D) X.xe s3) X.xe s2) X.xe s1
  have took : Takes (X.tr (X.pn ++ pins) xe1) (wOwnX X.K c i ts Wo D) := by
    rintro u s1 ⟨a, B, sI, pins', σ1, H1, cls, d, rfl, J0, below, up, sky, na, eos, gb, b, eb, yes, no⟩
    have J : Inv X pins σ1 H1 sI := J0.ofTry ok
    rw [show (X.tr (X.pn ++ pins) xe1).stack = X.env :: X.outer from hs] at sky
    show wpAny (model X.prog X.w) X.A (noteFrame (.ref a) X.env) _ _ _
    refine Sky.land Zc.steady frA hf sky fun h3 f3 up3 => ?_
    have J3 : Inv X pins σ1 H1 { s1 with heap := h3 } := J.landed below f3.1 (up.trans up3) eos gb
    obtain ⟨o3, v3, e3, z3, d3⟩ := f3.there
    have nfr : a ∉ frs (X.env :: X.outer) := fun hm => by
      obtain ⟨_, o', q, hno⟩ := f3.2.2.1.mem hm
      rw [e3] at q
      cases q
      exact hno _ d3
    have nL : a ≠ X.env.locals := fun z => nfr (List.mem_filterMap.mpr ⟨X.env, List.mem_cons_self, hf.trans (congrArg some z.symm)⟩)
    have nF : a ∉ X.fs := fun hm => by
      obtain ⟨en, he, q⟩ := List.mem_filterMap.mp hm
      exact nfr (List.mem_filterMap.mpr ⟨en, List.mem_cons_of_mem _ he, q⟩)
    have gone : ∀ {b : Addr} {o : Obj}, sI.heap.get? b = some o → b ≠ a := fun {b o} q z => by
      subst z
      have := below b o q (by rw [show (X.tr (X.pn ++ pins) xe1).stack = X.env :: X.outer from hs]; exact nfr)
      rw [f3.2.1] at this
      cases this
    have n0 : X.s_0.heap.get? a = none := by
      cases q : X.s_0.heap.get? a with
      | none => rfl
      | some o =>
        obtain ⟨o', q'⟩ := J.base.there a o q (by rw [hex]; exact fun z => nomatch z)
        exact absurd rfl (gone q')
    have nP : ∀ p ∈ X.pn ++ pins, p.1 ≠ a := fun p hp => gone (J.pin p hp).1
    have S3 := J3.suite e3 d3 na nL nF
    refine wpAny_handleBy_cons (codeAny_handlers_test ?_) (by intro q; cases q)
    have LT : PySem.W.Looks (model X.prog X.w) h3 (typeOf (.ref a)) cls := fun _ _ _ _ k q => wpAny_typeOf_ref (k _ _ e3) (by rw [z3.1]; exact q)
    have LM := PySem.W.exm_one (M := model X.prog X.w) J3.kIn LT eb
    have named : ∀ {Q E : Value → Shared → Prop}, Q c { s1 with heap := h3 } → wpAny (model X.prog X.w) (X.A.mark (some (.ref a))) (eval (.Name x np) X.env) Q E { s1 with heap := h3 } := fun {Q E} q => by
      obtain ⟨g1, g2, g3 | ⟨g3, g4, g5⟩⟩ := hc
      · exact ld_glob (X := X.suite a ((a, o3) :: (X.pn ++ pins))) S3 g1 g3 q g2
      · exact ld_blt (X := X.suite a ((a, o3) :: (X.pn ++ pins))) S3 g1 g3 g4 q g5 g2
    refine named (LM.here ?_)
    cases b with
    | true =>
      refine codeAny_handlers_suite_as (HandSPX.lands_againZ f3 fun h4 f4 up4 => ?_)
      have J4 : Inv X pins σ1 H1 { s1 with heap := h4 } := J.landed below f4.1 ((up.trans up3).trans up4) eos gb
      obtain ⟨o4, v4, e4, z4, d4⟩ := f4.there
      have S4 : Inv (X.suite a (X.pn ++ pins)) [] σ1 (upd H1 a (exk a cls d)) { s1 with heap := h4 } :=
        (J4.suite0 a).taken (X := X.suite a (X.pn ++ pins)) e4 na n0 nL (fun v z => by rw [d4] at z; cases z) (fun p hp => nP p (by rw [List.append_nil] at hp; exact hp)) (exk_ok e4 z4 d4)
      refine store_ok (X := X.suite a (X.pn ++ pins)) (v := .ref a) S4 hN hi (.inl hln) rfl (fun s5 S5 => ?_) (.inr hln)
      refine wpAny_mono ((hu a (X.pn ++ pins)).run [] s5 _ _ _ S5 (yes rfl a na)) (fun fl s6 q6 => ?_) fun _ _ z => z.elim
      cases fl with
      | next =>
        obtain ⟨σ6, H6, S6, r6⟩ := q6
        exact gone_ok (S6.unsuite0 ok) hN hi hln fun s7 S7 => ⟨_, _, S7, r6⟩
      | ret u =>
        obtain ⟨v6, σ6, H6, S6, rv, r6⟩ := q6
        exact gone_ok (S6.unsuite0 ok) hN hi hln fun s7 J7 => ⟨_, _, _, J7, rv, r6⟩
      | brk =>
        obtain ⟨_, _, _, r6⟩ := q6
        exact r6.elim
      | cont =>
        obtain ⟨_, _, _, r6⟩ := q6
        exact r6.elim
    | false =>
      refine wpAny_handleBy_nil ?_
      obtain ⟨_, _, _, oe, vs, T, oT, ts', he, hz, hd, h1, hr⟩ := id f3
      unfold PySem.passOn
      refine wpAny_bind (wpAny_field he hd h1 ?_)
      rw [if_neg (show ¬ ((Value.ref T == Value.none) = true) by simp)]
      have on : wpAny (model X.prog X.w) X.A (setFlight (.ref a) X.env.frame) (fun _ s4 => wpAny (model X.prog X.w) X.A (throw (.ref a) : Sem Flow) (SP X pins D) X.xe s4) X.xe { s1 with heap := h3 } := by
        rw [hf]
        refine HandSPX.setFlight_upZ f3 fun h4 g4 up4 => wpAny_throw (tk _ _ ?_)
        exact ⟨a, B, sI, pins, σ1, H1, cls, d, rfl, J, below, (up.trans up3).trans up4, .inr (.inr (by rw [hs]; exact g4)), na, eos, gb, no rfl⟩
      first
        | exact wpAny_bind (wpAny_pure (wpAny_bind on))
        | exact wpAny_bind on
  refine wpAny_mono ((hb _ (X.pn ++ pins) xe1 took PassesOwn.looking).run [] s σ H D (I.toTry _) h) (fun fl s1 q => ?_) fun _ _ z => z
  cases fl with
  | next =>
    obtain ⟨σ', H', J', r⟩ := q
    exact wpAny_execs_nil ⟨σ', H', J'.ofTry ok, r⟩
  | brk =>
    obtain ⟨σ', H', J', r⟩ := q
    exact ⟨σ', H', J'.ofTry ok, r⟩
  | cont =>
    obtain ⟨σ', H', J', r⟩ := q
    exact ⟨σ', H', J'.ofTry ok, r⟩
  | ret u =>
    obtain ⟨v, σ', H', J', rv, r⟩ := q
    exact ⟨v, σ', H', J'.ofTry ok, rv, r⟩
end
end L2
namespace Dl
open PySem PySem.Spec PyProof.Rows L2 _root_.Evl
section
variable [Z : Zo] {K : PySem.W.Frag} {S : Store} {ρ : List R} {Nx Bk Ct : PR} {Rt : R → Store → Prop} {Ψ Ψ' : Str → List (Str × D) → List R → Store → Prop}
/-- try: .. except C as e: suite -/
theorem ws_tryB {tb : WX → TS} {ts : TS} {cn : Str} {i : Nat} {Wo : WX} (hz : Rz K Wo Ψ) (h : ∀ (W : WX) [Z' : Zo], Rz K W Ψ' → WpS K (tb W) ρ S Nx Rt Bk Ct)
    (hc : ∀ c fs ρ' S', Ψ' c fs ρ' S' → i < ρ'.length ∧ ∃ b, PySem.W.exmOne K (.ref (He.ga K c)) (.ref (He.ga K cn)) = some b ∧ (b = true → WpS K ts (ρ'.set i (.dat (.exc c fs))) S' (fun ρ2 S2 => Nx (ρ2.set i .no) S2) Rt (fun _ _ => False) fun _ _ => False) ∧ (b = false → Ψ c fs ρ' S')) :
    WpS K (tTryB K (.ref (He.ga K cn)) i ts Wo tb) ρ S Nx Rt Bk Ct := fun A σ H g D e => by
  refine @h (wOwnX K (.ref (He.ga K cn)) i ts Wo D) (zoA Z A S H) (fun A' S' H' ρ' σ' c fs d f' p x => ?_) A σ H g.up D (e.up A S H)
  have gr := f'.gr
  have f := f'.dn
  clear f'
  obtain ⟨li, b, hb, yes, no⟩ := hc c fs ρ' S' p
  refine ⟨b, hb, fun e1 a ha => ?_, fun e1 => hz A' S' H' ρ' σ' c fs d f (no e1) x⟩
  have so' := f.st
  have ex : Ex H' (upd H' a (exk a (.ref (He.ga K c)) d)) := Ex.new ha
  have g1 : Gr A' S' H' A' S' (upd H' a (exk a (.ref (He.ga K c)) d)) := .ex ex
  have na : ¬ Lv A' S' a := so'.new ha
  have rx : Rep K (Lv A' S') (upd H' a (exk a (.ref (He.ga K c)) d)) (.exc c fs) (.ref a) := by
    cases d with
    | none =>
      have ef : fs = [] := x
      subst ef
      exact .exc0 na upd_same
    | some d =>
      obtain ⟨gs, nd, hd, rf⟩ := x
      have ne : d ≠ a := fun z => by
        subst z
        rw [ha] at hd
        cases hd
      exact .exc na nd ⟨upd_same, by rw [upd_ne ne]; exact hd⟩ (rf.go (.ex ex))
  have gg := gr.trans g1
  exact yes e1 A' _ _ ⟨so'.ex ex, (f.en.go g1).set i (r := .dat (.exc c fs)) rx, Z.mono f.xo g1⟩ _ ⟨fun ρ2 S2 A2 σ2 H2 p2 g2 f2 => e.nx _ S2 A2 _ H2 p2 (gg.trans g2) ⟨f2.st, f2.en.setNo i none, f2.xo⟩, fun r S2 A2 v H2 p2 g2 so2 r2 => e.rt r S2 A2 v H2 p2 (gg.trans g2) so2 r2, fun _ _ _ _ _ p2 => p2.elim, fun _ _ _ _ _ p2 => p2.elim⟩
/-- all that is raised is caught -/
theorem ws_tryBA {tb : WX → TS} {ts : TS} {cn : Str} {i : Nat} {Wo : WX} (h : ∀ (W : WX) [Z' : Zo], Rz K W Ψ' → WpS K (tb W) ρ S Nx Rt Bk Ct)
    (hc : ∀ c fs ρ' S', Ψ' c fs ρ' S' → i < ρ'.length ∧ PySem.W.exmOne K (.ref (He.ga K c)) (.ref (He.ga K cn)) = some true ∧ WpS K ts (ρ'.set i (.dat (.exc c fs))) S' (fun ρ2 S2 => Nx (ρ2.set i .no) S2) Rt (fun _ _ => False) fun _ _ => False) :
    WpS K (tTryB K (.ref (He.ga K cn)) i ts Wo tb) ρ S Nx Rt Bk Ct :=
  ws_tryB (Ψ := fun _ _ _ _ => False) (fun _ _ _ _ _ _ _ _ _ p => p.elim) h fun c fs ρ' S' p => ⟨(hc c fs ρ' S' p).1, true, (hc c fs ρ' S' p).2.1, fun _ => (hc c fs ρ' S' p).2.2, nofun⟩
end
end Dl
/-! Own exception classes over LookupError whose __init__ keeps one field. -/
namespace L2
open PySem PySem.Spec PyProof.Rows
abbrev loTail : List Value := [.type "LookupError", .type "Exception", .type "BaseException", .type "object"]
/-- own classes, LookupError's order behind them -/
def loL : List Value → Bool
  | .ref _ :: m => loL m
  | m => m == loTail
theorem loL_ind {p : List Value → Prop} (p0 : p loTail) (p1 : ∀ c m, p m → p (.ref c :: m)) : ∀ m, loL m = true → p m := by
  intro m
  induction m with
  | nil => exact fun z => absurd z (by decide)
  | cons v m ih =>
    intro z
    cases v
    case ref c => exact p1 c m (ih z)
    all_goals
      rw [beq_iff_eq.mp z]
      exact p0
theorem lo_pass (self : Value) (m : List Value) (z : loL m = true) : refuseLoop self "__setattr__" m = pure () := by
  refine loL_ind (p := fun m => refuseLoop self "__setattr__" m = pure ()) (F.store_LookupError.passes self) (fun c m h => ?_) m z
  rw [refuseLoop_ref]; exact h
theorem lo_has (T : String) (m : List Value) (z : loL m = true) : m.contains (.type T) = loTail.contains (.type T) := by
  refine loL_ind (p := fun m => m.contains (.type T) = loTail.contains (.type T)) rfl (fun c m h => ?_) m z
  rw [List.contains_cons, h]; rfl
theorem lo_ne {m : List Value} (z : loL m = true) : m.isEmpty = false := by
  cases m with
  | nil => exact absurd z (by decide)
  | cons _ _ => rfl
section
open Builtin Builtin.ObjectAttr
variable {pr : Program} {wd : World} {Ar : Around} {Rs : Result → Shared → Prop} {h0 : Heap} {gs : Array GenState} {dr : Drawn} {tk0 : Nat} {so : OsState}
/-- self.name = v, the first one -/
theorem lo_osa {K : PySem.W.Frag} {nm : Str} {tn : Tok} {v : Value} {x C : Addr} {fv : Array Value} {cd : ClassData} (ki : K.In h0) (ox : h0.get? x = some { cls := .ref C, data := .fields fv }) (oc : PySem.W.clsIn K C = some cd) (om : loL cd.mro = true) (od : cd.hasDict = true) (no : PySem.W.findIn K (.ref C) nm = some none)
    (k : ∀ h1 t1 dx, (∀ b o, b ≠ x → h0.get? b = some o → h1.get? b = some o) → h0.objs.size ≤ dx → dx ≠ x → h1.get? x = some { cls := .ref C, dict := some dx, data := .fields fv } → h1.Ns1 dx (fun y => if y = nm then some v else none) → Rs (.ok (.ret .none)) ⟨h1, gs, dr, t1, so⟩) :
    codeAny (model pr wd) Ar (.call (.builtin "object.__setattr__") ⟨[.ref x, .str nm tn, v], []⟩) Rs ⟨h0, gs, dr, tk0, so⟩ := by
  have J : PySem.W.InstAt h0 x { cls := .ref C, data := .fields fv } C none := ⟨ox, rfl, rfl, trivial⟩
  have hob : cd.mro.contains (.type "object") = true := (lo_has "object" _ om).trans (by decide +kernel)
  have away : x ≠ h0.objs.size := Nat.ne_of_lt (Heap.lt_size ox)
  have sb : PySem.W.Looks (model pr wd) h0 (isInstance (.ref x) (.type "object")) true := J.type.andThen (PySem.W.looks_mroIn ki (by unfold PySem.W.mroIn; rw [oc, Option.bind_some, if_neg (by rw [lo_ne om]; decide), hob]))
  refine codeAny_call_builtin F.store_object.slot.plain F.store_object.entry (@PySem.W.check_slot (model pr wd) _ _ ⟨h0, gs, dr, tk0, so⟩ "object.__setattr__" "object" "__setattr__" (.ref x) [.str nm tn, v] [] _ F.store_object.kind F.store_object.split sb (F.store_object.args (.ref x) (.str nm tn) v) ?_)
  have mr : PySem.W.Looks (model pr wd) h0 (mroOf (.ref C)) cd.mro := (PySem.W.looks_clsIn ki oc).andThen .now
  have st : PySem.W.Looks (model pr wd) h0 (storeTaker? none) none := .now
  have cl : PySem.W.Looks (model pr wd) h0 (classData C) cd := PySem.W.looks_clsIn ki oc
  rw [PySem.W.osa_eq, refuse_eq]
  refine wpAny_bind (wpAny_bind (J.type.at (wpAny_bind (mr.at ?_)))); rw [lo_pass _ _ om]
  refine wpAny_pure (wpAny_bind (J.type.at (wpAny_bind ((PySem.W.looks_findIn ki no).at (wpAny_bind (st.at ?_))))))
  show wpAny _ _ (storeInOwnDict (.ref x) (.ref C) (.str nm tn) nm v false) _ _ _
  obtain ⟨_, _, _, _, _, hd, _, _, _, _, _⟩ := cd
  dsimp only at od
  subst od
  unfold storeInOwnDict ownDictForStores
  repeat (first | with_reducible refine PySem.HandSPX.store_in_new ?_ ?_ | with_reducible refine wpAny_loadPart_at ox ?_ | with_reducible refine cl.at ?_ | wp_step)
  · exact ⟨_, #[], _, (Heap.get?_update_ne _ _ _ _ away.symm).trans (Heap.get?_push_at rfl rfl), rfl, fun e he => absurd he (by simp), fun _ => rfl⟩
  · intro h1 t1 hn same
    refine k h1 t1 h0.objs.size (fun b o hb ho => (same.2 b (Nat.ne_of_lt (Heap.lt_size ho))).trans ((Heap.get?_update_ne _ _ _ _ hb).trans (Heap.get?_push_of_some _ ho))) (Nat.le_refl _) away.symm ?_ hn
    exact (same.2 x away).trans (Heap.get?_update_self _ (Heap.get?_push_of_some _ ox) rfl)
end
/-- what the written part says of such a class -/
structure LoC (K : PySem.W.Frag) (C : Addr) : Prop where
  cl : ∃ nm q N bs bm sn sub ab col dd k0 k1 k2 k3 k5, K.lookup C = some (excClassObj nm q C N bs bm true sn sub ab col dd k0 k1 k2 k3 k5 "LookupError.__new__") ∧ loL bm = true
  sa : PySem.W.findIn K (.ref C) "__setattr__" = some (some (.builtin "object.__setattr__"))
  ex : PySem.W.subIn K (.ref C) (.type "BaseException") = some true
  ty : PySem.W.typeIn K (.ref C) = some (.type "type")
  kp : PySem.W.keepIn K (.ref C) = true
section
variable {X : Cx} {pins : List (Addr × Obj)} {σ : St} {H : Hp} {s : Shared} {a C dx : Addr} {f : Str} {y : V} {u : Value} {Q : Unit → Shared → Prop} {E : Value → Shared → Prop} {A : Around}
theorem lo_put (T : LoC X.K C) (I : Inv X pins σ H s) (e : H a = some (exo a C none)) (no : PySem.W.findIn X.K (.ref C) f = some none) (ry : RelV y u)
    (k : ∀ dx s', H dx = none → dx ≠ a → Inv X pins σ (upd (upd H dx (exd dx [(f, y)])) a (exo a C (some dx))) s' → Q () s') : wpAny (model X.prog X.w) A (setAttr (.ref a) f u) Q E s := by
  obtain ⟨nm, q, N, bs, bm, sn, sub, ab, col, dd, k0, k1, k2, k3, k5, hC, hb⟩ := T.cl
  have oc : PySem.W.clsIn X.K C = some { name := nm, bases := bs, mro := .ref C :: bm, ns := N, qualname := q, hasDict := true, slotNames := sn, subclasses := sub, abstract := ab, collection := col, hasDel := false } := by unfold PySem.W.clsIn; rw [hC] <;> rfl
  obtain ⟨t1, ho⟩ := exo_at I.hok e
  obtain ⟨hp, g, d, t, os⟩ := s
  refine PySem.W.set_plain I.kIn (ox := { cls := .ref C, dict := none, data := .fields #[.ref t1, .none, .none, .none, .bool false, .none] }) (od := none) ⟨ho, rfl, rfl, trivial⟩ T.sa (lo_osa I.kIn ho oc (show loL (.ref C :: bm) = true from hb) rfl no fun h' t' dx kk dn dne hx hn => ?_)
  have z0 : H dx = none := I.hok.fresh dn
  have nd : ∀ {b : Addr} {o : Obj}, hp.get? b = some o → b ≠ dx := fun {b o} z => Nat.ne_of_lt (Nat.lt_of_lt_of_le (Heap.lt_size z) dn)
  have na : ∀ {b : Addr}, H b = none → b ≠ a := fun {b} n z => by rw [z, e] at n; cases n
  have U : Un X.fs [] H (upd (upd H dx (exd dx [(f, y)])) a (exo a C (some dx))) hp h' := {
    keep := fun b o z n _ _ => kk b o (na n) z
    slot := fun b o z n _ _ => ⟨o.slots, kk b o (na n) z⟩
    free := fun b o z n _ => by rw [upd_ne (na n), upd_ne (nd z)]; exact n
    there := fun b o z _ => (Decidable.em (b = a)).elim (fun hb => ⟨_, (congrArg h'.get? hb).trans hx⟩) fun hb => ⟨o, kk b o hb z⟩
    tups := fun b xs z => by rw [upd_ne (at_ne e z exo_tup), upd_ne (ne_of_none z z0)]; exact z
    frzs := fun b o v z => by rw [upd_ne (at_ne e z exo_frz), upd_ne (ne_of_none z z0)]; exact z
    tbls := fun b ps z => ⟨#[], by rw [upd_ne (at_ne e z exo_tbl), upd_ne (ne_of_none z z0), z]; simp⟩ }
  refine k dx _ z0 dne (I.un (t' := t') U fun b o z => ?_)
  by_cases hb : b = a
  · subst hb; rw [upd_same] at z; cases z
    exact exo_ok hx
  rw [upd_ne hb] at z
  by_cases hd : b = dx
  · subst hd; rw [upd_same] at z; cases z
    exact exd_ok hn (relO_put (fs := []) ry fun g => True.intro)
  rw [upd_ne hd] at z
  exact (I.hok b o z).stay (fun c v hc zz => kk c v (hc.elim (fun hc => by rw [hc]; exact hb) fun hc => at_ne e hc exo_own) zz) (fun c hc => by rw [upd_ne (at_ne e hc exo_own), upd_ne (ne_of_none hc z0)]; exact hc) (fun c xs hc => by rw [upd_ne (at_ne e hc exo_tup), upd_ne (ne_of_none hc z0)]; exact hc)
theorem lo_init {us : List Value} {Q : Value → Shared → Prop} (T : LoC X.K C) (I : Inv X pins σ H s) (e : H a = some (exo a C none)) (hl : us.length ≤ sizeLine) (k : ∀ s', Inv X pins σ H s' → Q .none s') : wpAny (model X.prog X.w) A (call (.builtin "LookupError.__init__") (.ref a :: us)) Q E s := by
  obtain ⟨nm, q, N, bs, bm, sn, sub, ab, col, dd, k0, k1, k2, k3, k5, hC, hb⟩ := T.cl
  obtain ⟨t1, ho⟩ := exo_at I.hok e
  obtain ⟨hp, g, d, t, os⟩ := s
  refine wpAny_call (PySem.HandSPX.init_base F.excBase_LookupError (fun Y => lo_has Y bm hb) (I.kIn _ _ hC) ho hl fun h' t2 kk hx => ?_)
  have J := I.write (t' := t) (x := a) (e := a) (o := exo a C none) (by rw [e]; exact True.intro) (.inl rfl) kk ⟨_, hx⟩ (exo_ok hx)
  rw [show upd H a (exo a C none) = H from funext fun b => by
    by_cases hb : b = a
    · rw [hb, upd_same, e]
    · rw [upd_ne hb]] at J
  exact k _ J
end
/-- R.__init__(self, ..), R over LookupError -/
def tLoI (K : PySem.W.Frag) (ta : TA) : TE := fun σ H Q => ta σ H fun vs H1 => ∃ (a C : Addr) (ws : List V), vs = .ref a :: ws ∧ ws.length ≤ 1000 ∧ LoC K C ∧ H1 a = some (exo a C none) ∧ Q .non H1
/-- self.f = e, the first one -/
def tLoS (K : PySem.W.Frag) (f : Str) (to te : TE) : TS := fun D σ H => te σ H fun y H1 => to σ H1 fun x H2 => ∃ a C : Addr, x = .ref a ∧ LoC K C ∧ PySem.W.findIn K (.ref C) f = some none ∧ H2 a = some (exo a C none) ∧ ∀ dx, H2 dx = none → dx ≠ a → D.nx σ (upd (upd H2 dx (exd dx [(f, y)])) a (exo a C (some dx)))
structure BaseL (K : PySem.W.Frag) (R : Addr) : Prop where
  rd : PySem.W.readsIn K R (.type "type") = true
  ga : PySem.W.specialIn K (.ref R) "__getattribute__" = some (some (.builtin "type.__getattribute__"))
  at_ : PySem.W.findCls K (.ref R) (.type "type") "__init__" = some (.val (.builtin "LookupError.__init__"))
def baseLB (K : PySem.W.Frag) (x : Str) : Bool := PySem.W.readsIn K (He.ga K x) (.type "type") && (He.eqO (PySem.W.specialIn K (.ref (He.ga K x)) "__getattribute__") (some (some (.builtin "type.__getattribute__"))) &&
  (match PySem.W.findCls K (.ref (He.ga K x)) (.type "type") "__init__" with
    | some (.val (.builtin m)) => decide (m = "LookupError.__init__")
    | _ => false))
theorem baseLB_ok {K : PySem.W.Frag} {x : Str} (h : baseLB K x = true) : BaseL K (He.ga K x) := by
  obtain ⟨h1, h⟩ := He.ba h
  obtain ⟨h2, h3⟩ := He.ba h
  refine ⟨h1, He.eqO_ok h2, ?_⟩
  split at h3
  · rename_i m q
    rw [q, of_decide_eq_true h3]
  · cases h3
section
variable {X : Cx} {o e : Expr} {es : List Expr} {to te : TE} {ta : TA} {p p' p1 p2 pos : Pos} {R : Addr} {x f : Str}
theorem pe_loinit {pl : Sem Bool} (hg : Gl X x) (hm : X.mg x = some (.ref R)) (B : BaseL X.K R) (ha : PA X (e :: es) ta)
    (hc : eval (.Call (.Attribute (.Name x p1) "__init__" p2) (e :: es) [] pos) X.env = (do
      let ov ← eval (.Name x p1) X.env
      standAt p2.atName
      let (f, first) ← holding [ov] (getMethod ov "__init__" pl)
      callWith pos f first (backTo pos (starEach (e :: es) X.env)) (backToKw pos (keywordEach [] X.env))) := by rfl)
    (hd : (x == ("__debug__" : Str)) = false := by decide) (he : starEach (e :: es) X.env = (false, eval e X.env) :: starEach es X.env := by rfl) (hpl : (backTo pos (starEach es X.env)).any (·.1) = false := by rfl) :
    PE X (.Call (.Attribute (.Name x p1) "__init__" p2) (e :: es) [] pos) (tLoI X.K ta) := by
  refine ⟨fun pins s σ H Q I h => ?_⟩
  refine PySem.W.methodCall_KW (ld_glob I hg hm ?_ hd) hc
  refine PySem.W.method_cls I.kIn B.ga (PySem.W.cls_value I.kIn B.rd B.at_ (by decide +kernel) ?_)
  show wpAny _ _ (callWith pos (Value.builtin "LookupError.__init__") [] (backTo pos (starEach (e :: es) X.env)) []) _ _ _
  refine PyProof.Rows.callWith_method1 (thn (ha.run pos pins _ σ H _ (I.tok _) h) fun us s1 ⟨vs, H1, I1, r1, a, C, ws, ev, hl, T, ea, q⟩ => ?_) he hpl
  subst ev
  cases r1 with
  | @cons _ u0 _ ur r0 rr =>
    obtain rfl : u0 = Value.ref a := r0
    have hz : ur.length ≤ sizeLine := by
      rw [← Paired.length rr, sizeLine_eq]
      omega
    exact lo_init T I1 ea hz fun s' J => ⟨.non, H1, J, rfl, q⟩
theorem ps_los (ho : PE X o to) (he : PE X e te) (hs : swapsWith e (some (.Attribute o f p')) pos.line X.env = pure false := by rfl) : PS X (.Assign [.Attribute o f p'] e pos) (tLoS X.K f to te) := by
  refine ⟨fun pins s σ H D I h => ?_⟩
  refine plainObj_wpAny_Assign_Attribute (thn (he.run pins s σ H _ I h) fun v s1 ⟨y, H1, I1, r1, q1⟩ => thn (ho.run pins s1 σ H1 _ I1 q1) fun u s2 ⟨z, H2, I2, r2, a, C, ez, T, no, ea, q⟩ => ?_) hs
  subst ez
  obtain rfl : u = Value.ref a := r2
  exact lo_put T I2 ea no r1 fun dx s' n ne J => ⟨σ, _, J, q dx n ne⟩
theorem pmk_lo {CX : CXT} {C fI : Addr} {k : Nat} {fd : FuncData} {ps : List Str} {sp : Sp} {ds : List Value} {dvs : List V} (T : LoC X.K C) (iC : PySem.W.findIn X.K (.ref C) "__init__" = some (some (.ref fI))) (tI : PySem.W.typeIn X.K (.ref fI) = some (.type "function"))
    (F1 : FnOk X.prog X.w X.K X.mg X.base CX k fI fd ps sp) (hr : Room (k + 1) X.A) (hb : Binds X.K fd ps ds) (hd : Vals dvs ds) (hx : Passes CX X (fun _ _ _ => False)) (hg : Gl X x) (hm : X.mg x = some (.ref C)) (ha : PA X (e :: es) ta)
    (hdb : (x == ("__debug__" : Str)) = false := by decide) (he : starEach (e :: es) X.env = (false, eval e X.env) :: starEach es X.env := by rfl) (hpl : (backTo pos (starEach es X.env)).any (·.1) = false := by rfl) :
    PMk X (.Call (.Name x p) (e :: es) [] pos) (tMkO C sp dvs ta) := by
  intro pins s σ H Q I h
  obtain ⟨nm, q, N, bs, bm, sn, sub, ab, col, dd, k0, k1, k2, k3, k5, hC, hm0⟩ := T.cl
  refine wpAny_Call_Name_kw (ld_glob I hg hm ?_ hdb)
  refine PySem.W.callWith_K (h₀ := X.base) I.ok.mod.kin T.kp (thn (ha.run pos pins s σ H _ I h) fun us s1 ⟨vs, H1, I1, r1, hz, q1⟩ => ⟨I1.kIn, ?_⟩) he hpl
  show wpAny _ _ (call (.ref C) us) _ _ _
  obtain ⟨hp, g, dr, tk, os⟩ := s1
  have up1 : hp.objs.size ≤ hp.objs.size + 1 := Nat.le_succ _
  have hq := q1 (hp.objs.size + 1) (I1.hok.fresh up1)
  have kk : ∀ b o, hp.get? b = some o → ((hp.push (PySem.W.kdv_tup us)).push (PySem.HandSPX.excO C hp.objs.size)).get? b = some o := fun b o z => Heap.get?_push_of_some _ (Heap.get?_push_of_some _ z)
  have ge : ((hp.push (PySem.W.kdv_tup us)).push (PySem.HandSPX.excO C hp.objs.size)).get? (hp.objs.size + 1) = some (PySem.HandSPX.excO C hp.objs.size) := by heap_get
  have I2 : Inv X pins σ (upd H1 (hp.objs.size + 1) (exo (hp.objs.size + 1) C none)) ⟨(hp.push (PySem.W.kdv_tup us)).push (PySem.HandSPX.excO C hp.objs.size), g, dr, tk, os⟩ := I1.laid (t' := tk) (a := hp.objs.size + 1) (o := exo (hp.objs.size + 1) C none) (h' := (hp.push (PySem.W.kdv_tup us)).push (PySem.HandSPX.excO C hp.objs.size)) kk up1 (exo_ok ge)
  have r2 : Vals (V.ref (hp.objs.size + 1) :: (vs ++ dvs)) (Value.ref (hp.objs.size + 1) :: (us ++ ds)) := .cons rfl (r1.append hd)
  have hl : (Value.ref (hp.objs.size + 1) :: us ++ ds).length = ps.length := by
    have z := r2.length
    rw [F1.len _ _ _ _ hq] at z
    exact z.symm
  have hu : us.length ≤ sizeLine := by
    rw [← Paired.length r1, sizeLine_eq]
    omega
  refine wpAny_call (PySem.HandSPX.call_own F.excBase_LookupError (fun Y => lo_has Y bm hm0) (I1.kIn _ _ hC) (PySem.W.looks_findIn I1.kIn iC) (fun self => PySem.W.bind_fn I1.kIn self tI) hu
    (codeAny_mono (F1.run _ X.stack _ _ ⟨Value.ref (hp.objs.size + 1) :: us, []⟩ (Value.ref (hp.objs.size + 1) :: (us ++ ds)) _ _ (fun _ _ _ => False) (hr.make C us []) (I2.env0.make C us []) (hb _ (Value.ref (hp.objs.size + 1) :: us) I2.kIn hl) r2 hq) fun r s' z => ?_))
  cases r with
  | error er => exact hx pins σ _ _ er s' I2 z
  | ok fl =>
    cases fl with
    | ret u =>
      obtain ⟨v, H2, os2, bare2, un2, hok2, rv, ev, d, fs, ea, ed, hd1, q2⟩ := z
      subst ev
      obtain ⟨h2, g2, d2, t2, os'⟩ := s'
      exact ⟨rv, mk_end (raises_own T.ex T.ty) I1 up1 kk un2 hok2 os2 bare2 ea ed hd1 q2⟩
    | next => exact False.elim z
    | brk => exact False.elim z
    | cont => exact False.elim z
end
def loCB (K : PySem.W.Frag) (C : Addr) : Bool := match K.lookup C with
  | some ⟨.type "type", _, .cls cd, sl⟩ => (match cd.mro, sl.toList with
    | .ref B :: bm, [_, _, _, _, some (.builtin n), _] => decide (B = C) && (decide (n = "LookupError.__new__") && (!cd.hasDel && (cd.hasDict && loL bm)))
    | _, _ => false)
  | _ => false
theorem loCB_ok {K : PySem.W.Frag} {C : Addr} (h : loCB K C = true) : ∃ nm q N bs bm sn sub ab col dd k0 k1 k2 k3 k5, K.lookup C = some (excClassObj nm q C N bs bm true sn sub ab col dd k0 k1 k2 k3 k5 "LookupError.__new__") ∧ loL bm = true := by
  unfold loCB at h
  split at h
  · rename_i dd cd sl ho
    split at h
    · rename_i B bm k0 k1 k2 k3 n k5 hm hs
      obtain ⟨h1, h⟩ := He.ba h
      obtain ⟨h2, h⟩ := He.ba h
      obtain ⟨h3, h⟩ := He.ba h
      obtain ⟨h4, h5⟩ := He.ba h
      have e1 := of_decide_eq_true h1
      have e2 := of_decide_eq_true h2
      subst e1 e2
      obtain ⟨nm, bs, mro, ns, qn, hd, sn, sub, ab, col, del⟩ := cd
      have e3 : del = false := by
        cases del with
        | false => rfl
        | true => cases h3
      have e4 : hd = true := h4
      have e5 : mro = .ref B :: bm := hm
      subst e3 e4 e5
      have e6 : sl = #[k0, k1, k2, k3, some (.builtin "LookupError.__new__"), k5] := by
        obtain ⟨l⟩ := sl
        simp only at hs
        rw [hs]
      subst e6
      exact ⟨nm, qn, ns, bs, bm, sn, sub, ab, col, dd, k0, k1, k2, k3, k5, ho, h5⟩
    · cases h
  · cases h
def loB (K : PySem.W.Frag) (x : Str) : Bool := loCB K (He.ga K x) && (He.eqO (PySem.W.findIn K (.ref (He.ga K x)) "__setattr__") (some (some (.builtin "object.__setattr__"))) &&
  (decide (PySem.W.subIn K (.ref (He.ga K x)) (.type "BaseException") = some true) && (decide (PySem.W.typeIn K (.ref (He.ga K x)) = some (.type "type")) && PySem.W.keepIn K (.ref (He.ga K x)))))
theorem loB_ok {K : PySem.W.Frag} {x : Str} (h : loB K x = true) : LoC K (He.ga K x) := by
  obtain ⟨h1, h⟩ := He.ba h
  obtain ⟨h2, h⟩ := He.ba h
  obtain ⟨h3, h⟩ := He.ba h
  obtain ⟨h4, h5⟩ := He.ba h
  exact ⟨loCB_ok h1, He.eqO_ok h2, of_decide_eq_true h3, of_decide_eq_true h4, h5⟩
end L2
/-! try: .. except C: suite, without a name. -/
namespace L2
open PySem PySem.Spec PyProof.Rows
def tTryN (K : PySem.W.Frag) (c : Value) (ts : TS) (Wo : WX) (tb : WX → TS) : TS := fun D σ H => tb (wOnly K c (fun _ _ _ => ts) Wo D) D σ H
theorem ps_tryN {X : Cx} {x : Str} {c : Value} {body rest : List Stmt} {st0 : Stmt} {np pos pos' : Pos} {tb : WX → TS} {ts : TS} {Wo : WX} (hs : X.stack = X.env :: X.outer) (hf : X.env.frame = some X.env.locals) (hc : Names X x c) (tk : Takes X Wo)
    (hb : ∀ (W : WX) (pn : List (Addr × Obj)) (xe : Value → Shared → Prop), Takes (X.tr pn xe) W → PassesOwn (model X.prog X.w) X.A X.env xe → PSs (X.tr pn xe) body (tb W))
    (hu : ∀ (a : Addr) (oe : Obj) (pn : List (Addr × Obj)), PSs (X.suite a ((a, oe) :: pn)) (st0 :: rest) ts) :
    PS X (.Try body [.ExceptHandler (some (.Name x np)) none (st0 :: rest) pos'] [] [] pos) (tTryN X.K c ts Wo tb) := ps_try_only (ts := fun _ _ _ => ts) hs hf hc tk hb fun a oe _ _ pn _ _ => hu a oe pn
theorem Room.u65 {k : Nat} {A : Around} (r : Room k A) : A.units + 65 < cLine := by have := r.un; omega
end L2
namespace Dl
open PySem PySem.Spec PyProof.Rows L2 _root_.Evl
section
variable [Z : Zo] {K : PySem.W.Frag} {S : Store} {ρ : List R} {Nx Bk Ct : PR} {Rt : R → Store → Prop} {Ψ Ψ' : Str → List (Str × D) → List R → Store → Prop}
/-- try: .. except C: suite -/
theorem ws_tryN {tb : WX → TS} {ts : TS} {cn : Str} {Wo : WX} (hz : Rz K Wo Ψ) (h : ∀ (W : WX) [Z' : Zo], Rz K W Ψ' → WpS K (tb W) ρ S Nx Rt Bk Ct)
    (hc : ∀ c fs ρ' S', Ψ' c fs ρ' S' → ∃ b, PySem.W.exmOne K (.ref (He.ga K c)) (.ref (He.ga K cn)) = some b ∧ (b = true → WpS K ts ρ' S' Nx Rt Bk Ct) ∧ (b = false → Ψ c fs ρ' S')) :
    WpS K (tTryN K (.ref (He.ga K cn)) ts Wo tb) ρ S Nx Rt Bk Ct := fun A σ H g D e => by
  refine @h (wOnly K (.ref (He.ga K cn)) (fun _ _ _ => ts) Wo D) (zoA Z A S H) (fun A' S' H' ρ' σ' c fs d f' p x => ?_) A σ H g.up D (e.up A S H)
  have gr := f'.gr
  have f := f'.dn
  clear f'
  obtain ⟨b, hb, yes, no⟩ := hc c fs ρ' S' p
  refine ⟨b, hb, fun e1 a ha => ?_, fun e1 => hz A' S' H' ρ' σ' c fs d f (no e1) x⟩
  exact yes e1 A' _ _ f _ ⟨fun ρ2 S2 A2 σ2 H2 p2 g2 f2 => e.nx _ S2 A2 _ H2 p2 (gr.trans g2) f2, fun r S2 A2 v H2 p2 g2 so2 r2 => e.rt r S2 A2 v H2 p2 (gr.trans g2) so2 r2, fun ρ2 S2 A2 σ2 H2 p2 g2 f2 => e.bk _ S2 A2 _ H2 p2 (gr.trans g2) f2, fun ρ2 S2 A2 σ2 H2 p2 g2 f2 => e.ct _ S2 A2 _ H2 p2 (gr.trans g2) f2⟩
/-- all that is raised is caught -/
theorem ws_tryNA {tb : WX → TS} {ts : TS} {cn : Str} {Wo : WX} (h : ∀ (W : WX) [Z' : Zo], Rz K W Ψ' → WpS K (tb W) ρ S Nx Rt Bk Ct)
    (hc : ∀ c fs ρ' S', Ψ' c fs ρ' S' → PySem.W.exmOne K (.ref (He.ga K c)) (.ref (He.ga K cn)) = some true ∧ WpS K ts ρ' S' Nx Rt Bk Ct) :
    WpS K (tTryN K (.ref (He.ga K cn)) ts Wo tb) ρ S Nx Rt Bk Ct :=
  ws_tryN (Ψ := fun _ _ _ _ => False) (fun _ _ _ _ _ _ _ _ _ p => p.elim) h fun c fs ρ' S' p => ⟨true, (hc c fs ρ' S' p).1, fun _ => (hc c fs ρ' S' p).2, nofun⟩
/-! a sign counted in a text -/
omit Z in
theorem cnt_cs (c : Nat) : ∀ l : List Nat, PyProof.Rows.cnt c l = (l.count c : Nat)
  | [] => rfl
  | n :: l => by
    rw [PyProof.Rows.cnt_cons, cnt_cs c l, List.count_cons]
    by_cases h : n = c
    · subst h
      rw [if_pos rfl, if_pos (beq_self_eq_true n)]
      omega
    · rw [if_neg h, if_neg (by simpa using h)]
      omega
theorem wp_scnt {ta tb : TE} {Φ : R → Store → Prop} (h : Wp K ta ρ S fun o S1 => ∃ z : Str, o = .dat (.str z) ∧ Wp K tb ρ S1 fun y S2 => ∃ c : Nat, y = .dat (.str ⟨#[c]⟩) ∧ Φ (.dat (.int ((cs z).count c : Nat))) S2) : Wp K (tBM K "str" (fun x xs H Q => ∃ a b, x = .str a ∧ xs = [.str b] ∧ Q (.int (Txt.count a b)) H) ta (tCons tb tNil)) ρ S Φ := fun A σ H f Q q =>
  h A σ H f _ fun o S1 A1 v H1 ⟨z, eo, hw⟩ g1 so1 ro => by
    subst eo
    obtain rfl := rep_str ro
    refine ⟨rfl, hw A1 σ H1 (f.go g1 so1) _ fun y S2 A2 u H2 ⟨c, ey, k⟩ g2 so2 ry => ?_⟩
    subst ey
    obtain rfl := rep_str ry
    refine ⟨z, ⟨#[c]⟩, rfl, rfl, ?_⟩
    rw [PyProof.Rows.count_cnt, show PyProof.Rows.cnt c z.cps.toList = ((cs z).count c : Nat) from cnt_cs c _]
    exact q _ S2 A2 _ H2 k (g1.trans g2) so2 (.int _)
end
/-! x in rows of data -/
section
variable {K : PySem.W.Frag} {S : Store} {Φ : R → Prop}
theorem o_inDat {d : D} {r : R} {ds : List D} (hr : LsR S r ds) (h1 : eqOk d = true) (h2 : eqOkL ds = true) (s1 : SeqAt.shaped (pyD d) = true) (s2 : SeqAt.shaped (.list (pyL ds)) = true) (k : Φ (.dat (.bl ((pyL ds).any fun z => PyData.eqv z (pyD d))))) : Op2 K (rInD K) (.dat d) r S Φ := op2_val (fun A H v w so rx ry => by
  obtain ⟨a, xs, rfl, hx, l⟩ := hr.rep so ry
  exact ⟨_, Rep.bl _, fun Q q => ⟨_, _, rep_dp rx h1, .lst (sq_of hx) (repl_dp l h2), s1, s2, q⟩⟩) k
theorem o_ninDat {d : D} {r : R} {ds : List D} (hr : LsR S r ds) (h1 : eqOk d = true) (h2 : eqOkL ds = true) (s1 : SeqAt.shaped (pyD d) = true) (s2 : SeqAt.shaped (.list (pyL ds)) = true) (k : Φ (.dat (.bl (!(pyL ds).any fun z => PyData.eqv z (pyD d))))) : Op2 K (rNotInD K) (.dat d) r S Φ := op2_val (fun A H v w so rx ry => by
  obtain ⟨a, xs, rfl, hx, l⟩ := hr.rep so ry
  exact ⟨_, Rep.bl _, fun Q q => ⟨_, _, rep_dp rx h1, .lst (sq_of hx) (repl_dp l h2), s1, s2, q⟩⟩) k
end
end Dl
/-! defs called wherever, an exception being handled or not. -/
namespace L2
open PySem PySem.Spec PyProof.Rows
theorem _root_.L2H.RoomH.units {k : Nat} {A : Around} (r : L2H.RoomH k A) : A.units + 64 < cLine := by have := r.un; omega
theorem _root_.L2H.RoomH.units0 {k : Nat} {A : Around} (r : L2H.RoomH k A) : A.units < cLine := by have := r.un; omega
theorem _root_.L2H.RoomH.u65 {k : Nat} {A : Around} (r : L2H.RoomH k A) : A.units + 65 < cLine := by have := r.un; omega
/-- the promise of such a def -/
structure FnT (P : Program) (w : World) (K : PySem.W.Frag) (mg : Str → Option Value) (base : Heap) (k : Nat) (f : Addr) (fd : FuncData) (ps : List Str) (sp : Sp) : Prop where
  len : ∀ vs H Q E, sp vs H Q E → vs.length = ps.length
  run : ∀ {A : Around} {outer : List Env} {s : Shared} {H : Hp} {args : Args} {us : List Value} {vs : List V} {Q : VK} {E : XK}, Env0 P w K mg base A outer s H → L2H.RoomH k A → sp vs H Q E → Vals vs us → BindsTo s fd args (ps.zip us) →
    codeAny (model P w) A (.call (.ref f) args) (CR CX0 outer P w H s Q E) s
section
variable {P : Program} {w : World} {K : PySem.W.Frag} {mg : Str → Option Value} {base : Heap} {k : Nat} {f : Addr}
theorem fn_ofT {name qual : Str} {params : Arguments} {body : List Stmt} {scope : Scope} {dV kV doc pm cdv ct oc : Value} {an od : Option Addr} {osl : Array (Option Value)} {N ps : List Str} {sp : Sp}
    (lk : K.lookup f = some ⟨oc, od, .func (PySem.W.fnOf name qual params body scope dV kV doc pm an cdv ct), osl⟩) (hcd : PySem.W.codeIn K cdv qual = true) (S : FnScope N ps scope) (len : ∀ vs H Q E, sp vs H Q E → vs.length = ps.length)
    (hbody : ∀ (A : Around) (outer : List Env) (s : Shared) (H : Hp) (vs : List V) (Q : VK) (E : XK) (p : Addr × Obj), L2H.RoomH k (A.deeper (envOfC qual scope s.heap.objs.size f cdv)) → sp vs H Q E →
      ∃ t, t { nx := fun _ H' => Q .non H', rt := Q } (L2.start N vs) H ∧ PSs (L2H.cxH CX0 P w K mg base N qual scope f cdv A outer s H E p) body t) :
    FnT P w K mg base (k + 1) f (PySem.W.fnOf name qual params body scope dV kV doc pm an cdv ct) ps sp where
  len := len
  run {A outer s H args us vs Q E} e0 room ask rel bound := by
    have at0 := e0.mod.kin f _ lk
    have inS : K.In s.heap := e0.mod.kin.keeps fun b o e => (e0.bs b o e).1
    have noL : s.heap.NoLimit := e0.mod.nolimit.keeps fun b o e => (e0.bs b o e).1
    have pin : L2H.PinOk outer H s (f, ⟨oc, od, .func (PySem.W.fnOf name qual params body scope dV kV doc pm an cdv ct), osl⟩) :=
      { get := (e0.bs f _ at0).1, free := (e0.bs f _ at0).2, nofs := fun m => (by rw [(e0.funs.mem m).1] at at0; cases at0), nocell := fun _ z => (by cases z) }
    have slots : ∀ y ∈ ps.zip us, scope.names.lookup y.1 = some .local ∨ (scope.names.lookup y.1 = some .cell ∧ ((cellsFrom (s.heap.objs.size + 1) scope.names []).lookup y.1).isSome = true) := by
      rintro ⟨n, u⟩ hy
      rcases S.par n (List.of_mem_zip hy).1 with h | h
      · exact Or.inl h
      · exact Or.inr ⟨h, PySem.W.cellsFrom_some _ _ _ (Or.inl h)⟩
    have nl := len vs H Q E ask
    refine codeAny_call_function (L2H.RoomH.depth room) (inS _ _ lk) rfl S.co S.gen rfl (PySem.W.codeRec_of inS hcd) ?_
    refine bound _ _ _ _ (wpAny_newFunctionEnv_cells S.kind slots fun env he s1 x => ?_)
    subst he
    obtain ⟨t, go, code⟩ := hbody A outer s H vs Q E (f, ⟨oc, od, .func (PySem.W.fnOf name qual params body scope dV kV doc pm an cdv ct), osl⟩) (room.deeper _) ask
    refine ⟨noL.keeps x.toInCall.keep, codeAny_func (wpAny_mono (code.run [] s1 _ H _ (L2H.inv_startH S pin e0 nl rel x) go) (fun fl s' z => ?_) fun _ _ z => z)⟩
    cases fl with
    | ret u =>
      obtain ⟨v, σ', H', J, r, h⟩ := z
      exact ⟨v, H', J.os, J.bare, J.base, J.hok, r, h⟩
    | next =>
      obtain ⟨σ', H', J, h⟩ := z
      exact ⟨.non, H', J.os, J.bare, J.base, J.hok, rfl, h⟩
    | brk =>
      obtain ⟨_, _, _, h⟩ := z
      exact False.elim h
    | cont =>
      obtain ⟨_, _, _, h⟩ := z
      exact False.elim h
/-- the rule for such a def -/
theorem FunD.okT {x qual : Str} {params : Arguments} {body : List Stmt} {scope : Scope} {dvs : List V} {kws : List (Str × V)} {fd : FuncData} {N ps : List Str} {sp : Sp} (F : FunD K x qual params body scope dvs kws f fd) (S : FnScope N ps scope) (len : ∀ vs H Q E, sp vs H Q E → vs.length = ps.length)
    (hbody : ∀ (cdv : Value) (A : Around) (outer : List Env) (s : Shared) (H : Hp) (vs : List V) (Q : VK) (E : XK) (p : Addr × Obj), L2H.RoomH k (A.deeper (envOfC qual scope s.heap.objs.size f cdv)) → sp vs H Q E →
      ∃ t, PSs (L2H.cxH CX0 P w K mg base N qual scope f cdv A outer s H E p) body t ∧ t { nx := fun _ H' => Q .non H', rt := Q } (L2.start N vs) H) : FnT P w K mg base (k + 1) f fd ps sp := by
  obtain ⟨_, _, _, _, _, _, _, _, _, _, rfl, lk, code, _⟩ := F.ex
  refine fn_ofT lk code S len fun A outer s H vs Q E p room ask => ?_
  obtain ⟨t, h1, h2⟩ := hbody _ A outer s H vs Q E p room ask
  exact ⟨t, h2, h1⟩
end
section
variable {X : Cx} {k : Nat} {f : Addr} {fd : FuncData} {ps : List Str} {sp : Sp} {x : Str} {e : Expr} {es : List Expr} {t : TA} {p pos : Pos}
/-- such a def, bound in the module -/
structure DnT (P : Program) (w : World) (K : PySem.W.Frag) (mg : Str → Option Value) (base : Heap) (k : Nat) (x : Str) (ps : List Str) (sp : Sp) : Prop where
  ex : ∃ f fd, FnT P w K mg base k f fd ps sp ∧ mg x = some (.ref f) ∧ PySem.W.keepIn K (.ref f) = true ∧ Binds K fd ps []
theorem run_T {pins : List (Addr × Obj)} {σ : St} {H : Hp} {s : Shared} {Q : VK} {us : List Value} {vs : List V} (F : FnT X.prog X.w X.K X.mg X.base k f fd ps sp) (hr : L2H.RoomH k X.A) (hb : Binds X.K fd ps []) (I : Inv X pins σ H s) (r : Vals vs us) (h : sp vs H Q E0) :
    wpAny (model X.prog X.w) X.A (call (.ref f) us) (EP X pins σ Q) X.xe s := by
  have same : us.length = ps.length := r.length.symm.trans (F.len _ _ _ _ h)
  have bound := hb s us I.kIn (by rw [List.append_nil]; exact same)
  rw [List.append_nil] at bound
  refine wpAny_call (codeAny_mono (F.run (args := ⟨us, []⟩) I.env0 hr h r bound) fun out s' z => ?_)
  match out, z with
  | .ok (.ret u), z => exact I.after z
  | .ok .next, z => exact z.elim
  | .ok .brk, z => exact z.elim
  | .ok .cont, z => exact z.elim
  | .error e, z => exact z.elim
theorem pe_cdT (D : DnT X.prog X.w X.K X.mg X.base k x ps sp) (hr : L2H.RoomH k X.A) (hg : Gl X x) (ha : PA X (e :: es) t) (hdb : (x == ("__debug__" : Str)) = false := by decide)
    (he : starEach (e :: es) X.env = (false, eval e X.env) :: starEach es X.env := by rfl) (hpl : (backTo pos (starEach es X.env)).any (·.1) = false := by rfl) :
    PE X (.Call (.Name x p) (e :: es) [] pos) (tCall sp [] E0 t) := by
  obtain ⟨f, fd, F, m, kp, b⟩ := D.ex
  refine ⟨fun pins s σ H Q I h => wpAny_Call_Name_kw (ld_glob I hg m ?_ hdb)⟩
  exact PySem.W.callWith_K (h₀ := X.base) I.ok.mod.kin kp (thn (ha.run pos pins s σ H _ I h) fun us s1 ⟨vs, H1, I1, r, q⟩ => ⟨I1.kIn, run_T F hr b I1 r (by have q' : sp (vs ++ []) H1 Q E0 := q; rw [List.append_nil] at q'; exact q')⟩) he hpl
theorem roomT_suite {a : Addr} {pn : List (Addr × Obj)} (hr : Room k X.A) : L2H.RoomH k (X.suite a pn).A := ⟨hr.dp, hr.un⟩
end
end L2
namespace Dl
open PySem PySem.Spec PyProof.Rows L2 _root_.Evl
section
variable {K : PySem.W.Frag} {S : Store} {Φ : R → Prop}
/-- a truth among truths -/
theorem inV_bls (b : Bool) (ns : List Bool) : inV (.bl b) (ns.map V.bl) = decide (b ∈ ns) := by
  induction ns with
  | nil => rfl
  | cons n ns ih =>
    rw [List.map_cons]
    unfold inV at ih ⊢
    rw [List.any_cons, ih]
    show ((n == b) || _) = _
    cases n <;> cases b <;> simp
theorem o_inBl {neg : Bool} {b : Bool} {r : R} {ns : List Bool} (h : SqR S r (ns.map .bl)) (k : Φ (.dat (.bl (if neg then !decide (b ∈ ns) else decide (b ∈ ns))))) : Op2 K (rIn K neg) (.dat (.bl b)) r S Φ := op2_val (fun A H v w so rx ry => by
  obtain rfl := rep_bl rx
  obtain ⟨a, xs, rfl, sq, l⟩ := h.rep so ry
  rw [repl_bl l] at sq
  exact ⟨_, Rep.bl _, fun Q q => ⟨a, _, rfl, sq, rfl, flat_bls ns, by rw [inV_bls]; exact q⟩⟩) k
end
end Dl
/-! Several except clauses, each with a name; their suites read what they caught. -/
namespace L2
open PySem PySem.Spec PyProof.Rows
/-- what the clauses wish of the body, one behind the other -/
def wOwnN (K : PySem.W.Frag) (Wo : WX) (D : Ends) : List (Value × Nat × TS) → WX
  | [] => Wo
  | (c, i, ts) :: more => fun cls d σ H => ∃ b, PySem.W.exmOne K cls c = some b ∧
    (b = true → ∀ a, H a = none → ts ⟨fun σ' H' => D.nx (σ'.set i none) H', D.rt, fun _ _ => False, fun _ _ => False⟩ (σ.set i (some (.ref a))) (upd H a (exk a cls d))) ∧ (b = false → wOwnN K Wo D more cls d σ H)
def tTryNs (K : PySem.W.Frag) (l : List (Value × Nat × TS)) (Wo : WX) (tb : WX → TS) : TS := fun D σ H => tb (wOwnN K Wo D l) D σ H
inductive Hds (X : Cx) : List ExceptHandler → List (Value × Nat × TS) → Prop
  | nil : Hds X [] []
  | cons {x n : Str} {c : Value} {i : Nat} {ts : TS} {st0 : Stmt} {rest : List Stmt} {np pos' : Pos} {hs : List ExceptHandler} {l : List (Value × Nat × TS)} (hi : X.N[i]? = some n) (hln : X.env.kindOf n = some .local) (hc : Names X x c)
      (hu : ∀ (a : Addr) (pn : List (Addr × Obj)), PSs (X.suite a pn) (st0 :: rest) ts) (r : Hds X hs l) : Hds X (.ExceptHandler (some (.Name x np)) (some n) (st0 :: rest) pos' :: hs) ((c, i, ts) :: l)
section
variable {X : Cx} {body : List Stmt} {h₀ : ExceptHandler} {hs0 : List ExceptHandler} {l : List (Value × Nat × TS)} {pos : Pos} {tb : WX → TS} {Wo : WX}
theorem ps_tryNs (hs : X.stack = X.env :: X.outer) (hf : X.env.frame = some X.env.locals) (hex : X.ex = []) (hN : X.N.Nodup) (tk : Takes X Wo)
    (hb : ∀ (W : WX) (pn : List (Addr × Obj)) (xe : Value → Shared → Prop), Takes (X.tr pn xe) W → PassesOwn (model X.prog X.w) X.A X.env xe → PSs (X.tr pn xe) body (tb W))
    (hh : Hds X (h₀ :: hs0) l) : PS X (.Try body (h₀ :: hs0) [] [] pos) (tTryNs X.K l Wo tb) := by
  refine ⟨fun pins s σ H D I h => ?_⟩
  have ok := I.ok
  have frA : X.A.frames = some (X.env :: X.outer) := ok.frames.trans (congrArg some hs)
  refine wpAny_Try_except ?_
  let xe1 : Value → Shared → Prop := fun e s1 => wpAny (model X.prog X.w) X.A (noteFrame e X.env) (fun _ s2 => wpAny (model X.prog X.w) X.A (setFlight e none) (fun _ s3 => wpAny (model X.prog X.w) X.A (handleBy e X.env (h₀ :: hs0)) (SP X pins D) X.xe s3) X.xe s2) X.xe s1
  have took : Takes (X.tr (X.pn ++ pins) xe1) (wOwnN X.K Wo D l) := by
    rintro u s1 ⟨a, B, sI, pins', σ1, H1, cls, d, rfl, J0, below, up, sky, na, eos, gb, w⟩
    have J : Inv X pins σ1 H1 sI := J0.ofTry ok
    rw [show (X.tr (X.pn ++ pins) xe1).stack = X.env :: X.outer from hs] at sky
    show wpAny (model X.prog X.w) X.A (noteFrame (.ref a) X.env) _ _ _
    refine Sky.land Zc.steady frA hf sky fun h3 f3 up3 => ?_
    have J3 : Inv X pins σ1 H1 { s1 with heap := h3 } := J.landed below f3.1 (up.trans up3) eos gb
    obtain ⟨o3, v3, e3, z3, d3⟩ := f3.there
    have nfr : a ∉ frs (X.env :: X.outer) := fun hm => by
      obtain ⟨_, o', q, hno⟩ := f3.2.2.1.mem hm
      rw [e3] at q
      cases q
      exact hno _ d3
    have nL : a ≠ X.env.locals := fun z => nfr (List.mem_filterMap.mpr ⟨X.env, List.mem_cons_self, hf.trans (congrArg some z.symm)⟩)
    have nF : a ∉ X.fs := fun hm => by
      obtain ⟨en, he, q⟩ := List.mem_filterMap.mp hm
      exact nfr (List.mem_filterMap.mpr ⟨en, List.mem_cons_of_mem _ he, q⟩)
    have gone : ∀ {b : Addr} {o : Obj}, sI.heap.get? b = some o → b ≠ a := fun {b o} q z => by
      subst z
      have := below b o q (by rw [show (X.tr (X.pn ++ pins) xe1).stack = X.env :: X.outer from hs]; exact nfr)
      rw [f3.2.1] at this
      cases this
    have n0 : X.s_0.heap.get? a = none := by
      cases q : X.s_0.heap.get? a with
      | none => rfl
      | some o =>
        obtain ⟨o', q'⟩ := J.base.there a o q (by rw [hex]; exact fun z => nomatch z)
        exact absurd rfl (gone q')
    have nP : ∀ p ∈ X.pn ++ pins, p.1 ≠ a := fun p hp => gone (J.pin p hp).1
    have S3 := J3.suite e3 d3 na nL nF
    have LT : PySem.W.Looks (model X.prog X.w) h3 (typeOf (.ref a)) cls := fun _ _ _ _ k q => wpAny_typeOf_ref (k _ _ e3) (by rw [z3.1]; exact q)
    have go : ∀ {hs' : List ExceptHandler} {l' : List (Value × Nat × TS)}, Hds X hs' l' → wOwnN X.K Wo D l' cls d σ1 H1 → wpAny (model X.prog X.w) X.A (handleBy (.ref a) X.env hs') (SP X pins D) X.xe { s1 with heap := h3 } := by
      intro hs' l' hk
      induction hk with
      | nil =>
        intro no
        refine wpAny_handleBy_nil ?_
        obtain ⟨_, _, _, oe, vs, T, oT, ts', he, hz, hd, h1, hr⟩ := id f3
        unfold PySem.passOn
        refine wpAny_bind (wpAny_field he hd h1 ?_)
        rw [if_neg (show ¬ ((Value.ref T == Value.none) = true) by simp)]
        have on : wpAny (model X.prog X.w) X.A (setFlight (.ref a) X.env.frame) (fun _ s4 => wpAny (model X.prog X.w) X.A (throw (.ref a) : Sem Flow) (SP X pins D) X.xe s4) X.xe { s1 with heap := h3 } := by
          rw [hf]
          refine HandSPX.setFlight_upZ f3 fun h4 g4 up4 => wpAny_throw (tk _ _ ?_)
          exact ⟨a, B, sI, pins, σ1, H1, cls, d, rfl, J, below, (up.trans up3).trans up4, .inr (.inr (by rw [hs]; exact g4)), na, eos, gb, no⟩
        first
          | exact wpAny_bind (wpAny_pure (wpAny_bind on))
          | exact wpAny_bind on
      | @cons x n c i ts st0 rest np pos' hs2 l2 hi hln hc hu r ih =>
        rintro ⟨b, eb, yes, no⟩
        refine wpAny_handleBy_cons (codeAny_handlers_test ?_) (by intro q; cases q)
        have LM := PySem.W.exm_one (M := model X.prog X.w) J3.kIn LT eb
        have named : ∀ {Q E : Value → Shared → Prop}, Q c { s1 with heap := h3 } → wpAny (model X.prog X.w) (X.A.mark (some (.ref a))) (eval (.Name x np) X.env) Q E { s1 with heap := h3 } := fun {Q E} q => by
          obtain ⟨g1, g2, g3 | ⟨g3, g4, g5⟩⟩ := hc
          · exact ld_glob (X := X.suite a ((a, o3) :: (X.pn ++ pins))) S3 g1 g3 q g2
          · exact ld_blt (X := X.suite a ((a, o3) :: (X.pn ++ pins))) S3 g1 g3 g4 q g5 g2
        refine named (LM.here ?_)
        cases b with
        | true =>
          refine codeAny_handlers_suite_as (HandSPX.lands_againZ f3 fun h4 f4 up4 => ?_)
          have J4 : Inv X pins σ1 H1 { s1 with heap := h4 } := J.landed below f4.1 ((up.trans up3).trans up4) eos gb
          obtain ⟨o4, v4, e4, z4, d4⟩ := f4.there
          have S4 : Inv (X.suite a (X.pn ++ pins)) [] σ1 (upd H1 a (exk a cls d)) { s1 with heap := h4 } :=
            (J4.suite0 a).taken (X := X.suite a (X.pn ++ pins)) e4 na n0 nL (fun v z => by rw [d4] at z; cases z) (fun p hp => nP p (by rw [List.append_nil] at hp; exact hp)) (exk_ok e4 z4 d4)
          refine store_ok (X := X.suite a (X.pn ++ pins)) (v := .ref a) S4 hN hi (.inl hln) rfl (fun s5 S5 => ?_) (.inr hln)
          refine wpAny_mono ((hu a (X.pn ++ pins)).run [] s5 _ _ _ S5 (yes rfl a na)) (fun fl s6 q6 => ?_) fun _ _ z => z.elim
          cases fl with
          | next =>
            obtain ⟨σ6, H6, S6, r6⟩ := q6
            exact gone_ok (S6.unsuite0 ok) hN hi hln fun s7 S7 => ⟨_, _, S7, r6⟩
          | ret u =>
            obtain ⟨v6, σ6, H6, S6, rv, r6⟩ := q6
            exact gone_ok (S6.unsuite0 ok) hN hi hln fun s7 J7 => ⟨_, _, _, J7, rv, r6⟩
          | brk =>
            obtain ⟨_, _, _, r6⟩ := q6
            exact r6.elim
          | cont =>
            obtain ⟨_, _, _, r6⟩ := q6
            exact r6.elim
        | false =>
          show wpAny _ X.A (handleBy (.ref a) X.env hs2) _ _ _
          exact ih (no rfl)
    exact go hh w
  refine wpAny_mono ((hb _ (X.pn ++ pins) xe1 took PassesOwn.looking).run [] s σ H D (I.toTry _) h) (fun fl s1 q => ?_) fun _ _ z => z
  cases fl with
  | next =>
    obtain ⟨σ', H', J', r⟩ := q
    exact wpAny_execs_nil ⟨σ', H', J'.ofTry ok, r⟩
  | brk =>
    obtain ⟨σ', H', J', r⟩ := q
    exact ⟨σ', H', J'.ofTry ok, r⟩
  | cont =>
    obtain ⟨σ', H', J', r⟩ := q
    exact ⟨σ', H', J'.ofTry ok, r⟩
  | ret u =>
    obtain ⟨v, σ', H', J', rv, r⟩ := q
    exact ⟨v, σ', H', J'.ofTry ok, rv, r⟩
end
end L2
namespace Dl
open PySem PySem.Spec PyProof.Rows L2 _root_.Evl
section
variable [Z : Zo] {K : PySem.W.Frag} {S : Store} {ρ : List R} {Nx Bk Ct : PR} {Rt : R → Store → Prop} {Ψ Ψ' : Str → List (Str × D) → List R → Store → Prop}
/-- what is asked of each clause -/
def HdW [Z : Zo] (K : PySem.W.Frag) (Nx : PR) (Rt : R → Store → Prop) (Ψ : Str → List (Str × D) → List R → Store → Prop) : List (Value × Nat × TS) → Str → List (Str × D) → List R → Store → Prop
  | [], c, fs, ρ', S' => Ψ c fs ρ' S'
  | (cv, i, ts) :: more, c, fs, ρ', S' => i < ρ'.length ∧ ∃ b, PySem.W.exmOne K (.ref (He.ga K c)) cv = some b ∧ (b = true → WpS K ts (ρ'.set i (.dat (.exc c fs))) S' (fun ρ2 S2 => Nx (ρ2.set i .no) S2) Rt (fun _ _ => False) fun _ _ => False) ∧ (b = false → HdW K Nx Rt Ψ more c fs ρ' S')
theorem ws_tryNs {tb : WX → TS} {l : List (Value × Nat × TS)} {Wo : WX} (hz : Rz K Wo Ψ) (h : ∀ (W : WX) [Z' : Zo], Rz K W Ψ' → WpS K (tb W) ρ S Nx Rt Bk Ct) (hc : ∀ c fs ρ' S', Ψ' c fs ρ' S' → HdW K Nx Rt Ψ l c fs ρ' S') :
    WpS K (tTryNs K l Wo tb) ρ S Nx Rt Bk Ct := fun A σ H g D e => by
  refine @h (wOwnN K Wo D l) (zoA Z A S H) (fun A' S' H' ρ' σ' c fs d f' p x => ?_) A σ H g.up D (e.up A S H)
  have gr := f'.gr
  have f := f'.dn
  clear f'
  have w := hc c fs ρ' S' p
  clear hc h p
  induction l with
  | nil => exact hz A' S' H' ρ' σ' c fs d f w x
  | cons cl more ih =>
    obtain ⟨cv, i, ts⟩ := cl
    obtain ⟨li, b, eb, yes, no⟩ := w
    refine ⟨b, eb, fun e1 a ha => ?_, fun e1 => ih (no e1)⟩
    have so' := f.st
    have ex : Ex H' (upd H' a (exk a (.ref (He.ga K c)) d)) := Ex.new ha
    have g1 : Gr A' S' H' A' S' (upd H' a (exk a (.ref (He.ga K c)) d)) := .ex ex
    have na : ¬ Lv A' S' a := so'.new ha
    have rx : Rep K (Lv A' S') (upd H' a (exk a (.ref (He.ga K c)) d)) (.exc c fs) (.ref a) := by
      cases d with
      | none =>
        have ef : fs = [] := x
        subst ef
        exact .exc0 na upd_same
      | some d =>
        obtain ⟨gs, nd, hd, rf⟩ := x
        have ne : d ≠ a := fun z => by
          subst z
          rw [ha] at hd
          cases hd
        exact .exc na nd ⟨upd_same, by rw [upd_ne ne]; exact hd⟩ (rf.go (.ex ex))
    have gg := gr.trans g1
    exact yes e1 A' _ _ ⟨so'.ex ex, (f.en.go g1).set i (r := .dat (.exc c fs)) rx, Z.mono f.xo g1⟩ _ ⟨fun ρ2 S2 A2 σ2 H2 p2 g2 f2 => e.nx _ S2 A2 _ H2 p2 (gg.trans g2) ⟨f2.st, f2.en.setNo i none, f2.xo⟩, fun r S2 A2 v H2 p2 g2 so2 r2 => e.rt r S2 A2 v H2 p2 (gg.trans g2) so2 r2, fun _ _ _ _ _ p2 => p2.elim, fun _ _ _ _ _ p2 => p2.elim⟩
end
end Dl
/-! enumerate(text). -/
namespace Dl
open PySem PySem.Spec PyProof.Rows L2 _root_.Evl
section
variable [Z : Zo] {K : PySem.W.Frag} {A : List Addr} {S : Store} {H : Hp} {ρ : List R} {σ : L2.St} {tl : TA}
theorem wi_enumS {Φ : List D → Store → Prop} (h : WpA K tl ρ S fun rs S1 => ∃ z, rs = [.dat (.str z)] ∧ Φ (enumD (signs z)) S1) : WpI K (iEnumS tl) ρ S Φ := fun A σ H f Q q =>
  h A σ H f _ fun rs S1 A1 vs H1 ⟨z, e, k⟩ g1 so1 rr => by
    subst e
    obtain ⟨v, rfl, r1⟩ := reps1 rr
    obtain rfl := rep_str r1
    have ls : (signs z).length = z.cps.size := by
      unfold signs
      rw [List.length_map]
      simp [cs]
    refine ⟨z, rfl, q _ S1 A1 _ H1 k g1 so1 fun X' H' g dom => ⟨fun i d hd => ?_, by rw [en_len, ls]; exact rfl⟩⟩
    obtain ⟨x, hx, rfl⟩ := en_get hd
    have hl := (List.getElem?_eq_some_iff.mp hx).1
    rw [ls] at hl
    refine ⟨hl, fun v H'' y => ?_⟩
    obtain ⟨T, c, rfl, hT, rfl, hc⟩ := y
    unfold signs at hx
    rw [List.getElem?_map] at hx
    have hc2 : (cs z)[i]? = some c := by
      rw [← hc]
      simp [cs]
    rw [hc2] at hx
    cases hx
    have nT : ¬ X' T := fun z => dom T z hT
    exact ⟨Ex.new hT, .tup nT (.inl upd_same) (.cons (.int _) (.cons (.str _) .nil))⟩
end
end Dl
/-! rstrip of a text; rows of truths that differ. -/
namespace Dl
open PySem PySem.Spec PyProof.Rows L2 _root_.Evl
section
variable [Z : Zo] {K : PySem.W.Frag} {A : List Addr} {S : Store} {H : Hp} {ρ : List R} {σ : L2.St} {tl : TA}
theorem wp_rstrip {ta tb : TE} {Φ : R → Store → Prop} (h : Wp K ta ρ S fun o S1 => ∃ z : Str, o = .dat (.str z) ∧ z.length ≤ 1000 ∧ Wp K tb ρ S1 fun y S2 => ∃ b : Str, y = .dat (.str b) ∧ Φ (.dat (.str (Txt.rstripChars z b))) S2) : Wp K (tBM K "str" (fun x xs H Q => ∃ a b, x = .str a ∧ xs = [.str b] ∧ a.length ≤ sizeLine ∧ Q (.str (Txt.rstripChars a b)) H) ta (tCons tb tNil)) ρ S Φ := fun A σ H f Q q =>
  h A σ H f _ fun o S1 A1 v H1 ⟨z, eo, hz, hw⟩ g1 so1 ro => by
    subst eo
    obtain rfl := rep_str ro
    refine ⟨rfl, hw A1 σ H1 (f.go g1 so1) _ fun y S2 A2 u H2 ⟨c, ey, k⟩ g2 so2 ry => ?_⟩
    subst ey
    obtain rfl := rep_str ry
    exact ⟨z, c, rfl, rfl, sz_of (by omega), q _ S2 A2 _ H2 k (g1.trans g2) so2 (.str _)⟩
theorem o_neLB {r1 r2 : R} {ns ms : List Bool} {Φ : R → Prop} (h1 : LsR S r1 (ns.map .bl)) (h2 : LsR S r2 (ms.map .bl)) (k : Φ (.dat (.bl (!decide (ns = ms))))) : Op2 K (rNeD K) r1 r2 S Φ := op2_val (fun A H v w so rx ry => by
  obtain ⟨a, xs, rfl, hx, l⟩ := h1.rep so rx
  obtain ⟨b, ys, rfl, hy, l'⟩ := h2.rep so ry
  have d1 := repl_dp l (eqOk_bls ns)
  have d2 := repl_dp l' (eqOk_bls ms)
  rw [pyL_bls] at d1 d2
  refine ⟨_, Rep.bl _, fun Q q => ⟨_, _, .lst (sq_of hx) d1, .lst (sq_of hy) d2, shp_lB _, shp_lB _, ?_⟩⟩
  rw [PyData.eqv, eqv_bls]
  exact q) k
end
end Dl
/-! sum of truths; a dict written with one text. -/
namespace L2
open PySem PySem.Spec PyProof.Rows
section
variable {prog : Program} {w : World} {A : Around} {E : Value → Shared → Prop} {s : Shared} {l : Addr} {its : Array Value}
theorem sum_numsG {val : Nat → Int} {Q : Value → Shared → Prop} (hh : A.handled = none) (hl : s.heap.IsList l its) (hv : ∀ (i : Nat) (v : Value), its[i]? = some v → NumOf (val i) v)
    (h : ∀ h' tk t', (∀ b o, s.heap.get? b = some o → h'.get? b = some o) → Q (.int (preSum val its.size) t') { s with heap := h', toks := tk }) :
    wpAny (model prog w) A (call (.builtin "sum") [.ref l]) Q E s := by
  obtain ⟨o, ho, hc, n, hd⟩ := id hl
  have hne : l ≠ s.heap.objs.size := Nat.ne_of_lt (Heap.lt_size ho)
  have W := (Walks.list (prog := prog) (w := w) (A := A.in1) hh s.heap.objs.size l hne its).toS
  refine call_sum_walkAnyB (wpAny_pyIter_list hl ?_)
  refine ⟨s.heap.objs.size, _, _, _, _, _, _, val, rfl, W, ⟨⟨_, Heap.get?_push_size _ rfl, rfl, rfl⟩, hl.at fun o e => Heap.get?_push_of_some _ e⟩, fun b hb => ?_, fun i v hP => hv i v hP, fun s' t' hm => ?_⟩
  · rcases List.mem_cons.mp hb with rfl | hb
    · exact Heap.lt_size (Heap.get?_push_size _ rfl)
    · obtain rfl := List.mem_singleton.mp hb
      exact Heap.lt_size (Heap.get?_push_of_some _ ho)
  · obtain ⟨h', g', d', tk', os'⟩ := s'
    have e1 : g' = s.gens := hm.gens
    have e2 : d' = s.drawn := hm.drawn
    have e3 : os' = s.os := hm.os
    subst e1 e2 e3
    exact h h' tk' t' fun b o e => hm.heap b o (fun hb => absurd (Heap.lt_size e) ((List.mem_singleton.mp hb) ▸ Nat.lt_irrefl _)) (Heap.get?_push_of_some _ e)
end
def bInt (b : Bool) : Int := if b = true then 1 else 0
def rSumB (K : PySem.W.Frag) : List V → Hp → VK → Prop := fun vs H Q => ∃ (a : Addr) (bs : List Bool), vs = [V.ref a] ∧ SqL K H a (bs.map V.bl) ∧ Q (.int (bs.map bInt).sum) H
theorem vals_bl : ∀ {bs : List Bool} {us : List Value}, Vals (bs.map V.bl) us → us = bs.map Value.bool
  | [], _, .nil => rfl
  | b :: bs, _, .cons h t => by
    rw [vals_bl t]
    obtain rfl := h
    rfl
theorem pre_bools (bs : List Bool) : ∀ n, n ≤ bs.length → preSum (fun i => ((bs[i]?).map bInt).getD 0) n = ((bs.take n).map bInt).sum
  | 0, _ => rfl
  | n + 1, hn => by
    have hx : bs[n]? = some bs[n] := List.getElem?_eq_getElem hn
    show preSum _ n + ((bs[n]?).map bInt).getD 0 = _
    rw [pre_bools bs n (Nat.le_of_succ_le hn), List.take_succ, hx, List.map_append, List.sum_append]
    simp
theorem cr_sumB {X : Cx} (hc : X.calm = true) : CallR X (.builtin "sum") (rSumB X.K) := by
  intro pins s σ H vs us Q I r h
  obtain ⟨a, bs, rfl, hs, q⟩ := h
  obtain ⟨its, rv, hl, _⟩ := I.list hs
  rw [Vals.ref1 r]
  obtain rfl := vals_bl rv
  refine sum_numsG (val := fun i => ((bs[i]?).map bInt).getD 0) (I.ok.hd hc) hl.isList (fun i v hv => ?_) fun h' tk t' hk => ?_
  · have hv : (bs.map Value.bool)[i]? = some v := by simpa using hv
    rw [List.getElem?_map] at hv
    cases e : bs[i]? with
    | none => rw [e] at hv; cases hv
    | some b =>
      rw [e] at hv
      cases hv
      exact .inr ⟨b, rfl, rfl⟩
  · refine ⟨.int _, H, I.kept hk, ⟨_, rfl⟩, ?_⟩
    have e := pre_bools bs bs.length (Nat.le_refl _)
    rw [List.take_length] at e
    have z : (bs.map Value.bool).toArray.size = bs.length := by simp
    rw [z, e]
    exact q
end L2
namespace Dl
open PySem PySem.Spec PyProof.Rows L2 _root_.Evl
section
variable [Z : Zo] {K : PySem.W.Frag} {A : List Addr} {S : Store} {H : Hp} {ρ : List R} {σ : L2.St} {Φ : R → Store → Prop} {Φ1 : R → Prop}
theorem c_sumB {r : R} {bs : List Bool} (h : LsR S r (bs.map .bl)) (k : Φ1 (.dat (.int (bs.map bInt).sum))) : Cb K (rSumB K) [r] S Φ1 := cb_val (fun A H vs so rx => by
  obtain ⟨v, rfl, rr⟩ := reps1 rx
  obtain ⟨a, xs, rfl, hx, l⟩ := h.rep so rr
  rw [repl_bl l] at hx
  exact ⟨_, Rep.int _, fun Q q => ⟨a, bs, rfl, sq_of hx, q⟩⟩) k
theorem wp_dispS {z : Str} {j : Int} (k : Φ (.dat (.dic [(.inr z, .int j)])) S) : Wp K (tDisp [(tC (.str z), tC (.int j))]) ρ S Φ := fun A σ H f Q q p hp => by
  refine ⟨upd_same, [(.inr z, .int j)], rfl, by show 1 ≤ 15; decide, ?_⟩
  have e : upd (upd H p (.dK [])) p (.dK (mergeK [] [((Sum.inr z : Key), V.int j)])) = upd H p (.dK [((Sum.inr z : Key), V.int j)]) := by
    funext a
    unfold upd
    split <;> rfl
  rw [e]
  exact q _ S A _ _ k (.ex (Ex.new hp)) (f.st.ex (Ex.new hp)) (.dic (f.st.new hp) upd_same (.cons (.int j) .nil))
end
end Dl
namespace L2
open PySem PySem.Spec PyProof.Rows Evl
theorem pe_bmX {X : Cx} {T : String} {name : Str} {id : String} {o e : Expr} {es : List Expr} {to : TE} {t : TA} {apos cpos : Pos} {r : PySem.W.Frag → V → List V → Hp → VK → Prop} (K : PySem.W.Frag) (hK : X.K = K) (pa : PlainAttrs T) (slot : Slot T name id) (hty : typeOf (.builtin id) = pure (.type "method_descriptor")) (hm : MtR X id (r X.K)) (ho : PE X o to) (ha : PA X (e :: es) t)
    (b1 : attributeBase o name X.env (eval o X.env) = eval o X.env) (b2 : ((backTo cpos (starEach (e :: es) X.env)).all (fun x => !x.1) && (backToKw cpos (keywordEach [] X.env)).all (fun x => x.1.isSome) && decide ((e :: es).length + ([] : List Keyword).length + (if ([] : List Keyword).isEmpty then 0 else 1) < 30)) = true)
    (b3 : (apos.endLine == cpos.line) = true) (b4 : starEach (e :: es) X.env = (false, eval e X.env) :: starEach es X.env) (b5 : (backTo cpos (starEach es X.env)).any (·.1) = false) :
    PE X (.Call (.Attribute o name apos) (e :: es) [] cpos) (tBM K T (r K) to t) := by
  subst hK
  exact pe_bm pa slot hty hm ho ha b1 b2 b3 b4 b5
end L2
/-! split, ljust, zfill and startswith of texts. -/
namespace Dl
open PySem PySem.Spec PyProof.Rows L2 _root_.Evl
abbrev rLjust : V → List V → Hp → VK → Prop := fun x xs H Q => ∃ (a : Str) (i : Int), x = .str a ∧ xs = [.int i] ∧ PadOk i = true ∧ Q (.str (Txt.ljust a i)) H
abbrev rZfill : V → List V → Hp → VK → Prop := fun x xs H Q => ∃ (a : Str) (i : Int), x = .str a ∧ xs = [.int i] ∧ PadOk i = true ∧ Q (.str (Txt.zfill a i)) H
abbrev rStartswith : V → List V → Hp → VK → Prop := fun x xs H Q => ∃ a b, x = .str a ∧ xs = [.str b] ∧ Q (.bl (Txt.startswith a b)) H
abbrev rSplit : V → List V → Hp → VK → Prop := fun x xs H Q => ∃ a b, x = .str a ∧ xs = [.str b] ∧ (b.length == 0) = false ∧ a.length + 2 ≤ sizeLine ∧ rNewStrs (Txt.split a b) H Q
theorem repl_strs {K : PySem.W.Frag} {X : Addr → Prop} {H : Hp} : ∀ ys : List Str, RepL K X H (ys.map D.str) (ys.map V.str)
  | [] => .nil
  | y :: ys => .cons (.str y) (repl_strs ys)
section
variable [Z : Zo] {K : PySem.W.Frag} {A : List Addr} {S : Store} {H : Hp} {ρ : List R} {σ : L2.St} {tl : TA}
theorem wp_zfill {ta tb : TE} {Φ : R → Store → Prop} (h : Wp K ta ρ S fun o S1 => ∃ z : Str, o = .dat (.str z) ∧ Wp K tb ρ S1 fun y S2 => ∃ i : Int, y = .dat (.int i) ∧ PadOk i = true ∧ Φ (.dat (.str (Txt.zfill z i))) S2) : Wp K (tBM K "str" (fun x xs H Q => ∃ (a : Str) (i : Int), x = .str a ∧ xs = [.int i] ∧ PadOk i = true ∧ Q (.str (Txt.zfill a i)) H) ta (tCons tb tNil)) ρ S Φ := fun A σ H f Q q =>
  h A σ H f _ fun o S1 A1 v H1 ⟨z, eo, hw⟩ g1 so1 ro => by
    subst eo
    obtain rfl := rep_str ro
    refine ⟨rfl, hw A1 σ H1 (f.go g1 so1) _ fun y S2 A2 u H2 ⟨i, ey, hp, k⟩ g2 so2 ry => ?_⟩
    subst ey
    obtain rfl := rep_int ry
    exact ⟨z, i, rfl, rfl, hp, q _ S2 A2 _ H2 k (g1.trans g2) so2 (.str _)⟩
theorem wp_ljust {ta tb : TE} {Φ : R → Store → Prop} (h : Wp K ta ρ S fun o S1 => ∃ z : Str, o = .dat (.str z) ∧ Wp K tb ρ S1 fun y S2 => ∃ i : Int, y = .dat (.int i) ∧ PadOk i = true ∧ Φ (.dat (.str (Txt.ljust z i))) S2) : Wp K (tBM K "str" (fun x xs H Q => ∃ (a : Str) (i : Int), x = .str a ∧ xs = [.int i] ∧ PadOk i = true ∧ Q (.str (Txt.ljust a i)) H) ta (tCons tb tNil)) ρ S Φ := fun A σ H f Q q =>
  h A σ H f _ fun o S1 A1 v H1 ⟨z, eo, hw⟩ g1 so1 ro => by
    subst eo
    obtain rfl := rep_str ro
    refine ⟨rfl, hw A1 σ H1 (f.go g1 so1) _ fun y S2 A2 u H2 ⟨i, ey, hp, k⟩ g2 so2 ry => ?_⟩
    subst ey
    obtain rfl := rep_int ry
    exact ⟨z, i, rfl, rfl, hp, q _ S2 A2 _ H2 k (g1.trans g2) so2 (.str _)⟩
theorem wp_starts {ta tb : TE} {Φ : R → Store → Prop} (h : Wp K ta ρ S fun o S1 => ∃ z : Str, o = .dat (.str z) ∧ Wp K tb ρ S1 fun y S2 => ∃ b : Str, y = .dat (.str b) ∧ Φ (.dat (.bl (Txt.startswith z b))) S2) : Wp K (tBM K "str" (fun x xs H Q => ∃ a b, x = .str a ∧ xs = [.str b] ∧ Q (.bl (Txt.startswith a b)) H) ta (tCons tb tNil)) ρ S Φ := fun A σ H f Q q =>
  h A σ H f _ fun o S1 A1 v H1 ⟨z, eo, hw⟩ g1 so1 ro => by
    subst eo
    obtain rfl := rep_str ro
    refine ⟨rfl, hw A1 σ H1 (f.go g1 so1) _ fun y S2 A2 u H2 ⟨b, ey, k⟩ g2 so2 ry => ?_⟩
    subst ey
    obtain rfl := rep_str ry
    exact ⟨z, b, rfl, rfl, q _ S2 A2 _ H2 k (g1.trans g2) so2 (.bl _)⟩
theorem wp_split {ta tb : TE} {Φ : R → Store → Prop} (h : Wp K ta ρ S fun o S1 => ∃ z : Str, o = .dat (.str z) ∧ z.length ≤ 100000 ∧ Wp K tb ρ S1 fun y S2 => ∃ b : Str, y = .dat (.str b) ∧ (b.length == 0) = false ∧ Φ (.dat (.lst ((Txt.split z b).map .str))) S2) : Wp K (tBM K "str" (fun x xs H Q => ∃ a b, x = .str a ∧ xs = [.str b] ∧ (b.length == 0) = false ∧ a.length + 2 ≤ sizeLine ∧ rNewStrs (Txt.split a b) H Q) ta (tCons tb tNil)) ρ S Φ := fun A σ H f Q q =>
  h A σ H f _ fun o S1 A1 v H1 ⟨z, eo, hz, hw⟩ g1 so1 ro => by
    subst eo
    obtain rfl := rep_str ro
    refine ⟨rfl, hw A1 σ H1 (f.go g1 so1) _ fun y S2 A2 u H2 ⟨b, ey, hb, k⟩ g2 so2 ry => ?_⟩
    subst ey
    obtain rfl := rep_str ry
    refine ⟨z, b, rfl, rfl, hb, by rw [sizeLine_eq]; omega, fun p hp => ?_⟩
    exact q _ S2 A2 _ _ k ((g1.trans g2).trans (.ex (Ex.new hp))) (so2.ex (Ex.new hp)) (rep_new (so := so2) hp (repl_strs _)).2
end
end Dl
/-! != of two lists of unlike lengths, whatever they hold. -/
namespace L2
open PySem PySem.Spec PyProof.Rows Evl
def rLenL (K : PySem.W.Frag) (b : Bool) : V → V → Hp → VK → Prop := fun x y H Q => ∃ p q xs ys, x = V.ref p ∧ y = V.ref q ∧ SqL K H p xs ∧ SqL K H q ys ∧ xs.length ≠ ys.length ∧ Q (.bl b) H
section
variable {X : Cx}
theorem op_neLn (hu : X.A.units + 64 < cLine) : OpR X (compareOp .NotEq) (rLenL X.K true) := by
  intro pins s σ H x y v u Q I rx ry h
  obtain ⟨a, b, xs, ys, rfl, rfl, hx, hy, ne, q⟩ := h
  obtain ⟨its, rv, hl, _⟩ := I.list hx
  obtain ⟨jts, sv, kl, _⟩ := I.list hy
  cases rx
  cases ry
  refine SeqAt.RcNeAt.lists_lengths hl.isList kl.isList (bne_iff_ne.mpr ?_) (by omega) X.prog X.w _ _ ⟨.bl _, H, I, rfl, q⟩
  rw [List.size_toArray, List.size_toArray, ← rv.length, ← sv.length]
  exact ne
end
end L2
namespace Dl
open PySem PySem.Spec PyProof.Rows L2 _root_.Evl
section
variable {K : PySem.W.Frag} {S : Store} {Φ : R → Prop}
theorem o_lnE {b : Bool} {x y : R} {ds es : List D} (hx : LsR S x ds) (hy : LsR S y es) (ne : ds.length ≠ es.length) (k : Φ (.dat (.bl b))) : Op2 K (rLenL K b) x y S Φ := op2_val (z := .dat (.bl b)) (fun A H v w so rx ry => by
  obtain ⟨p, xs, rfl, h1, l1⟩ := hx.rep so rx
  obtain ⟨q, ys, rfl, h2, l2⟩ := hy.rep so ry
  exact ⟨_, Rep.bl _, fun Q q' => ⟨p, q, xs, ys, rfl, rfl, sq_of h1, sq_of h2, by rw [← l1.length, ← l2.length]; exact ne, q'⟩⟩) k
end
end Dl
namespace Tn
def low (t u : Int) : Int × Int := (t / (Int.gcd t u : Int), u / (Int.gcd t u : Int))
def part (t u : Int) : Int × Int := low (t % u) u
def sgn (t u : Int) : Int × Int := if u < 0 then part (-t) (-u) else part t u
def on (a b : Int × Int) : Int × Int := part (a.1 * b.2 + b.1 * a.2) (a.2 * b.2)
def off (a b : Int × Int) : Int × Int := part (a.1 * b.2 - b.1 * a.2) (a.2 * b.2)
structure Can (a : Int × Int) : Prop where
  pos : 0 < a.2
  nn : 0 ≤ a.1
  lt : a.1 < a.2
  cop : Int.gcd a.1 a.2 = 1
theorem gcd_pos {t u : Int} (hu : 0 < u) : (0 : Int) < (Int.gcd t u : Int) := by
  have : 0 < Int.gcd t u := Int.gcd_pos_of_ne_zero_right _ (by omega)
  omega
theorem low_fst {t u : Int} : (low t u).1 * (Int.gcd t u : Int) = t := Int.ediv_mul_cancel (Int.gcd_dvd_left ..)
theorem low_snd {t u : Int} : (low t u).2 * (Int.gcd t u : Int) = u := Int.ediv_mul_cancel (Int.gcd_dvd_right ..)
theorem low_can {t u : Int} (h0 : 0 ≤ t) (h1 : t < u) : Can (low t u) := by
  have hu : 0 < u := by omega
  have g := gcd_pos (t := t) hu
  have e1 := low_fst (t := t) (u := u)
  have e2 := low_snd (t := t) (u := u)
  refine ⟨?_, ?_, ?_, ?_⟩
  · exact Int.ediv_pos_of_pos_of_dvd hu (by omega) (Int.gcd_dvd_right ..)
  · exact Int.ediv_nonneg h0 (by omega)
  · refine Int.lt_of_mul_lt_mul_right (a := (Int.gcd t u : Int)) ?_ (by omega)
    rw [e1, e2]
    exact h1
  · show Int.gcd (t / (Int.gcd t u : Int)) (u / (Int.gcd t u : Int)) = 1
    exact Int.gcd_ediv_gcd_ediv_gcd_of_ne_zero_right (by omega)
theorem part_can {t u : Int} (hu : 0 < u) : Can (part t u) := low_can (Int.emod_nonneg _ (by omega)) (Int.emod_lt_of_pos _ hu)
theorem low_le {t u : Int} (hu : 0 < u) : (low t u).2 ≤ u := Int.ediv_le_self _ (by omega)
theorem part_le {t u : Int} (hu : 0 < u) : (part t u).2 ≤ u := low_le hu
theorem part_rel {t u : Int} (hu : 0 < u) : ∃ k, t * (part t u).2 - (part t u).1 * u = k * (u * (part t u).2) := by
  have e1 : (part t u).1 * (Int.gcd (t % u) u : Int) = t % u := low_fst
  have e2 : (part t u).2 * (Int.gcd (t % u) u : Int) = u := low_snd
  have e3 := Int.emod_add_mul_ediv t u
  refine ⟨t / u, ?_⟩
  generalize part t u = p at *
  obtain ⟨x, y⟩ := p
  dsimp only at *
  generalize (Int.gcd (t % u) u : Int) = g at *
  generalize t % u = r at *
  generalize t / u = q at *
  subst e1
  grind
theorem can_uniq {a b : Int × Int} (ha : Can a) (hb : Can b) {k : Int} (h : a.1 * b.2 - b.1 * a.2 = k * (a.2 * b.2)) : a = b := by
  obtain ⟨x, y⟩ := a
  obtain ⟨z, w⟩ := b
  have a1 : 0 < y := ha.pos
  have a2 : 0 ≤ x := ha.nn
  have a3 : x < y := ha.lt
  have b1 : 0 < w := hb.pos
  have b2 : 0 ≤ z := hb.nn
  have b3 : z < w := hb.lt
  have ca : Int.gcd x y = 1 := ha.cop
  have cb : Int.gcd z w = 1 := hb.cop
  have h : x * w - z * y = k * (y * w) := h
  have p1 : 0 ≤ x * w := Int.mul_nonneg a2 (by omega)
  have p2 : 0 ≤ z * y := Int.mul_nonneg b2 (by omega)
  have p3 : x * w < y * w := Int.mul_lt_mul_of_pos_right a3 b1
  have p4 : z * y < w * y := Int.mul_lt_mul_of_pos_right b3 a1
  have p5 : 0 < y * w := Int.mul_pos a1 b1
  rw [Int.mul_comm w y] at p4
  have k0 : k = 0 := by
    generalize y * w = m at *
    by_cases q : 1 ≤ k
    · have : m ≤ k * m := by
        have := Int.mul_le_mul_of_nonneg_right q (show 0 ≤ m by omega)
        omega
      omega
    · by_cases q2 : k ≤ -1
      · have : k * m ≤ -m := by
          have := Int.mul_le_mul_of_nonneg_right q2 (show 0 ≤ m by omega)
          omega
        omega
      · omega
  subst k0
  have e : x * w = z * y := by omega
  have d1 : y ∣ w := by
    have q : y ∣ x * w := ⟨z, by grind⟩
    have q2 := Int.dvd_gcd_mul_iff_dvd_mul.mpr q
    rw [Int.gcd_comm, ca] at q2
    simpa using q2
  have d2 : w ∣ y := by
    have q : w ∣ z * y := ⟨x, by grind⟩
    have q2 := Int.dvd_gcd_mul_iff_dvd_mul.mpr q
    rw [Int.gcd_comm, cb] at q2
    simpa using q2
  have e2 : y = w := Int.le_antisymm (Int.le_of_dvd b1 d1) (Int.le_of_dvd a1 d2)
  subst e2
  have : x = z := Int.eq_of_mul_eq_mul_right (by omega) e
  rw [this]
theorem part_eq {t u : Int} {b : Int × Int} (hu : 0 < u) (hb : Can b) {k : Int} (h : t * b.2 - b.1 * u = k * (u * b.2)) : part t u = b := by
  obtain ⟨j, e⟩ := part_rel (t := t) hu
  refine can_uniq (k := k - j) (part_can hu) hb ?_
  generalize part t u = p at *
  refine Int.eq_of_mul_eq_mul_left (a := u) (by omega) ?_
  grind
theorem part_self {a : Int × Int} (ha : Can a) : part a.1 a.2 = a := part_eq (k := 0) ha.pos ha (by grind)
theorem can01 : Can (0, 1) := ⟨by decide, by decide, by decide, by decide⟩
theorem on_can {a b : Int × Int} (ha : Can a) (hb : Can b) : Can (on a b) := part_can (Int.mul_pos ha.pos hb.pos)
theorem off_can {a b : Int × Int} (ha : Can a) (hb : Can b) : Can (off a b) := part_can (Int.mul_pos ha.pos hb.pos)
theorem sgn_can {t u : Int} (hu : u ≠ 0) : Can (sgn t u) := by
  unfold sgn
  by_cases h : u < 0
  · rw [if_pos h]
    exact part_can (by omega)
  · rw [if_neg h]
    exact part_can (by omega)
theorem sgn_pos {t u : Int} (hu : 0 < u) : sgn t u = part t u := if_neg (by omega)
theorem sgn_le {t u : Int} (hu : u ≠ 0) : (sgn t u).2 ≤ (u.natAbs : Int) := by
  unfold sgn
  by_cases h : u < 0
  · rw [if_pos h]
    have := part_le (t := -t) (u := -u) (by omega)
    omega
  · rw [if_neg h]
    have := part_le (t := t) (u := u) (by omega)
    omega
/-- added and taken off again -/
theorem on_off {a b : Int × Int} (ha : Can a) (hb : Can b) : off (on a b) b = a := by
  obtain ⟨j, e⟩ := part_rel (t := a.1 * b.2 + b.1 * a.2) (u := a.2 * b.2) (Int.mul_pos ha.pos hb.pos)
  have c := on_can ha hb
  have e : (a.1 * b.2 + b.1 * a.2) * (on a b).2 - (on a b).1 * (a.2 * b.2) = j * (a.2 * b.2 * (on a b).2) := e
  generalize on a b = p at *
  refine part_eq (k := -j) (Int.mul_pos c.pos hb.pos) ha ?_
  have := ha.pos
  have := hb.pos
  refine Int.eq_of_mul_eq_mul_left (a := b.2) (by omega) ?_
  grind
theorem on_comm {a b : Int × Int} : on a b = on b a := by
  unfold on
  rw [Int.add_comm, Int.mul_comm a.2 b.2]
theorem on_off' {a b : Int × Int} (ha : Can a) (hb : Can b) : off (on a b) a = b := by
  rw [on_comm]
  exact on_off hb ha
theorem off_self {a : Int × Int} (ha : Can a) : off a a = (0, 1) := part_eq (k := 0) (Int.mul_pos ha.pos ha.pos) can01 (by grind)
def half : Int × Int := (1, 2)
theorem half_can : Can half := ⟨by decide, by decide, by decide, by decide⟩
theorem on_half2 {a : Int × Int} (ha : Can a) : on (on a half) half = a := by
  obtain ⟨j, e⟩ := part_rel (t := a.1 * 2 + 1 * a.2) (u := a.2 * 2) (by have := ha.pos; omega)
  have c := on_can ha half_can
  have e : (a.1 * 2 + 1 * a.2) * (on a half).2 - (on a half).1 * (a.2 * 2) = j * (a.2 * 2 * (on a half).2) := e
  generalize on a half = p at *
  have h1 := ha.pos
  have h2 := c.pos
  refine part_eq (t := p.1 * 2 + 1 * p.2) (u := p.2 * 2) (k := 1 - j) (by omega) ha ?_
  grind
theorem part_whole (t : Int) : part t 1 = (0, 1) := part_eq (k := t) (by decide) can01 (by grind)
theorem sgn_whole (t : Int) : sgn t 1 = (0, 1) := by
  rw [sgn_pos (by decide)]
  exact part_whole t
theorem part_zero {u : Int} (hu : 0 < u) : part 0 u = (0, 1) := part_eq (k := 0) hu can01 (by grind)
theorem gcd_step (x y : Int) (hx : 0 ≤ x) (hy : 0 < y) : Int.gcd y (x % y) = Int.gcd x y := by
  have h : Int.gcd (x % y) y = Int.gcd x y := by
    unfold Int.gcd
    obtain ⟨a, rfl⟩ := Int.eq_ofNat_of_zero_le hx
    obtain ⟨b, rfl⟩ := Int.eq_ofNat_of_zero_le (Int.le_of_lt hy)
    show Nat.gcd (((a : Int) % (b : Int)).natAbs) b = Nat.gcd a b
    have : ((a : Int) % (b : Int)).natAbs = a % b := by omega
    rw [this, Nat.gcd_comm a b, Nat.gcd_rec b a]
  rw [Int.gcd_comm, h]
/-- how far apart, the shorter way -/
def apart (a b : Int × Int) : Int × Int := if (off a b).2 < 2 * (off a b).1 then off b a else off a b
/-- taken off the other way about -/
theorem off_back {a b : Int × Int} (ha : Can a) (hb : Can b) : off b a = if (off a b).1 = 0 then (0, 1) else ((off a b).2 - (off a b).1, (off a b).2) := by
  obtain ⟨j, e⟩ := part_rel (t := a.1 * b.2 - b.1 * a.2) (u := a.2 * b.2) (Int.mul_pos ha.pos hb.pos)
  have c := off_can ha hb
  have e : (a.1 * b.2 - b.1 * a.2) * (off a b).2 - (off a b).1 * (a.2 * b.2) = j * (a.2 * b.2 * (off a b).2) := e
  have up : 0 < b.2 * a.2 := Int.mul_pos hb.pos ha.pos
  generalize off a b = w at *
  obtain ⟨w1, w2⟩ := w
  have c1 : 0 < w2 := c.pos
  have c2 : 0 ≤ w1 := c.nn
  have c3 : w1 < w2 := c.lt
  have c4 : Int.gcd w1 w2 = 1 := c.cop
  dsimp only at e ⊢
  by_cases h : w1 = 0
  · subst h
    rw [if_pos rfl]
    have h2 : w2 = 1 := by
      rw [Int.gcd_zero_left] at c4
      omega
    subst h2
    refine part_eq (k := -j) up can01 ?_
    dsimp only
    grind
  · rw [if_neg h]
    refine part_eq (k := -j - 1) up ⟨c1, by show 0 ≤ w2 - w1; omega, by show w2 - w1 < w2; omega, ?_⟩ ?_
    · show Int.gcd (w2 - w1) w2 = 1
      rw [← c4, Int.gcd_comm, Int.gcd_comm w1 w2, ← Int.gcd_neg (a := w2) (b := w1), ← Int.gcd_add_self_right (m := w2) (n := -w1)]
      congr 1
      omega
    · dsimp only
      grind
theorem apart_law {a b : Int × Int} (ha : Can a) (hb : Can b) : (if (off b a).1 * (off a b).2 < (off a b).1 * (off b a).2 then off b a else off a b) = apart a b := by
  have c := off_can ha hb
  have e := off_back ha hb
  unfold apart
  by_cases h : (off a b).1 = 0
  · rw [if_pos h] at e
    have c1 := c.pos
    rw [e, h, if_neg (by show ¬ (0 * (off a b).2 < 0 * 1); rw [Int.zero_mul, Int.zero_mul]; omega), if_neg (by omega)]
  · rw [if_neg h] at e
    have c1 := c.pos
    have q : ((off b a).1 * (off a b).2 < (off a b).1 * (off b a).2) ↔ (off a b).2 < 2 * (off a b).1 := by
      rw [e]
      show (((off a b).2 - (off a b).1) * (off a b).2 < (off a b).1 * (off a b).2) ↔ _
      constructor
      · intro h
        have := Int.lt_of_mul_lt_mul_right h (by omega)
        omega
      · intro h
        exact Int.mul_lt_mul_of_pos_right (by omega) c1
    by_cases h2 : (off a b).2 < 2 * (off a b).1
    · rw [if_pos h2, if_pos (q.mpr h2)]
    · rw [if_neg h2, if_neg (fun z => h2 (q.mp z))]
end Tn
/-! Figures: a number's low figures apart. -/
namespace Dg
open PySem L2 TL
def lo : Nat → Nat → List Nat
  | 0, _ => []
  | w + 1, m => lo w (m / 10) ++ [48 + m % 10]
theorem split_lo : ∀ (w n : Nat), 10 ^ w ≤ n → numL n = numL (n / 10 ^ w) ++ lo w n
  | 0, n, _ => by
    show numL n = numL (n / 1) ++ []
    rw [Nat.div_one, List.append_nil]
  | w + 1, n, h => by
    have hp : 0 < 10 ^ w := Nat.pow_pos (by decide)
    have h : 10 ^ w * 10 ≤ n := by
      rw [← Nat.pow_succ]
      exact h
    have h10 : 10 ≤ n := by omega
    have h2 : 10 ^ w ≤ n / 10 := (Nat.le_div_iff_mul_le (by decide)).mpr h
    rw [numL_step h10, split_lo w (n / 10) h2, Nat.div_div_eq_div_mul, List.append_assoc, Nat.pow_succ, Nat.mul_comm 10]
    rfl
theorem lo_mod : ∀ (w n : Nat), lo w n = lo w (n % 10 ^ w)
  | 0, _ => rfl
  | w + 1, n => by
    show lo w (n / 10) ++ [48 + n % 10] = lo w (n % 10 ^ (w + 1) / 10) ++ [48 + n % 10 ^ (w + 1) % 10]
    have e1 : n % 10 ^ (w + 1) / 10 = n / 10 % 10 ^ w := by
      rw [Nat.pow_succ, Nat.mul_comm, Nat.mod_mul_right_div_self]
    have e2 : n % 10 ^ (w + 1) % 10 = n % 10 := by
      rw [Nat.pow_succ, Nat.mul_comm, Nat.mod_mul_right_mod]
    rw [e1, e2, lo_mod w (n / 10)]
theorem lo_zero : ∀ w : Nat, lo w 0 = List.replicate w 48
  | 0 => rfl
  | w + 1 => by
    show lo w 0 ++ [48] = _
    rw [lo_zero w, ← List.replicate_succ']
theorem lo_pad : ∀ (w m : Nat), m < 10 ^ (w + 1) → lo (w + 1) m = List.replicate (w + 1 - (numL m).length) 48 ++ numL m
  | 0, m, h => by
    have h : m < 10 := h
    show [] ++ [48 + m % 10] = _
    rw [numL_lt h, Nat.mod_eq_of_lt h]
    rfl
  | w + 1, m, h => by
    show lo (w + 1) (m / 10) ++ [48 + m % 10] = _
    by_cases hm : m < 10
    · have e : m / 10 = 0 := by omega
      rw [e, lo_zero, numL_lt hm, Nat.mod_eq_of_lt hm]
      rfl
    · have h2 : m / 10 < 10 ^ (w + 1) := by
        rw [Nat.div_lt_iff_lt_mul (by decide), ← Nat.pow_succ]
        exact h
      rw [lo_pad w (m / 10) h2, numL_step (by omega : 10 ≤ m), List.length_append, List.append_assoc]
      have e : w + 1 + 1 - ((numL (m / 10)).length + 1) = w + 1 - (numL (m / 10)).length := by omega
      show _ = List.replicate (w + 1 + 1 - ((numL (m / 10)).length + 1)) 48 ++ _
      rw [e]
/-- the text of a number from 0 on -/
def num (n : Nat) : Str := Str.ofString (toString ((n : Nat) : Int))
theorem tl_zpad (w n : Nat) : tl (zpad w (n : Int)) = List.replicate (w - (numL n).length) 48 ++ numL n := by
  unfold zpad
  rw [tl_append, tl_mk, tl_num, Int.natAbs_natCast]
  unfold numL
  rw [List.length_map]
theorem num_split {n : Nat} (h : 10 ^ 18 ≤ n) : num n = num (n / 10 ^ 18) ++ zpad 18 ((n % 10 ^ 18 : Nat) : Int) := by
  refine ext_tl ?_
  unfold num
  rw [tl_append, tl_num, tl_num, tl_zpad, split_lo 18 n h, lo_mod, lo_pad 17 _ (Nat.mod_lt _ (by decide))]
theorem zpad_len {n : Nat} (h : n < 10 ^ 18) : (zpad 18 (n : Int)).length = 18 := by
  show (tl (zpad 18 (n : Int))).length = 18
  have q := numL_len (k := 18) (by decide) h
  rw [tl_zpad, List.length_append, List.length_replicate]
  omega
theorem joinL_nil : ∀ L : List (List Nat), joinL [] L = L.flatten
  | [] => rfl
  | [p] => by
    show p = p ++ []
    rw [List.append_nil]
  | p :: q :: r => by
    show p ++ ([] ++ joinL [] (q :: r)) = p ++ (q :: r).flatten
    rw [List.nil_append, joinL_nil (q :: r)]
theorem tl_join0 (ys : List Str) : tl (Txt.join "" ys) = (ys.map tl).flatten := by
  rw [join_eq, tl_join]
  exact joinL_nil _
/-- the pieces, the lowest first, behind what is left -/
def Behind (n l : Nat) (ps : List Str) : Prop := tl (num n) = tl (num l) ++ (ps.reverse.map tl).flatten
theorem behind0 {n : Nat} : Behind n n [] := by
  unfold Behind
  rw [List.reverse_nil, List.map_nil, List.flatten_nil, List.append_nil]
theorem behind1 {n l : Nat} {ps : List Str} (h : Behind n l ps) (hl : 10 ^ 18 ≤ l) : Behind n (l / 10 ^ 18) (ps ++ [zpad 18 ((l % 10 ^ 18 : Nat) : Int)]) := by
  unfold Behind at *
  rw [h, num_split hl, tl_append, List.reverse_append, List.reverse_singleton, List.singleton_append, List.map_cons, List.flatten_cons, List.append_assoc]
theorem behind_end {n l : Nat} {ps : List Str} (h : Behind n l ps) : Txt.join "" (ps ++ [num l]).reverse = num n := by
  refine ext_tl ?_
  rw [tl_join0, List.reverse_append, List.reverse_singleton, List.singleton_append, List.map_cons, List.flatten_cons]
  exact h.symm
theorem sum18 : ∀ ps : List Str, (∀ p ∈ ps, p.length = 18) → (ps.map (·.length)).sum = 18 * ps.length
  | [], _ => rfl
  | p :: r, h => by
    rw [List.map_cons, List.sum_cons, h p (List.mem_cons_self ..), sum18 r fun q hq => h q (List.mem_cons_of_mem _ hq), List.length_cons]
    omega
theorem num_len {n k : Nat} (hk : 0 < k) (h : n < 10 ^ k) : (num n).length ≤ k := by
  show (tl (num n)).length ≤ k
  unfold num
  rw [tl_num]
  exact numL_len hk h
theorem big_le : 2 ^ 4000 ≤ 10 ^ (18 * 70) := by
  have h : (2 ^ 100) ^ 40 ≤ (10 ^ 31) ^ 40 := Nat.pow_le_pow_left (by decide) 40
  rw [← Nat.pow_mul, ← Nat.pow_mul] at h
  exact Nat.le_trans h (Nat.pow_le_pow_right (by decide) (by decide))
end Dg
namespace Nm
/-- how many signs of the kind stand at the front, at most so many -/
def run (p : Nat → Bool) : Nat → List Nat → Nat
  | 0, _ => 0
  | _ + 1, [] => 0
  | m + 1, c :: r => if p c then run p m r + 1 else 0
theorem run_nil (p : Nat → Bool) (m : Nat) : run p m [] = 0 := by cases m <;> rfl
theorem run_stop {p : Nat → Bool} {m : Nat} {L : List Nat} {c : Nat} (h : L.head? = some c) (hp : p c = false) : run p m L = 0 := by
  cases m with
  | zero => rfl
  | succ m =>
    cases L with
    | nil => cases h
    | cons d r =>
      cases h
      show (if p c then _ else 0) = 0
      rw [hp]
      rfl
theorem run_go {p : Nat → Bool} {m : Nat} {L : List Nat} {c : Nat} (h : L.head? = some c) (hp : p c = true) (hm : 0 < m) : run p m L = run p (m - 1) (L.drop 1) + 1 := by
  cases m with
  | zero => cases hm
  | succ m =>
    cases L with
    | nil => cases h
    | cons d r =>
      cases h
      show (if p c then _ else 0) = _
      rw [hp]
      rfl
theorem head_drop {L : List Nat} {i c : Nat} (h : L[i]? = some c) : (L.drop i).head? = some c := by
  rw [List.head?_drop, h]
theorem run_le (p : Nat → Bool) : ∀ (m : Nat) (L : List Nat), run p m L ≤ L.length
  | 0, _ => Nat.zero_le _
  | _ + 1, [] => Nat.zero_le _
  | m + 1, c :: r => by
    show (if p c then run p m r + 1 else 0) ≤ _
    have := run_le p m r
    split
    · rw [List.length_cons]
      omega
    · exact Nat.zero_le _
theorem run_most (p : Nat → Bool) : ∀ (m : Nat) (L : List Nat), run p m L ≤ m
  | 0, _ => Nat.le_refl _
  | _ + 1, [] => Nat.zero_le _
  | m + 1, c :: r => by
    show (if p c then run p m r + 1 else 0) ≤ _
    have := run_most p m r
    split
    · omega
    · exact Nat.zero_le _
/-- what a text is told as: no name, at a sign; or a name, so many letters -/
def res (isL isM : Nat → Bool) (cs : List Nat) : Nat ⊕ Nat :=
  if run isL 6 cs = 0 then .inl 0 else if run isL 6 cs + run isM 5 (cs.drop (run isL 6 cs)) < cs.length then .inl (run isL 6 cs + run isM 5 (cs.drop (run isL 6 cs))) else .inr (run isL 6 cs)
structure J (isL isM : Nat → Bool) (cs : List Nat) (i l m : Nat) : Prop where
  at_ : i = l + m
  l6 : l ≤ 6
  m5 : m ≤ 5
  one : m = 0 → run isL 6 cs = l + run isL (6 - l) (cs.drop l)
  two : 0 < m → 0 < l ∧ run isL 6 cs = l ∧ run isM 5 (cs.drop l) = m + run isM (5 - m) (cs.drop i)
section
variable {isL isM : Nat → Bool} {cs : List Nat} {i l m c : Nat}
theorem j_start : J isL isM cs 0 0 0 := ⟨rfl, by decide, by decide, fun _ => (Nat.zero_add _).symm, fun h => absurd h (by decide)⟩
theorem j_letter (h : J isL isM cs i l m) (hc : cs[i]? = some c) (hL : isL c = true) (hm : m = 0) (hl : l < 6) : J isL isM cs (i + 1) (l + 1) m := by
  have e := h.at_
  subst hm
  have il : i = l := by omega
  subst il
  refine ⟨by omega, by omega, by decide, fun _ => ?_, fun q => absurd q (by decide)⟩
  have h1 := h.one rfl
  rw [run_go (head_drop hc) hL (by omega), List.drop_drop] at h1
  have e6 : 6 - (i + 1) = 6 - i - 1 := by omega
  rw [h1, e6]
  omega
theorem j_mark (h : J isL isM cs i l m) (hc : cs[i]? = some c) (hM : isM c = true) (hno : isM c = true → isL c = false) (hl : 0 < l) (hm : m < 5) : J isL isM cs (i + 1) l (m + 1) := by
  have e := h.at_
  refine ⟨by omega, h.l6, by omega, fun q => absurd q (by omega), fun _ => ⟨hl, ?_, ?_⟩⟩
  · by_cases m0 : m = 0
    · have h1 := h.one m0
      have il : i = l := by omega
      rw [← il, run_stop (head_drop hc) (hno hM)] at h1
      omega
    · exact (h.two (by omega)).2.1
  · by_cases m0 : m = 0
    · subst m0
      have il : i = l := by omega
      subst il
      rw [run_go (head_drop hc) hM (by decide), List.drop_drop]
      show run isM 4 (cs.drop (i + 1)) + 1 = 0 + 1 + run isM 4 (cs.drop (i + 1))
      omega
    · have h2 := (h.two (by omega)).2.2
      rw [run_go (head_drop hc) hM (by omega), List.drop_drop] at h2
      have e5 : 5 - (m + 1) = 5 - m - 1 := by omega
      rw [h2, e5]
      omega
theorem j_no (h : J isL isM cs i l m) (hc : cs[i]? = some c) (hA : ¬ (isL c = true ∧ m = 0 ∧ l < 6)) (hB : ¬ (isM c = true ∧ 0 < l ∧ m < 5)) : res isL isM cs = .inl i := by
  have e := h.at_
  have hlt : i < cs.length := (List.getElem?_eq_some_iff.mp hc).1
  by_cases m0 : m = 0
  · have il : i = l := by omega
    have h1 := h.one m0
    have z : run isL (6 - l) (cs.drop l) = 0 := by
      by_cases l6 : l < 6
      · cases q : isL c with
        | true => exact absurd ⟨q, m0, l6⟩ hA
        | false =>
          rw [← il]
          exact run_stop (head_drop hc) q
      · have : 6 - l = 0 := by omega
        rw [this]
        rfl
    rw [z] at h1
    unfold res
    by_cases l0 : l = 0
    · rw [if_pos (by omega)]
      have : i = 0 := by omega
      rw [this]
    · have zm : run isM 5 (cs.drop l) = 0 := by
        cases q : isM c with
        | true => exact absurd ⟨q, by omega, by omega⟩ hB
        | false =>
          rw [← il]
          exact run_stop (head_drop hc) q
      have rl : run isL 6 cs = l := by omega
      rw [if_neg (by omega), rl, zm, if_pos (by omega), Nat.add_zero, ← il]
  · obtain ⟨l0, rl, rm⟩ := h.two (by omega)
    have z : run isM (5 - m) (cs.drop i) = 0 := by
      by_cases m5 : m < 5
      · cases q : isM c with
        | true => exact absurd ⟨q, l0, m5⟩ hB
        | false => exact run_stop (head_drop hc) q
      · have : 5 - m = 0 := by omega
        rw [this]
        rfl
    rw [z] at rm
    unfold res
    rw [if_neg (by omega), rl, rm, if_pos (by omega)]
    congr 1
    omega
theorem j_end (h : J isL isM cs i l m) (hi : i = cs.length) : res isL isM cs = if l = 0 then .inl 0 else .inr l := by
  have e := h.at_
  have dn : cs.drop i = [] := by rw [hi, List.drop_length]
  by_cases m0 : m = 0
  · have il : i = l := by omega
    have h1 := h.one m0
    rw [← il, dn, run_nil] at h1
    unfold res
    by_cases l0 : l = 0
    · rw [if_pos (by omega), if_pos l0]
    · have rl : run isL 6 cs = l := by omega
      rw [if_neg (by omega), rl, ← il, dn, run_nil, if_neg (by omega), if_neg (by omega)]
  · obtain ⟨l0, rl, rm⟩ := h.two (by omega)
    rw [dn, run_nil] at rm
    unfold res
    rw [if_neg (by omega), rl, rm, if_neg (by omega), if_neg (by omega)]
end
end Nm
namespace Mk
/-- the marks of a top and a number of marks, the first mark first -/
def mk : Nat → Int → List Nat
  | 0, _ => []
  | j + 1, l => if 0 < l then 62 :: mk j (l - 2 ^ j) else 60 :: mk j (l + 2 ^ j)
def good (t m : Int) : Bool := if m < 0 || 5 < m then false else if m = 0 then decide (t = 0) else decide (t % 2 = 1) && decide (t.natAbs < 2 ^ m.toNat)
/-- the rows of just so many marks, of at most so many -/
abbrev Row := List Nat × Int × Int
def longer (L : List Row) : List Row := L.flatMap fun r => [(r.1 ++ [60], 2 * r.2.1 - 1, 2 * r.2.2), (r.1 ++ [62], 2 * r.2.1 + 1, 2 * r.2.2)]
def level : Nat → List Row
  | 0 => [([], 0, 1)]
  | n + 1 => longer (level n)
def upto : Nat → List Row
  | 0 => level 0
  | n + 1 => upto n ++ level (n + 1)
def step (l : List Nat) : Int × Int := l.foldl (fun p c => (2 * p.1 + (if c = 62 then 1 else -1), 2 * p.2)) (0, 1)
/-- in lowest terms already -/
def lowOk (r : Row) : Bool := decide (Int.gcd r.2.1 r.2.2 = 1) && (decide (step r.1 = (r.2.1, r.2.2)) && (decide (0 < r.2.2) && (decide (r.2.2 ≤ 32) && (good r.2.1 r.1.length && (decide (mk r.1.length r.2.1 = r.1) && (decide (r.1.length ≤ 5) && r.1.all fun c => c == 60 || c == 62))))))
theorem rows_ok : (upto 5).all lowOk = true := by decide +kernel
theorem rows_len : (upto 5).length = 63 := by decide +kernel
/-- of a good top and number just one row -/
theorem one_of : ∀ m ∈ List.range 6, ∀ i ∈ List.range 63, good ((i : Int) - 31) (m : Int) = true → ((upto 5).filter fun r => decide (r.2.1 = (i : Int) - 31) && decide (r.1.length = m)).map (·.1) = [mk m ((i : Int) - 31)] := by decide +kernel
theorem good_bound {t m : Int} (h : good t m = true) : 0 ≤ m ∧ m ≤ 5 ∧ -31 ≤ t ∧ t ≤ 31 := by
  unfold good at h
  split at h
  · cases h
  · rename_i h1
    simp only [Bool.or_eq_true, decide_eq_true_eq, not_or, Int.not_lt] at h1
    have hm : m = 0 ∨ m = 1 ∨ m = 2 ∨ m = 3 ∨ m = 4 ∨ m = 5 := by omega
    split at h
    · have := of_decide_eq_true h
      omega
    · rw [Bool.and_eq_true, decide_eq_true_eq, decide_eq_true_eq] at h
      have h2 := h.2
      have : (2 : Nat) ^ m.toNat ≤ 32 := by
        rcases hm with rfl | rfl | rfl | rfl | rfl | rfl <;> decide
      omega
theorem due_one {t m : Int} (h : good t m = true) : ((upto 5).filter fun r => decide (r.2.1 = t) && decide ((r.1.length : Int) = m)).map (·.1) = [mk m.toNat t] := by
  obtain ⟨h1, h2, h3, h4⟩ := good_bound h
  have key := one_of m.toNat (List.mem_range.mpr (by omega)) (t + 31).toNat (List.mem_range.mpr (by omega))
  have e1 : (((t + 31).toNat : Nat) : Int) - 31 = t := by omega
  have e2 : ((m.toNat : Nat) : Int) = m := by omega
  rw [e1, e2] at key
  have key := key h
  rw [← key]
  congr 1
  refine List.filter_congr fun r _ => ?_
  congr 1
  rw [Bool.eq_iff_iff, decide_eq_true_eq, decide_eq_true_eq]
  omega
end Mk
/-! Roses: places, names and turns. -/
namespace Rs
open L2
structure Rose where
  ws : List (List Nat)
  h : Nat
  b : Int × Int
def WordL (w : List Nat) : Prop := 1 ≤ w.length ∧ w.length ≤ 6 ∧ ∀ c ∈ w, isL c = true
def MarksL (m : List Nat) : Prop := ∀ c ∈ m, c = 60 ∨ c = 62
def gap (R : Rose) : Nat := 2 ^ R.h
def size (R : Rose) : Nat := R.ws.length * 2 ^ R.h
structure Ok (R : Rose) : Prop where
  n3 : 3 ≤ R.ws.length
  n8 : R.ws.length ≤ 8
  h5 : R.h ≤ 5
  nd : R.ws.Nodup
  wd : ∀ w ∈ R.ws, WordL w
  can : Tn.Can R.b
  sm : R.b.2.natAbs < 2 ^ 200
theorem Ok.h6 {R : Rose} (k : Ok R) : R.h = 0 ∨ R.h = 1 ∨ R.h = 2 ∨ R.h = 3 ∨ R.h = 4 ∨ R.h = 5 := by
  have := k.h5
  omega
theorem Ok.gap_le {R : Rose} (k : Ok R) : 1 ≤ gap R ∧ gap R ≤ 32 := by
  unfold gap
  rcases k.h6 with e | e | e | e | e | e <;> rw [e] <;> decide
theorem size_eq (R : Rose) : size R = R.ws.length * gap R := rfl
theorem Ok.size_le {R : Rose} (k : Ok R) : 3 ≤ size R ∧ size R ≤ 256 := by
  rw [size_eq]
  have h1 := k.gap_le
  have h2 := k.n3
  have h3 := k.n8
  constructor
  · exact Nat.le_trans h2 (Nat.le_mul_of_pos_right _ (by omega))
  · exact Nat.le_trans (Nat.mul_le_mul h3 h1.2) (by decide)
/-- an odd part of a gap, and by how many halvings -/
def lowF : Nat → Nat → Nat × Nat
  | o, 0 => (o, 0)
  | o, h + 1 => if o % 2 = 0 then lowF (o / 2) h else (o, h + 1)
theorem low_all : ∀ h ∈ List.range 6, ∀ o ∈ List.range 32, 0 < o → o < 2 ^ h → (lowF o h).1 % 2 = 1 ∧ 1 ≤ (lowF o h).2 ∧ (lowF o h).2 ≤ h ∧ (lowF o h).1 < 2 ^ (lowF o h).2 ∧ (lowF o h).1 * 2 ^ (h - (lowF o h).2) = o := by decide +kernel
theorem low_ok {o h : Nat} (hh : h ≤ 5) (h0 : 0 < o) (h1 : o < 2 ^ h) : (lowF o h).1 % 2 = 1 ∧ 1 ≤ (lowF o h).2 ∧ (lowF o h).2 ≤ h ∧ (lowF o h).1 < 2 ^ (lowF o h).2 ∧ (lowF o h).1 * 2 ^ (h - (lowF o h).2) = o :=
  low_all h (List.mem_range.mpr (by omega)) o (List.mem_range.mpr (Nat.lt_of_lt_of_le h1 (Nat.pow_le_pow_right (by decide) hh))) h0 h1
theorem mk_all : ∀ m ∈ List.range 6, ∀ i ∈ List.range 63, Mk.good ((i : Int) - 31) (m : Int) = true → Mk.step (Mk.mk m ((i : Int) - 31)) = ((i : Int) - 31, 2 ^ m) ∧ (Mk.mk m ((i : Int) - 31)).length = m ∧ (Mk.mk m ((i : Int) - 31)).all (fun c => c == 60 || c == 62) = true := by decide +kernel
theorem mk_ok {m : Nat} {t : Int} (h : Mk.good t (m : Int) = true) : Mk.step (Mk.mk m t) = (t, 2 ^ m) ∧ (Mk.mk m t).length = m ∧ MarksL (Mk.mk m t) := by
  obtain ⟨_, h2, h3, h4⟩ := Mk.good_bound h
  have key := mk_all m (List.mem_range.mpr (by omega)) (t + 31).toNat (List.mem_range.mpr (by omega))
  have e1 : (((t + 31).toNat : Nat) : Int) - 31 = t := by omega
  rw [e1] at key
  obtain ⟨k1, k2, k3⟩ := key h
  refine ⟨k1, k2, fun c hc => ?_⟩
  have := List.all_eq_true.mp k3 c hc
  simpa using this
theorem good_odd {m t : Nat} (h1 : 1 ≤ m) (h5 : m ≤ 5) (ho : t % 2 = 1) (hl : t < 2 ^ m) : Mk.good (t : Int) (m : Int) = true ∧ Mk.good ((t : Int) - 2 ^ m) (m : Int) = true := by
  have hm : m = 1 ∨ m = 2 ∨ m = 3 ∨ m = 4 ∨ m = 5 := by omega
  have key : ∀ m ∈ ([1, 2, 3, 4, 5] : List Nat), ∀ t ∈ List.range 32, t % 2 = 1 → t < 2 ^ m → Mk.good (t : Int) (m : Int) = true ∧ Mk.good ((t : Int) - 2 ^ m) (m : Int) = true := by decide +kernel
  refine key m (by simp; omega) t (List.mem_range.mpr ?_) ho hl
  have : 2 ^ m ≤ 2 ^ 5 := Nat.pow_le_pow_right (by decide) h5
  omega
/-- a corner and its marks -/
abbrev One := Nat × List Nat
def onOf (R : Rose) (p : Nat) : One := (p / gap R, Mk.mk (lowF (p % gap R) R.h).2 ((lowF (p % gap R) R.h).1 : Int))
def backOf (R : Rose) (p : Nat) : One := ((p / gap R + 1) % R.ws.length, Mk.mk (lowF (p % gap R) R.h).2 (((lowF (p % gap R) R.h).1 : Int) - 2 ^ (lowF (p % gap R) R.h).2))
def ones (R : Rose) (p : Nat) : List One := if p % gap R = 0 then [(p / gap R, [])] else if gap R < 2 * (p % gap R) then [backOf R p, onOf R p] else [onOf R p, backOf R p]
def word (R : Rose) (c : Nat) : List Nat := R.ws[c]?.getD []
def nameOf (R : Rose) (x : One) : List Nat := word R x.1 ++ x.2
def names (R : Rose) (p : Nat) : List (List Nat) := (ones R p).map (nameOf R)
def turn (R : Rose) (p : Nat) : Int × Int := Tn.on R.b (Tn.part (p : Int) (size R : Int))
/-- what a name of a corner and marks tells -/
def placeT (R : Rose) (x : One) : Int := ((x.1 : Int) * (gap R : Int) + (Mk.step x.2).1 * ((gap R : Int) / (Mk.step x.2).2)) % (size R : Int)
/-- a good name: a corner that is there, at most so many marks -/
structure Good (R : Rose) (x : One) : Prop where
  c : x.1 < R.ws.length
  ms : MarksL x.2
  len : x.2.length ≤ R.h
  dv : 0 < (Mk.step x.2).2 ∧ (Mk.step x.2).2 ≤ 32
theorem place_lt {R : Rose} (k : Ok R) {p : Nat} (hp : p < size R) : p / gap R < R.ws.length := by
  have := k.gap_le
  rw [Nat.div_lt_iff_lt_mul (by omega)]
  exact hp
theorem step_nil : Mk.step [] = (0, 1) := rfl
theorem ones_ok {R : Rose} (k : Ok R) {p : Nat} (hp : p < size R) {x : One} (hx : x ∈ ones R p) : Good R x ∧ placeT R x = (p : Int) ∧ x.2.length = (if p % gap R = 0 then 0 else (lowF (p % gap R) R.h).2) := by
  have hc := place_lt k hp
  have hg := k.gap_le
  have hn := k.n3
  have hs := size_eq R
  have dm := Nat.div_add_mod p (gap R)
  unfold ones at hx
  by_cases h0 : p % gap R = 0
  · rw [if_pos h0] at hx
    rw [List.mem_singleton.mp hx, if_pos h0]
    refine ⟨⟨hc, (fun c h => nomatch h), Nat.zero_le _, by rw [step_nil]; decide⟩, ?_, rfl⟩
    unfold placeT
    rw [step_nil]
    show (((p / gap R : Nat) : Int) * (gap R : Int) + 0 * _) % _ = _
    have e0 : p / gap R * gap R = p := by
      rw [Nat.mul_comm]
      omega
    rw [Int.zero_mul, Int.add_zero, ← Int.natCast_mul, e0, ← Int.natCast_emod, Nat.mod_eq_of_lt hp]
  · rw [if_neg h0] at hx
    rw [if_neg h0]
    have h0' : 0 < p % gap R := Nat.pos_of_ne_zero h0
    have hl : p % gap R < gap R := Nat.mod_lt _ (by omega)
    obtain ⟨l1, l2, l3, l4, l5⟩ := low_ok k.h5 h0' hl
    obtain ⟨g1, g2⟩ := good_odd l2 (Nat.le_trans l3 k.h5) l1 l4
    have m1 := mk_ok g1
    have m2 := mk_ok g2
    generalize hm : (lowF (p % gap R) R.h).2 = m at *
    generalize ht : (lowF (p % gap R) R.h).1 = t at *
    have hgm : (gap R : Int) / ((2 : Int) ^ m) = ((2 ^ (R.h - m) : Nat) : Int) := by
      have e : gap R = 2 ^ (R.h - m) * 2 ^ m := by
        unfold gap
        rw [← Nat.pow_add]
        congr 1
        omega
      rw [e]
      have e2 : ((2 : Int) ^ m) = ((2 ^ m : Nat) : Int) := (Int.natCast_pow 2 m).symm
      rw [e2, Int.natCast_mul, Int.mul_ediv_cancel _ (by have := Nat.pow_pos (n := m) (show 0 < 2 by decide); omega)]
    have hgp : 2 ^ m * 2 ^ (R.h - m) = gap R := by
      unfold gap
      rw [← Nat.pow_add]
      congr 1
      omega
    have p32 : (0 : Int) < 2 ^ m ∧ ((2 : Int) ^ m) ≤ 32 := by
      have e2 : ((2 : Int) ^ m) = ((2 ^ m : Nat) : Int) := (Int.natCast_pow 2 m).symm
      have h1 : 0 < 2 ^ m := Nat.pow_pos (by decide)
      have h2 : 2 ^ m ≤ 2 ^ 5 := Nat.pow_le_pow_right (by decide) (by have := k.h5; omega)
      rw [e2]
      omega
    have gOn : Good R (onOf R p) ∧ placeT R (onOf R p) = (p : Int) ∧ (onOf R p).2.length = m := by
      have e : onOf R p = (p / gap R, Mk.mk m (t : Int)) := by
        unfold onOf
        rw [hm, ht]
      rw [e]
      refine ⟨⟨hc, m1.2.2, by rw [m1.2.1]; exact l3, by rw [m1.1]; exact p32⟩, ?_, m1.2.1⟩
      unfold placeT
      rw [m1.1]
      show (((p / gap R : Nat) : Int) * (gap R : Int) + (t : Int) * ((gap R : Int) / 2 ^ m)) % _ = _
      rw [hgm, ← Int.natCast_mul, ← Int.natCast_mul, ← Int.natCast_add, l5, Nat.mul_comm, dm, ← Int.natCast_emod, Nat.mod_eq_of_lt hp]
    have gBack : Good R (backOf R p) ∧ placeT R (backOf R p) = (p : Int) ∧ (backOf R p).2.length = m := by
      have e : backOf R p = ((p / gap R + 1) % R.ws.length, Mk.mk m ((t : Int) - 2 ^ m)) := by
        unfold backOf
        rw [hm, ht]
      rw [e]
      refine ⟨⟨Nat.mod_lt _ (by omega), m2.2.2, by rw [m2.2.1]; exact l3, by rw [m2.1]; exact p32⟩, ?_, m2.2.1⟩
      unfold placeT
      rw [m2.1]
      show ((((p / gap R + 1) % R.ws.length : Nat) : Int) * (gap R : Int) + ((t : Int) - 2 ^ m) * ((gap R : Int) / 2 ^ m)) % _ = _
      have e3 : ((t : Int) - 2 ^ m) * ((gap R : Int) / 2 ^ m) = ((p % gap R : Nat) : Int) - (gap R : Int) := by
        rw [hgm, Int.sub_mul, ← Int.natCast_mul, l5]
        have e2 : ((2 : Int) ^ m) = ((2 ^ m : Nat) : Int) := (Int.natCast_pow 2 m).symm
        rw [e2, ← Int.natCast_mul, hgp]
      rw [e3]
      by_cases hw : p / gap R + 1 < R.ws.length
      · rw [Nat.mod_eq_of_lt hw]
        have e4 : ((p / gap R + 1 : Nat) : Int) * (gap R : Int) + (((p % gap R : Nat) : Int) - (gap R : Int)) = (p : Int) := by
          have e5 : ((p / gap R + 1 : Nat) : Int) * (gap R : Int) = ((gap R * (p / gap R) : Nat) : Int) + (gap R : Int) := by
            rw [← Int.natCast_mul, Nat.add_mul, Nat.one_mul, Nat.mul_comm (p / gap R), Int.natCast_add]
          rw [e5]
          omega
        rw [e4, ← Int.natCast_emod, Nat.mod_eq_of_lt hp]
      · have hw : p / gap R + 1 = R.ws.length := by omega
        rw [hw, Nat.mod_self]
        have e4 : ((0 : Nat) : Int) * (gap R : Int) + (((p % gap R : Nat) : Int) - (gap R : Int)) = (p : Int) + (-1) * (size R : Int) := by
          have e5 : size R = gap R * (p / gap R) + gap R := by
            rw [hs, ← hw, Nat.add_mul, Nat.one_mul, Nat.mul_comm]
          rw [e5]
          omega
        rw [e4, Int.add_mul_emod_self_right, ← Int.natCast_emod, Nat.mod_eq_of_lt hp]
    by_cases hh : gap R < 2 * (p % gap R)
    · rw [if_pos hh] at hx
      simp only [List.mem_cons, List.mem_nil_iff, or_false] at hx
      rcases hx with rfl | rfl
      · exact gBack
      · exact gOn
    · rw [if_neg hh] at hx
      simp only [List.mem_cons, List.mem_nil_iff, or_false] at hx
      rcases hx with rfl | rfl
      · exact gOn
      · exact gBack
/-- the part of a place -/
theorem part_place {p s : Nat} (h : p < s) : (Tn.part (p : Int) (s : Int)).1 * (s : Int) = (p : Int) * (Tn.part (p : Int) (s : Int)).2 := by
  have e1 : (Tn.part (p : Int) (s : Int)).1 * (Int.gcd ((p : Int) % (s : Int)) (s : Int) : Int) = (p : Int) % (s : Int) := Tn.low_fst
  have e2 : (Tn.part (p : Int) (s : Int)).2 * (Int.gcd ((p : Int) % (s : Int)) (s : Int) : Int) = (s : Int) := Tn.low_snd
  have e3 : (p : Int) % (s : Int) = (p : Int) := by
    rw [← Int.natCast_emod, Nat.mod_eq_of_lt h]
  rw [e3] at e1 e2
  generalize (Int.gcd (p : Int) (s : Int) : Int) = g at *
  generalize Tn.part (p : Int) (s : Int) = q at *
  obtain ⟨x, y⟩ := q
  dsimp only at *
  rw [← e2]
  rw [← e1]
  grind
/-- the law's own row of marks, by the bits of a number -/
def lmk : Nat → Int → List Nat
  | 0, _ => []
  | i + 1, n => (if (n / 2 ^ i) % 2 = 1 then 62 else 60) :: lmk i n
theorem lmk_all : ∀ m ∈ List.range 6, ∀ i ∈ List.range 63, Mk.good ((i : Int) - 31) (m : Int) = true → lmk m (((i : Int) - 31 + 2 ^ m - 1) / 2) = Mk.mk m ((i : Int) - 31) := by decide +kernel
theorem lmk_ok {m : Nat} {t : Int} (h : Mk.good t (m : Int) = true) : lmk m ((t + 2 ^ m - 1) / 2) = Mk.mk m t := by
  obtain ⟨_, h2, h3, h4⟩ := Mk.good_bound h
  have key := lmk_all m (List.mem_range.mpr (by omega)) (t + 31).toNat (List.mem_range.mpr (by omega))
  have e1 : (((t + 31).toNat : Nat) : Int) - 31 = t := by omega
  rw [e1] at key
  exact key h
/-- words and marks, gone through -/
theorem run_all {p : Nat → Bool} : ∀ (w r : List Nat) (m : Nat), (∀ c ∈ w, p c = true) → w.length ≤ m → Nm.run p m (w ++ r) = w.length + Nm.run p (m - w.length) r
  | [], r, m, _, _ => by simp
  | c :: w, r, m, hw, hl => by
    cases m with
    | zero => simp at hl
    | succ m =>
      show (if p c then Nm.run p m (w ++ r) + 1 else 0) = _
      rw [if_pos (hw c (List.mem_cons_self ..)), run_all w r m (fun d hd => hw d (List.mem_cons_of_mem _ hd)) (by simpa using hl), List.length_cons]
      have : m + 1 - (w.length + 1) = m - w.length := by omega
      rw [this]
      omega
theorem isM_mark {c : Nat} (h : c = 60 ∨ c = 62) : isM c = true := by
  rcases h with rfl | rfl <;> decide +kernel
theorem isL_mark {c : Nat} (h : c = 60 ∨ c = 62) : isL c = false := by
  rcases h with rfl | rfl <;> decide +kernel
theorem run_word {w m : List Nat} (hw : WordL w) (hm : MarksL m) : Nm.run isL 6 (w ++ m) = w.length := by
  rw [run_all w m 6 hw.2.2 hw.2.1]
  cases m with
  | nil =>
    rw [Nm.run_nil]
    rfl
  | cons c r =>
    rw [Nm.run_stop (c := c) rfl (isL_mark (hm c (List.mem_cons_self ..)))]
    rfl
theorem run_marks {w m : List Nat} {n : Nat} (hm : MarksL m) (hl : m.length ≤ n) : Nm.run isM n ((w ++ m).drop w.length) = m.length := by
  rw [List.drop_left]
  have h := run_all m [] n (fun c hc => isM_mark (hm c hc)) hl
  rw [List.append_nil, Nm.run_nil] at h
  exact h
theorem word_at {R : Rose} {c : Nat} (h : c < R.ws.length) : R.ws[c]? = some (word R c) ∧ word R c ∈ R.ws := by
  have e : R.ws[c]? = some R.ws[c] := List.getElem?_eq_getElem h
  have e2 : word R c = R.ws[c] := by
    unfold word
    rw [e]
    rfl
  rw [e2]
  exact ⟨e, List.getElem_mem h⟩
theorem ones_len (R : Rose) (p : Nat) : 1 ≤ (ones R p).length ∧ (ones R p).length ≤ 2 := by
  unfold ones
  split
  · exact ⟨Nat.le_refl 1, show 1 ≤ 2 by decide⟩
  · split <;> exact ⟨show 1 ≤ 2 by decide, Nat.le_refl 2⟩
end Rs
namespace K41
open PySem PySem.Spec PyProof.Rows L2
def topS (i : Nat) : Stmt := PySem.Challenge.pw_rosenames_k41_walks_as_logs.main.body.getD i (.Pass ⟨0, 0, 0, 0⟩)
abbrev s_NoStep_init : Stmt := inClass (topS 5) 0
theorem sc_NoStep_init : FnScope ["self", "thing"] ["self", "thing"] (defScope s_NoStep_init) := ⟨rfl, rfl, rfl, by decide +kernel, rfl, by decide +kernel, by decide +kernel⟩
abbrev s_NoText_init : Stmt := inClass (topS 7) 0
theorem sc_NoText_init : FnScope ["self", "row"] ["self", "row"] (defScope s_NoText_init) := ⟨rfl, rfl, rfl, by decide +kernel, rfl, by decide +kernel, by decide +kernel⟩
abbrev s_is_whole : Stmt := topS 21
theorem sc_is_whole : FnScope ["thing"] ["thing"] (defScope s_is_whole) := ⟨rfl, rfl, rfl, by decide +kernel, rfl, by decide +kernel, by decide +kernel⟩
abbrev s_common : Stmt := topS 22
theorem sc_common : FnScope ["one", "other"] ["one", "other"] (defScope s_common) := ⟨rfl, rfl, rfl, by decide +kernel, rfl, by decide +kernel, by decide +kernel⟩
abbrev s_figures_of : Stmt := topS 23
theorem sc_figures_of : FnScope ["number", "pieces", "left", "low"] ["number"] (defScope s_figures_of) := ⟨rfl, rfl, rfl, by decide +kernel, rfl, by decide +kernel, by decide +kernel⟩
abbrev s_are_figures : Stmt := topS 24
theorem sc_are_figures : FnScope ["text", "sign"] ["text"] (defScope s_are_figures) := ⟨rfl, rfl, rfl, by decide +kernel, rfl, by decide +kernel, by decide +kernel⟩
abbrev s_number_of : Stmt := topS 25
theorem sc_number_of : FnScope ["figures", "number", "figure"] ["figures"] (defScope s_number_of) := ⟨rfl, rfl, rfl, by decide +kernel, rfl, by decide +kernel, by decide +kernel⟩
abbrev s_is_word : Stmt := topS 31
theorem sc_is_word : FnScope ["thing"] ["thing"] (defScope s_is_word) := ⟨rfl, rfl, rfl, by decide +kernel, rfl, by decide +kernel, by decide +kernel⟩
abbrev s_parted_within : Stmt := topS 32
theorem sc_parted_within : FnScope ["text", "most", "behind_word", "behind_marks"] ["text", "most"] (defScope s_parted_within) := ⟨rfl, rfl, rfl, by decide +kernel, rfl, by decide +kernel, by decide +kernel⟩
abbrev s_end_of_run : Stmt := topS 33
theorem sc_end_of_run : FnScope ["text", "begin", "signs", "most", "end"] ["text", "begin", "signs", "most"] (defScope s_end_of_run) := ⟨rfl, rfl, rfl, by decide +kernel, rfl, by decide +kernel, by decide +kernel⟩
abbrev s_step_of : Stmt := topS 34
theorem sc_step_of : FnScope ["marks", "top", "bottom", "mark"] ["marks"] (defScope s_step_of) := ⟨rfl, rfl, rfl, by decide +kernel, rfl, by decide +kernel, by decide +kernel⟩
abbrev s_Turn_init : Stmt := inClass (topS 36) 0
theorem sc_Turn_init : FnScope ["self", "top", "bottom", "signed", "size", "part", "shared"] ["self", "top", "bottom"] (defScope s_Turn_init) := ⟨rfl, rfl, rfl, by decide +kernel, rfl, by decide +kernel, by decide +kernel⟩
abbrev s_Turn___eq__ : Stmt := inClass (topS 36) 1
theorem sc_Turn___eq__ : FnScope ["self", "other"] ["self", "other"] (defScope s_Turn___eq__) := ⟨rfl, rfl, rfl, by decide +kernel, rfl, by decide +kernel, by decide +kernel⟩
abbrev s_place_told : Stmt := topS 39
theorem sc_place_told : FnScope ["rose", "name", "word", "marks", "top", "bottom", "gap", "place"] ["rose", "name"] (defScope s_place_told) := ⟨rfl, rfl, rfl, by decide +kernel, rfl, by decide +kernel, by decide +kernel⟩
abbrev s_Rose_init : Stmt := inClass (topS 53) 0
theorem sc_Rose_init : FnScope ["self", "words", "halvings", "begin"] ["self", "words", "halvings", "begin"] (defScope s_Rose_init) := ⟨rfl, rfl, rfl, by decide +kernel, rfl, by decide +kernel, by decide +kernel⟩
abbrev s_Rose___eq__ : Stmt := inClass (topS 53) 1
theorem sc_Rose___eq__ : FnScope ["self", "other"] ["self", "other"] (defScope s_Rose___eq__) := ⟨rfl, rfl, rfl, by decide +kernel, rfl, by decide +kernel, by decide +kernel⟩
abbrev s_Rose___len__ : Stmt := inClass (topS 53) 2
theorem sc_Rose___len__ : FnScope ["self"] ["self"] (defScope s_Rose___len__) := ⟨rfl, rfl, rfl, by decide +kernel, rfl, by decide +kernel, by decide +kernel⟩
abbrev s_are_corners : Stmt := topS 54
theorem sc_are_corners : FnScope ["thing", "word"] ["thing"] (defScope s_are_corners) := ⟨rfl, rfl, rfl, by decide +kernel, rfl, by decide +kernel, by decide +kernel⟩
abbrev s_Walk_init : Stmt := inClass (topS 59) 0
theorem sc_Walk_init : FnScope ["self", "rose", "steps", "given", "number", "step"] ["self", "rose", "steps"] (defScope s_Walk_init) := ⟨rfl, rfl, rfl, by decide +kernel, rfl, by decide +kernel, by decide +kernel⟩
abbrev s_is_step : Stmt := topS 60
theorem sc_is_step : FnScope ["rose", "thing", "name", "many"] ["rose", "thing"] (defScope s_is_step) := ⟨rfl, rfl, rfl, by decide +kernel, rfl, by decide +kernel, by decide +kernel⟩
abbrev s_is_name_of : Stmt := topS 61
theorem sc_is_name_of : FnScope ["rose", "thing"] ["rose", "thing"] (defScope s_is_name_of) := ⟨rfl, rfl, rfl, by decide +kernel, rfl, by decide +kernel, by decide +kernel⟩
abbrev s_read_log : Stmt := topS 68
theorem sc_read_log : FnScope ["rose", "text", "steps", "number", "row", "words", "word"] ["rose", "text"] (defScope s_read_log) := ⟨rfl, rfl, rfl, by decide +kernel, rfl, by decide +kernel, by decide +kernel⟩
abbrev s_tells_step : Stmt := topS 69
theorem sc_tells_step : FnScope ["words"] ["words"] (defScope s_tells_step) := ⟨rfl, rfl, rfl, by decide +kernel, rfl, by decide +kernel, by decide +kernel⟩
abbrev s_is_written_step : Stmt := topS 70
theorem sc_is_written_step : FnScope ["rose", "words"] ["rose", "words"] (defScope s_is_written_step) := ⟨rfl, rfl, rfl, by decide +kernel, rfl, by decide +kernel, by decide +kernel⟩
abbrev s_show_log : Stmt := topS 71
theorem sc_show_log : FnScope ["walk", "wide", "noughts", "width", "rows", "name", "many"] ["walk", "wide", "noughts"] (defScope s_show_log) := ⟨rfl, rfl, rfl, by decide +kernel, rfl, by decide +kernel, by decide +kernel⟩
abbrev s_l_pack : Stmt := topS 73
theorem sc_l_pack : FnScope ["_law_script", "_law_k", "_law_cell", "_law_own", "_law_one", "_law_two", "_law_found", "_law_number"] ["_law_script", "_law_k"] (defScope s_l_pack) := ⟨rfl, rfl, rfl, by decide +kernel, rfl, by decide +kernel, by decide +kernel⟩
abbrev s_l_take : Stmt := topS 74
theorem sc_l_take : FnScope ["_law_pool", "_law_many", "_law_digit"] ["_law_pool", "_law_many"] (defScope s_l_take) := ⟨rfl, rfl, rfl, by decide +kernel, rfl, by decide +kernel, by decide +kernel⟩
abbrev s_l_words : Stmt := topS 75
theorem sc_l_words : FnScope ["_law_pool", "_law_many", "_law_own", "_law_way", "_law_at", "_law_step", "_law_k", "_law_letters", "_law_size", "_law_stem", "_law_put", "_law_first"] ["_law_pool", "_law_many"] (defScope s_l_words) := ⟨rfl, rfl, rfl, by decide +kernel, rfl, by decide +kernel, by decide +kernel⟩
abbrev s_l_shown : Stmt := topS 76
theorem sc_l_shown : FnScope ["_law_steps_here", "_law_one", "_law_two", "_law_rows", "_law_name", "_law_many", "_law_figures"] ["_law_steps_here", "_law_one", "_law_two"] (defScope s_l_shown) := ⟨rfl, rfl, rfl, by decide +kernel, rfl, by decide +kernel, by decide +kernel⟩
abbrev s_l_only : Stmt := topS 77
theorem sc_l_only : FnScope ["_law_caught", "_law_which", "_law_others"] ["_law_caught", "_law_which"] (defScope s_l_only) := ⟨rfl, rfl, rfl, by decide +kernel, rfl, by decide +kernel, by decide +kernel⟩
abbrev s_l_refused : Stmt := topS 78
theorem sc_l_refused : FnScope ["_law_walk", "_law_one", "_law_two", "_law_caught", "e"] ["_law_walk", "_law_one", "_law_two"] (defScope s_l_refused) := ⟨rfl, rfl, rfl, by decide +kernel, rfl, by decide +kernel, by decide +kernel⟩
abbrev s_l_same : Stmt := topS 79
theorem sc_l_same : FnScope ["_law_one", "_law_other"] ["_law_one", "_law_other"] (defScope s_l_same) := ⟨rfl, rfl, rfl, by decide +kernel, rfl, by decide +kernel, by decide +kernel⟩
abbrev s_l_is : Stmt := topS 80
theorem sc_l_is : FnScope ["_law_thing"] ["_law_thing"] (defScope s_l_is) := ⟨rfl, rfl, rfl, by decide +kernel, rfl, by decide +kernel, by decide +kernel⟩
abbrev s_l_read_right : Stmt := topS 81
theorem sc_l_read_right : FnScope ["_law_rose", "_law_steps_here", "_law_text", "_law_two", "_law_wrong", "_law_k", "_law_caught", "_law_found", "e"] ["_law_rose", "_law_steps_here", "_law_text", "_law_two"] (defScope s_l_read_right) := ⟨rfl, rfl, rfl, by decide +kernel, rfl, by decide +kernel, by decide +kernel⟩
abbrev s_l_steps : Stmt := topS 82
theorem sc_l_steps : FnScope ["_law_pool", "_law_words_here", "_law_halvings", "_law_found", "_law_turn", "_law_marks", "_law_mark", "_law_tops", "_law_most"] ["_law_pool", "_law_words_here", "_law_halvings"] (defScope s_l_steps) := ⟨rfl, rfl, rfl, by decide +kernel, rfl, by decide +kernel, by decide +kernel⟩
abbrev s_law : Stmt := topS 83
theorem sc_law : FnScope ["_law_script", "_law_odd", "_law_k", "_law_pool", "_law_words_here", "_law_halvings", "_law_rose", "_law_steps_here", "_law_walk", "_law_far", "_law_zeros", "_law_asked", "_law_told", "_law_due", "_law_one", "_law_two", "_law_wrong", "_law_thing"] ["_law_script"] (defScope s_law) := ⟨rfl, rfl, rfl, by decide +kernel, rfl, by decide +kernel, by decide +kernel⟩
def d_NoStep_init : He.DefD := ⟨("NoStep", some "__init__"), "__init__", "NoStep.__init__", defArgs s_NoStep_init, defBody s_NoStep_init, defScope s_NoStep_init, [], []⟩
def d_NoText_init : He.DefD := ⟨("NoText", some "__init__"), "__init__", "NoText.__init__", defArgs s_NoText_init, defBody s_NoText_init, defScope s_NoText_init, [], []⟩
def d_is_whole : He.DefD := ⟨("is_whole", none), "is_whole", "is_whole", defArgs s_is_whole, defBody s_is_whole, defScope s_is_whole, [], []⟩
def d_common : He.DefD := ⟨("common", none), "common", "common", defArgs s_common, defBody s_common, defScope s_common, [], []⟩
def d_figures_of : He.DefD := ⟨("figures_of", none), "figures_of", "figures_of", defArgs s_figures_of, defBody s_figures_of, defScope s_figures_of, [], []⟩
def d_are_figures : He.DefD := ⟨("are_figures", none), "are_figures", "are_figures", defArgs s_are_figures, defBody s_are_figures, defScope s_are_figures, [], []⟩
def d_number_of : He.DefD := ⟨("number_of", none), "number_of", "number_of", defArgs s_number_of, defBody s_number_of, defScope s_number_of, [], []⟩
def d_is_word : He.DefD := ⟨("is_word", none), "is_word", "is_word", defArgs s_is_word, defBody s_is_word, defScope s_is_word, [], []⟩
def d_parted_within : He.DefD := ⟨("parted_within", none), "parted_within", "parted_within", defArgs s_parted_within, defBody s_parted_within, defScope s_parted_within, [], []⟩
def d_end_of_run : He.DefD := ⟨("end_of_run", none), "end_of_run", "end_of_run", defArgs s_end_of_run, defBody s_end_of_run, defScope s_end_of_run, [], []⟩
def d_step_of : He.DefD := ⟨("step_of", none), "step_of", "step_of", defArgs s_step_of, defBody s_step_of, defScope s_step_of, [], []⟩
def d_Turn_init : He.DefD := ⟨("Turn", some "__init__"), "__init__", "Turn.__init__", defArgs s_Turn_init, defBody s_Turn_init, defScope s_Turn_init, [.int 1], []⟩
def d_Turn___eq__ : He.DefD := ⟨("Turn", some "__eq__"), "__eq__", "Turn.__eq__", defArgs s_Turn___eq__, defBody s_Turn___eq__, defScope s_Turn___eq__, [], []⟩
def d_place_told : He.DefD := ⟨("place_told", none), "place_told", "place_told", defArgs s_place_told, defBody s_place_told, defScope s_place_told, [], []⟩
def d_Rose_init : He.DefD := ⟨("Rose", some "__init__"), "__init__", "Rose.__init__", defArgs s_Rose_init, defBody s_Rose_init, defScope s_Rose_init, [.int 2, .non], []⟩
def d_Rose___eq__ : He.DefD := ⟨("Rose", some "__eq__"), "__eq__", "Rose.__eq__", defArgs s_Rose___eq__, defBody s_Rose___eq__, defScope s_Rose___eq__, [], []⟩
def d_Rose___len__ : He.DefD := ⟨("Rose", some "__len__"), "__len__", "Rose.__len__", defArgs s_Rose___len__, defBody s_Rose___len__, defScope s_Rose___len__, [], []⟩
def d_are_corners : He.DefD := ⟨("are_corners", none), "are_corners", "are_corners", defArgs s_are_corners, defBody s_are_corners, defScope s_are_corners, [], []⟩
def d_Walk_init : He.DefD := ⟨("Walk", some "__init__"), "__init__", "Walk.__init__", defArgs s_Walk_init, defBody s_Walk_init, defScope s_Walk_init, [.non], []⟩
def d_is_step : He.DefD := ⟨("is_step", none), "is_step", "is_step", defArgs s_is_step, defBody s_is_step, defScope s_is_step, [], []⟩
def d_is_name_of : He.DefD := ⟨("is_name_of", none), "is_name_of", "is_name_of", defArgs s_is_name_of, defBody s_is_name_of, defScope s_is_name_of, [], []⟩
def d_read_log : He.DefD := ⟨("read_log", none), "read_log", "read_log", defArgs s_read_log, defBody s_read_log, defScope s_read_log, [], []⟩
def d_tells_step : He.DefD := ⟨("tells_step", none), "tells_step", "tells_step", defArgs s_tells_step, defBody s_tells_step, defScope s_tells_step, [], []⟩
def d_is_written_step : He.DefD := ⟨("is_written_step", none), "is_written_step", "is_written_step", defArgs s_is_written_step, defBody s_is_written_step, defScope s_is_written_step, [], []⟩
def d_show_log : He.DefD := ⟨("show_log", none), "show_log", "show_log", defArgs s_show_log, defBody s_show_log, defScope s_show_log, [.int 0, .int 0], []⟩
def d_l_pack : He.DefD := ⟨("_law_pack", none), "_law_pack", "_law_pack", defArgs s_l_pack, defBody s_l_pack, defScope s_l_pack, [], []⟩
def d_l_take : He.DefD := ⟨("_law_take", none), "_law_take", "_law_take", defArgs s_l_take, defBody s_l_take, defScope s_l_take, [], []⟩
def d_l_words : He.DefD := ⟨("_law_words", none), "_law_words", "_law_words", defArgs s_l_words, defBody s_l_words, defScope s_l_words, [], []⟩
def d_l_shown : He.DefD := ⟨("_law_shown", none), "_law_shown", "_law_shown", defArgs s_l_shown, defBody s_l_shown, defScope s_l_shown, [], []⟩
def d_l_only : He.DefD := ⟨("_law_only", none), "_law_only", "_law_only", defArgs s_l_only, defBody s_l_only, defScope s_l_only, [], []⟩
def d_l_refused : He.DefD := ⟨("_law_refused", none), "_law_refused", "_law_refused", defArgs s_l_refused, defBody s_l_refused, defScope s_l_refused, [], []⟩
def d_l_same : He.DefD := ⟨("_law_same", none), "_law_same", "_law_same", defArgs s_l_same, defBody s_l_same, defScope s_l_same, [], []⟩
def d_l_is : He.DefD := ⟨("_law_is", none), "_law_is", "_law_is", defArgs s_l_is, defBody s_l_is, defScope s_l_is, [], []⟩
def d_l_read_right : He.DefD := ⟨("_law_read_right", none), "_law_read_right", "_law_read_right", defArgs s_l_read_right, defBody s_l_read_right, defScope s_l_read_right, [], []⟩
def d_l_steps : He.DefD := ⟨("_law_steps", none), "_law_steps", "_law_steps", defArgs s_l_steps, defBody s_l_steps, defScope s_l_steps, [], []⟩
def d_law : He.DefD := ⟨("law", none), "law", "law", defArgs s_law, defBody s_law, defScope s_law, [], []⟩
def fn : List He.DefD := [d_NoStep_init, d_NoText_init, d_is_whole, d_common, d_figures_of, d_are_figures, d_number_of, d_is_word, d_parted_within, d_end_of_run, d_step_of, d_Turn_init, d_Turn___eq__, d_place_told, d_Rose_init, d_Rose___eq__, d_Rose___len__, d_are_corners, d_Walk_init, d_is_step, d_is_name_of, d_read_log, d_tells_step, d_is_written_step, d_show_log, d_l_pack, d_l_take, d_l_words, d_l_shown, d_l_only, d_l_refused, d_l_same, d_l_is, d_l_read_right, d_l_steps, d_law]
def fa0 : List He.Fa := [.glo "is_whole", .glo "common", .glo "figures_of", .glo "are_figures", .glo "number_of", .glo "is_word", .glo "parted_within", .glo "end_of_run", .glo "step_of", .glo "place_told", .glo "are_corners", .glo "is_step", .glo "is_name_of", .glo "read_log", .glo "tells_step", .glo "is_written_step", .glo "show_log", .glo "_law_pack", .glo "_law_take", .glo "_law_words", .glo "_law_shown", .glo "_law_only", .glo "_law_refused", .glo "_law_same", .glo "_law_is", .glo "_law_read_right", .glo "_law_steps", .glo "law", .free "LookupError", .free "ValueError"]
def fa1 : List He.Fa := [.free "abs", .free "all", .free "bool", .free "divmod", .free "enumerate", .free "int", .free "isinstance", .free "len", .free "list", .free "max", .free "min", .free "range", .free "set", .free "str", .free "sum", .free "tuple", .free "zip", .glo "Turn", .cls "Turn", .mkr "Turn", .noat "Turn" "top", .noat "Turn" "bottom", .meth "Turn" "__eq__", .glo "Rose", .cls "Rose", .mkr "Rose", .noat "Rose" "words", .noat "Rose" "halvings", .noat "Rose" "begin", .meth "Rose" "__eq__"]
def fa2 : List He.Fa := [.meth "Rose" "__len__", .glo "Walk", .cls "Walk", .mkr "Walk", .noat "Walk" "rose", .noat "Walk" "steps", .str "FIGURES" "0123456789", .int "MOST_FIGURES" 9, .int "PIECE" 1000000000000000000, .str "LETTERS" "abcdefghijklmnopqrstuvwxyz", .int "MOST_LETTERS" 6, .str "ON" ">", .str "BACK" "<", .int "PAIR" 2, .glo "ODD_SIZES", .int "LEAST_CORNERS" 3, .int "MOST_CORNERS" 8, .int "MOST_HALVINGS" 5, .str "FIRST_WORD" "rose", .int "MOST_STEPS" 256, .str "NO_STEPS" "-", .str "BETWEEN" ", ", .str "LINE_END" "\n", .str "BLANK" " ", .str "REMARK" "#", .int "WIDEST" 20, .glo "RoseError", .glo "NoTurn", .glo "NoName", .glo "NoStep"]
def fa3 : List He.Fa := [.glo "NoRose", .glo "NoText", .glo "NoWind", .glo "NoPair", .glo "NoRoom", .glo "NoWalk", .glo "NoRow", .glo "LostError", .glo "NoWord", .glo "NoDeed", .glo "NoSuch", .noat "NoStep" "thing", .meth "NoStep" "__init__", .exm "NoStep" "RoseError" true, .noat "NoText" "row", .meth "NoText" "__init__", .exm "NoText" "RoseError" true]
def fa : List He.Fa := fa0 ++ fa1 ++ fa2 ++ fa3
def kits_NoStep : List (Str × Bool) := [("RoseError", true), ("NoTurn", false), ("NoName", false), ("NoStep", true), ("NoRose", false), ("NoText", false), ("NoWind", false), ("NoPair", false), ("NoRoom", false), ("NoWalk", false), ("NoRow", false), ("LostError", false), ("NoWord", false), ("NoDeed", false), ("NoSuch", false)]
def kits_NoText : List (Str × Bool) := [("RoseError", true), ("NoTurn", false), ("NoName", false), ("NoStep", false), ("NoRose", false), ("NoText", true), ("NoWind", false), ("NoPair", false), ("NoRoom", false), ("NoWalk", false), ("NoRow", false), ("LostError", false), ("NoWord", false), ("NoDeed", false), ("NoSuch", false)]
def ex (K : PySem.W.Frag) : Bool := ownB K "Turn" && (ownB K "Rose" && (ownB K "Walk" && (He.eqO (PySem.W.findIn K (.ref (He.ga K "Rose")) "__bool__") (some none) && (digB K && (othB K "Turn" "Rose" && (othB K "Turn" "Walk" && (othB K "Rose" "Turn" && (othB K "Rose" "Walk" && (othB K "Walk" "Turn" && (othB K "Walk" "Rose" && (He.tupB K "ODD_SIZES" [.int 3, .int 5, .int 7] && (baseB K "RoseError" && (oexB K "NoStep" && (xkB K "NoStep" && (kitsB K "NoStep" kits_NoStep && (decide (PySem.W.kitOne K (.ref (He.ga K "NoStep")) (.type "ValueError") = some true) && (decide (PySem.W.kitOne K (.ref (He.ga K "NoStep")) (.type "LookupError") = some false) && (oexB K "NoText" && (xkB K "NoText" && (kitsB K "NoText" kits_NoText && (decide (PySem.W.kitOne K (.ref (He.ga K "NoText")) (.type "ValueError") = some true) && (decide (PySem.W.kitOne K (.ref (He.ga K "NoText")) (.type "LookupError") = some false) && (decide (PySem.W.kitOne K (.ref (He.ga K "Turn")) (.type "int") = some false) && (decide (PySem.W.kitOne K (.ref (He.ga K "Turn")) (.type "bool") = some false) && (decide (PySem.W.kitOne K (.ref (He.ga K "Turn")) (.type "str") = some false))))))))))))))))))))))))))
def ns0 : List PySem.Str := ["_wall", "RoseError", "NoTurn", "NoName", "NoStep", "NoRose", "NoText", "NoWind", "NoPair", "NoRoom", "NoWalk", "NoRow", "LostError", "NoWord", "NoDeed", "NoSuch", "FIGURES", "MOST_FIGURES", "PIECE", "is_whole", "common", "figures_of", "are_figures", "number_of", "LETTERS", "MOST_LETTERS", "ON", "BACK", "is_word", "parted_within"]
def ns1 : List PySem.Str := ["end_of_run", "step_of", "Turn", "must_be_turn", "place_told", "turn_at", "PAIR", "ODD_SIZES", "odd_size", "taken_off", "differences", "goes_home", "LEAST_CORNERS", "MOST_CORNERS", "MOST_HALVINGS", "FIRST_WORD", "Rose", "are_corners", "MOST_STEPS", "NO_STEPS", "BETWEEN", "Walk", "is_step", "is_name_of", "steps_text", "LINE_END", "BLANK", "REMARK", "WIDEST", "read_log"]
def ns2 : List PySem.Str := ["tells_step", "is_written_step", "show_log", "_law_pack", "_law_take", "_law_words", "_law_shown", "_law_only", "_law_refused", "_law_same", "_law_is", "_law_read_right", "_law_steps"]
def names : List PySem.Str := ns0 ++ ns1 ++ ns2
abbrev R : PySem.W.OpenRow := PySem.W.OpenLaw.row PySem.Challenge.rw_rosenames_k41_walks_as_logs
def adr : List Addr := [2, 3, 6, 4, 21, 31, 51, 70, 89, 108, 127, 146, 158, 170, 189, 201, 213, 233, 252, 271, 280, 287, 294, 299, 306, 313, 320, 327, 334, 415, 426, 433, 440, 441, 448, 453, 458, 463, 516, 525, 612, 623, 630, 635, 640, 647, 654, 660, 667, 674, 679, 686, 693, 700, 707, 714, 719, 724, 729, 0, 20, 30, 50, 69, 88, 107, 126, 145, 157, 169, 188, 200, 212, 232, 251, 270, 279, 286, 293, 298, 305, 312, 319, 326, 333, 414, 425, 432, 439, 447, 452, 457, 462, 515, 524, 611, 622, 629, 634, 639, 646, 653, 659, 655, 666, 673, 678, 685, 692, 699, 706, 713, 718, 723, 728, 15, 16, 17, 18, 19, 29, 32, 48, 49, 67, 68, 86, 87, 105, 106, 124, 125, 143, 144, 156, 168, 186, 187, 199, 211, 214, 230, 231, 249, 250, 268, 269, 274, 275, 276, 277, 278, 281, 282, 283, 284, 285, 288, 289, 290, 291, 292, 295, 296, 297, 300, 301, 302, 303, 304, 307, 308, 309, 310, 311, 314, 315, 316, 317, 318, 321, 322, 323, 324, 325, 328, 329, 330, 331, 332, 349, 356, 363, 370, 377, 384, 391, 398, 405, 412, 413, 416, 417, 420, 421, 422, 423, 424, 427, 428, 429, 430, 431, 434, 435, 436, 437, 438, 442, 443, 444, 445, 446, 449, 450, 451, 454, 455, 456, 459, 460, 461, 478, 485, 492, 499, 506, 513, 514, 517, 518, 521, 522, 523, 540, 547, 554, 561, 568, 575, 580, 588, 595, 602, 609, 610, 613, 614, 617, 618, 619, 620, 621, 624, 625, 626, 627, 628, 631, 632, 633, 636, 637, 638, 641, 642, 643, 644, 645, 648, 649, 650, 651, 652, 656, 657, 658, 661, 662, 663, 664, 665, 668, 669, 670, 671, 672, 675, 676, 677, 680, 681, 682, 683, 684, 687, 688, 689, 690, 691, 694, 695, 696, 697, 698, 701, 702, 703, 704, 705, 708, 709, 710, 711, 712, 715, 716, 717, 720, 721, 722, 725, 726, 727, 47, 66, 85, 104, 123, 142, 185, 229, 248, 267, 348, 342, 355, 362, 369, 376, 383, 390, 397, 404, 411, 477, 471, 484, 491, 498, 505, 512, 539, 533, 546, 553, 560, 567, 574, 579, 587, 581, 594, 601, 608, 42, 43, 44, 45, 46, 61, 62, 63, 64, 65, 80, 81, 82, 83, 84, 99, 100, 101, 102, 103, 118, 119, 120, 121, 122, 137, 138, 139, 140, 141, 180, 181, 182, 183, 184, 224, 225, 226, 227, 228, 243, 244, 245, 246, 247, 262, 263, 264, 265, 266, 343, 344, 345, 346, 347, 350, 351, 352, 353, 354, 357, 358, 359, 360, 361, 364, 365, 366, 367, 368, 371, 372, 373, 374, 375, 378, 379, 380, 381, 382, 385, 386, 387, 388, 389, 392, 393, 394, 395, 396, 399, 400, 401, 402, 403, 406, 407, 408, 409, 410, 472, 473, 474, 475, 476, 479, 480, 481, 482, 483, 486, 487, 488, 489, 490, 493, 494, 495, 496, 497, 500, 501, 502, 503, 504, 507, 508, 509, 510, 511, 534, 535, 536, 537, 538, 541, 542, 543, 544, 545, 548, 549, 550, 551, 552, 555, 556, 557, 558, 559, 562, 563, 564, 565, 566, 569, 570, 571, 572, 573, 576, 577, 578, 582, 583, 584, 585, 586, 589, 590, 591, 592, 593, 596, 597, 598, 599, 600, 603, 604, 605, 606, 607]
def hk : PySem.W.Hook where
  α := He.AlD × Bool
  obs := fun s => (He.obsD fa fn (He.frG s.heap.get? adr), ex (He.frG s.heap.get? adr))
  val := fun _ => (He.valD fn, true)
  says := fun _ h => ∃ K : PySem.W.Frag, K.In h ∧ He.SaysD fa fn K ∧ ex K = true
  of := fun _ _ e => ⟨_, He.frG_in, congrArg (fun z : He.AlD × Bool => z.1) e, congrArg (fun z : He.AlD × Bool => z.2) e⟩
  keeps := fun _ _ _ ⟨K, hK, c⟩ k => ⟨K, PySem.W.Frag.In.keeps hK k, c⟩
def ob (s : PySem.W.SharedT) : He.AlD × Bool := (He.obsD fa fn (He.frG (HandSHeadRun.getT s) adr), ex (He.frG (HandSHeadRun.getT s) adr))
theorem ob_eq (s : PySem.W.SharedT) : ob s = hk.obs s.abs := by
  have e : HandSHeadRun.getT s = s.abs.heap.get? := funext fun a => HandSHeadRun.getT_eq s a
  unfold ob
  rw [e]
  rfl
theorem run (w : World) : HandSHeadRun.RunEq R (PySem.W.view R.prog [83]) hk ob 9000 names w := by
  intro os
  kernel_rfl
end K41
open Dl in
local macro_rules
  | `(tactic| array_get_dec) => `(tactic| repeat' (first
    | (((with_reducible guard_target =~ @WpS _ _ _ _ _ _ _ _ _)); (first
        | with_reducible refine ws_seq ?_
        | with_reducible refine ws_set ?_
        | with_reducible refine ws_ret ?_
        | with_reducible refine ws_if ?_
        | with_reducible refine ws_par ?_
        | with_reducible refine ws_app ?_
        | with_reducible refine ws_clear ?_
        | with_reducible refine ws_ins ?_
        | with_reducible refine ws_ext ?_
        | with_reducible refine ws_drop ?_
        | with_reducible refine ws_asg ?_
        | with_reducible refine ws_next ?_
        | with_reducible refine ws_setM ?_
        | with_reducible refine ws_retM ?_
        | ((with_reducible apply ws_raise); assumption)
        | with_reducible refine ws_fld ?_
        | with_reducible refine ws_par3 ?_
        | with_reducible refine ws_augS ?_
        | ((with_reducible apply ws_aug); exact rfl; exact nofun)
        | with_reducible refine ws_for ?_))
    | (((with_reducible guard_target =~ @Wp _ _ _ _ _ _)); (first
        | ((with_reducible apply wp_var); exact rfl)
        | with_reducible refine wp_int ?_
        | with_reducible refine wp_op ?_
        | with_reducible refine wp_fld ?_
        | with_reducible refine wp_str ?_
        | with_reducible refine wp_bl ?_
        | with_reducible refine wp_non ?_
        | with_reducible refine wp_call ?_
        | ((with_reducible apply wp_varM); exact rfl)
        | with_reducible refine wp_ty ?_
        | with_reducible refine wp_glo ?_
        | with_reducible refine wp_un ?_
        | with_reducible refine wp_boolO ?_
        | with_reducible refine wp_lenR ?_
        | with_reducible refine wp_sset ?_
        | with_reducible refine wp_ssc ?_
        | with_reducible refine wp_lrg1 ?_
        | with_reducible refine wp_strO ?_
        | with_reducible refine wp_lenO ?_
        | with_reducible refine wp_iskT ?_
        | with_reducible refine wp_isiT ?_
        | with_reducible refine wp_cb ?_
        | with_reducible refine wp_callM ?_
        | with_reducible refine wp_tup ?_
        | with_reducible refine wp_lst ?_
        | with_reducible refine wp_if ?_
        | with_reducible refine wp_dic ?_
        | with_reducible refine wp_revT ?_
        | with_reducible refine wp_revL ?_
        | with_reducible refine wp_andV ?_
        | with_reducible refine wp_orV ?_
        | with_reducible refine wp_notV ?_
        | with_reducible refine wp_chain ?_
        | with_reducible refine wp_sl ?_
        | with_reducible refine wp_part ?_
        | with_reducible refine wp_cntB ?_
        | with_reducible refine wp_idxB ?_
        | ((with_reducible apply wp_callKX); assumption; first | exact rc_nil | exact rc_int rc_nil | exact rc_bl rc_nil | exact rc_non rc_nil | exact rc_int (rc_bl rc_nil) | exact rc_int (rc_non rc_nil) | exact rc_non (rc_non rc_nil))
        | ((with_reducible apply wp_callK); first | exact rc_nil | exact rc_int rc_nil | exact rc_bl rc_nil | exact rc_non rc_nil | exact rc_int (rc_bl rc_nil) | exact rc_int (rc_non rc_nil) | exact rc_non (rc_non rc_nil))
        | with_reducible refine wp_disp1 ?_
        | with_reducible refine wp_xk ?_
        | ((with_reducible apply wp_mkKX); assumption)
        | ((with_reducible apply wp_callD); first | exact rc_nil | exact rc_int rc_nil | exact rc_bl rc_nil | exact rc_non rc_nil | exact rc_int (rc_bl rc_nil) | exact rc_int (rc_non rc_nil) | exact rc_non (rc_non rc_nil))
        | ((with_reducible apply wp_mk); first | exact rc_nil | exact rc_int rc_nil | exact rc_bl rc_nil | exact rc_non rc_nil | exact rc_int (rc_bl rc_nil) | exact rc_int (rc_non rc_nil) | exact rc_non (rc_non rc_nil))
        | with_reducible refine wp_mkKJ ?_
        | ((with_reducible apply wp_methQ); first | exact rc_nil | exact rc_int rc_nil | exact rc_bl rc_nil | exact rc_non rc_nil | exact rc_int (rc_bl rc_nil) | exact rc_int (rc_non rc_nil) | exact rc_non (rc_non rc_nil))
        | ((with_reducible apply wp_methD); first | exact rc_nil | exact rc_int rc_nil | exact rc_bl rc_nil | exact rc_non rc_nil | exact rc_int (rc_bl rc_nil) | exact rc_int (rc_non rc_nil) | exact rc_non (rc_non rc_nil))
        | ((with_reducible apply wp_callX); assumption; first | exact rc_nil | exact rc_int rc_nil | exact rc_bl rc_nil | exact rc_non rc_nil | exact rc_int (rc_bl rc_nil) | exact rc_int (rc_non rc_nil) | exact rc_non (rc_non rc_nil))
        | ((with_reducible apply wp_methX); assumption; first | exact rc_nil | exact rc_int rc_nil | exact rc_bl rc_nil | exact rc_non rc_nil | exact rc_int (rc_bl rc_nil) | exact rc_int (rc_non rc_nil) | exact rc_non (rc_non rc_nil))
        | ((with_reducible apply wp_mkX); assumption; first | exact rc_nil | exact rc_int rc_nil | exact rc_bl rc_nil | exact rc_non rc_nil | exact rc_int (rc_bl rc_nil) | exact rc_int (rc_non rc_nil) | exact rc_non (rc_non rc_nil))
        | with_reducible refine wp_fmtO ?_
        | with_reducible refine wp_join ?_
        | with_reducible refine wp_joined ?_
        | with_reducible refine wp_fmtZ ?_
        | with_reducible refine wp_lenT ?_))
    | (((with_reducible guard_target =~ @WpA _ _ _ _ _ _)); (first
        | with_reducible refine wa_cons ?_
        | with_reducible refine wa_nil ?_))
    | (((with_reducible guard_target =~ @WpT _ _ _ _ _ _)); (first
        | with_reducible refine wt_test ?_
        | with_reducible refine wt_B ?_
        | with_reducible refine wt_not ?_
        | with_reducible refine wt_yes ?_
        | with_reducible refine wt_and ?_
        | with_reducible refine wt_or ?_))
    | (((with_reducible guard_target =~ @Op2 _ _ _ _ _ _)); (first
        | with_reducible refine o_Ii ?_
        | with_reducible refine o_Ib ?_
        | with_reducible refine o_eqI ?_
        | with_reducible refine o_neI ?_
        | with_reducible refine o_eqS ?_
        | with_reducible refine o_neS ?_
        | with_reducible refine o_eqB ?_
        | with_reducible refine o_neB ?_
        | with_reducible refine o_isN ?_
        | with_reducible refine o_notN ?_
        | with_reducible refine ip_I ?_
        | ((with_reducible refine o_mod ?_ ?_); first | decide | omega)
        | ((with_reducible refine o_mul 1000 1000 ?_ ?_ (by decide) ?_); assumption; assumption)
        | ((with_reducible refine o_mul 1000 64 ?_ ?_ (by decide) ?_); assumption; omega)
        | ((with_reducible refine o_mul 64 1000 ?_ ?_ (by decide) ?_); omega; assumption)
        | ((with_reducible refine o_mulS ?_ ?_ ?_) <;> first | omega | skip)
        | ((with_reducible refine o_fdiv 4000 ?_ ?_ (by decide) ?_); assumption; assumption)
        | ((with_reducible refine o_fdivS ?_ ?_ ?_); omega; omega)
        | with_reducible refine o_inSign ?_
        | with_reducible refine o_notInSign ?_
        | ((with_reducible apply o_addS); (first | assumption | omega))
        | ((with_reducible refine o_shl ?_ ?_ ?_ ?_) <;> first | omega | skip)
        | ((with_reducible refine o_powL ?_ ?_ ?_ ?_) <;> (first | decide | skip))
        | ((with_reducible apply o_ixT); first | exact rfl | exact at_zero | exact at_one | exact at_two)
        | ((with_reducible apply o_ixF); first | exact rfl | exact at_zero | exact at_one | exact at_two)
        | ((with_reducible apply o_catA); (first | exact tp_t | exact tp_f); (first | exact tp_t | exact tp_f))
        | ((with_reducible apply o_cat); (first | exact ls_dat | exact ls_mu rfl); (first | exact ls_dat | exact ls_mu rfl))
        | ((with_reducible refine o_divC ?_ ?_ ?_) <;> first | decide | omega | skip)
        | ((with_reducible apply o_ixL); first | exact rfl | exact at_zero | exact at_one | exact at_two)))
    | (((with_reducible guard_target =~ @Cb _ _ _ _ _)); (first
        | with_reducible refine c_lenT ?_
        | with_reducible refine c_lenF ?_
        | with_reducible refine c_lenL ?_
        | with_reducible refine c_lenFl ?_
        | ((with_reducible refine c_isInt ?_ ?_); first | assumption | exact rfl)
        | ((with_reducible refine c_isBool ?_ ?_); first | assumption | exact rfl)
        | ((with_reducible refine c_isStr ?_ ?_); first | assumption | exact rfl)
        | ((with_reducible refine c_isTup ?_ ?_); first | assumption | exact rfl)
        | ((with_reducible refine c_isLst ?_ ?_); first | assumption | exact rfl)
        | with_reducible refine c_abs ?_
        | with_reducible refine c_max ?_
        | with_reducible refine c_min ?_
        | with_reducible refine c_intB ?_
        | ((with_reducible apply c_isO); assumption)
        | with_reducible refine c_strS ?_
        | ((with_reducible apply c_lenS); (first | assumption | omega))
        | ((with_reducible apply c_list); (first | exact sq_t | exact sq_f | exact sq_l | exact sq_fl | exact sq_m rfl))
        | ((with_reducible apply c_tupF); (first | exact ls_dat | exact ls_mu rfl))
        | ((with_reducible apply c_tupL); (first | exact ls_dat | exact ls_mu st_last))
        | ((with_reducible apply c_lenM); exact st_last)))
    | (((with_reducible guard_target =~ @WpG _ _ _ _ _ _ _)); (first
        | with_reducible refine wg_name ?_
        | ((with_reducible refine wg_tup2 ?_ ?_); exact rfl)
        | ((with_reducible refine wg_tup3 ?_ ?_); exact rfl)
        | ((with_reducible refine wg_lst2 ?_ ?_); exact rfl)
        | ((with_reducible refine wg_ftup2 ?_ ?_); exact rfl)
        | ((with_reducible refine wg_ftup3 ?_ ?_); exact rfl)
        | with_reducible refine wg_setL ?_))
    | (((with_reducible guard_target =~ @WpI _ _ _ _ _ _)); (first
        | with_reducible refine wi_zip ?_
        | with_reducible refine wi_str ?_
        | with_reducible refine wi_rng1 ?_
        | with_reducible refine wi_rng2 ?_
        | with_reducible refine wi_rng3 ?_
        | with_reducible refine wi_list ?_
        | with_reducible refine wi_tup ?_
        | with_reducible refine wi_seq ?_
        | with_reducible refine wi_glo ?_))
    | (((with_reducible guard_target =~ @WpN _ _ _ _ _ _)); (first
        | with_reducible refine wn_lst ?_
        | with_reducible refine wn_list ?_
        | with_reducible refine wn_rep ?_
        | with_reducible refine wn_cat ?_))
    | with_reducible refine rev_t ?_
    | with_reducible refine wo_none ?_
    | with_reducible refine wo_some ?_
    | with_reducible refine wgs_nil ?_
    | with_reducible refine wgs_cons ?_
    | with_reducible refine bo ?_
    | with_reducible refine in1 ?_
    | with_reducible refine two ?_
    | with_reducible refine tu_2 ?_
    | with_reducible refine tu_1 ?_
    | with_reducible refine tu_0 ?_
    | with_reducible refine tu_3 ?_
    | with_reducible refine tu_4 ?_
    | ((with_reducible apply tu_of); exact rfl; exact Nat.le_of_ble_eq_true rfl)
    | with_reducible refine u_neg ?_
    | ((with_reducible apply fl_ins); assumption; (first | exact rfl | decide +kernel); (first | exact lk_hd | exact lk_tl (by decide +kernel) lk_hd | exact lk_tl (by decide +kernel) (lk_tl (by decide +kernel) lk_hd)))
    | ((with_reducible refine me_ins ?_ ?_); first | exact lk_no (by decide +kernel) rfl | exact lk_no (by decide +kernel) (lk_no (by decide +kernel) rfl) | exact lk_no (by decide +kernel) (lk_no (by decide +kernel) (lk_no (by decide +kernel) rfl)))
    | with_reducible refine ra_x ?_
    | ((with_reducible apply pf_last); assumption; (first | exact rfl | decide +kernel); exact Nat.le_of_ble_eq_true rfl)
    | with_reducible refine st_o ?_
    | with_reducible refine le_o ?_
    | ((with_reducible apply s_S); (first | assumption | omega))
    | with_reducible refine jz ?_
    | with_reducible refine wj_nil ?_
    | with_reducible refine wj_cons ?_
    | with_reducible refine txx ?_
    | ((with_reducible apply s_A); (first | exact tp_t | exact tp_f))
    | ((with_reducible apply s_L); (first | exact .inl ls_dat | exact .inl (ls_mu rfl) | exact .inr rfl))
    | with_reducible refine one ?_
    | with_reducible refine app_last ?_
    | with_reducible refine sq_lst ?_
    | with_reducible refine sqb_l ?_
    | with_reducible refine sqb_t ?_
    | with_reducible refine sqb_f ?_
    | with_reducible refine sq_tup ?_
    | with_reducible refine sq_ftup ?_
    | ((with_reducible refine And.intro (fun hb => ?_) (fun hb => ?_)) <;> (first | (cases hb; done) | (exact absurd (show false = true from hb) Bool.false_ne_true) | (exact absurd (show true = false from hb) (Ne.symm Bool.false_ne_true)) | (have hz : true = true := hb; clear hz hb) | (have hz : false = false := hb; clear hz hb) | replace hb := of_decide_eq_true hb | replace hb := of_decide_eq_false hb | replace hb := of_decide_eq_true (nt_f hb) | replace hb := of_decide_eq_false (nt_t hb) | replace hb := nt_f hb | replace hb := nt_t hb | skip) <;> (try contradiction))
    | fail "no rule"))
namespace K41
open PySem PySem.Spec PyProof.Rows L2 Evl
structure Txt (K : PySem.W.Frag) (mg : Str → Option Value) : Prop where
  g_Turn : mg "Turn" = some (.ref (He.ga K "Turn"))
  cl_Turn : Cls K (He.ga K "Turn")
  mk_Turn : Mk K (He.ga K "Turn") (He.ma K (He.ga K "Turn") "__init__")
  no_Turn_top : NoAttr K (He.ga K "Turn") "top"
  no_Turn_bottom : NoAttr K (He.ga K "Turn") "bottom"
  m_Turn___eq__ : Meth K (He.ga K "Turn") "__eq__" (He.ma K (He.ga K "Turn") "__eq__")
  g_Rose : mg "Rose" = some (.ref (He.ga K "Rose"))
  cl_Rose : Cls K (He.ga K "Rose")
  mk_Rose : Mk K (He.ga K "Rose") (He.ma K (He.ga K "Rose") "__init__")
  no_Rose_words : NoAttr K (He.ga K "Rose") "words"
  no_Rose_halvings : NoAttr K (He.ga K "Rose") "halvings"
  no_Rose_begin : NoAttr K (He.ga K "Rose") "begin"
  m_Rose___eq__ : Meth K (He.ga K "Rose") "__eq__" (He.ma K (He.ga K "Rose") "__eq__")
  m_Rose___len__ : Meth K (He.ga K "Rose") "__len__" (He.ma K (He.ga K "Rose") "__len__")
  g_Walk : mg "Walk" = some (.ref (He.ga K "Walk"))
  cl_Walk : Cls K (He.ga K "Walk")
  mk_Walk : Mk K (He.ga K "Walk") (He.ma K (He.ga K "Walk") "__init__")
  no_Walk_rose : NoAttr K (He.ga K "Walk") "rose"
  no_Walk_steps : NoAttr K (He.ga K "Walk") "steps"
  b_LookupError : mg "LookupError" = none
  b_ValueError : mg "ValueError" = none
  b_abs : mg "abs" = none
  b_all : mg "all" = none
  b_bool : mg "bool" = none
  b_divmod : mg "divmod" = none
  b_enumerate : mg "enumerate" = none
  b_int : mg "int" = none
  b_isinstance : mg "isinstance" = none
  b_len : mg "len" = none
  b_list : mg "list" = none
  b_max : mg "max" = none
  b_min : mg "min" = none
  b_range : mg "range" = none
  b_set : mg "set" = none
  b_str : mg "str" = none
  b_sum : mg "sum" = none
  b_tuple : mg "tuple" = none
  b_zip : mg "zip" = none
  g_FIGURES : ∃ t, mg "FIGURES" = some (.str "0123456789" t)
  g_MOST_FIGURES : ∃ t, mg "MOST_FIGURES" = some (.int 9 t)
  g_PIECE : ∃ t, mg "PIECE" = some (.int 1000000000000000000 t)
  g_LETTERS : ∃ t, mg "LETTERS" = some (.str "abcdefghijklmnopqrstuvwxyz" t)
  g_MOST_LETTERS : ∃ t, mg "MOST_LETTERS" = some (.int 6 t)
  g_ON : ∃ t, mg "ON" = some (.str ">" t)
  g_BACK : ∃ t, mg "BACK" = some (.str "<" t)
  g_PAIR : ∃ t, mg "PAIR" = some (.int 2 t)
  g_ODD_SIZES : mg "ODD_SIZES" = some (.ref (He.ga K "ODD_SIZES"))
  g_LEAST_CORNERS : ∃ t, mg "LEAST_CORNERS" = some (.int 3 t)
  g_MOST_CORNERS : ∃ t, mg "MOST_CORNERS" = some (.int 8 t)
  g_MOST_HALVINGS : ∃ t, mg "MOST_HALVINGS" = some (.int 5 t)
  g_FIRST_WORD : ∃ t, mg "FIRST_WORD" = some (.str "rose" t)
  g_MOST_STEPS : ∃ t, mg "MOST_STEPS" = some (.int 256 t)
  g_NO_STEPS : ∃ t, mg "NO_STEPS" = some (.str "-" t)
  g_BETWEEN : ∃ t, mg "BETWEEN" = some (.str ", " t)
  g_LINE_END : ∃ t, mg "LINE_END" = some (.str "\n" t)
  g_BLANK : ∃ t, mg "BLANK" = some (.str " " t)
  g_REMARK : ∃ t, mg "REMARK" = some (.str "#" t)
  g_WIDEST : ∃ t, mg "WIDEST" = some (.int 20 t)
  g_RoseError : mg "RoseError" = some (.ref (He.ga K "RoseError"))
  g_NoTurn : mg "NoTurn" = some (.ref (He.ga K "NoTurn"))
  g_NoName : mg "NoName" = some (.ref (He.ga K "NoName"))
  g_NoStep : mg "NoStep" = some (.ref (He.ga K "NoStep"))
  g_NoRose : mg "NoRose" = some (.ref (He.ga K "NoRose"))
  g_NoText : mg "NoText" = some (.ref (He.ga K "NoText"))
  g_NoWind : mg "NoWind" = some (.ref (He.ga K "NoWind"))
  g_NoPair : mg "NoPair" = some (.ref (He.ga K "NoPair"))
  g_NoRoom : mg "NoRoom" = some (.ref (He.ga K "NoRoom"))
  g_NoWalk : mg "NoWalk" = some (.ref (He.ga K "NoWalk"))
  g_NoRow : mg "NoRow" = some (.ref (He.ga K "NoRow"))
  g_LostError : mg "LostError" = some (.ref (He.ga K "LostError"))
  g_NoWord : mg "NoWord" = some (.ref (He.ga K "NoWord"))
  g_NoDeed : mg "NoDeed" = some (.ref (He.ga K "NoDeed"))
  g_NoSuch : mg "NoSuch" = some (.ref (He.ga K "NoSuch"))
  own_Turn : OwnC K (He.ga K "Turn")
  own_Rose : OwnC K (He.ga K "Rose")
  own_Walk : OwnC K (He.ga K "Walk")
  nb_Rose : PySem.W.findIn K (.ref (He.ga K "Rose")) "__bool__" = some none
  dig : digB K = true
  ob_Turn_Rose : othB K "Turn" "Rose" = true
  ob_Turn_Walk : othB K "Turn" "Walk" = true
  ob_Rose_Turn : othB K "Rose" "Turn" = true
  ob_Rose_Walk : othB K "Rose" "Walk" = true
  ob_Walk_Turn : othB K "Walk" "Turn" = true
  ob_Walk_Rose : othB K "Walk" "Rose" = true
  t_ODD_SIZES : ∀ H : Hp, SqT K H (He.ga K "ODD_SIZES") [V.int 3, V.int 5, V.int 7]
  base_RoseError : BaseC K (He.ga K "RoseError")
  oex_NoStep : OexC K (He.ga K "NoStep")
  xk_NoStep : XkC K (He.ga K "NoStep")
  kit_NoStep : kitsB K "NoStep" kits_NoStep = true
  kt_NoStep_ValueError : PySem.W.kitOne K (.ref (He.ga K "NoStep")) (.type "ValueError") = some true
  kt_NoStep_LookupError : PySem.W.kitOne K (.ref (He.ga K "NoStep")) (.type "LookupError") = some false
  oex_NoText : OexC K (He.ga K "NoText")
  xk_NoText : XkC K (He.ga K "NoText")
  kit_NoText : kitsB K "NoText" kits_NoText = true
  kt_NoText_ValueError : PySem.W.kitOne K (.ref (He.ga K "NoText")) (.type "ValueError") = some true
  kt_NoText_LookupError : PySem.W.kitOne K (.ref (He.ga K "NoText")) (.type "LookupError") = some false
  ki_Turn_int : PySem.W.kitOne K (.ref (He.ga K "Turn")) (.type "int") = some false
  ki_Turn_bool : PySem.W.kitOne K (.ref (He.ga K "Turn")) (.type "bool") = some false
  ki_Turn_str : PySem.W.kitOne K (.ref (He.ga K "Turn")) (.type "str") = some false
  noat_NoStep : NoAttr K (He.ga K "NoStep") "thing"
  mi_NoStep : Meth K (He.ga K "NoStep") "__init__" (He.ma K (He.ga K "NoStep") "__init__")
  exm_NoStep_RoseError : PySem.W.exmOne K (.ref (He.ga K "NoStep")) (.ref (He.ga K "RoseError")) = some true
  noat_NoText : NoAttr K (He.ga K "NoText") "row"
  mi_NoText : Meth K (He.ga K "NoText") "__init__" (He.ma K (He.ga K "NoText") "__init__")
  exm_NoText_RoseError : PySem.W.exmOne K (.ref (He.ga K "NoText")) (.ref (He.ga K "RoseError")) = some true
abbrev FnP (K : PySem.W.Frag) (x : Str) (st : Stmt) (f : Addr) (fd : FuncData) : Prop := FunD K x x (defArgs st) (defBody st) (defScope st) [] [] f fd
abbrev FnM (K : PySem.W.Frag) (x qual : Str) (st : Stmt) (f : Addr) (fd : FuncData) : Prop := FunD K x qual (defArgs st) (defBody st) (defScope st) [] [] f fd
theorem Txt.clf_Turn {K : PySem.W.Frag} {mg : Str → Option Value} (T : Txt K mg) : Dl.ClF K "Turn" ["top", "bottom"] := ⟨T.cl_Turn, fun x hx => by
  simp only [List.mem_cons, List.not_mem_nil, or_false] at hx
  rcases hx with rfl | rfl
  · exact T.no_Turn_top
  · exact T.no_Turn_bottom, T.own_Turn⟩
theorem Txt.clf_Rose {K : PySem.W.Frag} {mg : Str → Option Value} (T : Txt K mg) : Dl.ClF K "Rose" ["words", "halvings", "begin"] := ⟨T.cl_Rose, fun x hx => by
  simp only [List.mem_cons, List.not_mem_nil, or_false] at hx
  rcases hx with rfl | rfl | rfl
  · exact T.no_Rose_words
  · exact T.no_Rose_halvings
  · exact T.no_Rose_begin, T.own_Rose⟩
theorem Txt.clf_Walk {K : PySem.W.Frag} {mg : Str → Option Value} (T : Txt K mg) : Dl.ClF K "Walk" ["rose", "steps"] := ⟨T.cl_Walk, fun x hx => by
  simp only [List.mem_cons, List.not_mem_nil, or_false] at hx
  rcases hx with rfl | rfl
  · exact T.no_Walk_rose
  · exact T.no_Walk_steps, T.own_Walk⟩
theorem Txt.oth_Turn_Rose {K : PySem.W.Frag} {mg : Str → Option Value} (T : Txt K mg) : Oth K (He.ga K "Turn") (He.ga K "Rose") := othB_ok T.cl_Rose T.own_Rose.is T.ob_Turn_Rose
theorem Txt.oth_Turn_Walk {K : PySem.W.Frag} {mg : Str → Option Value} (T : Txt K mg) : Oth K (He.ga K "Turn") (He.ga K "Walk") := othB_ok T.cl_Walk T.own_Walk.is T.ob_Turn_Walk
theorem Txt.oth_Rose_Turn {K : PySem.W.Frag} {mg : Str → Option Value} (T : Txt K mg) : Oth K (He.ga K "Rose") (He.ga K "Turn") := othB_ok T.cl_Turn T.own_Turn.is T.ob_Rose_Turn
theorem Txt.oth_Rose_Walk {K : PySem.W.Frag} {mg : Str → Option Value} (T : Txt K mg) : Oth K (He.ga K "Rose") (He.ga K "Walk") := othB_ok T.cl_Walk T.own_Walk.is T.ob_Rose_Walk
theorem Txt.oth_Walk_Turn {K : PySem.W.Frag} {mg : Str → Option Value} (T : Txt K mg) : Oth K (He.ga K "Walk") (He.ga K "Turn") := othB_ok T.cl_Turn T.own_Turn.is T.ob_Walk_Turn
theorem Txt.oth_Walk_Rose {K : PySem.W.Frag} {mg : Str → Option Value} (T : Txt K mg) : Oth K (He.ga K "Walk") (He.ga K "Rose") := othB_ok T.cl_Rose T.own_Rose.is T.ob_Walk_Rose
end K41
namespace K41
open PySem PySem.Spec PyProof.Rows L2 Evl Dl
/-! the pool of one great number -/
def Pl1 (m : MO) : Prop := ∃ a : Int, m = .ls [.int a] ∧ 0 ≤ a ∧ a.natAbs < 2 ^ 1005
def Ha1 (k : Nat) (S : Store) : Prop := ∃ m, Pl1 m ∧ S[k]? = some m
def Pk1 (k : Nat) (S S1 : Store) : Prop := ∃ m, Pl1 m ∧ S1 = S.set k m
theorem Ha1.lt {k : Nat} {S : Store} (h : Ha1 k S) : k < S.length := by
  obtain ⟨m, _, e⟩ := h
  exact (List.getElem?_eq_some_iff.mp e).1
theorem Pk1.len {k : Nat} {S S1 : Store} (h : Pk1 k S S1) : S1.length = S.length := by
  obtain ⟨m, _, rfl⟩ := h
  exact List.length_set ..
theorem Pk1.has {k : Nat} {S S1 : Store} (h : Pk1 k S S1) (p : Ha1 k S) : Ha1 k S1 := by
  have l := p.lt
  obtain ⟨m, hm, rfl⟩ := h
  exact ⟨m, hm, List.getElem?_set_self l⟩
theorem Pk1.trans {k : Nat} {S S1 S2 : Store} (h : Pk1 k S S1) (h' : Pk1 k S1 S2) : Pk1 k S S2 := by
  obtain ⟨m, hm, rfl⟩ := h
  obtain ⟨m', hm', rfl⟩ := h'
  exact ⟨m', hm', List.set_set ..⟩
theorem Ha1.refl {k : Nat} {S : Store} (h : Ha1 k S) : Pk1 k S S := by
  obtain ⟨m, hm, e⟩ := h
  refine ⟨m, hm, ?_⟩
  obtain ⟨l, e⟩ := List.getElem?_eq_some_iff.mp e
  rw [← e, List.set_getElem_self]
theorem Ha1.app {k : Nat} {S T : Store} (h : Ha1 k S) : Ha1 k (S ++ T) := by
  have l := h.lt
  obtain ⟨m, hm, e⟩ := h
  exact ⟨m, hm, by rw [List.getElem?_append_left l]; exact e⟩
theorem Pk1.app {k : Nat} {S S1 T : Store} (p : Ha1 k S) (h : Pk1 k (S ++ T) S1) : ∃ S1', S1 = S1' ++ T ∧ Pk1 k S S1' := by
  obtain ⟨m, hm, rfl⟩ := h
  exact ⟨S.set k m, List.set_append_left _ _ p.lt, m, hm, rfl⟩
def sd_pack : Sdm := fun rs S Φ => ∃ (ns : List Int) (k : Nat), rs = [.dat (.flst (ns.map .int)), .dat (.int (k : Nat))] ∧ k < 100 ∧ (∀ z ∈ ns, Builtin.Int.intBits z ≤ 1048576) ∧ ∀ ds, Pl1 (.ls ds) → Φ ds S
def sd_take1 : Sd := fun rs S Φ => ∃ (k : Nat) (m : Int), rs = [.mu k, .dat (.int m)] ∧ 0 < m ∧ Ha1 k S ∧ ∀ (d : Int) (S1 : Store), 0 ≤ d → d < m → Pk1 k S S1 → Φ (.int d) S1
theorem take1_go {k : Nat} {m : Int} {S : Store} {Φ : D → Store → Prop} (hp : Ha1 k S) (m0 : 0 < m) (q : ∀ (d : Int) (S1 : Store), 0 ≤ d → d < m → Pk1 k S S1 → Φ (.int d) S1) : sd_take1 [.mu k, .dat (.int m)] S Φ := ⟨k, m, rfl, m0, hp, q⟩
theorem pow_add1 {i j : Int} {n m : Nat} (hi : i.natAbs < 2 ^ n) (hj : j.natAbs < 2 ^ m) (h : m ≤ n) : (i + j).natAbs < 2 ^ (n + 1) := by
  have h1 : (2 : Nat) ^ m ≤ 2 ^ n := Nat.pow_le_pow_right (by decide) h
  have h2 : (2 : Nat) ^ (n + 1) = 2 ^ n * 2 := Nat.pow_succ ..
  omega
theorem cOne_lt : (161803398874989484820458683436563811772030917980576286213547 : Int).natAbs < 2 ^ 210 := by decide +kernel
theorem cTwo_lt : (271828182845904523536028747135266249775724709369995957496697 : Int).natAbs < 2 ^ 210 := by decide +kernel
theorem ten60 : ((10 : Int) ^ (60 : Int).toNat).natAbs < 2 ^ 200 ∧ 0 < (10 : Int) ^ (60 : Int).toNat := by decide +kernel
section
variable {P : Program} {w : World} {K : PySem.W.Frag} {mg : Str → Option Value} {base : Heap} {f : Addr} {fd : FuncData}
theorem ok_l_take {dvs : List V} {kws : List (Str × V)} (F : FunD K "_law_take" "_law_take" (defArgs s_l_take) (defBody s_l_take) (defScope s_l_take) dvs kws f fd) (T : Txt K mg)  : FnOk P w K mg base CX0 1 f fd ["_law_pool", "_law_many"] (lift K sd_take1) := by
  refine F.ok sc_l_take (fun vs H Q E h => ?_) (fun cdv A outer s H vs Q E hr h => ?_)
  · obtain ⟨A, S, rs, Φ, so, rr, h, _⟩ := h
    obtain ⟨k, m, rfl, m0, ⟨_, ⟨a, rfl, a0, a1⟩, hk⟩, q1⟩ := h
    exact (Paired.length rr).symm
  · obtain ⟨A, S, rs, Φ, so, rr, h, q⟩ := h
    obtain ⟨k, m, rfl, m0, ⟨_, ⟨a, rfl, a0, a1⟩, hk⟩, q1⟩ := h
    refine ⟨_, PSs.nox (pss_cons (ps_asg (pe_callB call_divmodW (by rfl) T.b_divmod (by decide +kernel) (pa_cons (pe_ix ix_list (pv 0) pe_int (fun _ _ => rfl)) (pa_cons (pv 1) pa_nil))) (pg_tup rfl (pgs_cons (pg_sub (pv 0) pe_int set_list) (pgs_cons (pg_name (i := 2) sc_l_take.nd rfl (Or.inl rfl)) pgs_nil))))
      (pss_one (ps_ret (pv 2)))), fn_body 1 rfl so rr q ?_⟩
    intro Z
    try dsimp only [cxOf, Cx.nox, Cx.wish]
    have cf_Turn := T.clf_Turn
    have cf_Rose := T.clf_Rose
    have cf_Walk := T.clf_Walk
    have lk : k < S.length := (List.getElem?_eq_some_iff.mp hk).1
    array_get_dec
    refine o_ixM hk rfl ?_
    array_get_dec
    refine c_divmodW (divp_ok m0 (Nat.le_trans (bits_le a1) (by omega))) ?_
    array_get_dec
    refine ⟨k, _, 0, _, rfl, rfl, rfl, hk, (by show 0 < 1; decide), ?_⟩
    array_get_dec
    have z0 := Int.ediv_nonneg a0 (show (0 : Int) ≤ m by omega)
    have z1 := Int.ediv_le_self m a0
    exact rr_len (List.length_set ..) (q1 _ _ (Int.emod_nonneg _ (by omega)) (Int.emod_lt_of_pos _ m0) ⟨_, ⟨_, rfl, z0, by omega⟩, rfl⟩)
theorem ok_l_pack {dvs : List V} {kws : List (Str × V)} (F : FunD K "_law_pack" "_law_pack" (defArgs s_l_pack) (defBody s_l_pack) (defScope s_l_pack) dvs kws f fd) (T : Txt K mg)  : FnOk P w K mg base CX0 1 f fd ["_law_script", "_law_k"] (liftM K sd_pack) := by
  refine F.ok sc_l_pack (fun vs H Q E h => ?_) (fun cdv A outer s H vs Q E hr h => ?_)
  · obtain ⟨A, S, rs, Φ, so, rr, h, _⟩ := h
    obtain ⟨ns, m, rfl, hm, hbits, k⟩ := h
    exact (Paired.length rr).symm
  · obtain ⟨A, S, rs, Φ, so, rr, h, q⟩ := h
    obtain ⟨ns, m, rfl, hm, hbits, k⟩ := h
    refine ⟨_, PSs.nox (pss_cons (ps_set (i := 2) sc_l_pack.nd rfl (Or.inl rfl) (pe_op op_add (pe_op op_mulW pe_int (pv 1)) pe_int))
      (pss_cons (ps_for PassesOwn.never rfl (pi_list (pe_slice sl_list (pv 0) (po_some (pv 1)) (po_some (pe_op op_add (pv 1) pe_int)))) (pg_name (i := 3) sc_l_pack.nd rfl (Or.inl rfl)) (pss_one (ps_set (i := 2) sc_l_pack.nd rfl (Or.inl rfl) (pe_op op_add (pv 3) (pe_op op_mulW pe_int (pv 1))))))
      (pss_cons (ps_set (i := 4) sc_l_pack.nd rfl (Or.inl rfl) pe_int)
      (pss_cons (ps_set (i := 5) sc_l_pack.nd rfl (Or.inl rfl) pe_int)
      (pss_cons (ps_set (i := 6) sc_l_pack.nd rfl (Or.inl rfl) pe_int)
      (pss_cons (ps_for PassesOwn.never rfl (pi_list (pe_lst (pa_cons (pv 4) (pa_cons (pv 5) (pa_cons (pe_op op_add (pv 4) (pe_op op_mulW pe_int (pv 5))) (pa_cons (pe_op op_add (pv 5) (pe_op op_mulW pe_int (pv 4))) (pa_cons (pe_op op_add (pv 4) (pe_op op_mulW pe_int (pv 5))) pa_nil))))))) (pg_name (i := 7) sc_l_pack.nd rfl (Or.inl rfl)) (pss_one (ps_set (i := 6) sc_l_pack.nd rfl (Or.inl rfl) (pe_op op_add (pe_op op_mulX (pv 6) (pe_op op_pow pe_int pe_int)) (pe_op op_mod (pe_op op_mulX (pv 2) (pv 7)) (pe_op op_pow pe_int pe_int))))))
      (pss_one (ps_retM (ps_ret (pe_lst (pa_cons (pv 6) pa_nil))))))))))), fn_bodyM 6 rfl so rr q ?_⟩
    intro Z
    try dsimp only [cxOf, Cx.nox, Cx.wish]
    have cf_Turn := T.clf_Turn
    have cf_Rose := T.clf_Rose
    have cf_Walk := T.clf_Walk
    have b1 := pow_big cOne_lt (show 210 ≤ 1000 by decide)
    have b2 := pow_big cTwo_lt (show 210 ≤ 1000 by decide)
    have c1 := cOne_lt
    have c2 := cTwo_lt
    have hk9 : ((m : Nat) : Int).natAbs < 2 ^ 7 := by omega
    array_get_dec
    refine ⟨fun i ρ S' => ∃ (z : Int) (n : Nat) (v : Dl.R), ρ = [.dat (.flst (ns.map .int)), .dat (.int (m : Nat)), .dat (.int z), v, .no, .no, .no, .no] ∧ S' = S ∧ z.natAbs < 2 ^ n ∧ n ≤ 2000000, ⟨_, 30, _, rfl, rfl, by omega, by decide⟩, ⟨?_, ?_⟩⟩
    · rintro i d ρ S' hd ⟨z, n, v, rfl, rfl, z0, z1⟩
      obtain ⟨u, hu, rfl⟩ : ∃ u ∈ ns, d = .int u := by
        have hm := List.mem_of_getElem? hd
        unfold Dl.cutD at hm
        obtain ⟨u, hu, e⟩ := List.mem_map.mp (List.mem_of_mem_drop (List.mem_of_mem_take hm))
        exact ⟨u, hu, e.symm⟩
      have ub := natAbs_lt_pow_bits u
      have un := hbits u hu
      array_get_dec
      exact ⟨_, Builtin.Int.intBits u + 12 + 1, _, rfl, rfl, pow_add1 (pow_big ub (by omega)) (wide_lt (a := 5) (b := 7) (by decide) hk9) (by omega), by omega⟩
    · rintro ρ S' ⟨z, n, v, rfl, rfl, z0, z1⟩
      generalize (161803398874989484820458683436563811772030917980576286213547 : Int) = o at *
      generalize (271828182845904523536028747135266249775724709369995957496697 : Int) = t at *
      array_get_dec
      have big : ∀ x ∈ [o, t, o + 2 * t, t + 4 * o, o + 10 * t], x.natAbs < 2 ^ 220 := by
        intro x hx
        have d1 : ∀ {y : Int}, y.natAbs < 2 ^ 210 → y.natAbs < 2 ^ 220 := fun h => pow_big h (by decide)
        have d2 : ∀ {y z c : Int}, y.natAbs < 2 ^ 210 → z.natAbs < 2 ^ 210 → c.natAbs < 2 ^ 4 → (y + c * z).natAbs < 2 ^ 220 := fun h1 h2 h3 => pow_big (pow_add1 (pow_big h1 (show 210 ≤ 214 by decide)) (wide_lt h3 h2) (by decide)) (by decide)
        simp only [List.mem_cons, List.mem_nil_iff, or_false] at hx
        rcases hx with rfl | rfl | rfl | rfl | rfl
        · exact d1 c1
        · exact d1 c2
        · exact d2 c1 c2 (by decide)
        · exact d2 c2 c1 (by decide)
        · exact d2 c1 c2 (by decide)
      refine ⟨fun i ρ S'' => ∃ (y : Int) (v2 : Dl.R), ρ = [.dat (.flst (ns.map .int)), .dat (.int (m : Nat)), .dat (.int z), v, .dat (.int o), .dat (.int t), .dat (.int y), v2] ∧ S'' = S' ∧ 0 ≤ y ∧ y.natAbs < 2 ^ (201 * i), ⟨0, _, rfl, rfl, by decide, by decide⟩, ⟨?_, ?_⟩⟩
      · rintro i d ρ S'' hd ⟨y, v2, rfl, rfl, y0, y1⟩
        have hlt : i < 5 := (List.getElem?_eq_some_iff.mp hd).1
        obtain ⟨u, hu, rfl⟩ : ∃ u ∈ [o, t, o + 2 * t, t + 4 * o, o + 10 * t], d = .int u := by
          obtain ⟨u, hu, e⟩ := List.mem_map.mp (show d ∈ [o, t, o + 2 * t, t + 4 * o, o + 10 * t].map D.int from List.mem_of_getElem? hd)
          exact ⟨u, hu, e.symm⟩
        have ub := big u hu
        obtain ⟨t1, t2⟩ := ten60
        array_get_dec
        refine o_Ci (mulx_ok (a := 201 * i) (b := 200) y1 t1 (by omega)) ?_
        array_get_dec
        refine o_Ci (mulx_ok (a := n) (b := 220) z0 ub (by omega)) ?_
        array_get_dec
        generalize (10 : Int) ^ (60 : Int).toNat = ts at *
        have r1 := Int.emod_nonneg (z * u) (show ts ≠ 0 by omega)
        have r2 := Int.emod_lt_of_pos (z * u) t2
        refine ⟨_, _, rfl, rfl, Int.add_nonneg (Int.mul_nonneg y0 (by omega)) r1, ?_⟩
        have e : 201 * (i + 1) = (201 * i + 200) + 1 := by omega
        rw [e]
        exact pow_add1 (wide_lt y1 t1) (m := 200) (by omega) (by omega)
      · rintro ρ S'' ⟨y, v2, rfl, rfl, y0, y1⟩
        array_get_dec
        exact rm_mu (k _ ⟨y, rfl, y0, y1⟩)
end
end K41
namespace K41
open PySem PySem.Spec PyProof.Rows L2 Evl Dl
@[reducible] def turnD (a : Int × Int) : D := .ins "Turn" [("top", .int a.1), ("bottom", .int a.2)]
/-- a whole number -/
def whB (d : D) : Bool := d.isInt && !d.isBool
/-- a thing of a built-in kind, or a turn -/
def Wh (d : D) : Prop := d.Pl ∨ ∃ fs, d = .ins "Turn" fs
theorem pl_kind {d : D} (h : d.Pl) : ∃ T, d.ty? = some T ∧ kindsT.contains T = true := by
  cases d <;> first | (cases h; done) | exact ⟨_, rfl, by decide +kernel⟩
theorem wh_int {d : D} (h : whB d = true) : ∃ i, d = .int i := by
  cases d <;> first | exact ⟨_, rfl⟩ | cases h
theorem ex_take {S : Store} {Ψ : PX} {c : Str} {fs : List (Str × D)} (k : Ψ c fs S) : Ψ c fs (S.take S.length) := by
  rw [List.take_length]
  exact k
theorem ex_takeI {S T : Store} {Ψ : PX} {c : Str} {fs : List (Str × D)} (k : Ψ c fs S) : Ψ c fs ((S ++ T).take S.length) := by
  rw [List.take_left' rfl]
  exact k
def sd_is_whole : Sd := fun rs S Φ => ∃ d : D, rs = [.dat d] ∧ Wh d ∧ Φ (.bl (whB d)) S
def sd_stepX : Sdx := fun rs S Φ Ψ => ∃ d : D, rs = [.dat d] ∧ Wh d ∧ (whB d = true → Φ .non S) ∧ (whB d = false → Ψ "NoStep" [("thing", d)] S)
def sd_common : Sd := fun rs S Φ => ∃ a b : Int, rs = [.dat (.int a), .dat (.int b)] ∧ 0 ≤ a ∧ 0 ≤ b ∧ Φ (.int (Int.gcd a b : Int)) S
theorem is_whole_int {i : Int} {S : Store} {Φ : D → Store → Prop} (k : Φ (.bl true) S) : sd_is_whole [.dat (.int i)] S Φ := ⟨.int i, rfl, .inl rfl, k⟩
section
variable {P : Program} {w : World} {K : PySem.W.Frag} {mg : Str → Option Value} {base : Heap} {f : Addr} {fd : FuncData}
theorem ok_is_whole {dvs : List V} {kws : List (Str × V)} (F : FunD K "is_whole" "is_whole" (defArgs s_is_whole) (defBody s_is_whole) (defScope s_is_whole) dvs kws f fd) (T : Txt K mg)  : FnOk P w K mg base CX0 1 f fd ["thing"] (lift K sd_is_whole) := by
  refine F.ok sc_is_whole (fun vs H Q E h => ?_) (fun cdv A outer s H vs Q E hr h => ?_)
  · obtain ⟨A, S, rs, Φ, so, rr, h, _⟩ := h
    obtain ⟨d, rfl, hd, k⟩ := h
    exact (Paired.length rr).symm
  · obtain ⟨A, S, rs, Φ, so, rr, h, q⟩ := h
    obtain ⟨d, rfl, hd, k⟩ := h
    refine ⟨_, PSs.nox (pss_one (ps_ret (pe_and (pe_callB call_isi (by rfl) T.b_isinstance (by decide +kernel) (pa_cons (pv 0) (pa_cons (pe_bltn (v := .ty "int") (by rfl) T.b_int (by decide +kernel) rfl) pa_nil))) (pe_one (pe_not (pe_callB call_isi (by rfl) T.b_isinstance (by decide +kernel) (pa_cons (pv 0) (pa_cons (pe_bltn (v := .ty "bool") (by rfl) T.b_bool (by decide +kernel) rfl) pa_nil)))))))), fn_body 0 rfl so rr q ?_⟩
    intro Z
    try dsimp only [cxOf, Cx.nox, Cx.wish]
    have cf_Turn := T.clf_Turn
    have cf_Rose := T.clf_Rose
    have cf_Walk := T.clf_Walk
    rcases hd with hd | ⟨fs, rfl⟩
    · unfold whB at k
      array_get_dec
      · rename_i hb
        rw [hb] at k
        exact rr_dat k
      · rename_i hb
        rw [hb] at k
        exact rr_dat k
    · array_get_dec
      refine c_isT cf_Turn T.ki_Turn_int ?_
      array_get_dec
      exact rr_dat k
theorem ok_common {dvs : List V} {kws : List (Str × V)} (F : FunD K "common" "common" (defArgs s_common) (defBody s_common) (defScope s_common) dvs kws f fd) (T : Txt K mg)  : FnOk P w K mg base CX0 1 f fd ["one", "other"] (lift K sd_common) := by
  refine F.ok sc_common (fun vs H Q E h => ?_) (fun cdv A outer s H vs Q E hr h => ?_)
  · obtain ⟨A, S, rs, Φ, so, rr, h, _⟩ := h
    obtain ⟨a, b, rfl, ha, hb, k⟩ := h
    exact (Paired.length rr).symm
  · obtain ⟨A, S, rs, Φ, so, rr, h, q⟩ := h
    obtain ⟨a, b, rfl, ha, hb, k⟩ := h
    refine ⟨_, PSs.nox (pss_cons (ps_while PassesOwn.never (pt_cmpR op_ne (pv 1) pe_int (nomark _)) (pss_one (ps_par (i := 0) (j := 1) (by rfl) sc_common.nd rfl rfl (by decide) rfl rfl (pa_cons (pv 1) (pa_cons (pe_op op_mod (pv 0) (pv 1)) pa_nil)) (by rfl))))
      (pss_one (ps_ret (pv 0)))), fn_body 0 rfl so rr q ?_⟩
    intro Z
    try dsimp only [cxOf, Cx.nox, Cx.wish]
    have cf_Turn := T.clf_Turn
    have cf_Rose := T.clf_Rose
    have cf_Walk := T.clf_Walk
    array_get_dec
    refine ws_while (fun m ρ S' => ∃ x y : Int, ρ = [.dat (.int x), .dat (.int y)] ∧ S' = S ∧ 0 ≤ x ∧ 0 ≤ y ∧ Int.gcd x y = Int.gcd a b ∧ m = y.toNat) b.toNat ⟨a, b, rfl, rfl, ha, hb, rfl, rfl⟩ ?_
    rintro m ρ S' ⟨x, y, rfl, rfl, hx, hy, hg, rfl⟩
    array_get_dec
    · rename_i hy0
      have hyp : 0 < y := by omega
      array_get_dec
      have l1 := Int.emod_lt_of_pos x hyp
      have l2 := Int.emod_nonneg x hy0
      refine ⟨(x % y).toNat, by omega, y, x % y, rfl, rfl, by omega, l2, ?_, rfl⟩
      rw [← hg]
      exact Tn.gcd_step x y hx hyp
    · rename_i hy0
      subst hy0
      array_get_dec
      have hz : (Int.gcd a b : Int) = x := by
        rw [← hg, Int.gcd_zero_right]
        omega
      rw [hz] at k
      exact rr_dat k
end
end K41

namespace K41
open PySem PySem.Spec PyProof.Rows L2 Evl Dl
/-- a turn of so many bits at most -/
def Sn (n : Nat) (a : Int × Int) : Prop := Tn.Can a ∧ a.2.natAbs < 2 ^ n
theorem Sn.b2 {n : Nat} {a : Int × Int} (h : Sn n a) : a.2.natAbs < 2 ^ n := h.2
theorem Sn.b1 {n : Nat} {a : Int × Int} (h : Sn n a) : a.1.natAbs < 2 ^ n := by
  have := h.1.nn
  have := h.1.lt
  have := h.2
  omega
theorem Sn.up {n m : Nat} {a : Int × Int} (h : Sn n a) (hm : n ≤ m) : Sn m a := ⟨h.1, pow_big h.2 hm⟩
theorem pow_mul {i j : Int} {n m : Nat} (hi : i.natAbs < 2 ^ n) (hj : j.natAbs < 2 ^ m) : (i * j).natAbs < 2 ^ (n + m) := wide_lt hi hj
theorem part_sn {n : Nat} {t u : Int} (hu : 0 < u) (hz : u.natAbs < 2 ^ n) : Sn n (Tn.part t u) := by
  refine ⟨Tn.part_can hu, ?_⟩
  have h1 := Tn.part_le (t := t) hu
  have h2 := (Tn.part_can (t := t) hu).pos
  omega
theorem on_sn {n m : Nat} {a b : Int × Int} (ha : Sn n a) (hb : Sn m b) : Sn (n + m) (Tn.on a b) := part_sn (Int.mul_pos ha.1.pos hb.1.pos) (pow_mul ha.2 hb.2)
theorem off_sn {n m : Nat} {a b : Int × Int} (ha : Sn n a) (hb : Sn m b) : Sn (n + m) (Tn.off a b) := part_sn (Int.mul_pos ha.1.pos hb.1.pos) (pow_mul ha.2 hb.2)
def sd_turn : Sd := fun rs S Φ => ∃ t u : Int, rs = [.dat (.int t), .dat (.int u)] ∧ u ≠ 0 ∧ u.natAbs < 2 ^ 4000 ∧ Φ (turnD (Tn.sgn t u)) S
theorem turn_go {t u : Int} {S : Store} {Φ : D → Store → Prop} (h : 0 < u) (hz : u.natAbs < 2 ^ 4000) (k : Φ (turnD (Tn.part t u)) S) : sd_turn [.dat (.int t), .dat (.int u)] S Φ := ⟨t, u, rfl, by omega, hz, by rw [Tn.sgn_pos h]; exact k⟩
def sd_must : Sd := fun rs S Φ => ∃ fs : List (Str × D), rs = [.dat (.ins "Turn" fs)] ∧ Φ .non S
def sd_two (g : Int × Int → Int × Int → Int × Int) : Sd := fun rs S Φ => ∃ a b : Int × Int, rs = [.dat (turnD a), .dat (turnD b)] ∧ Sn 1000 a ∧ Sn 1000 b ∧ Φ (turnD (g a b)) S
theorem two_go {g : Int × Int → Int × Int → Int × Int} {a b : Int × Int} {S : Store} {Φ : D → Store → Prop} (ha : Sn 1000 a) (hb : Sn 1000 b) (k : Φ (turnD (g a b)) S) : sd_two g [.dat (turnD a), .dat (turnD b)] S Φ := ⟨a, b, rfl, ha, hb, k⟩
theorem nTB : ¬ (("top" : Str) = "bottom") := by decide +kernel
theorem tf_put (x y : Int) : putD "bottom" (.int y) (putD "top" (.int x) []) = ([("top", .int x), ("bottom", .int y)] : List (Str × D)) := by
  show (if ("top" : Str) = "bottom" then _ else (("top" : Str), D.int x) :: putD "bottom" (D.int y) []) = _
  rw [if_neg nTB]
  rfl
section
variable {P : Program} {w : World} {K : PySem.W.Frag} {mg : Str → Option Value} {base : Heap} {f : Addr} {fd : FuncData}
theorem ok_Turn_init {dvs : List V} {kws : List (Str × V)} (F : FunD K "__init__" "Turn.__init__" (defArgs s_Turn_init) (defBody s_Turn_init) (defScope s_Turn_init) dvs kws f fd) (T : Txt K mg) (D_is_whole : Df P w K mg base CX0 1 "is_whole" ["thing"] [[]] (lift K sd_is_whole)) (D_common : Df P w K mg base CX0 1 "common" ["one", "other"] [[]] (lift K sd_common)) : FnOk P w K mg base CX0 2 f fd ["self", "top", "bottom"] (liftI0 K "Turn" sd_turn) := by
  refine F.ok sc_Turn_init (fun vs H Q E h => ?_) (fun cdv A outer s H vs Q E hr h => ?_)
  · obtain ⟨A, S, rs, Φ, a, ws, rfl, so, rr, h, _⟩ := h
    obtain ⟨t, u, rfl, hu, hz, k⟩ := h
    exact congrArg (· + 1) (Paired.length rr).symm
  · obtain ⟨A, S, rs, Φ, a, ws, rfl, so, rr, h, q⟩ := h
    obtain ⟨t, u, rfl, hu, hz, k⟩ := h
    refine ⟨_, PSs.nox (pss_cons (ps_if (pt_not (pt_val (pe_df D_is_whole (us := []) List.mem_cons_self (hr.mono (by first | decide | omega)) (by rfl) (pa_cons (pv 1) pa_nil)))) (pss_one ps_never) pss_nil)
      (pss_cons (ps_if (PW.pt (pw_or (pt_not (pt_val (pe_df D_is_whole (us := []) List.mem_cons_self (hr.mono (by first | decide | omega)) (by rfl) (pa_cons (pv 2) pa_nil)))) (pw_or1 (pt_cmpR op_eq (pv 2) pe_int (nomark _))))) (pss_one ps_never) pss_nil)
      (pss_cons (ps_set (i := 3) sc_Turn_init.nd rfl (Or.inl rfl) (pe_ifExp (pt_cmpR op_gt (pv 2) pe_int (nomark _)) (pv 1) (pe_un un_neg (pv 1))))
      (pss_cons (ps_set (i := 4) sc_Turn_init.nd rfl (Or.inl rfl) (pe_callB call_abs (by rfl) T.b_abs (by decide +kernel) (pa_cons (pv 2) pa_nil)))
      (pss_cons (ps_set (i := 5) sc_Turn_init.nd rfl (Or.inl rfl) (pe_op op_mod (pv 3) (pv 4)))
      (pss_cons (ps_set (i := 6) sc_Turn_init.nd rfl (Or.inl rfl) (pe_df D_common (us := []) List.mem_cons_self (hr.mono (by first | decide | omega)) (by rfl) (pa_cons (pv 5) (pa_cons (pv 4) pa_nil))))
      (pss_cons (ps_fld (pv 0) (pe_op op_fdivW (pv 5) (pv 6)) rfl)
      (pss_one (ps_fld (pv 0) (pe_op op_fdivW (pv 4) (pv 6)) rfl))))))))), fn_bodyI (Ψ := noX) (E := E0) 4 rfl so rr q (fun _ _ _ _ _ p => p.elim) ?_⟩
    intro Z hz
    try dsimp only [cxOf, Cx.nox, Cx.wish]
    have cf_Turn := T.clf_Turn
    have cf_Rose := T.clf_Rose
    have cf_Walk := T.clf_Walk
    have un : (u.natAbs : Int) ≠ 0 := by omega
    have up : (0 : Int) < (u.natAbs : Int) := by omega
    have fin : ∀ sg : Int, sg = (if u < 0 then -t else t) → Tn.sgn t u = Tn.low (sg % (u.natAbs : Int)) (u.natAbs : Int) := fun sg hsg => by
      unfold Tn.sgn Tn.part
      by_cases h : u < 0
      · rw [if_pos h, hsg, if_pos h]
        have : -u = (u.natAbs : Int) := by omega
        rw [this]
      · rw [if_neg h, hsg, if_neg h]
        have : u = (u.natAbs : Int) := by omega
        rw [← this]
    have stp : ∀ sg : Int, sg = (if u < 0 then -t else t) → 0 ≤ sg % (u.natAbs : Int) ∧ (0 : Int) < (Int.gcd (sg % (u.natAbs : Int)) (u.natAbs : Int) : Int) ∧ (Int.gcd (sg % (u.natAbs : Int)) (u.natAbs : Int) : Int).natAbs < 2 ^ 4000 := fun sg _ => by
      have gl : (Int.gcd (sg % (u.natAbs : Int)) (u.natAbs : Int) : Int) ≤ (u.natAbs : Int) := Int.le_of_dvd up (Int.gcd_dvd_right ..)
      exact ⟨Int.emod_nonneg sg un, Tn.gcd_pos up, by omega⟩
    array_get_dec
    refine is_whole_int ?_
    array_get_dec
    refine is_whole_int ?_
    array_get_dec
    · rename_i hb
      obtain ⟨pn, gp, gz⟩ := stp t (by rw [if_neg (by omega)])
      refine ⟨_, _, rfl, pn, by omega, ?_⟩
      rw [fin t (by rw [if_neg (by omega)])] at k
      array_get_dec
      exact ⟨_, _, _, rfl, rfl, by rw [tf_put]; exact k⟩
    · rename_i hb
      obtain ⟨pn, gp, gz⟩ := stp (-t) (by rw [if_pos (by omega)])
      refine ⟨_, _, rfl, pn, by omega, ?_⟩
      rw [fin (-t) (by rw [if_pos (by omega)])] at k
      array_get_dec
      exact ⟨_, _, _, rfl, rfl, by rw [tf_put]; exact k⟩
end
end K41

namespace K41
open PySem PySem.Spec PyProof.Rows L2 Evl Dl
def sd_run : Sd := fun rs S Φ => ∃ (z sg : Str) (b m : Nat), rs = [.dat (.str z), .dat (.int (b : Nat)), .dat (.str sg), .dat (.int (m : Nat))] ∧ z.length ≤ 1000 ∧ Φ (.int ((b + Nm.run (fun c => decide (c ∈ cs sg)) m ((cs z).drop b) : Nat) : Int)) S
def wordZ (z : Str) : Bool := !decide (z = "") && decide (Nm.run isL 6 (cs z) = (cs z).length)
def sd_is_word : Sd := fun rs S Φ => ∃ z : Str, rs = [.dat (.str z)] ∧ z.length ≤ 1000 ∧ Φ (.bl (wordZ z)) S
/-- a good name is parted -/
def sd_pw : Sd := fun rs S Φ => ∃ (wd ms : List Nat) (n : Nat), rs = [.dat (.str (ofL (wd ++ ms))), .dat (.int (n : Nat))] ∧ Rs.WordL wd ∧ Rs.MarksL ms ∧ ms.length ≤ n ∧ n ≤ 5 ∧ Φ (.tup [.str (ofL wd), .str (ofL ms)]) S
def sd_parted : Sd := fun rs S Φ => ∃ (wd ms : List Nat), rs = [.dat (.str (ofL (wd ++ ms)))] ∧ Rs.WordL wd ∧ Rs.MarksL ms ∧ ms.length ≤ 5 ∧ Φ (.tup [.str (ofL wd), .str (ofL ms)]) S
def sd_step : Sd := fun rs S Φ => ∃ l : List Nat, rs = [.dat (.str (ofL l))] ∧ l.length ≤ 5 ∧ Φ (.tup [.int (Mk.step l).1, .int (Mk.step l).2]) S
def sd_makes : Sd := fun rs S Φ => ∃ t m : Int, rs = [.dat (.int t), .dat (.int m)] ∧ Φ (.bl (Mk.good t m)) S
def sd_marks_by : Sd := fun rs S Φ => ∃ t m : Int, rs = [.dat (.int t), .dat (.int m)] ∧ Mk.good t m = true ∧ Φ (.str (ofL (Mk.mk m.toNat t))) S
theorem word_is {wd : List Nat} (hw : Rs.WordL wd) : wordZ (ofL wd) = true := by
  have ne : ¬ ofL wd = "" := fun e => by
    have h := congrArg (fun z : Str => (cs z).length) e
    have h : wd.length = 0 := h
    have := hw.1
    omega
  have r := Rs.run_word hw (m := []) (fun c h => nomatch h)
  rw [List.append_nil] at r
  unfold wordZ
  rw [decide_eq_false ne, cs_ofL, decide_eq_true r]
  rfl
theorem cut_t (z : Str) (n : Nat) : cutS z none (some (n : Int)) = takeS z n := cut_take z n
theorem len_cs (z : Str) : (z.length : Int) = ((cs z).length : Nat) := by rw [cs_len]
theorem gt_sign : (Str.ofString ">") = ⟨#[62]⟩ := by decide +kernel
theorem lt_sign : (Str.ofString "<") = ⟨#[60]⟩ := by decide +kernel
theorem eq_sign {c d : Nat} : decide ((⟨#[c]⟩ : Str) = ⟨#[d]⟩) = decide (c = d) := by
  rw [Bool.eq_iff_iff]
  simp
section
variable {P : Program} {w : World} {K : PySem.W.Frag} {mg : Str → Option Value} {base : Heap} {f : Addr} {fd : FuncData}
theorem ok_end_of_run {dvs : List V} {kws : List (Str × V)} (F : FunD K "end_of_run" "end_of_run" (defArgs s_end_of_run) (defBody s_end_of_run) (defScope s_end_of_run) dvs kws f fd) (T : Txt K mg)  : FnOk P w K mg base CX0 1 f fd ["text", "begin", "signs", "most"] (lift K sd_run) := by
  refine F.ok sc_end_of_run (fun vs H Q E h => ?_) (fun cdv A outer s H vs Q E hr h => ?_)
  · obtain ⟨A, S, rs, Φ, so, rr, h, _⟩ := h
    obtain ⟨z, sg, b, m, rfl, hz, k⟩ := h
    exact (Paired.length rr).symm
  · obtain ⟨A, S, rs, Φ, so, rr, h, q⟩ := h
    obtain ⟨z, sg, b, m, rfl, hz, k⟩ := h
    refine ⟨_, PSs.nox (pss_cons (ps_set (i := 4) sc_end_of_run.nd rfl (Or.inl rfl) (pv 1))
      (pss_cons (ps_while PassesOwn.never (PW.pt (pw_and (pt_cmpR op_lt (pv 4) (pe_callB call_len_str (by rfl) T.b_len (by decide +kernel) (pa_cons (pv 0) pa_nil)) (nomark _)) (pw_and (pt_cmpR op_lt (pv 4) (pe_op op_add (pv 1) (pv 3)) (nomark _)) (pw_and1 (pt_cmpR op_in_sign (pe_ix ix_str (pv 0) (pv 4) (fun _ _ => rfl)) (pv 2) (by rfl)))))) (pss_one (ps_aug (i := 4) sc_end_of_run.nd rfl (Or.inl rfl) pe_int ip_add)))
      (pss_one (ps_ret (pv 4))))), fn_body 1 rfl so rr q ?_⟩
    intro Z
    try dsimp only [cxOf, Cx.nox, Cx.wish]
    have cf_Turn := T.clf_Turn
    have cf_Rose := T.clf_Rose
    have cf_Walk := T.clf_Walk
    have lz : (z.length : Int) = ((cs z).length : Nat) := len_cs z
    array_get_dec
    refine ws_while (fun n ρ S' => ∃ j : Nat, ρ = [.dat (.str z), .dat (.int (b : Nat)), .dat (.str sg), .dat (.int (m : Nat)), .dat (.int ((b + j : Nat) : Int))] ∧ S' = S ∧ j ≤ m ∧ n = m - j ∧
      Nm.run (fun c => decide (c ∈ cs sg)) m ((cs z).drop b) = j + Nm.run (fun c => decide (c ∈ cs sg)) (m - j) ((cs z).drop (b + j))) m ⟨0, rfl, rfl, Nat.zero_le _, rfl, (Nat.zero_add _).symm⟩ ?_
    rintro n ρ S' ⟨j, rfl, rfl, jm, rfl, hr0⟩
    have stop : Nm.run (fun c => decide (c ∈ cs sg)) (m - j) ((cs z).drop (b + j)) = 0 → Φ (.int ((b + j : Nat) : Int)) S' := fun h0 => by
      rw [hr0, h0] at k
      exact k
    array_get_dec
    · rename_i h1 h2
      have lt : b + j < (cs z).length := by omega
      have hc : (cs z)[b + j]? = some (cs z)[b + j] := List.getElem?_eq_getElem lt
      refine o_ixS (by omega) (atI_nat hc) ?_
      array_get_dec
      · rename_i hb
        refine ⟨m - (j + 1), by omega, j + 1, ?_, rfl, by omega, rfl, ?_⟩
        · have : ((b + j : Nat) : Int) + 1 = ((b + (j + 1) : Nat) : Int) := by omega
          rw [← this]
          rfl
        · rw [Nm.run_go (Nm.head_drop hc) (decide_eq_true hb) (by omega), List.drop_drop] at hr0
          rw [hr0, show m - (j + 1) = m - j - 1 by omega, show b + (j + 1) = b + j + 1 by omega]
          omega
      · rename_i hb
        exact rr_dat (stop (Nm.run_stop (Nm.head_drop hc) (decide_eq_false hb)))
    · refine rr_dat (stop ?_)
      have : m - j = 0 := by omega
      rw [this]
      rfl
    · refine rr_dat (stop ?_)
      rw [List.drop_of_length_le (by omega), Nm.run_nil]
theorem run_go {z sg : Str} {b m : Int} {n k : Nat} {S : Store} {Φ : D → Store → Prop} (hb : b = (n : Nat)) (hm : m = (k : Nat)) (hz : z.length ≤ 1000) (q : Φ (.int ((n + Nm.run (fun c => decide (c ∈ cs sg)) k ((cs z).drop n) : Nat) : Int)) S) : sd_run [.dat (.str z), .dat (.int b), .dat (.str sg), .dat (.int m)] S Φ := by
  subst hb hm
  exact ⟨z, sg, n, k, rfl, hz, q⟩
theorem ok_is_word {dvs : List V} {kws : List (Str × V)} (F : FunD K "is_word" "is_word" (defArgs s_is_word) (defBody s_is_word) (defScope s_is_word) dvs kws f fd) (T : Txt K mg) (D_end_of_run : Df P w K mg base CX0 1 "end_of_run" ["text", "begin", "signs", "most"] [[]] (lift K sd_run)) : FnOk P w K mg base CX0 2 f fd ["thing"] (lift K sd_is_word) := by
  refine F.ok sc_is_word (fun vs H Q E h => ?_) (fun cdv A outer s H vs Q E hr h => ?_)
  · obtain ⟨A, S, rs, Φ, so, rr, h, _⟩ := h
    obtain ⟨z, rfl, hz, k⟩ := h
    exact (Paired.length rr).symm
  · obtain ⟨A, S, rs, Φ, so, rr, h, q⟩ := h
    obtain ⟨z, rfl, hz, k⟩ := h
    refine ⟨_, PSs.nox (pss_cons (ps_if (PW.pt (pw_or (pt_not (pt_val (pe_callB call_isi (by rfl) T.b_isinstance (by decide +kernel) (pa_cons (pv 0) (pa_cons (pe_bltn (v := .ty "str") (by rfl) T.b_str (by decide +kernel) rfl) pa_nil))))) (pw_or1 (pt_cmpR op_eq (pv 0) pe_str (nomark _))))) (pss_one (ps_ret pe_bl)) pss_nil)
      (pss_one (ps_ret (pe_cmpR op_eq (pe_df D_end_of_run (us := []) List.mem_cons_self (hr.mono (by first | decide | omega)) (by rfl) (pa_cons (pv 0) (pa_cons pe_int (pa_cons (pe_gs (by rfl) T.g_LETTERS) (pa_cons (pe_gi (by rfl) T.g_MOST_LETTERS) pa_nil))))) (pe_callB call_len_str (by rfl) T.b_len (by decide +kernel) (pa_cons (pv 0) pa_nil)) (nomark _))))), fn_body 0 rfl so rr q ?_⟩
    intro Z
    try dsimp only [cxOf, Cx.nox, Cx.wish]
    have cf_Turn := T.clf_Turn
    have cf_Rose := T.clf_Rose
    have cf_Walk := T.clf_Walk
    unfold wordZ at k
    array_get_dec
    · rename_i hb
      rw [decide_eq_true hb] at k
      exact rr_dat k
    · rename_i hb
      rw [decide_eq_false hb] at k
      refine run_go (n := 0) (k := 6) rfl rfl hz ?_
      array_get_dec
      refine rr_dat ?_
      rw [Nat.zero_add, List.drop_zero, len_cs]
      have e : decide (((Nm.run (fun c => decide (c ∈ cs (Str.ofString "abcdefghijklmnopqrstuvwxyz"))) 6 (cs z) : Nat) : Int) = ((cs z).length : Nat)) = decide (Nm.run isL 6 (cs z) = (cs z).length) := by
        rw [Bool.eq_iff_iff, decide_eq_true_iff, decide_eq_true_iff]
        show ((Nm.run isL 6 (cs z) : Nat) : Int) = _ ↔ _
        omega
      rw [e]
      exact k
theorem ok_parted_within {dvs : List V} {kws : List (Str × V)} (F : FunD K "parted_within" "parted_within" (defArgs s_parted_within) (defBody s_parted_within) (defScope s_parted_within) dvs kws f fd) (T : Txt K mg) (D_end_of_run : Df P w K mg base CX0 1 "end_of_run" ["text", "begin", "signs", "most"] [[]] (lift K sd_run)) : FnOk P w K mg base CX0 2 f fd ["text", "most"] (lift K sd_pw) := by
  refine F.ok sc_parted_within (fun vs H Q E h => ?_) (fun cdv A outer s H vs Q E hr h => ?_)
  · obtain ⟨A, S, rs, Φ, so, rr, h, _⟩ := h
    obtain ⟨wd, ms, n, rfl, hw, hm, hl, hn, k⟩ := h
    exact (Paired.length rr).symm
  · obtain ⟨A, S, rs, Φ, so, rr, h, q⟩ := h
    obtain ⟨wd, ms, n, rfl, hw, hm, hl, hn, k⟩ := h
    refine ⟨_, PSs.nox (pss_cons (ps_if (pt_not (pt_val (pe_callB call_isi (by rfl) T.b_isinstance (by decide +kernel) (pa_cons (pv 0) (pa_cons (pe_bltn (v := .ty "str") (by rfl) T.b_str (by decide +kernel) rfl) pa_nil))))) (pss_one ps_never) pss_nil)
      (pss_cons (ps_set (i := 2) sc_parted_within.nd rfl (Or.inl rfl) (pe_df D_end_of_run (us := []) List.mem_cons_self (hr.mono (by first | decide | omega)) (by rfl) (pa_cons (pv 0) (pa_cons pe_int (pa_cons (pe_gs (by rfl) T.g_LETTERS) (pa_cons (pe_gi (by rfl) T.g_MOST_LETTERS) pa_nil))))))
      (pss_cons (ps_if (pt_cmpR op_eq (pv 2) pe_int (nomark _)) (pss_one ps_never) pss_nil)
      (pss_cons (ps_set (i := 3) sc_parted_within.nd rfl (Or.inl rfl) (pe_df D_end_of_run (us := []) List.mem_cons_self (hr.mono (by first | decide | omega)) (by rfl) (pa_cons (pv 0) (pa_cons (pv 2) (pa_cons (pe_op op_add_str (pe_gs (by rfl) T.g_ON) (pe_gs (by rfl) T.g_BACK)) (pa_cons (pv 1) pa_nil))))))
      (pss_cons (ps_if (pt_cmpR op_lt (pv 3) (pe_callB call_len_str (by rfl) T.b_len (by decide +kernel) (pa_cons (pv 0) pa_nil)) (nomark _)) (pss_one ps_never) pss_nil)
      (pss_one (ps_ret (pe_tup (pa_cons (pe_slice sl_str (pv 0) po_none (po_some (pv 2))) (pa_cons (pe_slice sl_str (pv 0) (po_some (pv 2)) po_none) pa_nil)))))))))), fn_body 2 rfl so rr q ?_⟩
    intro Z
    try dsimp only [cxOf, Cx.nox, Cx.wish]
    have cf_Turn := T.clf_Turn
    have cf_Rose := T.clf_Rose
    have cf_Walk := T.clf_Walk
    have w1 := hw.1
    have w6 := hw.2.1
    have hlen : (wd ++ ms).length = wd.length + ms.length := List.length_append
    have hz : (ofL (wd ++ ms)).length ≤ 1000 := by
      rw [ofL_len]
      omega
    have hz2 : (ofL (wd ++ ms)).length ≤ 100000 := by omega
    have pm : (Str.ofString ">").length + (Str.ofString "<").length ≤ 100000 := by decide +kernel
    have cat : Str.ofString ">" ++ Str.ofString "<" = Str.ofString "><" := by decide +kernel
    array_get_dec
    refine run_go (n := 0) (k := 6) rfl rfl hz ?_
    have e1 : 0 + Nm.run (fun c => decide (c ∈ cs (Str.ofString "abcdefghijklmnopqrstuvwxyz"))) 6 ((cs (ofL (wd ++ ms))).drop 0) = wd.length := by
      rw [Nat.zero_add, List.drop_zero, cs_ofL]
      exact Rs.run_word hw hm
    rw [e1]
    array_get_dec
    · omega
    rw [cat]
    refine run_go (n := wd.length) (k := n) rfl rfl hz ?_
    have e2 : wd.length + Nm.run (fun c => decide (c ∈ cs (Str.ofString "><"))) n ((cs (ofL (wd ++ ms))).drop wd.length) = (wd ++ ms).length := by
      rw [cs_ofL, hlen]
      have e : Nm.run (fun c => decide (c ∈ cs (Str.ofString "><"))) n ((wd ++ ms).drop wd.length) = ms.length := Rs.run_marks hm hl
      rw [e]
    rw [e2]
    array_get_dec
    · rename_i hb
      rw [ofL_len] at hb
      omega
    · rw [cut_take, cut_drop, take_ofL, drop_ofL, List.take_left, List.drop_left]
      exact rr_dat k
theorem ok_step_of {dvs : List V} {kws : List (Str × V)} (F : FunD K "step_of" "step_of" (defArgs s_step_of) (defBody s_step_of) (defScope s_step_of) dvs kws f fd) (T : Txt K mg)  : FnOk P w K mg base CX0 1 f fd ["marks"] (lift K sd_step) := by
  refine F.ok sc_step_of (fun vs H Q E h => ?_) (fun cdv A outer s H vs Q E hr h => ?_)
  · obtain ⟨A, S, rs, Φ, so, rr, h, _⟩ := h
    obtain ⟨l, rfl, hl, k⟩ := h
    exact (Paired.length rr).symm
  · obtain ⟨A, S, rs, Φ, so, rr, h, q⟩ := h
    obtain ⟨l, rfl, hl, k⟩ := h
    refine ⟨_, PSs.nox (pss_cons (ps_asg (pe_tup (pa_cons pe_int (pa_cons pe_int pa_nil))) (pg_tup rfl (pgs_cons (pg_name (i := 1) sc_step_of.nd rfl (Or.inl rfl)) (pgs_cons (pg_name (i := 2) sc_step_of.nd rfl (Or.inl rfl)) pgs_nil))))
      (pss_cons (ps_for PassesOwn.never rfl (pi_str (pv 0)) (pg_name (i := 3) sc_step_of.nd rfl (Or.inl rfl)) (pss_cons (ps_set (i := 1) sc_step_of.nd rfl (Or.inl rfl) (pe_op op_add (pe_op op_mul pe_int (pv 1)) (pe_ifExp (pt_cmpR op_eq (pv 3) (pe_gs (by rfl) T.g_ON) (nomark _)) pe_int (pe_un un_neg pe_int))))
        (pss_one (ps_set (i := 2) sc_step_of.nd rfl (Or.inl rfl) (pe_op op_mul pe_int (pv 2))))))
      (pss_one (ps_ret (pe_tup (pa_cons (pv 1) (pa_cons (pv 2) pa_nil))))))), fn_body 3 rfl so rr q ?_⟩
    intro Z
    try dsimp only [cxOf, Cx.nox, Cx.wish]
    have cf_Turn := T.clf_Turn
    have cf_Rose := T.clf_Rose
    have cf_Walk := T.clf_Walk
    array_get_dec
    refine ⟨fun i ρ S' => ∃ v3, ρ = [.dat (.str (ofL l)), .dat (.int (Mk.step (l.take i)).1), .dat (.int (Mk.step (l.take i)).2), v3] ∧ S' = S, ⟨_, rfl, rfl⟩, ⟨?_, ?_⟩⟩
    · rintro i d ρ S' hd ⟨v3, rfl, rfl⟩
      unfold Dl.signs at hd
      rw [List.getElem?_map] at hd
      cases hc : (cs (ofL l))[i]? with
      | none => rw [hc] at hd; cases hd
      | some c =>
        rw [hc] at hd
        cases hd
        have hc2 : l[i]? = some c := hc
        have tk : l.take (i + 1) = l.take i ++ [c] := by
          rw [List.take_succ, hc2]
          rfl
        have st : Mk.step (l.take (i + 1)) = (2 * (Mk.step (l.take i)).1 + (if c = 62 then 1 else -1), 2 * (Mk.step (l.take i)).2) := by
          rw [tk]
          unfold Mk.step
          rw [List.foldl_append]
          rfl
        rw [st]
        array_get_dec
        refine o_Ci (.inl ⟨by decide, by decide⟩) ?_
        rw [gt_sign]
        array_get_dec
        · rename_i hb
          have h62 : c = 62 := by
            have := congrArg cs hb
            simpa [cs] using this
          refine o_Ci (.inl ⟨by decide, by decide⟩) ?_
          rw [if_pos h62]
          exact ⟨_, rfl, rfl⟩
        · rename_i hb
          have h62 : ¬ c = 62 := fun z => hb (by rw [z])
          refine o_Ci (.inl ⟨by decide, by decide⟩) ?_
          rw [if_neg h62]
          exact ⟨_, rfl, rfl⟩
    · rintro ρ S' ⟨v3, rfl, rfl⟩
      array_get_dec
      have e : (Dl.signs (ofL l)).length = l.length := by
        unfold Dl.signs
        rw [List.length_map, cs_ofL]
      rw [e, List.take_length]
      exact rr_dat k
end
end K41

namespace K41
open PySem PySem.Spec PyProof.Rows L2 Evl Dl
def txs (ws : List (List Nat)) : List Str := ws.map ofL
@[reducible] def roseD (R : Rs.Rose) : D := .ins "Rose" [("words", .ftup ((txs R.ws).map .str)), ("halvings", .int (R.h : Nat)), ("begin", turnD R.b)]
theorem txs_len (ws : List (List Nat)) : (txs ws).length = ws.length := List.length_map _
theorem nd_txs {ws : List (List Nat)} (h : ws.Nodup) : (txs ws).Nodup := by
  unfold txs
  refine List.Pairwise.map ofL (fun a b hab e => hab (ofL_inj e)) h
theorem sn_b {R : Rs.Rose} (k : Rs.Ok R) : Sn 200 R.b := ⟨k.can, k.sm⟩
theorem sn_turn {R : Rs.Rose} {p : Int} (k : Rs.Ok R) : Sn 209 (Tn.on R.b (Tn.part p (Rs.size R : Int))) := by
  have s := k.size_le
  exact on_sn (sn_b k) (part_sn (n := 9) (by omega) (by omega))
theorem rf_put (a b c : D) : putD "begin" c (putD "halvings" b (putD "words" a [])) = ([("words", a), ("halvings", b), ("begin", c)] : List (Str × D)) := by
  have n1 : ¬ (("words" : Str) = "halvings") := by decide +kernel
  have n2 : ¬ (("words" : Str) = "begin") := by decide +kernel
  have n3 : ¬ (("halvings" : Str) = "begin") := by decide +kernel
  simp [putD, n1, n2, n3]
def sd_corners : Sd := fun rs S Φ => ∃ ws : List (List Nat), rs = [.dat (.ftup ((txs ws).map .str))] ∧ 3 ≤ ws.length ∧ ws.length ≤ 8 ∧ ws.Nodup ∧ (∀ w ∈ ws, Rs.WordL w) ∧ Φ (.bl true) S
def sd_rose : Sd := fun rs S Φ => ∃ R : Rs.Rose, rs = [.dat (.ftup ((txs R.ws).map .str)), .dat (.int (R.h : Nat)), .dat (turnD R.b)] ∧ Rs.Ok R ∧ Φ (roseD R) S
def sd_rlen : Sd := fun rs S Φ => ∃ R : Rs.Rose, rs = [.dat (roseD R)] ∧ Rs.Ok R ∧ Φ (.int (Rs.size R : Nat)) S
def sd_ptold : Sd := fun rs S Φ => ∃ (R : Rs.Rose) (o : Rs.One), rs = [.dat (roseD R), .dat (.str (ofL (Rs.nameOf R o)))] ∧ Rs.Ok R ∧ Rs.Good R o ∧ Φ (.int (Rs.placeT R o)) S
def sd_tat : Sd := fun rs S Φ => ∃ (R : Rs.Rose) (p : Int), rs = [.dat (roseD R), .dat (.int p)] ∧ Rs.Ok R ∧ Φ (turnD (Tn.on R.b (Tn.part p (Rs.size R : Nat)))) S
/-- the place of a turn -/
def placeA (R : Rs.Rose) (t : Int × Int) : Option Int := if (Tn.off t R.b).1 * (Rs.size R : Nat) % (Tn.off t R.b).2 = 0 then some ((Tn.off t R.b).1 * (Rs.size R : Nat) / (Tn.off t R.b).2) else none
def optD : Option Int → D
  | some i => .int i
  | none => .non
def sd_pat : Sd := fun rs S Φ => ∃ (R : Rs.Rose) (t : Int × Int), rs = [.dat (roseD R), .dat (turnD t)] ∧ Rs.Ok R ∧ Sn 800 t ∧ Φ (optD (placeA R t)) S
def sd_lowest : Sd := fun rs S Φ => ∃ o h : Nat, rs = [.dat (.int (o : Nat)), .dat (.int (h : Nat))] ∧ 0 < o ∧ o < 2 ^ h ∧ h ≤ 5 ∧ Φ (.tup [.int ((Rs.lowF o h).1 : Nat), .int ((Rs.lowF o h).2 : Nat)]) S
def sd_nat : Sd := fun rs S Φ => ∃ (R : Rs.Rose) (p : Nat), rs = [.dat (roseD R), .dat (.int (p : Nat))] ∧ Rs.Ok R ∧ p < Rs.size R ∧ Φ (.tup ((txs (Rs.names R p)).map .str)) S
def ownN (R : Rs.Rose) (p : Nat) : List Nat := ((Rs.names R p).head?).getD []
def sd_own : Sd := fun rs S Φ => ∃ (R : Rs.Rose) (p : Nat), rs = [.dat (roseD R), .dat (.int (p : Nat))] ∧ Rs.Ok R ∧ p < Rs.size R ∧ Φ (.str (ofL (ownN R p))) S
theorem rlen_go {R : Rs.Rose} {S : Store} {Φ : Int → Store → Prop} (ok : Rs.Ok R) (k : Φ (Rs.size R : Nat) S) : sd_rlen [.dat (roseD R)] S fun d S2 => ∃ i : Int, d = .int i ∧ 0 ≤ i ∧ i < 2 ^ 63 ∧ Φ i S2 := ⟨R, rfl, ok, (Rs.size R : Nat), rfl, by omega, by have := ok.size_le; omega, k⟩
theorem at_txs {ws : List (List Nat)} {c : Nat} {w : List Nat} (h : ws[c]? = some w) : (txs ws)[c]? = some (ofL w) := by
  unfold txs
  rw [List.getElem?_map, h]
  rfl
theorem first_txs {ws : List (List Nat)} {c : Nat} {w : List Nat} (nd : ws.Nodup) (h : ws[c]? = some w) : ∀ m, m < c → (txs ws)[m]? ≠ some (ofL w) := fun m hm e => by
  unfold txs at e
  rw [List.getElem?_map] at e
  obtain ⟨hc, ec⟩ := List.getElem?_eq_some_iff.mp h
  have hml : m < ws.length := by omega
  rw [List.getElem?_eq_getElem hml] at e
  have e2 : ofL ws[m] = ofL w := Option.some.inj e
  have e3 := ofL_inj e2
  rw [← ec] at e3
  exact List.pairwise_iff_getElem.mp nd m c hml hc hm e3
theorem name_word {R : Rs.Rose} (ok : Rs.Ok R) {o : Rs.One} (g : Rs.Good R o) : Rs.WordL (Rs.word R o.1) := ok.wd _ (Rs.word_at g.c).2
theorem gap_shl (R : Rs.Rose) : (1 : Int) * 2 ^ ((R.h : Int)).toNat = (Rs.gap R : Nat) := by
  rw [Int.one_mul, Int.toNat_natCast]
  exact (Int.natCast_pow 2 R.h).symm
theorem step_bnd (l : List Nat) : (Mk.step l).1.natAbs < 2 ^ l.length := by
  unfold Mk.step
  have gen : ∀ (l : List Nat) (p : Int × Int) (n : Nat), p.1.natAbs < 2 ^ n → (l.foldl (fun p c => (2 * p.1 + (if c = 62 then 1 else -1), 2 * p.2)) p).1.natAbs < 2 ^ (n + l.length) := by
    intro l
    induction l with
    | nil => exact fun p n h => h
    | cons c r ih =>
      intro p n h
      have := ih (2 * p.1 + (if c = 62 then 1 else -1), 2 * p.2) (n + 1) (by
        show (2 * p.1 + (if c = 62 then 1 else -1)).natAbs < 2 ^ (n + 1)
        rw [Nat.pow_succ]
        split <;> omega)
      rw [List.length_cons, show n + (r.length + 1) = n + 1 + r.length by omega]
      exact this
  have := gen l (0, 1) 0 (by decide)
  rw [Nat.zero_add] at this
  exact this
theorem own_at (R : Rs.Rose) (p : Nat) : (txs (Rs.names R p))[0]? = some (ofL (ownN R p)) := by
  unfold ownN txs
  rw [List.getElem?_map]
  have h : (Rs.names R p).length ≠ 0 := by
    unfold Rs.names
    rw [List.length_map]
    have := Rs.ones_len R p
    omega
  cases e : Rs.names R p with
  | nil => rw [e] at h; exact absurd rfl h
  | cons a l => rfl
/-- the place of a wind's turn -/
theorem place_wind {R : Rs.Rose} (ok : Rs.Ok R) {p : Nat} (hp : p < Rs.size R) : placeA R (Rs.turn R p) = some ((p : Nat) : Int) := by
  have sl := ok.size_le
  have cp : Tn.Can (Tn.part (p : Int) (Rs.size R : Int)) := Tn.part_can (by omega)
  have eo : Tn.off (Rs.turn R p) R.b = Tn.part (p : Int) (Rs.size R : Int) := Tn.on_off' ok.can cp
  have pp := Rs.part_place hp
  unfold placeA
  rw [eo, pp]
  have q2 := cp.pos
  rw [if_pos (Int.mul_emod_left _ _), Int.mul_ediv_cancel _ (by omega)]
section
variable {P : Program} {w : World} {K : PySem.W.Frag} {mg : Str → Option Value} {base : Heap} {f : Addr} {fd : FuncData}
theorem ok_are_corners {dvs : List V} {kws : List (Str × V)} (F : FunD K "are_corners" "are_corners" (defArgs s_are_corners) (defBody s_are_corners) (defScope s_are_corners) dvs kws f fd) (T : Txt K mg) (D_is_word : Df P w K mg base CX0 2 "is_word" ["thing"] [[]] (lift K sd_is_word)) : FnOk P w K mg base CX0 3 f fd ["thing"] (lift K sd_corners) := by
  refine F.ok sc_are_corners (fun vs H Q E h => ?_) (fun cdv A outer s H vs Q E hr h => ?_)
  · obtain ⟨A, S, rs, Φ, so, rr, h, _⟩ := h
    obtain ⟨ws, rfl, n3, n8, nd, wd, k⟩ := h
    exact (Paired.length rr).symm
  · obtain ⟨A, S, rs, Φ, so, rr, h, q⟩ := h
    obtain ⟨ws, rfl, n3, n8, nd, wd, k⟩ := h
    refine ⟨_, PSs.nox (pss_cons (ps_if (PW.pt (pw_or (pt_not (pt_val (pe_callB call_isi (by rfl) T.b_isinstance (by decide +kernel) (pa_cons (pv 0) (pa_cons (pe_bltn (v := .ty "tuple") (by rfl) T.b_tuple (by decide +kernel) rfl) pa_nil))))) (pw_or (pt_cmpR op_lt (pe_callB call_len_seq (by rfl) T.b_len (by decide +kernel) (pa_cons (pv 0) pa_nil)) (pe_gi (by rfl) T.g_LEAST_CORNERS) (nomark _)) (pw_or1 (pt_cmpR op_gt (pe_callB call_len_seq (by rfl) T.b_len (by decide +kernel) (pa_cons (pv 0) pa_nil)) (pe_gi (by rfl) T.g_MOST_CORNERS) (nomark _)))))) (pss_one (ps_ret pe_bl)) pss_nil)
      (pss_cons (ps_if (pt_not (pt_val (pe_callB (cr_all rfl) (by rfl) T.b_all (by decide +kernel) (pa_cons (pe_lc (own := [("word", 1)]) (g := (gName 1)) (tt := tYes) rfl sc_are_corners.nd (pi_tup (pv 0)) (blkOk_by (own := [("word", 1)]) (N := ["thing", "word"]) (sc := defScope s_are_corners) (by decide +kernel)) (fun _ _ _ _ _ => (pg_name (i := 1) sc_are_corners.nd rfl (Or.inl rfl))) (fun _ _ _ _ _ => pts_nil) (fun _ _ _ _ _ => (pe_df D_is_word (us := []) List.mem_cons_self (hr.mono (by first | decide | omega)) (by rfl) (pa_cons (pv 1) pa_nil)))) pa_nil)))) (pss_one (ps_ret pe_bl)) pss_nil)
      (pss_one (ps_ret (pe_cmpR op_eq (pe_lenT rfl (by rfl) T.b_len (by rfl) T.b_set (pv 0)) (pe_callB call_len_seq (by rfl) T.b_len (by decide +kernel) (pa_cons (pv 0) pa_nil)) (nomark _)))))), fn_body 1 rfl so rr q ?_⟩
    intro Z
    try dsimp only [cxOf, Cx.nox, Cx.wish]
    have cf_Turn := T.clf_Turn
    have cf_Rose := T.clf_Rose
    have cf_Walk := T.clf_Walk
    have tl := txs_len ws
    have ml : ((txs ws).map D.str).length = ws.length := by rw [List.length_map, tl]
    array_get_dec
    · omega
    · omega
    refine wp_lcM ?_
    array_get_dec
    refine ⟨List.replicate ws.length (.bl true), by rw [List.length_replicate, ml], by rw [ml]; omega, fun i d e S0 hd he => gc_name (by decide) fun Φ k => ?_, ?_⟩
    · rw [List.getElem?_map] at hd
      unfold txs at hd
      rw [List.getElem?_map] at hd
      cases q : ws[i]? with
      | none => rw [q] at hd; cases hd
      | some wd' =>
        rw [q] at hd
        cases hd
        have hw := wd _ (List.mem_of_getElem? q)
        have ee := List.eq_of_mem_replicate (List.mem_of_getElem? he)
        subst ee
        array_get_dec
        refine ⟨_, rfl, by rw [ofL_len]; have := hw.2.1; omega, ?_⟩
        rw [word_is hw]
        exact k
    array_get_dec
    refine c_all (bs := List.replicate ws.length true) (by rw [List.map_replicate]) ?_
    rw [List.all_replicate]
    have a1 : (if ws.length = 0 then true else id true) = true := by split <;> rfl
    rw [a1]
    array_get_dec
    refine ⟨txs ws, tp_f, nd_txs nd, by omega, ?_⟩
    array_get_dec
    rw [ml, tl, decide_eq_true rfl]
    exact rr_dat k
theorem ok_Rose___len__ {dvs : List V} {kws : List (Str × V)} (F : FunD K "__len__" "Rose.__len__" (defArgs s_Rose___len__) (defBody s_Rose___len__) (defScope s_Rose___len__) dvs kws f fd) (T : Txt K mg)  : FnOk P w K mg base CX0 1 f fd ["self"] (lift K sd_rlen) := by
  refine F.ok sc_Rose___len__ (fun vs H Q E h => ?_) (fun cdv A outer s H vs Q E hr h => ?_)
  · obtain ⟨A, S, rs, Φ, so, rr, h, _⟩ := h
    obtain ⟨R, rfl, ok, k⟩ := h
    exact (Paired.length rr).symm
  · obtain ⟨A, S, rs, Φ, so, rr, h, q⟩ := h
    obtain ⟨R, rfl, ok, k⟩ := h
    refine ⟨_, PSs.nox (pss_one (ps_ret (pe_callB call_lenR (by rfl) T.b_len (by decide +kernel) (pa_cons (pe_callTy cr_range1 (by rfl) T.b_range (by decide +kernel) (pa_cons (pe_op op_shl (pe_callB call_len_seq (by rfl) T.b_len (by decide +kernel) (pa_cons (pe_fld (pv 0) rfl) pa_nil)) (pe_fld (pv 0) rfl)) pa_nil)) pa_nil)))), fn_body 0 rfl so rr q ?_⟩
    intro Z
    try dsimp only [cxOf, Cx.nox, Cx.wish]
    have cf_Turn := T.clf_Turn
    have cf_Rose := T.clf_Rose
    have cf_Walk := T.clf_Walk
    have h5 := ok.h5
    have n8 := ok.n8
    have sl := ok.size_le
    have ml : ((txs R.ws).map D.str).length = R.ws.length := by rw [List.length_map, txs_len]
    have e : (R.ws.length : Int) * 2 ^ ((R.h : Int)).toNat = (Rs.size R : Nat) := by
      have e2 : ((2 : Int) ^ R.h) = ((2 ^ R.h : Nat) : Int) := (Int.natCast_pow 2 R.h).symm
      rw [Int.toNat_natCast, e2, ← Int.natCast_mul]
      rfl
    array_get_dec
    rw [ml, e]
    array_get_dec
    exact ⟨_, rfl, by omega, rr_dat k⟩
theorem ok_place_told {dvs : List V} {kws : List (Str × V)} (F : FunD K "place_told" "place_told" (defArgs s_place_told) (defBody s_place_told) (defScope s_place_told) dvs kws f fd) (T : Txt K mg) (D_parted_within : Df P w K mg base CX0 2 "parted_within" ["text", "most"] [[]] (lift K sd_pw)) (D_step_of : Df P w K mg base CX0 1 "step_of" ["marks"] [[]] (lift K sd_step)) (D_Rose___len__ : Dm P w K mg base CX0 1 "Rose" "__len__" ["self"] [[]] (lift K sd_rlen)) : FnOk P w K mg base CX0 4 f fd ["rose", "name"] (lift K sd_ptold) := by
  refine F.ok sc_place_told (fun vs H Q E h => ?_) (fun cdv A outer s H vs Q E hr h => ?_)
  · obtain ⟨A, S, rs, Φ, so, rr, h, _⟩ := h
    obtain ⟨R, o, rfl, ok, g, k⟩ := h
    exact (Paired.length rr).symm
  · obtain ⟨A, S, rs, Φ, so, rr, h, q⟩ := h
    obtain ⟨R, o, rfl, ok, g, k⟩ := h
    refine ⟨_, PSs.nox (pss_cons (ps_asg (pe_df D_parted_within (us := []) List.mem_cons_self (hr.mono (by first | decide | omega)) (by rfl) (pa_cons (pv 1) (pa_cons (pe_fld (pv 0) rfl) pa_nil))) (pg_tup rfl (pgs_cons (pg_name (i := 2) sc_place_told.nd rfl (Or.inl rfl)) (pgs_cons (pg_name (i := 3) sc_place_told.nd rfl (Or.inl rfl)) pgs_nil))))
      (pss_cons (ps_if (pt_cmpR op_notIn_seq (pv 2) (pe_fld (pv 0) rfl) (by rfl)) (pss_one ps_never) pss_nil)
      (pss_cons (ps_asg (pe_df D_step_of (us := []) List.mem_cons_self (hr.mono (by first | decide | omega)) (by rfl) (pa_cons (pv 3) pa_nil)) (pg_tup rfl (pgs_cons (pg_name (i := 4) sc_place_told.nd rfl (Or.inl rfl)) (pgs_cons (pg_name (i := 5) sc_place_told.nd rfl (Or.inl rfl)) pgs_nil))))
      (pss_cons (ps_set (i := 6) sc_place_told.nd rfl (Or.inl rfl) (pe_op op_shl pe_int (pe_fld (pv 0) rfl)))
      (pss_cons (ps_set (i := 7) sc_place_told.nd rfl (Or.inl rfl) (pe_op op_add (pe_op op_mulW (pe_tupI (pe_fld (pv 0) rfl) (pa_cons (pv 2) pa_nil)) (pv 6)) (pe_op op_mulW (pv 4) (pe_op op_fdivW (pv 6) (pv 5)))))
      (pss_one (ps_ret (pe_op op_mod (pv 7) (pe_callB (call_lenO T.m_Rose___len__ (D_Rose___len__.raw List.mem_cons_self) (hr.mono (by first | decide | omega))) (by rfl) T.b_len (by decide +kernel) (pa_cons (pv 0) pa_nil)))))))))), fn_body 6 rfl so rr q ?_⟩
    intro Z
    try dsimp only [cxOf, Cx.nox, Cx.wish]
    have cf_Turn := T.clf_Turn
    have cf_Rose := T.clf_Rose
    have cf_Walk := T.clf_Walk
    have wa := Rs.word_at g.c
    have h5 := ok.h5
    have sl := ok.size_le
    have gl := ok.gap_le
    have hc := g.c
    have n8 := ok.n8
    have tz := Nat.lt_of_lt_of_le (step_bnd o.2) (Nat.pow_le_pow_right (show 0 < 2 by decide) (show o.2.length ≤ 20 by have := g.len; omega))
    obtain ⟨d0, d32⟩ := g.dv
    have q0 : 0 ≤ (Rs.gap R : Int) / (Mk.step o.2).2 := Int.ediv_nonneg (by omega) (by omega)
    have q1 : (Rs.gap R : Int) / (Mk.step o.2).2 ≤ (Rs.gap R : Int) := Int.ediv_le_self _ (by omega)
    have gs := gap_shl R
    array_get_dec
    refine ⟨Rs.word R o.1, o.2, R.h, rfl, name_word ok g, g.ms, g.len, h5, ?_⟩
    array_get_dec
    refine o_inStr sq_f ?_
    have mem : decide (ofL (Rs.word R o.1) ∈ txs R.ws) = true := decide_eq_true (List.mem_map.mpr ⟨_, wa.2, rfl⟩)
    rw [if_pos rfl, mem]
    array_get_dec
    refine ⟨o.2, rfl, by have := g.len; omega, ?_⟩
    array_get_dec
    rw [gs]
    refine wp_tupI ?_
    array_get_dec
    refine ⟨txs R.ws, rfl, ?_⟩
    array_get_dec
    refine ⟨_, o.1, rfl, at_txs wa.1, first_txs ok.nd wa.1, ?_⟩
    array_get_dec
    refine rlen_go ok ?_
    array_get_dec
    exact rr_dat k
theorem word_ix {R : Rs.Rose} {c : Nat} (h : c < R.ws.length) : atI ((txs R.ws).map D.str) (c : Nat) = some (.str (ofL (Rs.word R c))) := at_nat (by rw [List.getElem?_map, at_txs (Rs.word_at h).1]; rfl)
end
end K41

namespace K41
open PySem PySem.Spec PyProof.Rows L2 Evl Dl
def gT : D → D → Bool → Prop := fun x y b => ∃ a a' : Int × Int, x = turnD a ∧ y = turnD a' ∧ b = decide (a = a')
section
variable {K : PySem.W.Frag} {H : Hp} {v : V}
theorem turn_un {p q : Int × Int} (h : Rep0 K H (turnD p) v) (h' : Rep0 K H (turnD q) v) : p = q := by
  cases h with
  | @ins a dx _ _ gs n hx rf =>
    cases h' with
    | @ins _ dx' _ _ gs' n' hx' rf' =>
      rw [hx] at hx'
      injection hx' with hx'
      injection hx' with _ _ e
      subst e
      cases rf with
      | cons r1 rf =>
        cases rf with
        | cons r2 rf =>
          cases rf' with
          | cons s1 rf' =>
            cases rf' with
            | cons s2 rf' =>
              obtain e1 := rep_int r1
              obtain e2 := rep_int r2
              obtain f1 := rep_int s1
              obtain f2 := rep_int s2
              rw [e1] at f1
              rw [e2] at f2
              injection f1 with f1
              injection f2 with f2
              exact Prod.ext f1 f2
theorem self_T : ∀ (H : Hp) (a : Addr) (d e : D) (b : Bool), Rep0 K H d (.ref a) → Rep0 K H e (.ref a) → gT d e b → b = true := by
  rintro H a d e b hd he ⟨p, q, rfl, rfl, rfl⟩
  exact decide_eq_true (turn_un hd he)
end
def sd_fig : Sd := fun rs S Φ => ∃ n : Nat, rs = [.dat (.int (n : Nat))] ∧ n < 2 ^ 4000 ∧ Φ (.str (Dg.num n)) S
def strT (a : Int × Int) : Str := if a.1 = 0 then "0" else Dg.num a.1.toNat ++ "/" ++ Dg.num a.2.toNat
def sd_tstr : Sd := fun rs S Φ => ∃ a : Int × Int, rs = [.dat (turnD a)] ∧ Sn 400 a ∧ Φ (.str (strT a)) S
theorem num400 {n : Nat} (h : n < 2 ^ 400) : (Dg.num n).length ≤ 400 := Dg.num_len (by decide) (Nat.lt_of_lt_of_le h (Nat.pow_le_pow_left (by decide) 400))
theorem emp_app (z : Str) : Str.empty ++ z = z := by
  rw [← ofL_cs (Str.empty ++ z), cs_app]
  show ofL ([] ++ cs z) = z
  rw [List.nil_append, ofL_cs]
theorem slash_l : (Str.ofString "/").length = 1 := by decide +kernel
theorem pow_lt {n : Nat} (h : n < 2 ^ 400) : n < 2 ^ 4000 := Nat.lt_of_lt_of_le h (Nat.pow_le_pow_right (by decide) (by decide))
theorem Sn.n1 {a : Int × Int} (h : Sn 400 a) : ∃ n : Nat, a.1 = (n : Int) ∧ n < 2 ^ 400 := ⟨a.1.toNat, by have := h.1.nn; omega, by have := h.b1; have := h.1.nn; omega⟩
theorem Sn.n2 {a : Int × Int} (h : Sn 400 a) : ∃ n : Nat, a.2 = (n : Int) ∧ n < 2 ^ 400 := ⟨a.2.toNat, by have := h.1.pos; omega, by have := h.b2; have := h.1.pos; omega⟩
theorem strT_len {a : Int × Int} (ha : Sn 400 a) : (strT a).length ≤ 5000 := by
  obtain ⟨n1, e1, b1⟩ := ha.n1
  obtain ⟨n2, e2, b2⟩ := ha.n2
  have l1 := num400 b1
  have l2 := num400 b2
  unfold strT
  rw [e1, e2, Int.toNat_natCast, Int.toNat_natCast]
  split
  · decide +kernel
  · rw [Str.length_append, Str.length_append, slash_l]
    omega
/-! ### texts of figures -/
def isF (c : Nat) : Bool := decide (c ∈ cs "0123456789")
def figB (z : Str) : Bool := !decide (z = "") && (cs z).all isF
def wrB (z : Str) : Bool := figB z && !decide ((cs z)[0]? = some 48)
def valL (l : List Nat) : Nat := l.foldl (fun acc c => acc * 10 + (c - 48)) 0
theorem f10 : cs "0123456789" = [48, 49, 50, 51, 52, 53, 54, 55, 56, 57] := by decide +kernel
theorem isF_rng {c : Nat} : isF c = true ↔ 48 ≤ c ∧ c ≤ 57 := by
  unfold isF
  rw [f10, decide_eq_true_iff]
  simp only [List.mem_cons, List.not_mem_nil, or_false]
  omega
theorem valL_snoc (l : List Nat) (c : Nat) : valL (l ++ [c]) = valL l * 10 + (c - 48) := by
  unfold valL
  rw [List.foldl_append]
  rfl
theorem snoc_ind {P : List Nat → Prop} (h0 : P []) (h1 : ∀ l c, P l → P (l ++ [c])) (l : List Nat) : P l := by
  have q : ∀ r : List Nat, P r.reverse := fun r => by
    induction r with
    | nil => exact h0
    | cons c r ih => rw [List.reverse_cons]; exact h1 _ _ ih
  have := q l.reverse
  rw [List.reverse_reverse] at this
  exact this
theorem valL_lt : ∀ (l : List Nat), l.all isF = true → valL l < 10 ^ l.length := by
  intro l
  induction l using snoc_ind with
  | h0 => exact fun _ => by decide
  | h1 l c ih =>
    intro h
    rw [List.all_append, Bool.and_eq_true] at h
    have h1 := ih h.1
    have h2 : isF c = true := by simpa using h.2
    have h3 := isF_rng.mp h2
    rw [valL_snoc, List.length_append, List.length_singleton, Nat.pow_succ]
    omega
theorem num_valL : ∀ (l : List Nat), l.all isF = true → l ≠ [] → l[0]? ≠ some 48 → TL.numL (valL l) = l ∧ 0 < valL l := by
  intro l
  induction l using snoc_ind with
  | h0 => exact fun _ h => absurd rfl h
  | h1 l c ih =>
    intro h _ h0
    rw [List.all_append, Bool.and_eq_true] at h
    have h2 : isF c = true := by simpa using h.2
    have h3 := isF_rng.mp h2
    rw [valL_snoc]
    cases l with
    | nil =>
      have hc : c ≠ 48 := fun e => h0 (by rw [e]; rfl)
      show TL.numL (0 * 10 + (c - 48)) = [c] ∧ _
      rw [TL.numL_lt (by omega)]
      refine ⟨?_, by show 0 < 0 * 10 + (c - 48); omega⟩
      have : 48 + (0 * 10 + (c - 48)) = c := by omega
      rw [this]
    | cons d r =>
      obtain ⟨i1, i2⟩ := ih h.1 nofun h0
      refine ⟨?_, by omega⟩
      rw [TL.numL_step (by omega)]
      have e1 : (valL (d :: r) * 10 + (c - 48)) / 10 = valL (d :: r) := by omega
      have e2 : 48 + (valL (d :: r) * 10 + (c - 48)) % 10 = c := by omega
      rw [e1, e2, i1]
theorem cs_emp {z : Str} : z = "" ↔ cs z = [] := by
  refine ⟨fun e => by rw [e]; decide +kernel, fun e => ?_⟩
  rw [← ofL_cs z, e]
  decide +kernel
theorem wr_num {z : Str} (h : wrB z = true) : z = Dg.num (valL (cs z)) ∧ 0 < valL (cs z) ∧ figB z = true := by
  unfold wrB at h
  rw [Bool.and_eq_true] at h
  have hf := h.1
  unfold figB at hf
  rw [Bool.and_eq_true] at hf
  have hn : cs z ≠ [] := fun e => by
    have := hf.1
    rw [decide_eq_true (cs_emp.mpr e)] at this
    cases this
  have h0 : (cs z)[0]? ≠ some 48 := fun e => by
    have := h.2
    rw [decide_eq_true e] at this
    cases this
  obtain ⟨i1, i2⟩ := num_valL (cs z) hf.2 hn h0
  refine ⟨TL.ext_tl ?_, i2, h.1⟩
  unfold Dg.num
  rw [TL.tl_num, i1]
  rfl
theorem lc_signs [Z : Zo] {K : PySem.W.Frag} {ρ : List Dl.R} {S : Store} {Φ : Dl.R → Store → Prop} {te tb : TE} {g : TG} {vs : List Nat} {z : Str} (e : Nat → D) (hz : (cs z).length < 100000)
    (st : ∀ (c : Nat), c ∈ cs z → ∀ S0 : Store, WpGc K g (.dat (.str ⟨#[c]⟩)) (wipeR ρ vs) S0 vs fun ρ2 => ∀ Φ : Dl.R → Store → Prop, Φ (.dat (e c)) S0 → Wp K te ρ2 S0 Φ) (hb : Wp K tb ρ S fun r S1 => r = .dat (.str z) ∧ Φ (.dat (.lst ((cs z).map e))) S1) : Wp K (tLc (iStr tb) g tYes te vs) ρ S Φ := by
  refine wp_lcM (wi_str ?_)
  intro A σ H f Q q
  refine hb A σ H f Q fun r S1 A1 v H1 ⟨er, k⟩ => q r S1 A1 v H1 ⟨z, er, (cs z).map e, by unfold Dl.signs; rw [List.length_map, List.length_map], by unfold Dl.signs; rw [List.length_map]; exact hz, fun i d e' S0 hd he => ?_, k⟩
  unfold Dl.signs at hd
  rw [List.getElem?_map] at hd he
  cases q : (cs z)[i]? with
  | none => rw [q] at hd; cases hd
  | some c =>
    rw [q] at hd he
    cases hd
    cases he
    exact st c (List.mem_of_getElem? q) S0
theorem one_is {c d : Nat} {z : Str} (e : cs z = [d]) : decide ((⟨#[c]⟩ : Str) = z) = decide (c = d) := by
  rw [Bool.eq_iff_iff, decide_eq_true_iff, decide_eq_true_iff]
  refine ⟨fun h => ?_, fun h => ?_⟩
  · rw [← h] at e
    exact List.singleton_inj.mp e
  · rw [h, ← ofL_cs z, e]
    rfl
theorem fig_int {z : Str} (h : figB z = true) (hl : z.length ≤ 4300) : PySem.intText? z = some ((valL (cs z) : Nat) : Int) := by
  unfold figB at h
  rw [Bool.and_eq_true] at h
  refine PySem.intText_digits (fun c hc => isF_rng.mp (List.all_eq_true.mp h.2 c hc)) (fun e => ?_) hl
  have := h.1
  rw [decide_eq_true (cs_emp.mpr e)] at this
  cases this
theorem fig_one {c : Nat} (h : isF c = true) : figB ⟨#[c]⟩ = true := by
  unfold figB
  have e : cs (⟨#[c]⟩ : Str) = [c] := rfl
  rw [e, decide_eq_false (fun z => by rw [cs_emp, e] at z; cases z)]
  simp [h]
theorem fig_ne {z : Str} (h : figB z = true) : ∃ c r, cs z = c :: r := by
  unfold figB at h
  rw [Bool.and_eq_true] at h
  cases e : cs z with
  | nil =>
    have := h.1
    rw [decide_eq_true (cs_emp.mpr e)] at this
    cases this
  | cons c r => exact ⟨c, r, rfl⟩
theorem fig_all {z : Str} (h : figB z = true) : (cs z).all isF = true := by
  unfold figB at h
  rw [Bool.and_eq_true] at h
  exact h.2
theorem zero_cs : cs "0" = [48] := by decide +kernel
def sd_arefig : Sd := fun rs S Φ => ∃ z : Str, rs = [.dat (.str z)] ∧ z.length ≤ 200 ∧ Φ (.bl (figB z)) S
def sd_iswr : Sd := fun rs S Φ => ∃ z : Str, rs = [.dat (.str z)] ∧ z.length ≤ 200 ∧ Φ (.bl (wrB z)) S
def sd_numof : Sd := fun rs S Φ => ∃ z : Str, rs = [.dat (.str z)] ∧ z.length ≤ 200 ∧ figB z = true ∧ Φ (.int (valL (cs z) : Nat)) S
section
variable {P : Program} {w : World} {K : PySem.W.Frag} {mg : Str → Option Value} {base : Heap} {f : Addr} {fd : FuncData}
theorem ok_Turn___eq__ {dvs : List V} {kws : List (Str × V)} (F : FunD K "__eq__" "Turn.__eq__" (defArgs s_Turn___eq__) (defBody s_Turn___eq__) (defScope s_Turn___eq__) dvs kws f fd) (T : Txt K mg)  : FnOk P w K mg base CX0 1 f fd ["self", "other"] (lift K (sdE K "Turn" gT)) := by
  refine F.ok sc_Turn___eq__ (fun vs H Q E h => ?_) (fun cdv A outer s H vs Q E hr h => ?_)
  · obtain ⟨A, S, rs, Φ, so, rr, h, _⟩ := h
    obtain ⟨x, y, b, rfl, hg, k⟩ := h
    exact (Paired.length rr).symm
  · obtain ⟨A, S, rs, Φ, so, rr, h, q⟩ := h
    obtain ⟨x, y, b, rfl, hg, k⟩ := h
    refine ⟨_, PSs.nox (pss_one (ps_ret (pe_and (pe_callB call_isi (by rfl) T.b_isinstance (by decide +kernel) (pa_cons (pv 1) (pa_cons (pe_glob (v := .ref (He.ga K "Turn")) (by rfl) T.g_Turn rfl) pa_nil))) (pe_and (pe_cmpR op_eq (pe_fld (pv 0) rfl) (pe_fld (pv 1) rfl) (nomark _)) (pe_one (pe_cmpR op_eq (pe_fld (pv 0) rfl) (pe_fld (pv 1) rfl) (nomark _))))))), fn_body 0 rfl so rr q ?_⟩
    intro Z
    try dsimp only [cxOf, Cx.nox, Cx.wish]
    have cf_Turn := T.clf_Turn
    have cf_Rose := T.clf_Rose
    have cf_Walk := T.clf_Walk
    rcases hg with ⟨_, _, _, _, a, a', rfl, rfl, rfl⟩ | ⟨⟨fs, rfl⟩, rfl, he⟩
    · array_get_dec
      · rename_i h1
        have e : decide (a = a') = decide (a.2 = a'.2) := by
          rw [Bool.eq_iff_iff, decide_eq_true_iff, decide_eq_true_iff, Prod.ext_iff]
          exact ⟨fun h => h.2, fun h => ⟨h1, h⟩⟩
        rw [e] at k
        exact rr_dat k
      · rename_i h1
        rw [decide_eq_false fun h => h1 (congrArg Prod.fst h)] at k
        exact rr_dat k
    · array_get_dec
      refine c_isE cf_Turn he ?_
      array_get_dec
      exact rr_dat k
theorem ok_figures_of {dvs : List V} {kws : List (Str × V)} (F : FunD K "figures_of" "figures_of" (defArgs s_figures_of) (defBody s_figures_of) (defScope s_figures_of) dvs kws f fd) (T : Txt K mg)  : FnOk P w K mg base CX0 1 f fd ["number"] (lift K sd_fig) := by
  refine F.ok sc_figures_of (fun vs H Q E h => ?_) (fun cdv A outer s H vs Q E hr h => ?_)
  · obtain ⟨A, S, rs, Φ, so, rr, h, _⟩ := h
    obtain ⟨n, rfl, hn, k⟩ := h
    exact (Paired.length rr).symm
  · obtain ⟨A, S, rs, Φ, so, rr, h, q⟩ := h
    obtain ⟨n, rfl, hn, k⟩ := h
    refine ⟨_, PSs.nox (pss_cons (ps_setM (ps_set (i := 1) sc_figures_of.nd rfl (Or.inl rfl) (pe_lst pa_nil)))
      (pss_cons (ps_set (i := 2) sc_figures_of.nd rfl (Or.inl rfl) (pv 0))
      (pss_cons (ps_while PassesOwn.never (pt_cmpR op_ge (pv 2) (pe_gi (by rfl) T.g_PIECE) (nomark _)) (pss_cons (ps_asg (pe_callB call_divmodW (by rfl) T.b_divmod (by decide +kernel) (pa_cons (pv 2) (pa_cons (pe_gi (by rfl) T.g_PIECE) pa_nil))) (pg_tup rfl (pgs_cons (pg_name (i := 2) sc_figures_of.nd rfl (Or.inl rfl)) (pgs_cons (pg_name (i := 3) sc_figures_of.nd rfl (Or.inl rfl)) pgs_nil))))
        (pss_one (ps_expr (pe_bm PySem.F.plainAttrs_list PySem.F.slot_list_append PySem.F.type_list_append mt_append (pv 1) (pa_cons (pe_joined1 (pe_fmt18 T.dig (pv 3))) pa_nil))))))
      (pss_cons (ps_expr (pe_bm PySem.F.plainAttrs_list PySem.F.slot_list_append PySem.F.type_list_append mt_append (pv 1) (pa_cons (pe_callTy call_str_int (by rfl) T.b_str (by decide +kernel) (pa_cons (pv 2) pa_nil)) pa_nil)))
      (pss_one (ps_ret (pe_join pe_str (pe_revL (pv 1))))))))), fn_body 3 rfl so rr q ?_⟩
    intro Z
    try dsimp only [cxOf, Cx.nox, Cx.wish]
    have cf_Turn := T.clf_Turn
    have cf_Rose := T.clf_Rose
    have cf_Walk := T.clf_Walk
    have nb : n < 10 ^ (18 * 70) := Nat.lt_of_lt_of_le hn Dg.big_le
    array_get_dec
    refine ws_while (fun m ρ S' => ∃ (l j : Nat) (ps : List Str) (lw : Dl.R), ρ = [.dat (.int (n : Nat)), .mu S.length, .dat (.int (l : Nat)), lw] ∧ S' = S ++ [.ls (ps.map D.str)] ∧ Dg.Behind n l ps ∧ (∀ p ∈ ps, p.length = 18) ∧ ps.length + j = 70 ∧ l < 10 ^ (18 * j) ∧ l ≤ n ∧ m = l) n ⟨n, 70, [], .no, rfl, rfl, Dg.behind0, nofun, rfl, nb, Nat.le_refl _, rfl⟩ ?_
    rintro m ρ S' ⟨l, j, ps, lw, rfl, rfl, hB, h18, hj, hl, hln, rfl⟩
    have lz : ((m : Nat) : Int).natAbs < 2 ^ 4000 := by
      rw [Int.natAbs_natCast]
      exact Nat.lt_of_le_of_lt hln hn
    have d1 : (m : Int) / 1000000000000000000 = ((m / 10 ^ 18 : Nat) : Int) := by omega
    have d2 : (m : Int) % 1000000000000000000 = ((m % 10 ^ 18 : Nat) : Int) := by omega
    have lt18 : m % 10 ^ 18 < 10 ^ 18 := Nat.mod_lt _ (by decide)
    array_get_dec
    · rename_i hb
      have hb : 10 ^ 18 ≤ m := by omega
      have hj1 : 1 < j := by
        rcases Nat.lt_or_ge 1 j with h | h
        · exact h
        · have : 10 ^ (18 * j) ≤ 10 ^ 18 := Nat.pow_le_pow_right (by decide) (by omega)
          omega
      have hl2 : m / 10 ^ 18 < 10 ^ (18 * (j - 1)) := by
        rw [Nat.div_lt_iff_lt_mul (by decide), ← Nat.pow_add]
        have : 18 * (j - 1) + 18 = 18 * j := by omega
        rw [this]
        exact hl
      refine c_divmodW (divp_ok (by decide) (Nat.le_trans (bits_le lz) (Nat.le_add_left _ _))) ?_
      rw [d1, d2]
      array_get_dec
      refine ⟨by omega, ?_, appTo_last (by rw [List.length_map]; omega) ?_⟩
      · rw [Int.natAbs_natCast]
        exact Nat.lt_of_lt_of_le lt18 (Nat.pow_le_pow_right (by decide) (by decide))
      refine ⟨m / 10 ^ 18, Nat.div_lt_self (by omega) (by decide), m / 10 ^ 18, j - 1, ps ++ [zpad 18 ((m % 10 ^ 18 : Nat) : Int)], .dat (.int ((m % 10 ^ 18 : Nat) : Int)), rfl, by rw [List.map_append]; rfl, Dg.behind1 hB hb, fun p hp => ?_, ?_, hl2, Nat.le_trans (Nat.div_le_self _ _) hln, rfl⟩
      · rcases List.mem_append.mp hp with hp | hp
        · exact h18 p hp
        · rw [List.mem_singleton.mp hp]
          exact Dg.zpad_len lt18
      · rw [List.length_append, List.length_singleton]
        omega
    · rename_i hb
      have hb : m < 10 ^ 18 := by omega
      have lg : ((m : Nat) : Int).natAbs.log2 < 1920 := by
        rw [Int.natAbs_natCast]
        rcases Nat.eq_zero_or_pos m with h | h
        · subst h
          decide
        · exact (Nat.log2_lt (by omega)).mpr (Nat.lt_of_lt_of_le hb (Nat.le_trans (by decide : 10 ^ 18 ≤ 2 ^ 60) (Nat.pow_le_pow_right (by decide) (by decide))))
      refine c_strI lg ?_
      refine appTo_last (by rw [List.length_map]; omega) ?_
      array_get_dec
      refine ⟨_, ls_mu st_last, ?_⟩
      refine jn_of (ys := (ps ++ [Dg.num m]).reverse) (.inl (.inl ?_)) ?_ ?_
      · rw [List.map_reverse, List.map_append]
        rfl
      · have hs : ((ps ++ [Dg.num m]).map (·.length)).sum = 18 * ps.length + (Dg.num m).length := by
          rw [List.map_append, List.sum_append, Dg.sum18 ps h18]
          simp
        have hnl := Dg.num_len (k := 18) (by decide) hb
        rw [List.map_reverse, List.sum_reverse, hs]
        show _ + _ * 0 ≤ _
        omega
      · have e : Txt.join (Str.ofString "") (ps ++ [Dg.num m]).reverse = Dg.num n := Dg.behind_end hB
        rw [e]
        exact rr_cut rfl k
theorem ok_are_figures {dvs : List V} {kws : List (Str × V)} (F : FunD K "are_figures" "are_figures" (defArgs s_are_figures) (defBody s_are_figures) (defScope s_are_figures) dvs kws f fd) (T : Txt K mg)  : FnOk P w K mg base CX0 1 f fd ["text"] (lift K sd_arefig) := by
  refine F.ok sc_are_figures (fun vs H Q E h => ?_) (fun cdv A outer s H vs Q E hr h => ?_)
  · obtain ⟨A, S, rs, Φ, so, rr, h, _⟩ := h
    obtain ⟨z, rfl, hz, k⟩ := h
    exact (Paired.length rr).symm
  · obtain ⟨A, S, rs, Φ, so, rr, h, q⟩ := h
    obtain ⟨z, rfl, hz, k⟩ := h
    refine ⟨_, PSs.nox (pss_one (ps_ret (pe_and (pe_cmpR op_ne (pv 0) pe_str (nomark _)) (pe_one (pe_callB (cr_all rfl) (by rfl) T.b_all (by decide +kernel) (pa_cons (pe_lc (own := [("sign", 1)]) (g := (gName 1)) (tt := tYes) rfl sc_are_figures.nd (pi_str (pv 0)) (blkOk_by (own := [("sign", 1)]) (N := ["text", "sign"]) (sc := defScope s_are_figures) (by decide +kernel)) (fun _ _ _ _ _ => (pg_name (i := 1) sc_are_figures.nd rfl (Or.inl rfl))) (fun _ _ _ _ _ => pts_nil) (fun _ _ _ _ _ => (pe_cmpR op_in_sign (pv 1) (pe_gs (by rfl) T.g_FIGURES) (by rfl)))) pa_nil)))))), fn_body 1 rfl so rr q ?_⟩
    intro Z
    try dsimp only [cxOf, Cx.nox, Cx.wish]
    have cf_Turn := T.clf_Turn
    have cf_Rose := T.clf_Rose
    have cf_Walk := T.clf_Walk
    unfold figB at k
    have zl : (cs z).length ≤ 200 := by rw [← cs_len]; exact hz
    array_get_dec
    · rename_i hb
      rw [decide_eq_false hb] at k
      refine lc_signs (z := z) (fun c => .bl (isF c)) (by omega) (fun c _ S0 => gc_name (by decide) fun Φ k => ?_) ?_
      · array_get_dec
        exact k
      array_get_dec
      refine ⟨rfl, ?_⟩
      array_get_dec
      refine c_all (bs := (cs z).map isF) (by rw [List.map_map]; rfl) ?_
      rw [List.all_map]
      exact rr_dat k
    · rename_i hb
      rw [decide_eq_true hb] at k
      exact rr_dat k
theorem ok_number_of {dvs : List V} {kws : List (Str × V)} (F : FunD K "number_of" "number_of" (defArgs s_number_of) (defBody s_number_of) (defScope s_number_of) dvs kws f fd) (T : Txt K mg)  : FnOk P w K mg base CX0 1 f fd ["figures"] (lift K sd_numof) := by
  refine F.ok sc_number_of (fun vs H Q E h => ?_) (fun cdv A outer s H vs Q E hr h => ?_)
  · obtain ⟨A, S, rs, Φ, so, rr, h, _⟩ := h
    obtain ⟨z, rfl, hz, hf, k⟩ := h
    exact (Paired.length rr).symm
  · obtain ⟨A, S, rs, Φ, so, rr, h, q⟩ := h
    obtain ⟨z, rfl, hz, hf, k⟩ := h
    refine ⟨_, PSs.nox (pss_cons (ps_set (i := 1) sc_number_of.nd rfl (Or.inl rfl) pe_int)
      (pss_cons (ps_for PassesOwn.never rfl (pi_str (pv 0)) (pg_name (i := 2) sc_number_of.nd rfl (Or.inl rfl)) (pss_one (ps_set (i := 1) sc_number_of.nd rfl (Or.inl rfl) (pe_op op_add (pe_op op_mulW pe_int (pv 1)) (pe_callTy call_int_str (by rfl) T.b_int (by decide +kernel) (pa_cons (pv 2) pa_nil))))))
      (pss_one (ps_ret (pv 1))))), fn_body 2 rfl so rr q ?_⟩
    intro Z
    try dsimp only [cxOf, Cx.nox, Cx.wish]
    have cf_Turn := T.clf_Turn
    have cf_Rose := T.clf_Rose
    have cf_Walk := T.clf_Walk
    have zl : (cs z).length ≤ 200 := by rw [← cs_len]; exact hz
    have fa := fig_all hf
    array_get_dec
    refine ⟨fun i ρ S' => ∃ v : Dl.R, ρ = [.dat (.str z), .dat (.int (valL ((cs z).take i) : Nat)), v] ∧ S' = S, ⟨_, rfl, rfl⟩, ⟨?_, ?_⟩⟩
    · rintro i d ρ S' hd ⟨v, rfl, rfl⟩
      unfold Dl.signs at hd
      rw [List.getElem?_map] at hd
      cases q : (cs z)[i]? with
      | none => rw [q] at hd; cases hd
      | some c =>
        rw [q] at hd
        cases hd
        have li := (List.getElem?_eq_some_iff.mp q).1
        have hc : isF c = true := List.all_eq_true.mp fa c (List.mem_of_getElem? q)
        have ta : ((cs z).take i).all isF = true := List.all_eq_true.mpr fun x hx => List.all_eq_true.mp fa x (List.mem_of_mem_take hx)
        have tl := valL_lt _ ta
        rw [List.length_take, Nat.min_eq_left (by omega)] at tl
        have tb : ((valL ((cs z).take i) : Nat) : Int).natAbs < 2 ^ 1000 := by
          rw [Int.natAbs_natCast]
          refine Nat.lt_of_lt_of_le tl (Nat.le_trans (Nat.pow_le_pow_left (show 10 ≤ 2 ^ 4 by decide) i) ?_)
          rw [← Nat.pow_mul]
          exact Nat.pow_le_pow_right (by decide) (by omega)
        array_get_dec
        refine c_intS (fig_int (fig_one hc) (by show 1 ≤ 4300; decide)) (by show 1 ≤ 640; decide) ?_
        array_get_dec
        refine ⟨.dat (.str ⟨#[c]⟩), ?_, rfl⟩
        have e : (cs z).take (i + 1) = (cs z).take i ++ [c] := by rw [List.take_succ, q]; rfl
        have e2 : valL (cs (⟨#[c]⟩ : Str)) = c - 48 := by
          show 0 * 10 + (c - 48) = _
          omega
        rw [e, valL_snoc, e2]
        have e3 : (10 : Int) * ((valL ((cs z).take i) : Nat) : Int) + ((c - 48 : Nat) : Int) = ((valL ((cs z).take i) * 10 + (c - 48) : Nat) : Int) := by omega
        rw [e3]
        rfl
    · rintro ρ S' ⟨v, rfl, rfl⟩
      have e : (Dl.signs z).length = (cs z).length := by unfold Dl.signs; rw [List.length_map]
      array_get_dec
      rw [e, List.take_length]
      exact rr_dat k
end
end K41

namespace K41
open PySem PySem.Spec PyProof.Rows L2 Evl Dl
/-! ### how turns, roses and winds compare -/
def likeR (R S : Rs.Rose) : Bool := decide (R.ws = S.ws) && (decide ((R.h : Int) = (S.h : Int)) && decide (R.b = S.b))
def gR : D → D → Bool → Prop := fun x y b => ∃ R S : Rs.Rose, x = roseD R ∧ y = roseD S ∧ Rs.Ok R ∧ Rs.Ok S ∧ b = likeR R S
theorem like_self (R : Rs.Rose) : likeR R R = true := by
  unfold likeR
  rw [decide_eq_true rfl, decide_eq_true rfl, decide_eq_true rfl]
  rfl
section
variable {K : PySem.W.Frag} {H : Hp} {v : V}
theorem strs_un {X : Addr → Prop} : ∀ {as bs : List Str} {xs : List V}, RepL K X H (as.map .str) xs → RepL K X H (bs.map .str) xs → as = bs
  | [], [], _, _, _ => rfl
  | [], _ :: _, _, .nil, h => by cases h
  | _ :: _, [], _, .cons _ _, h => by cases h
  | a :: as, b :: bs, _, .cons h t, h2 => by
    cases h2 with
    | cons h' t' =>
      obtain e := rep_str h
      obtain e' := rep_str h'
      rw [e] at e'
      injection e' with e'
      rw [e', strs_un t t']
theorem txs_inj : ∀ {as bs : List (List Nat)}, txs as = txs bs → as = bs
  | [], [], _ => rfl
  | [], _ :: _, h => by cases h
  | _ :: _, [], h => by cases h
  | a :: as, b :: bs, h => by
    have h : ofL a :: txs as = ofL b :: txs bs := h
    injection h with h1 h2
    rw [ofL_inj h1, txs_inj h2]
theorem self_R : ∀ (H : Hp) (a : Addr) (d e : D) (b : Bool), Rep0 K H d (.ref a) → Rep0 K H e (.ref a) → gR d e b → b = true := by
  rintro H a d e b hd he ⟨R, S, rfl, rfl, _, _, rfl⟩
  cases hd with
  | @ins a dx _ _ gs n hx rf =>
    cases he with
    | @ins _ dx' _ _ gs' n' hx' rf' =>
      rw [hx] at hx'
      injection hx' with hx'
      injection hx' with _ _ e
      subst e
      cases rf with
      | cons r1 rf =>
        cases rf with
        | cons r2 rf =>
          cases rf with
          | cons r3 rf =>
            cases rf' with
            | cons s1 rf' =>
              cases rf' with
              | cons s2 rf' =>
                cases rf' with
                | cons s3 rf' =>
                  have eb := turn_un r3 s3
                  obtain e2 := rep_int r2
                  obtain f2 := rep_int s2
                  rw [e2] at f2
                  injection f2 with f2
                  have ew : R.ws = S.ws := by
                    cases r1 with
                    | ftup _ z1 l1 =>
                      cases s1 with
                      | ftup _ z2 l2 =>
                        have := FzT.un z1 z2
                        subst this
                        exact txs_inj (strs_un l1 l2)
                  unfold likeR
                  rw [decide_eq_true ew, decide_eq_true f2, decide_eq_true eb]
                  rfl
end
/-! ### rows of words -/
theorem eqOk_strs : ∀ zs : List Str, eqOkL (zs.map .str) = true
  | [] => by rw [List.map_nil, eqOkL]
  | n :: ns => by rw [List.map_cons, eqOkL, eqOk, eqOk_strs ns]; rfl
theorem pyL_strs : ∀ zs : List Str, pyL (zs.map .str) = zs.map .str
  | [] => by rw [List.map_nil, pyL]; rfl
  | n :: ns => by rw [List.map_cons, pyL, pyD, pyL_strs ns]; rfl
theorem eqvs : ∀ as bs : List (List Nat), PyData.eqvAll ((txs as).map PyData.str) ((txs bs).map PyData.str) = decide (as = bs)
  | [], [] => by
    show PyData.eqvAll [] [] = _
    simp [PyData.eqvAll]
  | [], b :: r => by
    show PyData.eqvAll [] (.str (ofL b) :: _) = _
    simp [PyData.eqvAll]
  | a :: r, [] => by
    show PyData.eqvAll (.str (ofL a) :: _) [] = _
    simp [PyData.eqvAll]
  | a :: r, b :: r2 => by
    show PyData.eqvAll (.str (ofL a) :: (txs r).map PyData.str) (.str (ofL b) :: (txs r2).map PyData.str) = _
    simp only [PyData.eqvAll, PyData.eqv]
    rw [eqvs r r2, Bool.eq_iff_iff, Bool.and_eq_true, beq_iff_eq, decide_eq_true_eq, decide_eq_true_eq, List.cons.injEq]
    exact ⟨fun h => ⟨ofL_inj h.1, h.2⟩, fun h => ⟨congrArg ofL h.1, h.2⟩⟩
theorem isL_lt {c : Nat} (h : isL c = true) : c < 1114112 := by
  have q : ∀ c ∈ cs (Str.ofString "abcdefghijklmnopqrstuvwxyz"), c < 1114112 := by decide +kernel
  exact q c (of_decide_eq_true h)
theorem word_okS {wd : List Nat} (h : Rs.WordL wd) : PyData.strOk (ofL wd) = true := by
  unfold PyData.strOk
  rw [Array.all_eq_true_iff_forall_mem]
  intro c hc
  exact decide_eq_true (isL_lt (h.2.2 c (Array.mem_toList_iff.mpr hc)))
theorem lay_words : ∀ ws : List (List Nat), (∀ wd ∈ ws, Rs.WordL wd) → PyData.canLayAll0 ((txs ws).map PyData.str) = true ∧ PyData.depthAll ((txs ws).map PyData.str) = 0
  | [], _ => by
    show PyData.canLayAll0 [] = true ∧ PyData.depthAll [] = 0
    simp [PyData.canLayAll0, PyData.depthAll]
  | a :: r, h => by
    obtain ⟨i1, i2⟩ := lay_words r fun wd m => h wd (List.mem_cons_of_mem _ m)
    have o := word_okS (h a List.mem_cons_self)
    show PyData.canLayAll0 (.str (ofL a) :: (txs r).map PyData.str) = true ∧ PyData.depthAll (.str (ofL a) :: (txs r).map PyData.str) = 0
    simp [PyData.canLayAll0, PyData.depthAll, PyData.canLay0, PyData.depth, o, i1, i2]
theorem shaped_words {ws : List (List Nat)} (h : ∀ wd ∈ ws, Rs.WordL wd) : SeqAt.shaped (.tuple ((txs ws).map PyData.str)) = true := by
  obtain ⟨i1, i2⟩ := lay_words ws h
  show (PyData.canLay0 (.tuple ((txs ws).map PyData.str)) && decide (PyData.depth (.tuple ((txs ws).map PyData.str)) ≤ 64)) = true
  simp [PyData.canLay0, PyData.depth, i1, i2]
theorem o_eqW {K : PySem.W.Frag} {S : Store} {Φ : Dl.R → Prop} {as bs : List (List Nat)} (ha : ∀ wd ∈ as, Rs.WordL wd) (hb : ∀ wd ∈ bs, Rs.WordL wd) (k : Φ (.dat (.bl (decide (as = bs))))) : Op2 K (rEqD K) (.dat (.ftup ((txs as).map .str))) (.dat (.ftup ((txs bs).map .str))) S Φ := by
  have e : ∀ ws : List (List Nat), pyD (.ftup ((txs ws).map .str)) = .tuple ((txs ws).map PyData.str) := fun ws => by rw [pyD, pyL_strs]
  refine o_eqD (by rw [eqOk]; exact eqOk_strs _) (by rw [eqOk]; exact eqOk_strs _) (by rw [e]; exact shaped_words ha) (by rw [e]; exact shaped_words hb) ?_
  rw [e, e, PyData.eqv, eqvs]
  exact k
theorem wind_l : (Str.ofString "Wind(").length = 5 := by decide +kernel
theorem at_l : (Str.ofString " at ").length = 4 := by decide +kernel
theorem par_l : (Str.ofString ")").length = 1 := by decide +kernel
section
variable {P : Program} {w : World} {K : PySem.W.Frag} {mg : Str → Option Value} {base : Heap} {f : Addr} {fd : FuncData}
theorem ok_Rose___eq__ {dvs : List V} {kws : List (Str × V)} (F : FunD K "__eq__" "Rose.__eq__" (defArgs s_Rose___eq__) (defBody s_Rose___eq__) (defScope s_Rose___eq__) dvs kws f fd) (T : Txt K mg) (D_Turn___eq__ : Dm P w K mg base CX0 1 "Turn" "__eq__" ["self", "other"] [[]] (lift K (sdE K "Turn" gT))) : FnOk P w K mg base CX0 3 f fd ["self", "other"] (lift K (sdE K "Rose" gR)) := by
  refine F.ok sc_Rose___eq__ (fun vs H Q E h => ?_) (fun cdv A outer s H vs Q E hr h => ?_)
  · obtain ⟨A, S, rs, Φ, so, rr, h, _⟩ := h
    obtain ⟨x, y, b, rfl, hg, k⟩ := h
    exact (Paired.length rr).symm
  · obtain ⟨A, S, rs, Φ, so, rr, h, q⟩ := h
    obtain ⟨x, y, b, rfl, hg, k⟩ := h
    refine ⟨_, PSs.nox (pss_one (ps_ret (pe_and (pe_callB call_isi (by rfl) T.b_isinstance (by decide +kernel) (pa_cons (pv 1) (pa_cons (pe_glob (v := .ref (He.ga K "Rose")) (by rfl) T.g_Rose rfl) pa_nil))) (pe_and (pe_cmpR (op_eqD hr.units) (pe_fld (pv 0) rfl) (pe_fld (pv 1) rfl) (nomark _)) (pe_and (pe_cmpR op_eq (pe_fld (pv 0) rfl) (pe_fld (pv 1) rfl) (nomark _)) (pe_one (pe_cmpR (op_eqE (rcA T.clf_Turn T.m_Turn___eq__ D_Turn___eq__) (hr.mono (by first | decide | omega))) (pe_fld (pv 0) rfl) (pe_fld (pv 1) rfl) (nomark _)))))))), fn_body 0 rfl so rr q ?_⟩
    intro Z
    try dsimp only [cxOf, Cx.nox, Cx.wish]
    have cf_Turn := T.clf_Turn
    have cf_Rose := T.clf_Rose
    have cf_Walk := T.clf_Walk
    rcases hg with ⟨_, _, _, _, R, S', rfl, rfl, ok, ok', rfl⟩ | ⟨⟨fs, rfl⟩, rfl, he⟩
    · unfold likeR at k
      array_get_dec
      refine o_eqW ok.wd ok'.wd ?_
      array_get_dec
      · rename_i h1 h2
        rw [decide_eq_true h1, decide_eq_true h2] at k
        exact o_cmp (cmp_same ⟨_, _, rfl, rfl, rfl⟩) (rr_dat k)
      · rename_i h1 h2
        rw [decide_eq_true h1, decide_eq_false h2] at k
        exact rr_dat k
      · rename_i h1
        rw [decide_eq_false h1] at k
        exact rr_dat k
    · array_get_dec
      refine c_isE cf_Rose he ?_
      array_get_dec
      exact rr_dat k
end
end K41

namespace K41
open PySem PySem.Spec PyProof.Rows L2 Evl Dl
/-! walks, made of good steps alone -/
abbrev Stp := Rs.One × Nat
@[reducible] def stpD (R : Rs.Rose) (s : Stp) : D := .tup [.str (ofL (Rs.nameOf R s.1)), .int (s.2 : Nat)]
@[reducible] def walkD (R : Rs.Rose) (ss : List Stp) : D := .ins "Walk" [("rose", roseD R), ("steps", .tup (ss.map (stpD R)))]
structure Gs (R : Rs.Rose) (ss : List Stp) : Prop where
  ok : Rs.Ok R
  len : ss.length ≤ 256
  good : ∀ s ∈ ss, Rs.Good R s.1 ∧ s.2 < 2 ^ 150
theorem Gs.app {R : Rs.Rose} {ss tt : List Stp} (h : Gs R ss) (h' : Gs R tt) (l : ss.length + tt.length ≤ 256) : Gs R (ss ++ tt) :=
  ⟨h.ok, by rw [List.length_append]; exact l, fun s m => (List.mem_append.mp m).elim (h.good s) (h'.good s)⟩
theorem Gs.nil {R : Rs.Rose} (ok : Rs.Ok R) : Gs R [] := ⟨ok, by decide, nofun⟩
theorem wx_put (a b : D) : putD "steps" b (putD "rose" a []) = ([("rose", a), ("steps", b)] : List (Str × D)) := by
  have n1 : ¬ (("rose" : Str) = "steps") := by decide +kernel
  simp [putD, n1]
theorem sel {R : Rs.Rose} {ss : List Stp} {i : Nat} {d : D} (h : (ss.map (stpD R))[i]? = some d) : ∃ s, ss[i]? = some s ∧ s ∈ ss ∧ d = stpD R s := by
  rw [List.getElem?_map] at h
  cases e : ss[i]? with
  | none => rw [e] at h; cases h
  | some s =>
    rw [e] at h
    cases h
    exact ⟨s, rfl, List.mem_of_getElem? e, rfl⟩
/-- the place of a name -/
def pl (R : Rs.Rose) (o : Rs.One) : Nat := (Rs.placeT R o).toNat
theorem pl_eq {R : Rs.Rose} (ok : Rs.Ok R) (o : Rs.One) : Rs.placeT R o = (pl R o : Nat) ∧ pl R o < Rs.size R := by
  have sl := ok.size_le
  have h0 : 0 ≤ Rs.placeT R o := Int.emod_nonneg _ (by omega)
  have h1 : Rs.placeT R o < (Rs.size R : Nat) := Int.emod_lt_of_pos _ (by omega)
  unfold pl
  omega
def addT (R : Rs.Rose) (g : List Int) (s : Stp) : List Int := g.set (pl R s.1) (g.getD (pl R s.1) 0 + (s.2 : Int))
/-- what is gone to each place -/
def totR (R : Rs.Rose) (ss : List Stp) : List Int := ss.foldl (addT R) (List.replicate (Rs.size R) 0)
theorem fold_len (R : Rs.Rose) : ∀ (ss : List Stp) (g : List Int), (ss.foldl (addT R) g).length = g.length
  | [], _ => rfl
  | s :: ss, g => by
    rw [List.foldl_cons, fold_len R ss]
    unfold addT
    rw [List.length_set]
theorem tot_len (R : Rs.Rose) (ss : List Stp) : (totR R ss).length = Rs.size R := by
  unfold totR
  rw [fold_len, List.length_replicate]
theorem tot_take {R : Rs.Rose} {ss : List Stp} {i : Nat} {s : Stp} (h : ss[i]? = some s) : totR R (ss.take (i + 1)) = addT R (totR R (ss.take i)) s := by
  unfold totR
  rw [List.take_add_one, h, List.foldl_append]
  rfl
def lenS (ss : List Stp) : Int := (ss.map fun s => (s.2 : Int)).sum
def stW (R : Rs.Rose) (s : Stp) : Str := ofL (Rs.nameOf R s.1) ++ Str.ofString " " ++ Dg.num s.2
def textW (R : Rs.Rose) (ss : List Stp) : Str := if ss = [] then Str.ofString "-" else Txt.join (Str.ofString ", ") (ss.map (stW R))
theorem name_len {R : Rs.Rose} (ok : Rs.Ok R) {o : Rs.One} (g : Rs.Good R o) : (ofL (Rs.nameOf R o)).length ≤ 11 := by
  have w6 := (name_word ok g).2.1
  have gl := g.len
  have h5 := ok.h5
  rw [ofL_len]
  show (Rs.word R o.1 ++ o.2).length ≤ 11
  rw [List.length_append]
  omega
theorem num100 {n : Nat} (h : n < 2 ^ 150) : (Dg.num n).length ≤ 150 := Dg.num_len (by decide) (Nat.lt_of_lt_of_le h (Nat.pow_le_pow_left (by decide) 150))
theorem stW_len {R : Rs.Rose} {ss : List Stp} (h : Gs R ss) {s : Stp} (m : s ∈ ss) : (stW R s).length ≤ 200 := by
  have n1 := name_len h.ok (h.good s m).1
  have n2 := num100 (h.good s m).2
  unfold stW
  rw [Str.length_append, Str.length_append]
  have : (Str.ofString " ").length = 1 := by decide +kernel
  omega
theorem piled_le (R : Rs.Rose) : ∀ (ss : List Stp), (∀ s ∈ ss, (stW R s).length ≤ 200) → piled (ss.map (stW R)) ≤ ss.length * 202
  | [], _ => Nat.le_refl _
  | s :: ss, h => by
    have i := piled_le R ss fun t m => h t (List.mem_cons_of_mem _ m)
    have hs := h s List.mem_cons_self
    rw [List.map_cons, piled_cons, List.length_cons]
    omega
theorem sum_le (R : Rs.Rose) : ∀ (ss : List Stp), (∀ s ∈ ss, (stW R s).length ≤ 200) → ((ss.map (stW R)).map (·.length)).sum ≤ ss.length * 200
  | [], _ => Nat.le_refl _
  | s :: ss, h => by
    have i := sum_le R ss fun t m => h t (List.mem_cons_of_mem _ m)
    have hs := h s List.mem_cons_self
    rw [List.map_cons, List.map_cons, List.sum_cons, List.length_cons]
    omega
def sd_isname : Sd := fun rs S Φ => ∃ (R : Rs.Rose) (o : Rs.One), rs = [.dat (roseD R), .dat (.str (ofL (Rs.nameOf R o)))] ∧ Rs.Ok R ∧ Rs.Good R o ∧ Φ (.bl true) S
def sd_isstep : Sd := fun rs S Φ => ∃ (R : Rs.Rose) (s : Stp), rs = [.dat (roseD R), .dat (stpD R s)] ∧ Rs.Ok R ∧ Rs.Good R s.1 ∧ Φ (.bl true) S
def sd_walk : Sd := fun rs S Φ => ∃ (R : Rs.Rose) (ss : List Stp) (d : D), rs = [.dat (roseD R), .dat d] ∧ (d = .tup (ss.map (stpD R)) ∨ (d = .non ∧ ss = [])) ∧ Gs R ss ∧ Φ (walkD R ss) S
def sd_klen : Sd := fun rs S Φ => ∃ (R : Rs.Rose) (ss : List Stp), rs = [.dat (walkD R ss)] ∧ Φ (.int (ss.length : Nat)) S
def sd_tots : Sd := fun rs S Φ => ∃ (R : Rs.Rose) (ss : List Stp), rs = [.dat (walkD R ss)] ∧ Gs R ss ∧ Φ (.tup ((totR R ss).map .int)) S
def sd_leng : Sd := fun rs S Φ => ∃ (R : Rs.Rose) (ss : List Stp), rs = [.dat (walkD R ss)] ∧ Gs R ss ∧ Φ (.int (lenS ss)) S
def sd_stext : Sd := fun rs S Φ => ∃ (R : Rs.Rose) (ss : List Stp), rs = [.dat (.tup (ss.map (stpD R)))] ∧ Gs R ss ∧ Φ (.str (textW R ss)) S
def sd_kstr : Sd := fun rs S Φ => ∃ (R : Rs.Rose) (ss : List Stp), rs = [.dat (walkD R ss)] ∧ Gs R ss ∧ Φ (.str (textW R ss)) S
def sd_krepr : Sd := fun rs S Φ => ∃ (R : Rs.Rose) (ss : List Stp), rs = [.dat (walkD R ss)] ∧ Gs R ss ∧ Φ (.str (Str.ofString "Walk(" ++ textW R ss ++ Str.ofString ")")) S
def sd_then : Sd := fun rs S Φ => ∃ (R : Rs.Rose) (ss : List Stp) (s : Stp), rs = [.dat (walkD R ss), .dat (.str (ofL (Rs.nameOf R s.1))), .dat (.int (s.2 : Nat))] ∧ Gs R (ss ++ [s]) ∧ Φ (walkD R (ss ++ [s])) S
def sd_alike : Sd := fun rs S Φ => ∃ R : Rs.Rose, rs = [.dat (roseD R), .dat (roseD R)] ∧ Rs.Ok R ∧ Φ .non S
def sd_joined : Sd := fun rs S Φ => ∃ (R : Rs.Rose) (ss tt : List Stp), rs = [.dat (walkD R ss), .dat (walkD R tt)] ∧ Gs R (ss ++ tt) ∧ Φ (walkD R (ss ++ tt)) S
theorem like_selfR (R : Rs.Rose) : likeR R R = true := by
  unfold likeR
  simp
theorem rep_one (n : Nat) (d : D) : (List.replicate n [d]).flatten = List.replicate n d := by
  induction n with
  | zero => rfl
  | succ n ih => rw [List.replicate_succ, List.flatten_cons, ih]; rfl
theorem textW_len {R : Rs.Rose} {ss : List Stp} (h : Gs R ss) : (textW R ss).length ≤ 60000 := by
  unfold textW
  split
  · decide +kernel
  · rename_i hne
    have l := piled_le R ss fun s m => stW_len h m
    have hl := h.len
    have e := join_length_add (ss.map (stW R)) (fun z => hne (List.map_eq_nil_iff.mp z))
    rw [TL.join_eq]
    have e2 : (Str.join (Str.ofString ", ") (ss.map (stW R))).length + 2 = piled (ss.map (stW R)) := e
    omega
section
variable {P : Program} {w : World} {K : PySem.W.Frag} {mg : Str → Option Value} {base : Heap} {f : Addr} {fd : FuncData}
theorem ok_is_name_of {dvs : List V} {kws : List (Str × V)} (F : FunD K "is_name_of" "is_name_of" (defArgs s_is_name_of) (defBody s_is_name_of) (defScope s_is_name_of) dvs kws f fd) (T : Txt K mg) (D_place_told : Df P w K mg base CX0 4 "place_told" ["rose", "name"] [[]] (lift K sd_ptold)) : FnOk P w K mg base CX0 5 f fd ["rose", "thing"] (lift K sd_isname) := by
  refine F.ok sc_is_name_of (fun vs H Q E h => ?_) (fun cdv A outer s H vs Q E hr h => ?_)
  · obtain ⟨A, S, rs, Φ, so, rr, h, _⟩ := h
    obtain ⟨R, o, rfl, ok, g, k⟩ := h
    exact (Paired.length rr).symm
  · obtain ⟨A, S, rs, Φ, so, rr, h, q⟩ := h
    obtain ⟨R, o, rfl, ok, g, k⟩ := h
    refine ⟨_, PSs.nox (pss_cons (ps_try_thru0 (pss_one (ps_expr (pe_df D_place_told (us := []) List.mem_cons_self (hr.mono (by first | decide | omega)) (by rfl) (pa_cons (pv 0) (pa_cons (pv 1) pa_nil))))))
      (pss_one (ps_ret pe_bl))), fn_body 0 rfl so rr q ?_⟩
    intro Z
    try dsimp only [cxOf, Cx.nox, Cx.wish]
    have cf_Turn := T.clf_Turn
    have cf_Rose := T.clf_Rose
    have cf_Walk := T.clf_Walk
    array_get_dec
    refine ⟨R, o, rfl, ok, g, ?_⟩
    array_get_dec
    exact rr_dat k
theorem ok_is_step {dvs : List V} {kws : List (Str × V)} (F : FunD K "is_step" "is_step" (defArgs s_is_step) (defBody s_is_step) (defScope s_is_step) dvs kws f fd) (T : Txt K mg) (D_is_whole : Df P w K mg base CX0 1 "is_whole" ["thing"] [[]] (lift K sd_is_whole)) (D_is_name_of : Df P w K mg base CX0 5 "is_name_of" ["rose", "thing"] [[]] (lift K sd_isname)) : FnOk P w K mg base CX0 6 f fd ["rose", "thing"] (lift K sd_isstep) := by
  refine F.ok sc_is_step (fun vs H Q E h => ?_) (fun cdv A outer s H vs Q E hr h => ?_)
  · obtain ⟨A, S, rs, Φ, so, rr, h, _⟩ := h
    obtain ⟨R, s, rfl, ok, g, k⟩ := h
    exact (Paired.length rr).symm
  · obtain ⟨A, S, rs, Φ, so, rr, h, q⟩ := h
    obtain ⟨R, s, rfl, ok, g, k⟩ := h
    refine ⟨_, PSs.nox (pss_cons (ps_if (PW.pt (pw_or (pt_not (pt_val (pe_callB call_isi (by rfl) T.b_isinstance (by decide +kernel) (pa_cons (pv 1) (pa_cons (pe_bltn (v := .ty "tuple") (by rfl) T.b_tuple (by decide +kernel) rfl) pa_nil))))) (pw_or1 (pt_cmpR op_ne (pe_callB call_len_seq (by rfl) T.b_len (by decide +kernel) (pa_cons (pv 1) pa_nil)) pe_int (nomark _))))) (pss_one (ps_ret pe_bl)) pss_nil)
      (pss_cons (ps_asg (pv 1) (pg_tup rfl (pgs_cons (pg_name (i := 2) sc_is_step.nd rfl (Or.inl rfl)) (pgs_cons (pg_name (i := 3) sc_is_step.nd rfl (Or.inl rfl)) pgs_nil))))
      (pss_one (ps_ret (pe_and (pe_df D_is_whole (us := []) List.mem_cons_self (hr.mono (by first | decide | omega)) (by rfl) (pa_cons (pv 3) pa_nil)) (pe_and (pe_cmpR op_ge (pv 3) pe_int (nomark _)) (pe_one (pe_df D_is_name_of (us := []) List.mem_cons_self (hr.mono (by first | decide | omega)) (by rfl) (pa_cons (pv 0) (pa_cons (pv 2) pa_nil)))))))))), fn_body 2 rfl so rr q ?_⟩
    intro Z
    try dsimp only [cxOf, Cx.nox, Cx.wish]
    have cf_Turn := T.clf_Turn
    have cf_Rose := T.clf_Rose
    have cf_Walk := T.clf_Walk
    array_get_dec
    refine is_whole_int ?_
    array_get_dec
    exact ⟨R, s.1, rfl, ok, g, rr_dat k⟩
theorem ok_Walk_init {dvs : List V} {kws : List (Str × V)} (F : FunD K "__init__" "Walk.__init__" (defArgs s_Walk_init) (defBody s_Walk_init) (defScope s_Walk_init) dvs kws f fd) (T : Txt K mg) (D_is_step : Df P w K mg base CX0 6 "is_step" ["rose", "thing"] [[]] (lift K sd_isstep)) : FnOk P w K mg base CX0 7 f fd ["self", "rose", "steps"] (liftI0 K "Walk" sd_walk) := by
  refine F.ok sc_Walk_init (fun vs H Q E h => ?_) (fun cdv A outer s H vs Q E hr h => ?_)
  · obtain ⟨A, S, rs, Φ, a, ws, rfl, so, rr, h, _⟩ := h
    obtain ⟨R, ss, d, rfl, hd, g, k⟩ := h
    exact congrArg (· + 1) (Paired.length rr).symm
  · obtain ⟨A, S, rs, Φ, a, ws, rfl, so, rr, h, q⟩ := h
    obtain ⟨R, ss, d, rfl, hd, g, k⟩ := h
    refine ⟨_, PSs.nox (pss_cons (ps_set (i := 3) sc_Walk_init.nd rfl (Or.inl rfl) (pe_ifExp (pt_cmpR op_isN (pv 2) pe_non (nomark _)) (pe_tup pa_nil) (pv 2)))
      (pss_cons (ps_if (PW.pt (pw_or (pt_not (pt_val (pe_callB call_isi (by rfl) T.b_isinstance (by decide +kernel) (pa_cons (pv 3) (pa_cons (pe_bltn (v := .ty "tuple") (by rfl) T.b_tuple (by decide +kernel) rfl) pa_nil))))) (pw_or1 (pt_cmpR op_gt (pe_callB call_len_seq (by rfl) T.b_len (by decide +kernel) (pa_cons (pv 3) pa_nil)) (pe_gi (by rfl) T.g_MOST_STEPS) (nomark _))))) (pss_one ps_never) pss_nil)
      (pss_cons (ps_for PassesOwn.never rfl (pi_enumT (by rfl) T.b_enumerate (pa_cons (pv 3) pa_nil)) (pg_tup rfl (pgs_cons (pg_name (i := 4) sc_Walk_init.nd rfl (Or.inl rfl)) (pgs_cons (pg_name (i := 5) sc_Walk_init.nd rfl (Or.inl rfl)) pgs_nil))) (pss_one (ps_if (pt_not (pt_val (pe_df D_is_step (us := []) List.mem_cons_self (hr.mono (by first | decide | omega)) (by rfl) (pa_cons (pv 1) (pa_cons (pv 5) pa_nil))))) (pss_one ps_never) pss_nil)))
      (pss_cons (ps_fld (pv 0) (pv 1) rfl)
      (pss_one (ps_fld (pv 0) (pv 3) rfl)))))), fn_bodyI (Ψ := noX) (E := E0) 3 rfl so rr q (fun _ _ _ _ _ p => p.elim) ?_⟩
    intro Z hz
    try dsimp only [cxOf, Cx.nox, Cx.wish]
    have cf_Turn := T.clf_Turn
    have cf_Rose := T.clf_Rose
    have cf_Walk := T.clf_Walk
    have gl := g.len
    have ml : (ss.map (stpD R)).length = ss.length := List.length_map _
    rcases hd with rfl | ⟨rfl, rfl⟩
    · array_get_dec
      · omega
      refine wi_enumT ?_
      array_get_dec
      refine ⟨_, _, rfl, tp_t, ?_⟩
      refine ⟨fun i ρ' S' => ∃ v1 v2, ρ' = [.mu S.length, .dat (roseD R), .dat (.tup (ss.map (stpD R))), .dat (.tup (ss.map (stpD R))), v1, v2] ∧ S' = S ++ [.ob "Walk" []], ⟨_, _, rfl, rfl⟩, ⟨?_, ?_⟩⟩
      · rintro i d ρ' S' hd ⟨v1, v2, rfl, rfl⟩
        obtain ⟨x, hx, rfl⟩ := en_get hd
        obtain ⟨s, _, sm, rfl⟩ := sel hx
        array_get_dec
        refine ⟨R, s, rfl, g.ok, (g.good s sm).1, ?_⟩
        array_get_dec
        exact ⟨_, _, rfl, rfl⟩
      · rintro ρ' S' ⟨v1, v2, rfl, rfl⟩
        array_get_dec
        exact ⟨_, _, _, rfl, rfl, by rw [wx_put]; exact k⟩
    · array_get_dec
      refine wi_enumT ?_
      array_get_dec
      refine ⟨_, _, rfl, tp_t, ?_⟩
      refine ⟨fun i ρ' S' => ∃ v1 v2, ρ' = [.mu S.length, .dat (roseD R), .dat .non, .dat (.tup []), v1, v2] ∧ S' = S ++ [.ob "Walk" []], ⟨_, _, rfl, rfl⟩, ⟨?_, ?_⟩⟩
      · rintro i d ρ' S' hd ⟨v1, v2, rfl, rfl⟩
        obtain ⟨x, hx, rfl⟩ := en_get hd
        cases hx
      · rintro ρ' S' ⟨v1, v2, rfl, rfl⟩
        array_get_dec
        exact ⟨_, _, _, rfl, rfl, by rw [wx_put]; exact k⟩
end
end K41

namespace K41
open PySem PySem.Spec PyProof.Rows L2 Evl Dl
@[reducible] def pairD (a : Int × Int) : D := .tup [.int a.1, .int a.2]
/-- the law's own rose -/
@[reducible] def lroseD (R : Rs.Rose) : D := .tup [.ftup ((txs R.ws).map .str), .int (R.h : Nat), pairD R.b]
def sd_low : Sd := fun rs S Φ => ∃ t u : Int, rs = [.dat (.int t), .dat (.int u)] ∧ 0 ≤ t ∧ 0 < u ∧ u.natAbs < 2 ^ 4000 ∧ Φ (pairD (Tn.low t u)) S
def sd_part : Sd := fun rs S Φ => ∃ t u : Int, rs = [.dat (.int t), .dat (.int u)] ∧ 0 < u ∧ u.natAbs < 2 ^ 4000 ∧ Φ (pairD (Tn.part t u)) S
theorem part_go {t u : Int} {S : Store} {Φ : D → Store → Prop} (h : 0 < u) (hz : u.natAbs < 2 ^ 4000) (k : Φ (pairD (Tn.part t u)) S) : sd_part [.dat (.int t), .dat (.int u)] S Φ := ⟨t, u, rfl, h, hz, k⟩
def sd_pair (g : Int × Int → Int × Int → Int × Int) : Sd := fun rs S Φ => ∃ a b : Int × Int, rs = [.dat (pairD a), .dat (pairD b)] ∧ Sn 1000 a ∧ Sn 1000 b ∧ Φ (pairD (g a b)) S
theorem pair_go {g : Int × Int → Int × Int → Int × Int} {a b : Int × Int} {S : Store} {Φ : D → Store → Prop} (ha : Sn 1000 a) (hb : Sn 1000 b) (k : Φ (pairD (g a b)) S) : sd_pair g [.dat (pairD a), .dat (pairD b)] S Φ := ⟨a, b, rfl, ha, hb, k⟩
def sd_power : Sd := fun rs S Φ => ∃ n : Nat, rs = [.dat (.int (n : Nat))] ∧ n ≤ 5 ∧ Φ (.int ((2 ^ n : Nat) : Int)) S
theorem power_go {n : Nat} {S : Store} {Φ : D → Store → Prop} (h : n ≤ 5) (k : Φ (.int ((2 ^ n : Nat) : Int)) S) : sd_power [.dat (.int (n : Nat))] S Φ := ⟨n, rfl, h, k⟩
def sd_words : Sd := fun rs S Φ => ∃ (k m : Nat), rs = [.mu k, .dat (.int (m : Nat))] ∧ m ≤ 8 ∧ Has k S ∧ ∀ (ws : List (List Nat)) (S1 : Store), Pk k S S1 → ws.length = m → ws.Nodup → (∀ z ∈ ws, Rs.WordL z) → Φ (.ftup ((txs ws).map .str)) S1
def sd_begin : Sd := fun rs S Φ => ∃ k : Nat, rs = [.mu k] ∧ Has k S ∧ ∀ (a : Int × Int) (S1 : Store), Pk k S S1 → Sn 100 a → Φ (pairD a) S1
def sd_lrose : Sd := fun rs S Φ => ∃ (k : Nat) (most : Int), rs = [.mu k, .dat (.int most)] ∧ Has k S ∧ ∀ (R : Rs.Rose) (S1 : Store), Pk k S S1 → Rs.Ok R → Sn 100 R.b → Φ (lroseD R) S1
theorem lrose_go {k : Nat} {most : Int} {S : Store} {Φ : D → Store → Prop} (hp : Has k S) (q : ∀ (R : Rs.Rose) (S1 : Store), Pk k S S1 → Rs.Ok R → Sn 100 R.b → Φ (lroseD R) S1) : sd_lrose [.mu k, .dat (.int most)] S Φ := ⟨k, most, rfl, hp, q⟩
def sd_lsize : Sd := fun rs S Φ => ∃ R : Rs.Rose, rs = [.dat (lroseD R)] ∧ Rs.Ok R ∧ Φ (.int (Rs.size R : Nat)) S
theorem lsize_go {R : Rs.Rose} {S : Store} {Φ : D → Store → Prop} (ok : Rs.Ok R) (k : Φ (.int (Rs.size R : Nat)) S) : sd_lsize [.dat (lroseD R)] S Φ := ⟨R, rfl, ok, k⟩
def sd_lturn : Sd := fun rs S Φ => ∃ (R : Rs.Rose) (i : Int), rs = [.dat (lroseD R), .dat (.int i)] ∧ Rs.Ok R ∧ Φ (pairD (Tn.on R.b (Tn.part i (Rs.size R : Nat)))) S
def sd_lmarks : Sd := fun rs S Φ => ∃ (t : Int) (m : Nat), rs = [.dat (.int t), .dat (.int (m : Nat))] ∧ m ≤ 5 ∧ Mk.good t (m : Nat) = true ∧ Φ (.str (ofL (Mk.mk m t))) S
def sd_lnames : Sd := fun rs S Φ => ∃ (R : Rs.Rose) (p : Nat), rs = [.dat (lroseD R), .dat (.int (p : Nat))] ∧ Rs.Ok R ∧ p < Rs.size R ∧ Φ (.tup ((txs (Rs.names R p)).map .str)) S
def sd_house : Sd := fun rs S Φ => ∃ R : Rs.Rose, rs = [.dat (lroseD R)] ∧ Rs.Ok R ∧ Φ (roseD R) S
theorem house_go {R : Rs.Rose} {S : Store} {Φ : D → Store → Prop} (ok : Rs.Ok R) (k : Φ (roseD R) S) : sd_house [.dat (lroseD R)] S Φ := ⟨R, rfl, ok, k⟩
def sd_isturn : Sd := fun rs S Φ => ∃ (a b : Int × Int), rs = [.dat (turnD a), .dat (pairD b)] ∧ Φ (.bl (decide (a = b))) S
theorem at_map {α : Type} {L : List α} {f : α → D} {j : Int} {a : α} (h : atI L j = some a) : atI (L.map f) j = some (f a) := by
  unfold L2.atI at h ⊢
  rw [List.length_map]
  cases e : ixN L.length j with
  | none => rw [e] at h; cases h
  | some n =>
    rw [e] at h
    have h : L[n]? = some a := h
    show (L.map f)[n]? = some (f a)
    rw [List.getElem?_map, h]
    rfl
theorem own_ix {j : Int} (h0 : 0 ≤ j) (h1 : j < 12) : atI (ownS.map D.str) j = some (.str (go j)) ∧ Word (go j) := by
  obtain ⟨v, hv, ev⟩ := at_some (L := ownS) h0 h1
  have e : go j = v := by
    unfold L2.go
    rw [ev]
    rfl
  rw [e]
  exact ⟨at_map ev, own_word v hv⟩
theorem go_all : ∀ i ∈ List.range 12, ∀ j ∈ List.range 12, go (i : Int) = go (j : Int) → i = j := by decide +kernel
theorem go_inj {i j : Int} (h0 : 0 ≤ i) (h1 : i < 12) (g0 : 0 ≤ j) (g1 : j < 12) (h : go i = go j) : i = j := by
  obtain ⟨a, rfl⟩ := Int.eq_ofNat_of_zero_le h0
  obtain ⟨b, rfl⟩ := Int.eq_ofNat_of_zero_le g0
  have := go_all a (List.mem_range.mpr (by omega)) b (List.mem_range.mpr (by omega)) h
  omega
theorem gl_all : ∀ i ∈ List.range 26, ∀ j ∈ List.range 26, gl (i : Int) = gl (j : Int) → i = j := by decide +kernel
theorem gl_inj {i j : Int} (h0 : 0 ≤ i) (h1 : i < 26) (g0 : 0 ≤ j) (g1 : j < 26) (h : gl i = gl j) : i = j := by
  obtain ⟨a, rfl⟩ := Int.eq_ofNat_of_zero_le h0
  obtain ⟨b, rfl⟩ := Int.eq_ofNat_of_zero_le g0
  have := gl_all a (List.mem_range.mpr (by omega)) b (List.mem_range.mpr (by omega)) h
  omega
theorem nodup_rng {α : Type} {m : Nat} {g : Nat → α} (h : ∀ i j, i < j → j < m → g i ≠ g j) : ((List.range m).map g).Nodup := by
  refine List.pairwise_map.mpr ?_
  exact List.Pairwise.imp_of_mem (fun ha hb hab => h _ _ hab (List.mem_range.mp hb)) List.pairwise_lt_range
theorem rep_cs (c n : Nat) : (List.replicate n (cs ⟨#[c]⟩)).flatten = List.replicate n c := by
  show (List.replicate n [c]).flatten = _
  induction n with
  | zero => rfl
  | succ n ih =>
    rw [List.replicate_succ, List.flatten_cons, ih]
    rfl
theorem txs_rng (m : Nat) (g : Nat → List Nat) : (txs ((List.range m).map g)).map D.str = (List.range m).map fun i => D.str (ofL (g i)) := by
  unfold txs
  rw [List.map_map, List.map_map]
  rfl
theorem lmk_len (n : Int) : ∀ i, (Rs.lmk i n).length = i
  | 0 => rfl
  | i + 1 => congrArg (· + 1) (lmk_len n i)
section
variable {P : Program} {w : World} {K : PySem.W.Frag} {mg : Str → Option Value} {base : Heap} {f : Addr} {fd : FuncData}
end
end K41
namespace K41
open PySem PySem.Spec PyProof.Rows L2 Evl Dl
theorem rng_el {m i : Nat} {d : D} (h : (rng0 (m : Int))[i]? = some d) : i < m ∧ d = .int (i : Nat) := by
  unfold rng0 at h
  rw [Int.toNat_natCast] at h
  obtain ⟨l, e⟩ := List.getElem?_eq_some_iff.mp h
  rw [List.length_map, List.length_range] at l
  rw [List.getElem_map, List.getElem_range] at e
  exact ⟨l, e.symm⟩
theorem rng_l (m : Nat) : (rng0 (m : Int)).length = m := by
  unfold rng0
  rw [List.length_map, List.length_range, Int.toNat_natCast]
theorem map_el {α : Type} {m i : Nat} {g : Nat → α} {e : α} (h : ((List.range m).map g)[i]? = some e) : e = g i := by
  rw [List.getElem?_map] at h
  by_cases l : i < m
  · rw [List.getElem?_range l] at h
    exact (Option.some.inj h).symm
  · rw [List.getElem?_eq_none (by rw [List.length_range]; omega)] at h
    cases h
theorem joinL_ones : ∀ zs : List Nat, TL.joinL [] (zs.map fun c => [c]) = zs
  | [] => rfl
  | [_] => rfl
  | a :: b :: r => by
    show [a] ++ ([] ++ TL.joinL [] ((b :: r).map fun c => [c])) = _
    rw [joinL_ones (b :: r)]
    rfl
theorem join_cs (zs : List Nat) : cs (Txt.join (Str.ofString "") (zs.map fun c => (⟨#[c]⟩ : Str))) = zs := by
  rw [TL.join_eq]
  show TL.tl _ = _
  rw [TL.tl_join, List.map_map]
  exact joinL_ones zs
theorem sum_ones (zs : List Nat) : ((zs.map fun c => (⟨#[c]⟩ : Str)).map (·.length)).sum = zs.length := by
  induction zs with
  | nil => rfl
  | cons a r ih =>
    rw [List.map_cons, List.map_cons, List.sum_cons, ih, List.length_cons]
    show 1 + _ = _
    omega
def sd_words1 : Sd := fun rs S Φ => ∃ (k m : Nat), rs = [.mu k, .dat (.int (m : Nat))] ∧ m ≤ 8 ∧ Ha1 k S ∧ ∀ (ws : List (List Nat)) (S1 : Store), Pk1 k S S1 → ws.length = m → ws.Nodup → (∀ z ∈ ws, Rs.WordL z) → Φ (.ftup ((txs ws).map .str)) S1
section
variable {P : Program} {w : World} {K : PySem.W.Frag} {mg : Str → Option Value} {base : Heap} {f : Addr} {fd : FuncData}
theorem ok_l_words {dvs : List V} {kws : List (Str × V)} (F : FunD K "_law_words" "_law_words" (defArgs s_l_words) (defBody s_l_words) (defScope s_l_words) dvs kws f fd) (T : Txt K mg) (D_l_take : Df P w K mg base CX0 1 "_law_take" ["_law_pool", "_law_many"] [[]] (lift K sd_take1)) : FnOk P w K mg base CX0 2 f fd ["_law_pool", "_law_many"] (lift K sd_words1) := by
  refine F.ok sc_l_words (fun vs H Q E h => ?_) (fun cdv A outer s H vs Q E hr h => ?_)
  · obtain ⟨A, S, rs, Φ, so, rr, h, _⟩ := h
    obtain ⟨p, m, rfl, m8, hp, k⟩ := h
    exact (Paired.length rr).symm
  · obtain ⟨A, S, rs, Φ, so, rr, h, q⟩ := h
    obtain ⟨p, m, rfl, m8, hp, k⟩ := h
    refine ⟨_, PSs.nox (pss_cons (ps_set (i := 2) sc_l_words.nd rfl (Or.inr rfl) (pe_lst (pa_cons pe_str (pa_cons pe_str (pa_cons pe_str (pa_cons pe_str (pa_cons pe_str (pa_cons pe_str (pa_cons pe_str (pa_cons pe_str (pa_cons pe_str (pa_cons pe_str (pa_cons pe_str (pa_cons pe_str pa_nil))))))))))))))
      (pss_cons (ps_asg (pe_tup (pa_cons (pe_df D_l_take (us := []) List.mem_cons_self (hr.mono (by first | decide | omega)) (by rfl) (pa_cons (pv 0) (pa_cons pe_int pa_nil))) (pa_cons (pe_df D_l_take (us := []) List.mem_cons_self (hr.mono (by first | decide | omega)) (by rfl) (pa_cons (pv 0) (pa_cons pe_int pa_nil))) pa_nil))) (pg_tup rfl (pgs_cons (pg_name (i := 3) sc_l_words.nd rfl (Or.inl rfl)) (pgs_cons (pg_name (i := 4) sc_l_words.nd rfl (Or.inr rfl)) pgs_nil))))
      (pss_cons (ps_set (i := 5) sc_l_words.nd rfl (Or.inr rfl) (pe_ix ix_list (pe_lst (pa_cons pe_int (pa_cons pe_int (pa_cons pe_int (pa_cons pe_int pa_nil))))) (pe_df D_l_take (us := []) List.mem_cons_self (hr.mono (by first | decide | omega)) (by rfl) (pa_cons (pv 0) (pa_cons pe_int pa_nil))) (fun _ _ => rfl)))
      (pss_cons (ps_if (pt_cmpR op_eq (pv 3) pe_int (nomark _)) (pss_one (ps_ret (pe_callTy call_tupF (by rfl) T.b_tuple (by decide +kernel) (pa_cons (pe_lc (own := [("_law_k", 6)]) (g := (gName 6)) (tt := tYes) rfl sc_l_words.nd (pi_range1 (by rfl) T.b_range (pa_cons (pv 1) pa_nil)) (blkOk_by (own := [("_law_k", 6)]) (N := ["_law_pool", "_law_many", "_law_own", "_law_way", "_law_at", "_law_step", "_law_k", "_law_letters", "_law_size", "_law_stem", "_law_put", "_law_first"]) (sc := defScope s_l_words) (by decide +kernel)) (fun _ _ _ _ _ => (pg_name (i := 6) sc_l_words.nd rfl (Or.inl rfl))) (fun _ _ _ _ _ => pts_nil) (fun _ _ _ _ _ => (pe_ix (r := rIxL K) ix_list (pv 2) (pe_op op_mod (pe_op op_add (pv 4) (pe_op op_mulW (pv 5) (pv 6))) pe_int) (fun _ _ => rfl)))) pa_nil)))) pss_nil)
      (pss_cons (ps_set (i := 7) sc_l_words.nd rfl (Or.inr rfl) pe_str)
      (pss_cons (ps_set (i := 8) sc_l_words.nd rfl (Or.inl rfl) (pe_df D_l_take (us := []) List.mem_cons_self (hr.mono (by first | decide | omega)) (by rfl) (pa_cons (pv 0) (pa_cons pe_int pa_nil))))
      (pss_cons (ps_set (i := 9) sc_l_words.nd rfl (Or.inr rfl) (pe_join pe_str (pe_lc (own := [("_law_k", 6)]) (g := (gName 6)) (tt := tYes) rfl sc_l_words.nd (pi_range1 (by rfl) T.b_range (pa_cons (pv 8) pa_nil)) (blkOk_by (own := [("_law_k", 6)]) (N := ["_law_pool", "_law_many", "_law_own", "_law_way", "_law_at", "_law_step", "_law_k", "_law_letters", "_law_size", "_law_stem", "_law_put", "_law_first"]) (sc := defScope s_l_words) (by decide +kernel)) (fun _ _ _ _ _ => (pg_name (i := 6) sc_l_words.nd rfl (Or.inl rfl))) (fun _ _ _ _ _ => pts_nil) (fun _ _ _ _ _ => (pe_ix (r := rIxS) ix_str (pv 7) (pe_df D_l_take (us := []) List.mem_cons_self (hr.mono (by first | decide | omega)) (by rfl) (pa_cons (pv 0) (pa_cons pe_int pa_nil))) (fun _ _ => rfl))))))
      (pss_cons (ps_asg (pe_tup (pa_cons (pe_df D_l_take (us := []) List.mem_cons_self (hr.mono (by first | decide | omega)) (by rfl) (pa_cons (pv 0) (pa_cons (pe_op op_add (pe_callB call_len_str (by rfl) T.b_len (by decide +kernel) (pa_cons (pv 9) pa_nil)) pe_int) pa_nil))) (pa_cons (pe_df D_l_take (us := []) List.mem_cons_self (hr.mono (by first | decide | omega)) (by rfl) (pa_cons (pv 0) (pa_cons pe_int pa_nil))) pa_nil))) (pg_tup rfl (pgs_cons (pg_name (i := 10) sc_l_words.nd rfl (Or.inr rfl)) (pgs_cons (pg_name (i := 11) sc_l_words.nd rfl (Or.inr rfl)) pgs_nil))))
      (pss_cons (ps_if (pt_cmpR op_eq (pv 3) pe_int (nomark _)) (pss_one (ps_ret (pe_callTy call_tupF (by rfl) T.b_tuple (by decide +kernel) (pa_cons (pe_lc (own := [("_law_k", 6)]) (g := (gName 6)) (tt := tYes) rfl sc_l_words.nd (pi_range1 (by rfl) T.b_range (pa_cons (pv 1) pa_nil)) (blkOk_by (own := [("_law_k", 6)]) (N := ["_law_pool", "_law_many", "_law_own", "_law_way", "_law_at", "_law_step", "_law_k", "_law_letters", "_law_size", "_law_stem", "_law_put", "_law_first"]) (sc := defScope s_l_words) (by decide +kernel)) (fun _ _ _ _ _ => (pg_name (i := 6) sc_l_words.nd rfl (Or.inl rfl))) (fun _ _ _ _ _ => pts_nil) (fun _ _ _ _ _ => (pe_op op_mulS (pe_ix (r := rIxS) ix_str (pv 7) (pe_op op_mod (pe_op op_add (pv 11) (pe_op op_fdivW (pv 6) pe_int)) pe_int) (fun _ _ => rfl)) (pe_op op_add pe_int (pe_op op_mod (pv 6) pe_int))))) pa_nil)))) pss_nil)
      (pss_one (ps_ret (pe_callTy call_tupF (by rfl) T.b_tuple (by decide +kernel) (pa_cons (pe_lc (own := [("_law_k", 6)]) (g := (gName 6)) (tt := tYes) rfl sc_l_words.nd (pi_range1 (by rfl) T.b_range (pa_cons (pv 1) pa_nil)) (blkOk_by (own := [("_law_k", 6)]) (N := ["_law_pool", "_law_many", "_law_own", "_law_way", "_law_at", "_law_step", "_law_k", "_law_letters", "_law_size", "_law_stem", "_law_put", "_law_first"]) (sc := defScope s_l_words) (by decide +kernel)) (fun _ _ _ _ _ => (pg_name (i := 6) sc_l_words.nd rfl (Or.inl rfl))) (fun _ _ _ _ _ => pts_nil) (fun _ _ _ _ _ => (pe_op op_add_str (pe_op op_add_str (pe_slice sl_str (pv 9) po_none (po_some (pv 10))) (pe_ix (r := rIxS) ix_str (pv 7) (pe_op op_mod (pe_op op_add (pv 11) (pe_op op_mulW (pv 5) (pv 6))) pe_int) (fun _ _ => rfl))) (pe_slice sl_str (pv 9) (po_some (pv 10)) po_none)))) pa_nil))))))))))))), fn_body 10 rfl so rr q ?_⟩
    intro Z
    try dsimp only [cxOf, Cx.nox, Cx.wish]
    have cf_Turn := T.clf_Turn
    have cf_Rose := T.clf_Rose
    have cf_Walk := T.clf_Walk
    have done : ∀ (g : Nat → Str) (S4 : Store), Pk1 p S S4 → (∀ i, i < m → Word (g i)) → (∀ i j, i < j → j < m → g i ≠ g j) → retR Φ S.length (.dat (.ftup ((List.range m).map fun i => D.str (g i)))) S4 := fun g S4 pk hg hne => by
      have e : ((List.range m).map fun i => D.str (g i)) = (txs ((List.range m).map fun i => cs (g i))).map D.str := by
        rw [txs_rng]
        refine List.map_congr_left fun i _ => ?_
        rw [ofL_cs]
      rw [e]
      refine rr_len pk.len (k _ S4 pk (by rw [List.length_map, List.length_range]) (nodup_rng fun i j hij hj ee => hne i j hij hj ?_) fun z hz => ?_)
      · rw [← ofL_cs (g i), ee, ofL_cs]
      · obtain ⟨i, hi, rfl⟩ := List.mem_map.mp hz
        exact hg i (List.mem_range.mp hi)
    array_get_dec
    refine take1_go hp (by omega) fun way S1 w0 w1 p1 => ?_
    array_get_dec
    refine take1_go (p1.has hp) (by omega) fun at_ S2 a0 a1 p2 => ?_
    array_get_dec
    refine take1_go (p2.has (p1.has hp)) (by omega) fun d S3 d0 d1 p3 => ?_
    obtain ⟨step, hs, es⟩ := at_ints (L := [1, 5, 7, 11]) d0 (by show d < 4; omega)
    have h3 := p3.has (p2.has (p1.has hp))
    have P3 := (p1.trans p2).trans p3
    have sv : step = 1 ∨ step = 5 ∨ step = 7 ∨ step = 11 := by
      simpa only [List.mem_cons, List.mem_nil_iff, or_false] using hs
    have sb : 0 ≤ step ∧ step ≤ 11 := by omega
    refine o_ixL es ?_
    array_get_dec
    · refine wp_lcM ?_
      array_get_dec
      refine rg1 (by omega) (by omega) ?_
      refine ⟨(List.range m).map fun i : Nat => D.str (go ((at_ + step * (i : Int)) % 12)), by rw [List.length_map, List.length_range, rng_l], by rw [rng_l]; omega, fun i d e S0 hd he => gc_name (by decide) fun Φ' k' => ?_, ?_⟩
      · obtain ⟨li, rfl⟩ := rng_el hd
        rw [map_el he] at k'
        array_get_dec
        exact o_ixL (own_ix (Int.emod_nonneg _ (by decide)) (Int.emod_lt_of_pos _ (by decide))).1 k'
      · array_get_dec
        refine done (fun i => go ((at_ + step * (i : Int)) % 12)) S3 P3 (fun i hi => (own_ix (Int.emod_nonneg _ (by decide)) (Int.emod_lt_of_pos _ (by decide))).2) (fun i j hij hj e => ?_)
        have := go_inj (Int.emod_nonneg _ (by decide)) (Int.emod_lt_of_pos _ (by decide)) (Int.emod_nonneg _ (by decide)) (Int.emod_lt_of_pos _ (by decide)) e
        rcases sv with rfl | rfl | rfl | rfl <;> omega
    · refine take1_go h3 (by omega) fun sz S4 s0 s1 p4 => ?_
      obtain ⟨sz, rfl⟩ := Int.eq_ofNat_of_zero_le s0
      have h4 := p4.has h3
      array_get_dec
      refine wp_lc ?_
      array_get_dec
      refine rg1 (by omega) (by omega) ?_
      refine ⟨fun i acc S' => Pk1 p S4 S' ∧ ∃ zs : List Nat, acc = (zs.map fun c => (⟨#[c]⟩ : Str)).map D.str ∧ zs.length = i ∧ ∀ c ∈ zs, isL c = true, ⟨h4.refl, [], rfl, rfl, nofun⟩, ⟨?_⟩, ?_⟩
      · rintro i d acc S' hd hl ⟨pk, zs, rfl, zl, za⟩
        obtain ⟨li, rfl⟩ := rng_el hd
        refine ⟨by rw [List.length_map, List.length_map]; omega, gc_name (by decide) ?_⟩
        array_get_dec
        refine take1_go (pk.has h4).app (by omega) fun e S5' e0 e1 p5' => ?_
        obtain ⟨S5, rfl, p5⟩ := Pk1.app (pk.has h4) p5'
        refine o_ixS (by decide +kernel) (gl_at e0 e1).1 ?_
        refine ⟨_, S5, rfl, rfl, by rw [p5.len, hl], pk.trans p5, zs ++ [gl e], by rw [List.map_append, List.map_append]; rfl, by rw [List.length_append, zl]; rfl, fun c hc => ?_⟩
        rcases List.mem_append.mp hc with hc | hc
        · exact za c hc
        · rw [List.mem_singleton.mp hc]
          exact (gl_at e0 e1).2
      · rintro acc S5 hl ⟨p5, zs, rfl, zl, za⟩
        rw [rng_l] at zl
        refine jn_of (ys := zs.map fun c => (⟨#[c]⟩ : Str)) sq_l ?_ ?_
        · rw [sum_ones]
          show zs.length + _ * 0 ≤ _
          omega
        have hst : cs (Txt.join (Str.ofString "") (zs.map fun c => (⟨#[c]⟩ : Str))) = zs := join_cs zs
        generalize Txt.join (Str.ofString "") (zs.map fun c => (⟨#[c]⟩ : Str)) = st at *
        have stl : st.length ≤ 5 := by
          rw [cs_len, hst]
          omega
        have stc : st.length = zs.length := by rw [cs_len, hst]
        have P5 := (P3.trans p4).trans p5
        have h5 := p5.has h4
        array_get_dec
        refine take1_go h5 (by omega) fun put S6 u0 u1 p6 => ?_
        array_get_dec
        refine take1_go (p6.has h5) (by omega) fun first S7 f0 f1 p7 => ?_
        obtain ⟨pn, rfl⟩ := Int.eq_ofNat_of_zero_le u0
        have P7 := (P5.trans p6).trans p7
        have ec : ∀ i : Nat, cs (takeS st pn ++ (⟨#[gl ((first + step * (i : Int)) % 26)]⟩ : Str) ++ dropS st pn) = zs.take pn ++ [gl ((first + step * (i : Int)) % 26)] ++ zs.drop pn := fun i => by
          rw [cs_app, cs_app, cs_take, cs_drop, hst]
          rfl
        have t1 : (takeS st pn).length ≤ 5 := by
          rw [cs_len, cs_take, List.length_take, ← cs_len]
          omega
        have t2 : (dropS st pn).length ≤ 5 := by
          rw [cs_len, cs_drop, List.length_drop, ← cs_len]
          omega
        array_get_dec
        · refine wp_lcM ?_
          array_get_dec
          refine rg1 (by omega) (by omega) ?_
          refine ⟨(List.range m).map fun i : Nat => D.str (ofL (List.replicate (1 + i % 6) (cs ⟨#[gl ((first + (i : Int) / 6) % 26)]⟩)).flatten), by rw [List.length_map, List.length_range, rng_l], by rw [rng_l]; omega, fun i d e S0 hd he => gc_name (by decide) fun Φ' k' => ?_, ?_⟩
          · obtain ⟨li, rfl⟩ := rng_el hd
            rw [map_el he] at k'
            have e6 : 1 + (i : Int) % 6 = ((1 + i % 6 : Nat) : Int) := by omega
            array_get_dec
            refine o_ixS (by decide +kernel) (gl_at (Int.emod_nonneg _ (by decide)) (Int.emod_lt_of_pos _ (by decide))).1 ?_
            array_get_dec
            rw [e6]
            exact o_mulSt (by show 1 ≤ 1000; decide) (by omega) k'
          · array_get_dec
            refine done (fun i => ofL (List.replicate (1 + i % 6) (cs ⟨#[gl ((first + (i : Int) / 6) % 26)]⟩)).flatten) S7 P7 (fun i hi => ?_) (fun i j hij hj e => ?_)
            · have hg := (gl_at (j := (first + (i : Int) / 6) % 26) (Int.emod_nonneg _ (by decide)) (Int.emod_lt_of_pos _ (by decide))).2
              generalize gl ((first + (i : Int) / 6) % 26) = c at *
              unfold Word
              rw [rep_cs, cs_ofL]
              refine ⟨?_, ?_, fun d hd => ?_⟩
              · rw [List.length_replicate]
                omega
              · rw [List.length_replicate]
                omega
              · rw [(List.mem_replicate.mp hd).2]
                exact hg
            · have e2 := congrArg cs e
              rw [rep_cs, rep_cs, cs_ofL, cs_ofL] at e2
              have l2 := congrArg List.length e2
              rw [List.length_replicate, List.length_replicate] at l2
              rw [← l2, Nat.add_comm 1, List.replicate_succ, List.replicate_succ] at e2
              have c2 := (List.cons.inj e2).1
              have := gl_inj (Int.emod_nonneg _ (by decide)) (Int.emod_lt_of_pos _ (by decide)) (Int.emod_nonneg _ (by decide)) (Int.emod_lt_of_pos _ (by decide)) c2
              omega
        · refine wp_lcM ?_
          array_get_dec
          refine rg1 (by omega) (by omega) ?_
          refine ⟨(List.range m).map fun i : Nat => D.str (takeS st pn ++ (⟨#[gl ((first + step * (i : Int)) % 26)]⟩ : Str) ++ dropS st pn), by rw [List.length_map, List.length_range, rng_l], by rw [rng_l]; omega, fun i d e S0 hd he => gc_name (by decide) fun Φ' k' => ?_, ?_⟩
          · obtain ⟨li, rfl⟩ := rng_el hd
            rw [map_el he] at k'
            array_get_dec
            rw [cut_take]
            array_get_dec
            refine o_ixS (by decide +kernel) (gl_at (Int.emod_nonneg _ (by decide)) (Int.emod_lt_of_pos _ (by decide))).1 ?_
            refine o_addS (by show _ + 1 ≤ _; omega) ?_
            array_get_dec
            rw [cut_drop]
            exact o_addS (by rw [Str.length_append]; show _ + 1 + _ ≤ _; omega) k'
          · array_get_dec
            refine done (fun i => takeS st pn ++ (⟨#[gl ((first + step * (i : Int)) % 26)]⟩ : Str) ++ dropS st pn) S7 P7 (fun i hi => ?_) (fun i j hij hj e => ?_)
            · have hg := (gl_at (j := (first + step * (i : Int)) % 26) (Int.emod_nonneg _ (by decide)) (Int.emod_lt_of_pos _ (by decide))).2
              unfold Word
              rw [ec]
              refine ⟨?_, ?_, fun d hd => ?_⟩
              · simp only [List.length_append, List.length_take, List.length_drop, List.length_cons, List.length_nil]
                omega
              · simp only [List.length_append, List.length_take, List.length_drop, List.length_cons, List.length_nil]
                omega
              · rw [List.mem_append, List.mem_append, List.mem_singleton] at hd
                rcases hd with (hd | rfl) | hd
                · exact za d (List.mem_of_mem_take hd)
                · exact hg
                · exact za d (List.mem_of_mem_drop hd)
            · have e2 := congrArg cs e
              rw [ec, ec] at e2
              have e3 := List.append_cancel_left (List.append_cancel_right e2)
              have := gl_inj (Int.emod_nonneg _ (by decide)) (Int.emod_lt_of_pos _ (by decide)) (Int.emod_nonneg _ (by decide)) (Int.emod_lt_of_pos _ (by decide)) (List.cons.inj e3).1
              rcases sv with rfl | rfl | rfl | rfl <;> omega
end
end K41

namespace K41
open PySem PySem.Spec PyProof.Rows L2 Evl Dl
/-! ### texts of rows -/
theorem cs_padded (x : Str) (l r c : Nat) : cs (PySem.Builtin.Str.padded x l r c) = List.replicate l c ++ cs x ++ List.replicate r c := padded_list x l r c
theorem cs_ljust (x : Str) (i : Int) : cs (Txt.ljust x i) = cs x ++ List.replicate (i.toNat - x.length) 32 := by
  unfold Txt.ljust
  split
  · rename_i h
    have e : i.toNat - x.length = 0 := by omega
    rw [e, List.replicate_zero, List.append_nil]
  · rw [cs_padded]
    rfl
theorem cs_zfill {x : Str} (i : Int) (h : (cs x).all isF = true) : cs (Txt.zfill x i) = List.replicate (i.toNat - x.length) 48 ++ cs x := by
  unfold Txt.zfill
  split
  · rename_i h
    have e : i.toNat - x.length = 0 := by omega
    rw [e]
    rfl
  · have hd : ∀ c, x.cps[0]? = some c → isF c = true := fun c e => by
      have m : c ∈ cs x := by
        show c ∈ x.cps.toList
        exact List.mem_of_getElem? (i := 0) (by rw [← Array.getElem?_toList] at e; exact e)
      exact List.all_eq_true.mp h c m
    unfold PySem.zfilled
    split
    · rename_i e
      have := hd _ e
      exact absurd this (by decide +kernel)
    · rename_i e
      have := hd _ e
      exact absurd this (by decide +kernel)
    · rw [cs_padded, List.replicate_zero, List.append_nil]
theorem jn_blank (n f : List Nat) : ∀ m, TL.joinL [32] (n :: (List.replicate m [] ++ [f])) = n ++ List.replicate (m + 1) 32 ++ f
  | 0 => by
    show n ++ ([32] ++ TL.joinL [32] [f]) = n ++ [32] ++ f
    rw [List.append_assoc]
    rfl
  | m + 1 => by
    have ih := jn_blank [] f m
    show n ++ ([32] ++ TL.joinL [32] ([] :: (List.replicate m [] ++ [f]))) = _
    rw [ih, List.replicate_succ (n := m + 1), List.nil_append, List.append_assoc]
    rfl
def figsW (z : Nat) (s : Stp) : Str := Txt.zfill (Dg.num s.2) (z : Int)
def rowW (R : Rs.Rose) (w z : Nat) (s : Stp) : Str := Txt.ljust (ofL (Rs.nameOf R s.1)) (w : Int) ++ Str.ofString " " ++ figsW z s
def logT (R : Rs.Rose) (w z : Nat) (ss : List Stp) : Str := Txt.join (Str.ofString "\n") (ss.map (rowW R w z))
theorem numL_rng : ∀ (n : Nat), ∀ c ∈ TL.numL n, 48 ≤ c ∧ c ≤ 57 := fun n c hc => by
  by_cases h : c < 48 ∨ 57 < c
  · exact absurd hc (TL.numL_free h)
  · omega
theorem num_isF (n : Nat) : (cs (Dg.num n)).all isF = true := by
  rw [List.all_eq_true]
  intro c hc
  have e : cs (Dg.num n) = TL.numL n := TL.tl_num n
  rw [e] at hc
  exact isF_rng.mpr (numL_rng n c hc)
theorem val_num (n : Nat) : valL (TL.numL n) = n := by
  induction n using Nat.strongRecOn with
  | ind n ih =>
    by_cases h : n < 10
    · rw [TL.numL_lt h]
      show 0 * 10 + (48 + n - 48) = n
      omega
    · rw [TL.numL_step (by omega), valL_snoc, ih (n / 10) (by omega)]
      omega
theorem val_zeros (l : List Nat) : ∀ k, valL (List.replicate k 48 ++ l) = valL l
  | 0 => rfl
  | k + 1 => by
    rw [List.replicate_succ, List.cons_append]
    exact val_zeros l k
theorem cs_figs (z : Nat) (s : Stp) : cs (figsW z s) = List.replicate (z - (Dg.num s.2).length) 48 ++ TL.numL s.2 := by
  unfold figsW
  rw [cs_zfill _ (num_isF s.2), Int.toNat_natCast, show cs (Dg.num s.2) = TL.numL s.2 from TL.tl_num s.2]
theorem figs_val (z : Nat) (s : Stp) : valL (cs (figsW z s)) = s.2 := by
  rw [cs_figs, val_zeros, val_num]
theorem figs_rng (z : Nat) (s : Stp) : ∀ c ∈ cs (figsW z s), 48 ≤ c ∧ c ≤ 57 := fun c hc => by
  rw [cs_figs] at hc
  rcases List.mem_append.mp hc with h | h
  · rw [(List.mem_replicate.mp h).2]
    omega
  · exact numL_rng _ c h
theorem figs_ne (z : Nat) (s : Stp) : cs (figsW z s) ≠ [] := fun e => by
  rw [cs_figs] at e
  exact TL.numL_ne _ (List.append_eq_nil_iff.mp e).2
theorem figs_B (z : Nat) (s : Stp) : figB (figsW z s) = true := by
  unfold figB
  rw [Bool.and_eq_true]
  refine ⟨?_, List.all_eq_true.mpr fun c hc => isF_rng.mpr (figs_rng z s c hc)⟩
  rw [decide_eq_false fun e => figs_ne z s (cs_emp.mp e)]
  rfl
theorem figs_len (z : Nat) (s : Stp) : (figsW z s).length = max z (Dg.num s.2).length := by
  rw [cs_len, cs_figs, List.length_append, List.length_replicate]
  have e : (TL.numL s.2).length = (Dg.num s.2).length := by rw [cs_len, show cs (Dg.num s.2) = TL.numL s.2 from TL.tl_num s.2]
  omega
theorem name_ch {R : Rs.Rose} (ok : Rs.Ok R) {o : Rs.One} (g : Rs.Good R o) : ∀ c ∈ Rs.nameOf R o, 60 ≤ c := fun c hc => by
  rcases List.mem_append.mp (show c ∈ Rs.word R o.1 ++ o.2 from hc) with h | h
  · have q := (name_word ok g).2.2 c h
    have l : ∀ c ∈ cs (Str.ofString "abcdefghijklmnopqrstuvwxyz"), 60 ≤ c := by decide +kernel
    exact l c (of_decide_eq_true q)
  · have q := g.ms c h
    rcases q with q | q <;> omega
theorem name_ne {R : Rs.Rose} (ok : Rs.Ok R) {o : Rs.One} (g : Rs.Good R o) : Rs.nameOf R o ≠ [] := fun e => by
  have w := (name_word ok g).1
  have := congrArg List.length (show Rs.word R o.1 ++ o.2 = [] from e)
  rw [List.length_append, List.length_nil] at this
  omega
theorem cs_inj {x y : Str} (h : cs x = cs y) : x = y := by rw [← ofL_cs x, h, ofL_cs]
theorem cs_row (R : Rs.Rose) (w z : Nat) (s : Stp) : cs (rowW R w z s) = Rs.nameOf R s.1 ++ List.replicate (w - (Rs.nameOf R s.1).length + 1) 32 ++ cs (figsW z s) := by
  unfold rowW
  rw [cs_app, cs_app, cs_ljust, Int.toNat_natCast, cs_ofL, ofL_len, show cs (Str.ofString " ") = [32] by decide +kernel, List.replicate_succ', List.append_assoc]
  simp only [List.append_assoc]
/-- the words of a row, blanks parted -/
def parts (R : Rs.Rose) (w z : Nat) (s : Stp) : List Str := ofL (Rs.nameOf R s.1) :: (List.replicate (w - (Rs.nameOf R s.1).length) (Str.ofString "") ++ [figsW z s])
theorem emp_cs : cs (Str.ofString "") = [] := by decide +kernel
theorem row_join (R : Rs.Rose) (w z : Nat) (s : Stp) : rowW R w z s = Txt.join (Str.ofString " ") (parts R w z s) := by
  refine cs_inj ?_
  rw [cs_row, TL.join_eq]
  show _ = TL.tl _
  rw [TL.tl_join, show TL.tl (Str.ofString " ") = [32] by decide +kernel]
  unfold parts
  rw [List.map_cons, List.map_append, List.map_replicate]
  exact (jn_blank _ _ _).symm
theorem split_row {R : Rs.Rose} (ok : Rs.Ok R) (w z : Nat) {s : Stp} (g : Rs.Good R s.1) : Txt.split (rowW R w z s) (Str.ofString " ") = parts R w z s := by
  rw [row_join]
  refine TL.split_join (s := 32) (S := []) (by decide +kernel) (by decide +kernel) (by unfold parts; simp) fun p hp => ?_
  unfold parts at hp
  rcases List.mem_cons.mp hp with rfl | hp
  · intro hm
    have := name_ch ok g 32 hm
    omega
  rcases List.mem_append.mp hp with hp | hp
  · rw [(List.mem_replicate.mp hp).2]
    show 32 ∉ cs (Str.ofString "")
    rw [emp_cs]
    exact List.not_mem_nil
  · rw [List.mem_singleton.mp hp]
    intro hm
    have := figs_rng z s 32 hm
    omega
theorem row_ch {R : Rs.Rose} (ok : Rs.Ok R) (w z : Nat) {s : Stp} (g : Rs.Good R s.1) : ∀ c ∈ cs (rowW R w z s), 32 ≤ c := fun c hc => by
  rw [cs_row] at hc
  rcases List.mem_append.mp hc with hc | hc
  · rcases List.mem_append.mp hc with hc | hc
    · have := name_ch ok g c hc
      omega
    · rw [(List.mem_replicate.mp hc).2]
      omega
  · have := figs_rng z s c hc
    omega
/-- the rows of a log -/
def rowsL (R : Rs.Rose) (w z : Nat) (ss : List Stp) : List Str := if ss = [] then [Str.ofString ""] else ss.map (rowW R w z)
theorem split_log {R : Rs.Rose} {ss : List Stp} (g : Gs R ss) (w z : Nat) : Txt.split (logT R w z ss) (Str.ofString "\n") = rowsL R w z ss := by
  unfold logT rowsL
  by_cases e : ss = []
  · subst e
    rw [if_pos rfl]
    exact TL.split_join (s := 10) (S := []) (parts := [Str.ofString ""]) (by decide +kernel) (by decide +kernel) (by simp) fun p hp => by
      rw [List.mem_singleton.mp hp]
      show 10 ∉ cs (Str.ofString "")
      rw [emp_cs]
      exact List.not_mem_nil
  · rw [if_neg e]
    refine TL.split_join (s := 10) (S := []) (by decide +kernel) (by decide +kernel) (fun z => e (List.map_eq_nil_iff.mp z)) fun p hp => ?_
    obtain ⟨s, hs, rfl⟩ := List.mem_map.mp hp
    intro hm
    have := row_ch g.ok w z (g.good s hs).1 10 hm
    omega
end K41

namespace K41
open PySem PySem.Spec PyProof.Rows L2 Evl Dl
theorem row_len {R : Rs.Rose} {ss : List Stp} (g : Gs R ss) (a b : Nat) (ha : a ≤ 20) (hb : b ≤ 20) {s : Stp} (sm : s ∈ ss) : (rowW R a b s).length ≤ 200 := by
  have n1 := name_len g.ok (g.good s sm).1
  have n2 := num100 (g.good s sm).2
  have fl := figs_len b s
  have sp : (Str.ofString " ").length = 1 := by decide +kernel
  have lj : (Txt.ljust (ofL (Rs.nameOf R s.1)) (a : Int)).length ≤ 40 := by
    rw [cs_len, cs_ljust, List.length_append, List.length_replicate, Int.toNat_natCast, ← cs_len]
    omega
  unfold rowW
  rw [Str.length_append, Str.length_append, sp, fl]
  omega
theorem row_sum {R : Rs.Rose} {ss : List Stp} (g : Gs R ss) (a b : Nat) (ha : a ≤ 20) (hb : b ≤ 20) : ((ss.map (rowW R a b)).map (·.length)).sum ≤ 256 * 200 := by
  have gen : ∀ tt : List Stp, (∀ s ∈ tt, s ∈ ss) → ((tt.map (rowW R a b)).map (·.length)).sum ≤ tt.length * 200 := fun tt => by
    induction tt with
    | nil => exact fun _ => Nat.le_refl _
    | cons s tt ih =>
      intro h
      have l := row_len g a b ha hb (h s List.mem_cons_self)
      have i := ih fun t m => h t (List.mem_cons_of_mem _ m)
      rw [List.map_cons, List.map_cons, List.sum_cons, List.length_cons]
      omega
  have q := gen ss fun _ h => h
  have := g.len
  omega
def widB : D → Bool
  | .int i => decide (0 ≤ i) && decide (i ≤ 20)
  | _ => false
def widN : D → Nat
  | .int i => i.toNat
  | _ => 0
def sd_showX : Sdx := fun rs S Φ Ψ => ∃ (R : Rs.Rose) (ss : List Stp) (d e : D), rs = [.dat (walkD R ss), .dat d, .dat e] ∧ Gs R ss ∧ ss.length ≤ 20 ∧ Wh d ∧ Wh e ∧ (widB d = false → Ψ "NoStep" [("thing", d)] S) ∧ (widB d = true → widB e = false → Ψ "NoStep" [("thing", e)] S) ∧ (widB d = true → widB e = true → Φ (.str (logT R (widN d) (widN e) ss)) S)
def sd_tells : Sd := fun rs S Φ => ∃ zs : List Str, rs = [.dat (.lst (zs.map .str))] ∧ Φ (.bl (match zs with | [] => false | z :: _ => !Txt.startswith z (Str.ofString "#"))) S
def sd_writ : Sd := fun rs S Φ => ∃ (R : Rs.Rose) (z : Nat) (s : Stp), rs = [.dat (roseD R), .dat (.lst [.str (ofL (Rs.nameOf R s.1)), .str (figsW z s)])] ∧ Rs.Ok R ∧ Rs.Good R s.1 ∧ (figsW z s).length ≤ 200 ∧ Φ (.bl (decide ((figsW z s).length ≤ 9))) S
section
variable {P : Program} {w : World} {K : PySem.W.Frag} {mg : Str → Option Value} {base : Heap} {f : Addr} {fd : FuncData}
theorem ok_NoStep_init (F : FunD K "__init__" "NoStep.__init__" (defArgs s_NoStep_init) (defBody s_NoStep_init) (defScope s_NoStep_init) [] [] f fd) (T : Txt K mg) : FnOk P w K mg base CX0 1 f fd ["self", "thing"] (sp_exi (He.ga K "NoStep") "thing") := by
  refine F.ok sc_NoStep_init (fun vs H Q E h => ?_) (fun cdv A outer s H vs Q E hr h => ?_)
  · obtain ⟨a, v, rfl, _⟩ := h
    rfl
  · obtain ⟨a, v, rfl, ha, k⟩ := h
    refine ⟨_, PSs.nox (pss_cons (ps_expr (pe_baseinit (by rfl) T.g_RoseError T.base_RoseError (pa_cons (pv 0) (pa_cons pe_str pa_nil))))
      (pss_one (ps_ost (pv 0) (pv 1)))), ?_⟩
    refine q_dropX (show tVeI K _ _ _ _ from x_cons (x_var rfl (x_cons (x_c (x_nil ⟨a, He.ga K "NoStep", _, rfl, by show 1 ≤ 1000; decide, T.oex_NoStep, ha, ?_⟩)))))
    exact ⟨_, rfl, _, rfl, a, He.ga K "NoStep", rfl, T.oex_NoStep, T.noat_NoStep, .inl ⟨ha, k⟩⟩
theorem ok_tells_step {dvs : List V} {kws : List (Str × V)} (F : FunD K "tells_step" "tells_step" (defArgs s_tells_step) (defBody s_tells_step) (defScope s_tells_step) dvs kws f fd) (T : Txt K mg)  : FnOk P w K mg base CX0 1 f fd ["words"] (lift K sd_tells) := by
  refine F.ok sc_tells_step (fun vs H Q E h => ?_) (fun cdv A outer s H vs Q E hr h => ?_)
  · obtain ⟨A, S, rs, Φ, so, rr, h, _⟩ := h
    obtain ⟨zs, rfl, k⟩ := h
    exact (Paired.length rr).symm
  · obtain ⟨A, S, rs, Φ, so, rr, h, q⟩ := h
    obtain ⟨zs, rfl, k⟩ := h
    refine ⟨_, PSs.nox (pss_one (ps_ret (pe_and (pe_cmpR op_gt (pe_callB call_len_seq (by rfl) T.b_len (by decide +kernel) (pa_cons (pv 0) pa_nil)) pe_int (nomark _)) (pe_one (pe_not (pe_bm PySem.F.plainAttrs_str PySem.F.slot_str_startswith PySem.F.type_str_startswith mt_startswith (pe_ix ix_list (pv 0) pe_int (fun _ _ => rfl)) (pa_cons (pe_gs (by rfl) T.g_REMARK) pa_nil))))))), fn_body 0 rfl so rr q ?_⟩
    intro Z
    try dsimp only [cxOf, Cx.nox, Cx.wish]
    have cf_Turn := T.clf_Turn
    have cf_Rose := T.clf_Rose
    have cf_Walk := T.clf_Walk
    cases zs with
    | nil =>
      array_get_dec
      all_goals first
        | exact rr_dat k
        | (rename_i hb; exact absurd hb (by decide))
    | cons z zs =>
      array_get_dec
      · refine wp_starts ?_
        array_get_dec
        refine ⟨z, rfl, ?_⟩
        array_get_dec
        refine ⟨_, rfl, ?_⟩
        array_get_dec
        exact rr_dat k
      · rename_i hb
        rw [List.map_cons, List.length_cons] at hb
        omega
theorem ok_is_written_step {dvs : List V} {kws : List (Str × V)} (F : FunD K "is_written_step" "is_written_step" (defArgs s_is_written_step) (defBody s_is_written_step) (defScope s_is_written_step) dvs kws f fd) (T : Txt K mg) (D_are_figures : Df P w K mg base CX0 1 "are_figures" ["text"] [[]] (lift K sd_arefig)) (D_is_name_of : Df P w K mg base CX0 5 "is_name_of" ["rose", "thing"] [[]] (lift K sd_isname)) : FnOk P w K mg base CX0 6 f fd ["rose", "words"] (lift K sd_writ) := by
  refine F.ok sc_is_written_step (fun vs H Q E h => ?_) (fun cdv A outer s H vs Q E hr h => ?_)
  · obtain ⟨A, S, rs, Φ, so, rr, h, _⟩ := h
    obtain ⟨R, z, s, rfl, ok, g, hl, k⟩ := h
    exact (Paired.length rr).symm
  · obtain ⟨A, S, rs, Φ, so, rr, h, q⟩ := h
    obtain ⟨R, z, s, rfl, ok, g, hl, k⟩ := h
    refine ⟨_, PSs.nox (pss_cons (ps_if (PW.pt (pw_or (pt_cmpR op_gt (pe_callB call_len_seq (by rfl) T.b_len (by decide +kernel) (pa_cons (pv 1) pa_nil)) pe_int (nomark _)) (pw_or1 (pt_not (pt_val (pe_df D_is_name_of (us := []) List.mem_cons_self (hr.mono (by first | decide | omega)) (by rfl) (pa_cons (pv 0) (pa_cons (pe_ix ix_list (pv 1) pe_int (fun _ _ => rfl)) pa_nil)))))))) (pss_one (ps_ret pe_bl)) pss_nil)
      (pss_one (ps_ret (pe_or (pe_cmpR op_eq (pe_callB call_len_seq (by rfl) T.b_len (by decide +kernel) (pa_cons (pv 1) pa_nil)) pe_int (nomark _)) (pe_one (pe_and (pe_df D_are_figures (us := []) List.mem_cons_self (hr.mono (by first | decide | omega)) (by rfl) (pa_cons (pe_ix ix_list (pv 1) pe_int (fun _ _ => rfl)) pa_nil)) (pe_one (pe_cmpR op_le (pe_callB call_len_str (by rfl) T.b_len (by decide +kernel) (pa_cons (pe_ix ix_list (pv 1) pe_int (fun _ _ => rfl)) pa_nil)) (pe_gi (by rfl) T.g_MOST_FIGURES) (nomark _))))))))), fn_body 0 rfl so rr q ?_⟩
    intro Z
    try dsimp only [cxOf, Cx.nox, Cx.wish]
    have cf_Turn := T.clf_Turn
    have cf_Rose := T.clf_Rose
    have cf_Walk := T.clf_Walk
    have fb := figs_B z s
    array_get_dec
    refine ⟨R, s.1, rfl, ok, g, ?_⟩
    array_get_dec
    refine ⟨_, rfl, hl, ?_⟩
    rw [fb]
    array_get_dec
    have e9 : decide (((figsW z s).length : Int) ≤ 9) = decide ((figsW z s).length ≤ 9) := decide_eq_decide.mpr (by omega)
    rw [e9]
    exact rr_dat k
theorem ok_show_log {dvs : List V} {kws : List (Str × V)} (F : FunD K "show_log" "show_log" (defArgs s_show_log) (defBody s_show_log) (defScope s_show_log) dvs kws f fd) (T : Txt K mg) (D_is_whole : Df P w K mg base CX0 1 "is_whole" ["thing"] [[]] (lift K sd_is_whole)) (D_figures_of : Df P w K mg base CX0 1 "figures_of" ["number"] [[]] (lift K sd_fig)) {fd_NoStep : FuncData} (G_NoStep_init : FnOk P w K mg base CX0 1 (He.ma K (He.ga K "NoStep") "__init__") fd_NoStep ["self", "thing"] (sp_exi (He.ga K "NoStep") "thing")) (b_NoStep_init : Binds K fd_NoStep ["self", "thing"] []) : FnOk P w K mg base (L2.CX P w) 3 f fd ["walk", "wide", "noughts"] (liftX K sd_showX) := by
  refine F.ok sc_show_log (fun vs H Q E h => ?_) (fun cdv A outer s H vs Q E hr h => ?_)
  · obtain ⟨A, S, rs, Φ, Ψ, so, rr, h, _⟩ := h
    obtain ⟨R, ss, d, e, rfl, g, sl, hd, he, h1, h2, k⟩ := h
    exact (Paired.length rr).symm
  · obtain ⟨A, S, rs, Φ, Ψ, so, rr, h, q, qx⟩ := h
    obtain ⟨R, ss, d, e, rfl, g, sl, hd, he, h1, h2, k⟩ := h
    refine ⟨_, (pss_cons (ps_for (passes_of rfl) rfl (pi_tup (pe_tup (pa_cons (pv 1) (pa_cons (pv 2) pa_nil)))) (pg_name (i := 3) sc_show_log.nd rfl (Or.inl rfl)) (pss_one (ps_if (PW.pt (pw_or (pt_not (pt_val (pe_df D_is_whole (us := []) List.mem_cons_self (hr.mono (by first | decide | omega)) (by rfl) (pa_cons (pv 3) pa_nil)))) (pw_or (pt_cmpR op_lt (pv 3) pe_int (nomark _)) (pw_or1 (pt_cmpR op_gt (pv 3) (pe_gi (by rfl) T.g_WIDEST) (nomark _)))))) (pss_one (ps_rai rfl (takes_of rfl rfl rfl rfl) (pmk_oex T.oex_NoStep T.mi_NoStep.at_ (beq_iff_eq.mp T.mi_NoStep.fn) G_NoStep_init (hr.mono (by decide)) b_NoStep_init .nil pass0 (by rfl) T.g_NoStep (pa_cons (pv 3) pa_nil)))) pss_nil)))
      (pss_cons (ps_setLc (i := 4) (own := [("name", 5), ("many", 6)]) (g := (gTup K 2 (gCons (gName 5) (gCons (gName 6) gNil)))) (tt := tYes) rfl sc_show_log.nd rfl rfl (sw_true rfl rfl rfl rfl) (pi_tup (pe_fld (pv 0) rfl)) (blkOk_by (own := [("name", 5), ("many", 6)]) (N := ["walk", "wide", "noughts", "width", "rows", "name", "many"]) (sc := defScope s_show_log) (by decide +kernel)) (fun _ _ _ _ _ => (pg_tup rfl (pgs_cons (pg_name (i := 5) sc_show_log.nd rfl (Or.inl rfl)) (pgs_cons (pg_name (i := 6) sc_show_log.nd rfl (Or.inl rfl)) pgs_nil)))) (fun _ _ _ _ _ => pts_nil) (fun _ _ _ _ _ => (pe_op op_add_str (pe_op op_add_str (pe_bmX K rfl (r := fun _ => rLjust) PySem.F.plainAttrs_str PySem.F.slot_str_ljust PySem.F.type_str_ljust mt_ljust (pv 5) (pa_cons (pv 1) pa_nil) (by rfl) (by rfl) (by rfl) (by rfl) (by rfl)) (pe_gs (by rfl) T.g_BLANK)) (pe_bmX K rfl (r := fun _ => rZfill) PySem.F.plainAttrs_str PySem.F.slot_str_zfill PySem.F.type_str_zfill mt_zfill (pe_df D_figures_of (us := []) List.mem_cons_self (hr.mono (by first | decide | omega)) (by rfl) (pa_cons (pv 6) pa_nil)) (pa_cons (pv 2) pa_nil) (by rfl) (by rfl) (by rfl) (by rfl) (by rfl)))))
      (pss_one (ps_ret (pe_join (pe_gs (by rfl) T.g_LINE_END) (pv 4)))))), fn_bodyX 4 rfl so rr q qx ?_⟩
    intro Z hz
    try dsimp only [cxOf, Cx.nox, Cx.wish]
    have cf_Turn := T.clf_Turn
    have cf_Rose := T.clf_Rose
    have cf_Walk := T.clf_Walk
    have sg := g.len
    have ml : (ss.map (stpD R)).length = ss.length := List.length_map _
    array_get_dec
    refine ⟨fun i ρ S' => S' = S ∧ (0 < i → widB d = true) ∧ (1 < i → widB e = true) ∧ ∃ v3, ρ = [.dat (walkD R ss), .dat d, .dat e, v3, .no, .no, .no], ⟨rfl, nofun, nofun, _, rfl⟩, ⟨?_, ?_⟩⟩
    · rintro i x ρ S' hx ⟨rfl, w1, w2, v3, rfl⟩
      obtain ⟨hw, bad, good⟩ : Wh x ∧ (widB x = false → Ψ "NoStep" [("thing", x)] S') ∧ (widB x = true → (0 < i + 1 → widB d = true) ∧ (1 < i + 1 → widB e = true)) := by
        rcases i with _ | _ | i
        · cases hx
          exact ⟨hd, h1, fun q => ⟨fun _ => q, fun z => absurd z (by omega)⟩⟩
        · cases hx
          exact ⟨he, h2 (w1 (by omega)), fun q => ⟨fun _ => w1 (by omega), fun _ => q⟩⟩
        · cases hx
      array_get_dec
      refine ⟨x, rfl, hw, ?_⟩
      cases wb : whB x with
      | false =>
        have ew : widB x = false := by
          cases x <;> first | rfl | cases wb
        array_get_dec
        exact ex_take (bad ew)
      | true =>
        obtain ⟨j, rfl⟩ := wh_int wb
        have hh : ∀ v : Bool, (decide (0 ≤ j) && decide (j ≤ 20)) = v → widB (.int j) = v := fun v q => q
        array_get_dec
        · exact ex_take (bad (hh _ (by rw [decide_eq_false (by omega), Bool.false_and])))
        · exact ex_take (bad (hh _ (by rw [decide_eq_false (p := j ≤ 20) (by omega), Bool.and_false])))
        · obtain ⟨g1, g2⟩ := good (hh _ (by rw [decide_eq_true (p := 0 ≤ j) (by omega), decide_eq_true (p := j ≤ 20) (by omega)]; rfl))
          exact ⟨rfl, g1, g2, _, rfl⟩
    · rintro ρ S' ⟨rfl, w1, w2, v3, rfl⟩
      have b1 := w1 (by show 0 < 2; decide)
      have b2 := w2 (by show 1 < 2; decide)
      have k := k b1 b2
      obtain ⟨a, rfl, ha⟩ : ∃ a : Nat, d = .int (a : Nat) ∧ a ≤ 20 := by
        cases d with
        | int j =>
          have q : (decide (0 ≤ j) && decide (j ≤ 20)) = true := b1
          rw [Bool.and_eq_true, decide_eq_true_eq, decide_eq_true_eq] at q
          exact ⟨j.toNat, by rw [Int.toNat_of_nonneg q.1], by omega⟩
        | _ => cases b1
      obtain ⟨b, rfl, hb⟩ : ∃ b : Nat, e = .int (b : Nat) ∧ b ≤ 20 := by
        cases e with
        | int j =>
          have q : (decide (0 ≤ j) && decide (j ≤ 20)) = true := b2
          rw [Bool.and_eq_true, decide_eq_true_eq, decide_eq_true_eq] at q
          exact ⟨j.toNat, by rw [Int.toNat_of_nonneg q.1], by omega⟩
        | _ => cases b2
      have k : Φ (.str (logT R a b ss)) S' := k
      have pad : ∀ n : Nat, n ≤ 20 → PadOk (n : Int) = true := by decide +kernel
      array_get_dec
      refine wp_lcM ?_
      array_get_dec
      refine ⟨(ss.map (rowW R a b)).map .str, by rw [List.length_map, List.length_map, ml], by rw [ml]; omega, fun i x y S0 hx hy => ?_, ?_⟩
      · obtain ⟨s, hs, sm, rfl⟩ := sel hx
        rw [List.getElem?_map, List.getElem?_map, hs] at hy
        cases hy
        have n1 := name_len g.ok (g.good s sm).1
        have n2 := num100 (g.good s sm).2
        have sp : (Str.ofString " ").length = 1 := by decide +kernel
        have fl := figs_len b s
        have lj : (Txt.ljust (ofL (Rs.nameOf R s.1)) (a : Int)).length ≤ 40 := by
          rw [cs_len, cs_ljust, List.length_append, List.length_replicate, Int.toNat_natCast, ← cs_len]
          omega
        refine gc_tup rfl (gcs_cons (gc_name (by decide) (gcs_cons (gc_name (by decide) (gcs_nil fun Φ k => ?_)))))
        array_get_dec
        refine wp_ljust ?_
        array_get_dec
        refine ⟨_, rfl, ?_⟩
        array_get_dec
        refine ⟨_, rfl, pad a ha, ?_⟩
        array_get_dec
        refine wp_zfill ?_
        array_get_dec
        refine ⟨s.2, rfl, Nat.lt_of_lt_of_le (g.good s sm).2 (Nat.pow_le_pow_right (by decide) (by decide)), _, rfl, ?_⟩
        array_get_dec
        refine ⟨_, rfl, pad b hb, ?_⟩
        refine o_addS ?_ k
        rw [Str.length_append, sp, show (Txt.zfill (Dg.num s.2) (b : Int)).length = _ from fl]
        omega
      array_get_dec
      refine jn_of (ys := ss.map (rowW R a b)) sq_l ?_ ?_
      · have q := row_sum g a b ha hb
        rw [List.length_map]
        have e : (Str.ofString "\n").length = 1 := by decide +kernel
        rw [e]
        omega
      exact rr_len rfl k
end
end K41

namespace K41
open PySem PySem.Spec PyProof.Rows L2 Evl Dl
theorem enum_at {xs : List D} {i : Nat} {d : D} (h : (enumD xs)[i]? = some d) : ∃ x, xs[i]? = some x ∧ d = .tup [.int (i : Nat), x] := by
  unfold enumD at h
  rw [List.getElem?_map, List.getElem?_zipIdx] at h
  cases e : xs[i]? with
  | none => rw [e] at h; cases h
  | some x =>
    rw [e] at h
    cases h
    exact ⟨x, rfl, by simp⟩
theorem enum_len (xs : List D) : (enumD xs).length = xs.length := by
  unfold enumD
  rw [List.length_map, List.length_zipIdx]
theorem filt_id {α : Type} {g : α → D} {c : α → Bool} : ∀ xs : List α, (xs.map fun x => if c x = true then some (g x) else none).filterMap id = (xs.filter c).map g
  | [] => rfl
  | x :: xs => by
    rw [List.map_cons, List.filterMap_cons, filt_id xs, List.filter_cons]
    by_cases h : c x = true
    · rw [if_pos h, if_pos h]
      rfl
    · rw [if_neg h, if_neg h]
      rfl
def neB (z : Str) : Bool := !decide (z = Str.ofString "")
theorem parts_filt {R : Rs.Rose} (ok : Rs.Ok R) (w z : Nat) {s : Stp} (g : Rs.Good R s.1) : (parts R w z s).filter neB = [ofL (Rs.nameOf R s.1), figsW z s] := by
  have n1 : neB (ofL (Rs.nameOf R s.1)) = true := by
    unfold neB
    rw [decide_eq_false fun e => name_ne ok g (by have := congrArg cs e; rw [emp_cs] at this; exact this)]
    rfl
  have n2 : neB (figsW z s) = true := by
    unfold neB
    rw [decide_eq_false fun e => figs_ne z s (by have := congrArg cs e; rw [emp_cs] at this; exact this)]
    rfl
  have n3 : ∀ n, (List.replicate n (Str.ofString "")).filter neB = [] := fun n => by
    rw [List.filter_eq_nil_iff]
    intro a ha
    rw [(List.mem_replicate.mp ha).2]
    decide +kernel
  unfold parts
  rw [List.filter_cons_of_pos n1, List.filter_append, n3, List.filter_cons_of_pos n2]
  rfl
/-- what stands in a row, blanks parted -/
def wordsR (r : Str) : List Str := (Txt.split r (Str.ofString " ")).filter neB
theorem words_emp : wordsR (Str.ofString "") = [] := by
  have e : Txt.split (Str.ofString "") (Str.ofString " ") = [Str.ofString ""] := TL.split_join (y := Str.ofString " ") (s := 32) (S := []) (parts := [Str.ofString ""]) (by decide +kernel) (by decide +kernel) (by simp) fun p hp => by
    rw [List.mem_singleton.mp hp]
    show 32 ∉ cs (Str.ofString "")
    rw [emp_cs]
    exact List.not_mem_nil
  unfold wordsR
  rw [e]
  decide +kernel
theorem words_row {R : Rs.Rose} (ok : Rs.Ok R) (w z : Nat) {s : Stp} (g : Rs.Good R s.1) : wordsR (rowW R w z s) = [ofL (Rs.nameOf R s.1), figsW z s] := by
  unfold wordsR
  rw [split_row ok w z g, parts_filt ok w z g]
theorem name_tell {R : Rs.Rose} (ok : Rs.Ok R) {o : Rs.One} (g : Rs.Good R o) : Txt.startswith (ofL (Rs.nameOf R o)) (Str.ofString "#") = false := by
  cases e : Txt.startswith (ofL (Rs.nameOf R o)) (Str.ofString "#") with
  | false => rfl
  | true =>
    unfold Txt.startswith at e
    have h1 : (Str.ofString "#") = (⟨#[35]⟩ : Str) := by decide +kernel
    rw [h1, Bool.and_eq_true, decide_eq_true_eq] at e
    have q := (PySem.StrLaws.subAt_one _ 35 0).mp e
    have m := name_ch ok g 35 (List.mem_of_getElem? q)
    omega
theorem log_len {R : Rs.Rose} {ss : List Stp} (g : Gs R ss) (a b : Nat) (ha : a ≤ 20) (hb : b ≤ 20) : (logT R a b ss).length ≤ 100000 := by
  unfold logT
  by_cases e : ss = []
  · subst e
    show (Txt.join (Str.ofString "\n") []).length ≤ 100000
    decide +kernel
  · have q := row_sum g a b ha hb
    have gl := g.len
    rw [TL.join_eq]
    have gen : ∀ ps : List Str, (Str.join (Str.ofString "\n") ps).length ≤ (ps.map (·.length)).sum + ps.length := fun ps => by
      induction ps with
      | nil => decide +kernel
      | cons p ps ih =>
        cases ps with
        | nil =>
          show p.length ≤ _
          simp
        | cons r ps =>
          show (p ++ Str.ofString "\n" ++ Str.join (Str.ofString "\n") (r :: ps)).length ≤ _
          rw [Str.length_append, Str.length_append, show (Str.ofString "\n").length = 1 by decide +kernel, List.map_cons, List.sum_cons, List.length_cons]
          omega
    have h := gen (ss.map (rowW R a b))
    rw [List.length_map] at h
    omega
def sd_readX : Sdx := fun rs S Φ Ψ => ∃ (R : Rs.Rose) (w z : Nat) (ss : List Stp), rs = [.dat (roseD R), .dat (.str (logT R w z ss))] ∧ Gs R ss ∧ ss.length ≤ 20 ∧ w ≤ 20 ∧ z ≤ 20 ∧
  (∀ (i : Nat) (s : Stp), ss[i]? = some s → 9 < (figsW z s).length → (∀ (m : Nat) (t : Stp), m < i → ss[m]? = some t → (figsW z t).length ≤ 9) → Ψ "NoText" [("row", .int (i : Nat))] S) ∧ ((∀ (m : Nat) (t : Stp), ss[m]? = some t → (figsW z t).length ≤ 9) → Φ (walkD R ss) S)
section
variable {P : Program} {w : World} {K : PySem.W.Frag} {mg : Str → Option Value} {base : Heap} {f : Addr} {fd : FuncData}
theorem ok_NoText_init (F : FunD K "__init__" "NoText.__init__" (defArgs s_NoText_init) (defBody s_NoText_init) (defScope s_NoText_init) [] [] f fd) (T : Txt K mg) : FnOk P w K mg base CX0 1 f fd ["self", "row"] (sp_exi (He.ga K "NoText") "row") := by
  refine F.ok sc_NoText_init (fun vs H Q E h => ?_) (fun cdv A outer s H vs Q E hr h => ?_)
  · obtain ⟨a, v, rfl, _⟩ := h
    rfl
  · obtain ⟨a, v, rfl, ha, k⟩ := h
    refine ⟨_, PSs.nox (pss_cons (ps_expr (pe_baseinit (by rfl) T.g_RoseError T.base_RoseError (pa_cons (pv 0) (pa_cons pe_str pa_nil))))
      (pss_one (ps_ost (pv 0) (pv 1)))), ?_⟩
    refine q_dropX (show tVeI K _ _ _ _ from x_cons (x_var rfl (x_cons (x_c (x_nil ⟨a, He.ga K "NoText", _, rfl, by show 1 ≤ 1000; decide, T.oex_NoText, ha, ?_⟩)))))
    exact ⟨_, rfl, _, rfl, a, He.ga K "NoText", rfl, T.oex_NoText, T.noat_NoText, .inl ⟨ha, k⟩⟩
theorem ok_read_log {dvs : List V} {kws : List (Str × V)} (F : FunD K "read_log" "read_log" (defArgs s_read_log) (defBody s_read_log) (defScope s_read_log) dvs kws f fd) (T : Txt K mg) (D_number_of : Df P w K mg base CX0 1 "number_of" ["figures"] [[]] (lift K sd_numof)) (D_Walk_init : Dm P w K mg base CX0 7 "Walk" "__init__" ["self", "rose", "steps"] [[], [.non]] (liftI0 K "Walk" sd_walk)) (D_tells_step : Df P w K mg base CX0 1 "tells_step" ["words"] [[]] (lift K sd_tells)) (D_is_written_step : Df P w K mg base CX0 6 "is_written_step" ["rose", "words"] [[]] (lift K sd_writ)) {fd_NoText : FuncData} (G_NoText_init : FnOk P w K mg base CX0 1 (He.ma K (He.ga K "NoText") "__init__") fd_NoText ["self", "row"] (sp_exi (He.ga K "NoText") "row")) (b_NoText_init : Binds K fd_NoText ["self", "row"] []) : FnOk P w K mg base (L2.CX P w) 9 f fd ["rose", "text"] (liftX K sd_readX) := by
  refine F.ok sc_read_log (fun vs H Q E h => ?_) (fun cdv A outer s H vs Q E hr h => ?_)
  · obtain ⟨A, S, rs, Φ, Ψ, so, rr, h, _⟩ := h
    obtain ⟨R, a, b, ss, rfl, g, sl, ha, hb, hbad, k⟩ := h
    exact (Paired.length rr).symm
  · obtain ⟨A, S, rs, Φ, Ψ, so, rr, h, q, qx⟩ := h
    obtain ⟨R, a, b, ss, rfl, g, sl, ha, hb, hbad, k⟩ := h
    refine ⟨_, (pss_cons (ps_if (pt_not (pt_val (pe_callB call_isi (by rfl) T.b_isinstance (by decide +kernel) (pa_cons (pv 1) (pa_cons (pe_bltn (v := .ty "str") (by rfl) T.b_str (by decide +kernel) rfl) pa_nil))))) (pss_one (ps_rai rfl (takes_of rfl rfl rfl rfl) (pmk_oex T.oex_NoText T.mi_NoText.at_ (beq_iff_eq.mp T.mi_NoText.fn) G_NoText_init (hr.mono (by decide)) b_NoText_init .nil pass0 (by rfl) T.g_NoText (pa_cons pe_int pa_nil)))) pss_nil)
      (pss_cons (ps_setM (ps_set (i := 2) sc_read_log.nd rfl (Or.inl rfl) (pe_lst pa_nil)))
      (pss_cons (ps_for (passes_of rfl) rfl (pi_enum (by rfl) T.b_enumerate (pa_cons (pe_bm PySem.F.plainAttrs_str PySem.F.slot_str_split PySem.F.type_str_split mt_split (pv 1) (pa_cons (pe_gs (by rfl) T.g_LINE_END) pa_nil)) pa_nil)) (pg_tup rfl (pgs_cons (pg_name (i := 3) sc_read_log.nd rfl (Or.inl rfl)) (pgs_cons (pg_name (i := 4) sc_read_log.nd rfl (Or.inl rfl)) pgs_nil))) (pss_cons (ps_setLc (i := 5) (own := [("word", 6)]) (g := (gName 6)) (tt := _) rfl sc_read_log.nd rfl rfl (sw_true rfl rfl rfl rfl) (pi_list (pe_bm PySem.F.plainAttrs_str PySem.F.slot_str_split PySem.F.type_str_split mt_split (pv 4) (pa_cons (pe_gs (by rfl) T.g_BLANK) pa_nil))) (blkOk_by (own := [("word", 6)]) (N := ["rose", "text", "steps", "number", "row", "words", "word"]) (sc := defScope s_read_log) (by decide +kernel)) (fun _ _ _ _ _ => (pg_name (i := 6) sc_read_log.nd rfl (Or.inl rfl))) (fun _ _ _ _ _ => (pts_one (pt_cmpR op_ne (pv 6) pe_str (nomark _)))) (fun _ _ _ _ _ => (pv 6)))
        (pss_one (ps_if (pt_val (pe_df D_tells_step (us := []) List.mem_cons_self (hr.mono (by first | decide | omega)) (by rfl) (pa_cons (pv 5) pa_nil))) (pss_cons (ps_if (PW.pt (pw_or (pt_cmpR op_eq (pe_callB call_len_seq (by rfl) T.b_len (by decide +kernel) (pa_cons (pv 2) pa_nil)) (pe_gi (by rfl) T.g_MOST_STEPS) (nomark _)) (pw_or1 (pt_not (pt_val (pe_df D_is_written_step (us := []) List.mem_cons_self (hr.mono (by first | decide | omega)) (by rfl) (pa_cons (pv 0) (pa_cons (pv 5) pa_nil)))))))) (pss_one (ps_rai rfl (takes_of rfl rfl rfl rfl) (pmk_oex T.oex_NoText T.mi_NoText.at_ (beq_iff_eq.mp T.mi_NoText.fn) G_NoText_init (hr.mono (by decide)) b_NoText_init .nil pass0 (by rfl) T.g_NoText (pa_cons (pv 3) pa_nil)))) pss_nil)
          (pss_one (ps_expr (pe_bm PySem.F.plainAttrs_list PySem.F.slot_list_append PySem.F.type_list_append mt_append (pv 2) (pa_cons (pe_tup (pa_cons (pe_ix ix_list (pv 5) pe_int (fun _ _ => rfl)) (pa_cons (pe_ifExp (pt_cmpR op_eq (pe_callB call_len_seq (by rfl) T.b_len (by decide +kernel) (pa_cons (pv 5) pa_nil)) pe_int (nomark _)) (pe_df D_number_of (us := []) List.mem_cons_self (hr.mono (by first | decide | omega)) (by rfl) (pa_cons (pe_ix ix_list (pv 5) pe_int (fun _ _ => rfl)) pa_nil)) pe_int) pa_nil))) pa_nil))))) pss_nil))))
      (pss_one (ps_ret (pe_mk (c := "Walk") T.mk_Walk D_Walk_init (us := []) List.mem_cons_self (hr.mono (by first | decide | omega)) (by rfl) T.g_Walk (pa_cons (pv 0) (pa_cons (pe_callTy call_tuple_of (by rfl) T.b_tuple (by decide +kernel) (pa_cons (pv 2) pa_nil)) pa_nil)))))))), fn_bodyX 5 rfl so rr q qx ?_⟩
    intro Z hz
    try dsimp only [cxOf, Cx.nox, Cx.wish]
    have cf_Turn := T.clf_Turn
    have cf_Rose := T.clf_Rose
    have cf_Walk := T.clf_Walk
    have tl : (logT R a b ss).length ≤ 100000 := log_len g a b ha hb
    have rl : (rowsL R a b ss).length ≤ 21 := by
      unfold rowsL
      split
      · decide
      · rw [List.length_map]
        omega
    array_get_dec
    refine wi_enumL ?_
    array_get_dec
    refine wp_split ?_
    array_get_dec
    refine ⟨_, rfl, tl, ?_⟩
    array_get_dec
    refine ⟨_, rfl, by decide +kernel, ?_⟩
    rw [split_log g a b]
    array_get_dec
    refine ⟨_, rfl, ?_⟩
    refine ⟨fun i ρ S' => S' = S ++ [.ls ((ss.take i).map (stpD R))] ∧ (∀ (m : Nat) (t : Stp), m < i → ss[m]? = some t → (figsW b t).length ≤ 9) ∧ ∃ v3 v4 v5, ρ = [.dat (roseD R), .dat (.str (logT R a b ss)), .mu S.length, v3, v4, v5, .no], ⟨rfl, nofun, _, _, _, rfl⟩, ⟨?_, ?_⟩⟩
    · rintro i d ρ S' hd ⟨rfl, hw, v3, v4, v5, rfl⟩
      obtain ⟨x, hx, rfl⟩ := enum_at hd
      obtain ⟨r, hr, rfl⟩ : ∃ r, (rowsL R a b ss)[i]? = some r ∧ x = .str r := by
        rw [List.getElem?_map] at hx
        cases e : (rowsL R a b ss)[i]? with
        | none => rw [e] at hx; cases hx
        | some r => rw [e] at hx; cases hx; exact ⟨r, rfl, rfl⟩
      have kinds : (ss = [] ∧ r = Str.ofString "") ∨ ∃ s, ss[i]? = some s ∧ s ∈ ss ∧ r = rowW R a b s := by
        unfold rowsL at hr
        split at hr
        · rename_i e
          rcases i with _ | i
          · cases hr
            exact .inl ⟨e, rfl⟩
          · cases hr
        · rw [List.getElem?_map] at hr
          cases e : ss[i]? with
          | none => rw [e] at hr; cases hr
          | some s => rw [e] at hr; cases hr; exact .inr ⟨s, rfl, List.mem_of_getElem? e, rfl⟩
      have hl : r.length ≤ 200 ∧ (Txt.split r (Str.ofString " ")).length ≤ 100 := by
        rcases kinds with ⟨_, rfl⟩ | ⟨s, _, sm, rfl⟩
        · exact ⟨by decide +kernel, by decide +kernel⟩
        · refine ⟨row_len g a b ha hb sm, ?_⟩
          rw [split_row g.ok a b (g.good s sm).1]
          unfold parts
          rw [List.length_cons, List.length_append, List.length_replicate, List.length_singleton]
          omega
      array_get_dec
      refine wp_lcF ?_
      array_get_dec
      refine wp_split ?_
      array_get_dec
      refine ⟨r, rfl, by omega, ?_⟩
      array_get_dec
      refine ⟨_, rfl, by decide +kernel, ?_⟩
      array_get_dec
      refine ⟨(Txt.split r (Str.ofString " ")).map fun p => if neB p = true then some (.str p) else none, by rw [List.length_map, List.length_map], by rw [List.length_map]; omega, fun j y e S0 hy he => gc_name (by decide) fun Φ k => ?_, ?_⟩
      · rw [List.getElem?_map] at hy he
        cases hz : (Txt.split r (Str.ofString " "))[j]? with
        | none => rw [hz] at hy; cases hy
        | some p =>
          rw [hz] at hy he
          cases hy
          cases he
          have ie : (if neB p = true then some (D.str p) else none).isSome = neB p := by
            cases neB p <;> rfl
          rw [show ((fun p => if neB p = true then some (D.str p) else none) p).isSome = neB p from ie] at k
          refine ⟨?_, fun y hy Φ k => ?_⟩
          · array_get_dec
            exact k
          · have hy : (if neB p = true then some (D.str p) else none) = some y := hy
            have ey : y = .str p := by
              split at hy
              · cases hy
                rfl
              · cases hy
            subst ey
            array_get_dec
            exact k
      rw [show ((Txt.split r (Str.ofString " ")).map fun p => if neB p = true then some (D.str p) else none).filterMap id = (wordsR r).map D.str from filt_id _]
      array_get_dec
      refine ⟨wordsR r, rfl, ?_⟩
      rcases kinds with ⟨e, rfl⟩ | ⟨s, hs, sm, rfl⟩
      · rw [words_emp]
        array_get_dec
        subst e
        refine ⟨by rw [List.take_nil, List.take_nil], fun m t _ ht => (by cases ht), _, _, _, rfl⟩
      · have go := (g.good s sm).1
        have fl := figs_len b s
        have n2 := num100 (g.good s sm).2
        have tk : ((ss.take i).map (stpD R)).length ≤ 20 := by
          rw [List.length_map, List.length_take]
          omega
        rw [words_row g.ok a b go]
        dsimp only
        rw [name_tell g.ok go]
        array_get_dec
        · rename_i h6
          omega
        refine ⟨R, b, s, rfl, g.ok, go, by omega, ?_⟩
        by_cases h9 : (figsW b s).length ≤ 9
        · rw [decide_eq_true h9]
          array_get_dec
          refine ⟨figsW b s, rfl, by omega, figs_B b s, ?_⟩
          rw [figs_val]
          array_get_dec
          refine appTo_last (by omega) ?_
          refine ⟨?_, fun m t hm ht => ?_, _, _, _, rfl⟩
          · rw [List.take_add_one, hs, List.map_append]
            rfl
          · by_cases e : m = i
            · subst e
              rw [hs] at ht
              cases ht
              exact h9
            · exact hw m t (by omega) ht
        · rw [decide_eq_false h9]
          array_get_dec
          exact ex_takeI (hbad i s hs (by omega) hw)
    · rintro ρ S' ⟨rfl, hw, v3, v4, v5, rfl⟩
      have hn : ss.length ≤ (enumD ((rowsL R a b ss).map D.str)).length := by
        rw [enum_len, List.length_map]
        unfold rowsL
        split
        · rename_i e
          rw [e]
          decide
        · rw [List.length_map]
          exact Nat.le_refl _
      have k := k fun m t ht => hw m t (by have := (List.getElem?_eq_some_iff.mp ht).1; omega) ht
      rw [List.take_of_length_le hn]
      array_get_dec
      refine ⟨R, ss, _, rfl, .inl rfl, g, ?_⟩
      array_get_dec
      exact rr_cut rfl k
end
end K41

namespace K41
open PySem PySem.Spec PyProof.Rows L2 Evl Dl
def sd_shown : Sd := fun rs S Φ => ∃ (R : Rs.Rose) (a b : Nat) (ss : List Stp), rs = [.dat (.lst (ss.map (stpD R))), .dat (.int (a : Nat)), .dat (.int (b : Nat))] ∧ Gs R ss ∧ ss.length ≤ 20 ∧ a ≤ 20 ∧ b ≤ 20 ∧ Φ (.str (logT R a b ss)) S
def sd_only : Sd := fun rs S Φ => ∃ (c : Str) (x : D) (i : Int) (fs : List (Str × D)), rs = [.dat (.exc c fs), .dat (.int i)] ∧ ((c = "NoStep" ∧ fs = ([("thing", x)] : List (Str × D)) ∧ i = 0) ∨ (c = "NoText" ∧ fs = ([("row", x)] : List (Str × D)) ∧ i = 1)) ∧ Φ (.bl true) S
def sd_lis : Sd := fun rs S Φ => ∃ d : D, rs = [.dat d] ∧ Wh d ∧ Φ (.bl (widB d)) S
section
variable {P : Program} {w : World} {K : PySem.W.Frag} {mg : Str → Option Value} {base : Heap} {f : Addr} {fd : FuncData}
theorem ok_l_is {dvs : List V} {kws : List (Str × V)} (F : FunD K "_law_is" "_law_is" (defArgs s_l_is) (defBody s_l_is) (defScope s_l_is) dvs kws f fd) (T : Txt K mg)  : FnOk P w K mg base CX0 1 f fd ["_law_thing"] (lift K sd_lis) := by
  refine F.ok sc_l_is (fun vs H Q E h => ?_) (fun cdv A outer s H vs Q E hr h => ?_)
  · obtain ⟨A, S, rs, Φ, so, rr, h, _⟩ := h
    obtain ⟨d, rfl, hd, k⟩ := h
    exact (Paired.length rr).symm
  · obtain ⟨A, S, rs, Φ, so, rr, h, q⟩ := h
    obtain ⟨d, rfl, hd, k⟩ := h
    refine ⟨_, PSs.nox (pss_one (ps_ret (pe_and (pe_callB call_isi (by rfl) T.b_isinstance (by decide +kernel) (pa_cons (pv 0) (pa_cons (pe_bltn (v := .ty "int") (by rfl) T.b_int (by decide +kernel) rfl) pa_nil))) (pe_and (pe_not (pe_callB call_isi (by rfl) T.b_isinstance (by decide +kernel) (pa_cons (pv 0) (pa_cons (pe_bltn (v := .ty "bool") (by rfl) T.b_bool (by decide +kernel) rfl) pa_nil)))) (pe_one (pe_chain op_le op_le pe_int (pv 0) pe_int)))))), fn_body 0 rfl so rr q ?_⟩
    intro Z
    try dsimp only [cxOf, Cx.nox, Cx.wish]
    have cf_Turn := T.clf_Turn
    have cf_Rose := T.clf_Rose
    have cf_Walk := T.clf_Walk
    rcases hd with hd | ⟨fs, rfl⟩
    · by_cases hi : ∃ i, d = .int i
      · obtain ⟨i, rfl⟩ := hi
        have k : Φ (.bl (decide (0 ≤ i) && decide (i ≤ 20))) S := k
        array_get_dec
        · rename_i h1
          rw [decide_eq_true h1, Bool.true_and] at k
          exact rr_dat k
        · rename_i h1
          rw [decide_eq_false h1, Bool.false_and] at k
          exact rr_dat k
      · have e : widB d = false := by
          cases d <;> first | rfl | exact (hi ⟨_, rfl⟩).elim
        rw [e] at k
        cases d <;> first | (cases hd; done) | exact (hi ⟨_, rfl⟩).elim | (array_get_dec; exact rr_dat k)
    · array_get_dec
      refine c_isT cf_Turn T.ki_Turn_int ?_
      array_get_dec
      exact rr_dat k
theorem ok_l_only {dvs : List V} {kws : List (Str × V)} (F : FunD K "_law_only" "_law_only" (defArgs s_l_only) (defBody s_l_only) (defScope s_l_only) dvs kws f fd) (T : Txt K mg)  : FnOk P w K mg base CX0 1 f fd ["_law_caught", "_law_which"] (lift K sd_only) := by
  refine F.ok sc_l_only (fun vs H Q E h => ?_) (fun cdv A outer s H vs Q E hr h => ?_)
  · obtain ⟨A, S, rs, Φ, so, rr, h, _⟩ := h
    obtain ⟨c, x, i, fs, rfl, h, k⟩ := h
    exact (Paired.length rr).symm
  · obtain ⟨A, S, rs, Φ, so, rr, h, q⟩ := h
    obtain ⟨c, x, i, fs, rfl, h, k⟩ := h
    refine ⟨_, PSs.nox (pss_cons (ps_set (i := 2) sc_l_only.nd rfl (Or.inl rfl) (pe_callB call_iskT (by rfl) T.b_isinstance (by decide +kernel) (pa_cons (pv 0) (pa_cons (pe_tup (pa_cons (pe_glob (v := .ref (He.ga K "LostError")) (by rfl) T.g_LostError rfl) (pa_cons (pe_glob (v := .ref (He.ga K "NoDeed")) (by rfl) T.g_NoDeed rfl) (pa_cons (pe_glob (v := .ref (He.ga K "NoName")) (by rfl) T.g_NoName rfl) (pa_cons (pe_glob (v := .ref (He.ga K "NoPair")) (by rfl) T.g_NoPair rfl) (pa_cons (pe_glob (v := .ref (He.ga K "NoRoom")) (by rfl) T.g_NoRoom rfl) (pa_cons (pe_glob (v := .ref (He.ga K "NoRose")) (by rfl) T.g_NoRose rfl) (pa_cons (pe_glob (v := .ref (He.ga K "NoRow")) (by rfl) T.g_NoRow rfl) (pa_cons (pe_glob (v := .ref (He.ga K "NoSuch")) (by rfl) T.g_NoSuch rfl) (pa_cons (pe_glob (v := .ref (He.ga K "NoTurn")) (by rfl) T.g_NoTurn rfl) pa_nil)))))))))) pa_nil))))
      (pss_cons (ps_if (PW.pt (pw_or (pt_val (pv 2)) (pw_or (pt_val (pe_callB call_iskT (by rfl) T.b_isinstance (by decide +kernel) (pa_cons (pv 0) (pa_cons (pe_tup (pa_cons (pe_glob (v := .ref (He.ga K "NoWalk")) (by rfl) T.g_NoWalk rfl) (pa_cons (pe_glob (v := .ref (He.ga K "NoWind")) (by rfl) T.g_NoWind rfl) (pa_cons (pe_glob (v := .ref (He.ga K "NoWord")) (by rfl) T.g_NoWord rfl) pa_nil)))) pa_nil)))) (pw_or1 (pt_not (pt_val (pe_callB call_isk (by rfl) T.b_isinstance (by decide +kernel) (pa_cons (pv 0) (pa_cons (pe_bltn (v := .ty "ValueError") (by rfl) T.b_ValueError (by decide +kernel) rfl) pa_nil))))))))) (pss_one (ps_ret pe_bl)) pss_nil)
      (pss_one (ps_ret (pe_cmpR (op_eqD hr.units) (pe_lst (pa_cons (pe_callB call_isk (by rfl) T.b_isinstance (by decide +kernel) (pa_cons (pv 0) (pa_cons (pe_glob (v := .ref (He.ga K "NoStep")) (by rfl) T.g_NoStep rfl) pa_nil))) (pa_cons (pe_callB call_isk (by rfl) T.b_isinstance (by decide +kernel) (pa_cons (pv 0) (pa_cons (pe_glob (v := .ref (He.ga K "NoText")) (by rfl) T.g_NoText rfl) pa_nil))) pa_nil))) (pe_lst (pa_cons (pe_cmpR op_eq (pv 1) pe_int (nomark _)) (pa_cons (pe_cmpR op_eq (pv 1) pe_int (nomark _)) pa_nil))) (nomark _)))))), fn_body 1 rfl so rr q ?_⟩
    intro Z
    try dsimp only [cxOf, Cx.nox, Cx.wish]
    have cf_Turn := T.clf_Turn
    have cf_Rose := T.clf_Rose
    have cf_Walk := T.clf_Walk
    rcases h with ⟨rfl, rfl, rfl⟩ | ⟨rfl, rfl, rfl⟩
    · array_get_dec
      refine isk_off ["LostError", "NoDeed", "NoName", "NoPair", "NoRoom", "NoRose", "NoRow", "NoSuch", "NoTurn"] T.xk_NoStep T.kit_NoStep (by decide +kernel) (by decide) ?_
      array_get_dec
      refine isk_off ["NoWalk", "NoWind", "NoWord"] T.xk_NoStep T.kit_NoStep (by decide +kernel) (by decide) ?_
      array_get_dec
      refine c_iskT T.xk_NoStep T.kt_NoStep_ValueError ?_
      array_get_dec
      refine c_isk T.xk_NoStep (kitsB_ok (b := true) T.kit_NoStep (by decide +kernel)) ?_
      array_get_dec
      refine c_isk T.xk_NoStep (kitsB_ok (b := false) T.kit_NoStep (by decide +kernel)) ?_
      array_get_dec
      refine o_eqLB (ns := [true, false]) (ms := [true, false]) ls_dat ls_dat ?_
      rw [decide_eq_true rfl]
      exact rr_dat k
    · array_get_dec
      refine isk_off ["LostError", "NoDeed", "NoName", "NoPair", "NoRoom", "NoRose", "NoRow", "NoSuch", "NoTurn"] T.xk_NoText T.kit_NoText (by decide +kernel) (by decide) ?_
      array_get_dec
      refine isk_off ["NoWalk", "NoWind", "NoWord"] T.xk_NoText T.kit_NoText (by decide +kernel) (by decide) ?_
      array_get_dec
      refine c_iskT T.xk_NoText T.kt_NoText_ValueError ?_
      array_get_dec
      refine c_isk T.xk_NoText (kitsB_ok (b := false) T.kit_NoText (by decide +kernel)) ?_
      array_get_dec
      refine c_isk T.xk_NoText (kitsB_ok (b := true) T.kit_NoText (by decide +kernel)) ?_
      array_get_dec
      refine o_eqLB (ns := [false, true]) (ms := [false, true]) ls_dat ls_dat ?_
      rw [decide_eq_true rfl]
      exact rr_dat k
theorem ok_l_shown {dvs : List V} {kws : List (Str × V)} (F : FunD K "_law_shown" "_law_shown" (defArgs s_l_shown) (defBody s_l_shown) (defScope s_l_shown) dvs kws f fd) (T : Txt K mg)  : FnOk P w K mg base CX0 1 f fd ["_law_steps_here", "_law_one", "_law_two"] (lift K sd_shown) := by
  refine F.ok sc_l_shown (fun vs H Q E h => ?_) (fun cdv A outer s H vs Q E hr h => ?_)
  · obtain ⟨A, S, rs, Φ, so, rr, h, _⟩ := h
    obtain ⟨R, a, b, ss, rfl, g, sl, ha, hb, k⟩ := h
    exact (Paired.length rr).symm
  · obtain ⟨A, S, rs, Φ, so, rr, h, q⟩ := h
    obtain ⟨R, a, b, ss, rfl, g, sl, ha, hb, k⟩ := h
    refine ⟨_, PSs.nox (pss_cons (ps_setM (ps_set (i := 3) sc_l_shown.nd rfl (Or.inl rfl) (pe_lst pa_nil)))
      (pss_cons (ps_for PassesOwn.never rfl (pi_list (pv 0)) (pg_tup rfl (pgs_cons (pg_name (i := 4) sc_l_shown.nd rfl (Or.inl rfl)) (pgs_cons (pg_name (i := 5) sc_l_shown.nd rfl (Or.inl rfl)) pgs_nil))) (pss_cons (ps_set (i := 6) sc_l_shown.nd rfl (Or.inl rfl) (pe_callTy call_str_int (by rfl) T.b_str (by decide +kernel) (pa_cons (pv 5) pa_nil)))
        (pss_one (ps_expr (pe_bm PySem.F.plainAttrs_list PySem.F.slot_list_append PySem.F.type_list_append mt_append (pv 3) (pa_cons (pe_op op_add_str (pe_op op_add_str (pe_op op_add_str (pe_op op_add_str (pv 4) (pe_op op_mulS pe_str (pe_callB (call_max2 rfl) (by rfl) T.b_max (by decide +kernel) (pa_cons pe_int (pa_cons (pe_op op_sub (pv 1) (pe_callB call_len_str (by rfl) T.b_len (by decide +kernel) (pa_cons (pv 4) pa_nil))) pa_nil))))) pe_str) (pe_op op_mulS pe_str (pe_callB (call_max2 rfl) (by rfl) T.b_max (by decide +kernel) (pa_cons pe_int (pa_cons (pe_op op_sub (pv 2) (pe_callB call_len_str (by rfl) T.b_len (by decide +kernel) (pa_cons (pv 6) pa_nil))) pa_nil))))) (pv 6)) pa_nil))))))
      (pss_one (ps_ret (pe_join pe_str (pv 3)))))), fn_body 4 rfl so rr q ?_⟩
    intro Z
    try dsimp only [cxOf, Cx.nox, Cx.wish]
    have cf_Turn := T.clf_Turn
    have cf_Rose := T.clf_Rose
    have cf_Walk := T.clf_Walk
    have ml : (ss.map (stpD R)).length = ss.length := List.length_map _
    array_get_dec
    refine ⟨fun i ρ S' => S' = S ++ [.ls (((ss.take i).map (rowW R a b)).map .str)] ∧ ∃ v4 v5 v6, ρ = [.dat (.lst (ss.map (stpD R))), .dat (.int (a : Nat)), .dat (.int (b : Nat)), .mu S.length, v4, v5, v6], ⟨rfl, _, _, _, rfl⟩, ⟨?_, ?_⟩⟩
    · rintro i d ρ S' hd ⟨rfl, v4, v5, v6, rfl⟩
      obtain ⟨s, hs, sm, rfl⟩ := sel hd
      have n1 := name_len g.ok (g.good s sm).1
      have n2 := num100 (g.good s sm).2
      have lg : ((s.2 : Nat) : Int).natAbs.log2 < 1920 := by
        rw [Int.natAbs_natCast]
        rcases Nat.eq_zero_or_pos s.2 with h | h
        · rw [h]
          decide
        · exact (Nat.log2_lt (by omega)).mpr (Nat.lt_of_lt_of_le (g.good s sm).2 (Nat.pow_le_pow_right (by decide) (by decide)))
      array_get_dec
      refine c_strI lg ?_
      rw [show Str.ofString (toString ((s.2 : Nat) : Int)) = Dg.num s.2 from rfl]
      have m1 : max 0 ((a : Int) - ((ofL (Rs.nameOf R s.1)).length : Nat)) = ((a - (ofL (Rs.nameOf R s.1)).length : Nat) : Int) := by omega
      have m2 : max 0 ((b : Int) - ((Dg.num s.2).length : Nat)) = ((b - (Dg.num s.2).length : Nat) : Int) := by omega
      have f1 : ∀ n, (List.replicate n (cs (Str.ofString " "))).flatten = List.replicate n 32 := fun n => by
        rw [show cs (Str.ofString " ") = cs ⟨#[32]⟩ by decide +kernel]
        exact rep_cs 32 n
      have f2 : ∀ n, (List.replicate n (cs (Str.ofString "0"))).flatten = List.replicate n 48 := fun n => by
        rw [show cs (Str.ofString "0") = cs ⟨#[48]⟩ by decide +kernel]
        exact rep_cs 48 n
      have l1 : (Str.ofString " ").length = 1 := by decide +kernel
      have lr : ∀ n c : Nat, (ofL (List.replicate n c)).length = n := fun n c => by rw [ofL_len, List.length_replicate]
      have fin : ofL (Rs.nameOf R s.1) ++ ofL (List.replicate (a - (ofL (Rs.nameOf R s.1)).length) 32) ++ Str.ofString " " ++ ofL (List.replicate (b - (Dg.num s.2).length) 48) ++ Dg.num s.2 = rowW R a b s := by
        refine cs_inj ?_
        rw [cs_row, cs_figs, cs_app, cs_app, cs_app, cs_app, cs_ofL, cs_ofL, cs_ofL, show cs (Str.ofString " ") = [32] by decide +kernel, show cs (Dg.num s.2) = TL.numL s.2 from TL.tl_num s.2, ofL_len, List.replicate_succ']
        simp only [List.append_assoc]
      array_get_dec
      rw [m1]
      refine o_mulSt (by decide +kernel) (by omega) ?_
      rw [f1]
      refine o_addS ?_ ?_
      · rw [lr]
        omega
      array_get_dec
      refine o_addS ?_ ?_
      · rw [Str.length_append, lr, l1]
        omega
      array_get_dec
      rw [m2]
      refine o_mulSt (by decide +kernel) (by omega) ?_
      rw [f2]
      refine o_addS ?_ ?_
      · rw [Str.length_append, Str.length_append, lr, lr, l1]
        omega
      array_get_dec
      refine o_addS ?_ ?_
      · rw [Str.length_append, Str.length_append, Str.length_append, lr, lr, l1]
        omega
      rw [fin]
      refine appTo_last (by rw [List.length_map, List.length_map, List.length_take]; omega) ?_
      refine ⟨?_, _, _, _, rfl⟩
      rw [List.take_add_one, hs, List.map_append, List.map_append]
      rfl
    · rintro ρ S' ⟨rfl, v4, v5, v6, rfl⟩
      rw [ml, List.take_of_length_le (Nat.le_refl _)]
      array_get_dec
      refine jn_of (ys := ss.map (rowW R a b)) (sq_m st_last) ?_ ?_
      · have q := row_sum g a b ha hb
        rw [List.length_map]
        have e : (Str.ofString "\n").length = 1 := by decide +kernel
        rw [e]
        omega
      exact rr_cut rfl k
end
end K41

namespace K41
open PySem PySem.Spec PyProof.Rows L2 Evl Dl
/-- things that compare: what they are -/
inductive Kn : D → Prop
  | non : Kn .non | bl (b : Bool) : Kn (.bl b) | int (i : Int) (h : i.natAbs < 2 ^ 100) : Kn (.int i) | str (z : Str) (h : z.length ≤ 100) : Kn (.str z)
  | tup (ds : List D) (h : eqOk (.tup ds) = true) (s : SeqAt.shaped (pyD (.tup ds)) = true) (e : PyData.eqv (pyD (.tup ds)) (pyD (.tup ds)) = true) : Kn (.tup ds)
  | lst (ds : List D) (h : eqOk (.lst ds) = true) (s : SeqAt.shaped (pyD (.lst ds)) = true) (e : PyData.eqv (pyD (.lst ds)) (pyD (.lst ds)) = true) : Kn (.lst ds)
  | dic (ks : List (Key × Int)) (h : (ks.map (·.1)).Nodup) : Kn (.dic (ks.map fun p => (p.1, D.int p.2)))
  | turn (a : Int × Int) (h : Sn 400 a) : Kn (turnD a)
def sd_same : Sd := fun rs S Φ => ∃ d : D, rs = [.dat d, .dat d] ∧ Kn d ∧ Φ (.bl true) S
def wrA (b : Nat) (ss : List Stp) (k : Nat) : Bool := match ss[k]? with
  | some s => decide (9 < (figsW b s).length)
  | none => false
theorem name_okS {R : Rs.Rose} {o : Rs.One} (k : Rs.Ok R) (g : Rs.Good R o) : PyData.strOk (ofL (Rs.nameOf R o)) = true := by
  unfold PyData.strOk
  rw [Array.all_eq_true_iff_forall_mem]
  intro c hc
  have hc2 : c ∈ Rs.word R o.1 ++ o.2 := by
    have := Array.mem_toList_iff.mpr hc
    exact this
  rcases List.mem_append.mp hc2 with h | h
  · exact decide_eq_true (isL_lt ((k.wd _ (Rs.word_at g.c).2).2.2 c h))
  · rcases g.ms c h with rfl | rfl <;> decide
theorem steps_ok {R : Rs.Rose} (ok : Rs.Ok R) : ∀ ss : List Stp, (∀ s ∈ ss, Rs.Good R s.1) → eqOkL (ss.map (stpD R)) = true ∧ PyData.canLayAll0 (pyL (ss.map (stpD R))) = true ∧ PyData.depthAll (pyL (ss.map (stpD R))) ≤ 1
  | [], _ => by rw [List.map_nil, eqOkL, pyL, PyData.canLayAll0, PyData.depthAll]; exact ⟨rfl, rfl, Nat.zero_le _⟩
  | s :: ss, h => by
    obtain ⟨h1, h2, h3⟩ := steps_ok ok ss fun x hx => h x (List.mem_cons_of_mem _ hx)
    have o := name_okS ok (h s List.mem_cons_self)
    rw [List.map_cons, eqOkL, pyL, PyData.canLayAll0, PyData.depthAll, h1, h2]
    have e : pyD (stpD R s) = .tuple [.str (ofL (Rs.nameOf R s.1)), .int (s.2 : Nat)] := by simp [stpD, pyD, pyL]
    have e1 : eqOk (stpD R s) = true := by simp [stpD, eqOk, eqOkL]
    rw [e, e1]
    simp [PyData.canLay0, PyData.canLayAll0, PyData.depth, PyData.depthAll, o]
    omega
theorem shp_steps {R : Rs.Rose} {ss : List Stp} (g : Gs R ss) : eqOk (.tup (ss.map (stpD R))) = true ∧ SeqAt.shaped (pyD (.tup (ss.map (stpD R)))) = true := by
  obtain ⟨h1, h2, h3⟩ := steps_ok g.ok ss fun s m => (g.good s m).1
  refine ⟨by rw [eqOk]; exact h1, ?_⟩
  unfold SeqAt.shaped
  rw [pyD, PyData.canLay0, h2, PyData.depth]
  simp
  omega
theorem o_neSt {K : PySem.W.Frag} {S : Store} {Φ : Dl.R → Prop} {R : Rs.Rose} {ss : List Stp} (g : Gs R ss) (k : Φ (.dat (.bl false))) : Op2 K (rNeD K) (.dat (.tup (ss.map (stpD R)))) (.dat (.tup (ss.map (stpD R)))) S Φ := by
  obtain ⟨q1, q2⟩ := shp_steps g
  refine o_neD q1 q1 q2 q2 ?_
  rw [SeqAt.eqv_refl _ (SeqAt.canLay_of_shaped q2)]
  exact k
theorem o_eqSt {K : PySem.W.Frag} {S : Store} {Φ : Dl.R → Prop} {R : Rs.Rose} {ss : List Stp} (g : Gs R ss) (k : Φ (.dat (.bl true))) : Op2 K (rEqD K) (.dat (.tup (ss.map (stpD R)))) (.dat (.tup (ss.map (stpD R)))) S Φ := by
  obtain ⟨q1, q2⟩ := shp_steps g
  refine o_eqD q1 q1 q2 q2 ?_
  rw [SeqAt.eqv_refl _ (SeqAt.canLay_of_shaped q2)]
  exact k
theorem first_wr {b : Nat} {ss : List Stp} {n i : Nat} {r : List Nat} (h : (List.range n).filter (wrA b ss) = i :: r) : wrA b ss i = true ∧ ∀ m, m < i → wrA b ss m = false := by
  have e : (List.range n).find? (wrA b ss) = some i := by
    rw [← List.head?_filter, h]
    rfl
  obtain ⟨h1, _, h3⟩ := List.find?_range_eq_some.mp e
  exact ⟨h1, fun m hm => by simpa using h3 m hm⟩
/-- the first of the two that is no width -/
def badW (d e : D) : D := if widB d = false then d else e
def sd_lref : Sd := fun rs S Φ => ∃ (R : Rs.Rose) (ss : List Stp) (d e : D), rs = [.dat (walkD R ss), .dat d, .dat e] ∧ Gs R ss ∧ ss.length ≤ 20 ∧ Wh d ∧ Wh e ∧ (widB d = true → widB e = true → Φ .non S) ∧ ((widB d && widB e) = false → Φ (.lst [badW d e]) S)
def sd_lread : Sd := fun rs S Φ => ∃ (R : Rs.Rose) (a b : Nat) (ss : List Stp), rs = [.dat (roseD R), .dat (.lst (ss.map (stpD R))), .dat (.str (logT R a b ss)), .dat (.int (b : Nat))] ∧ Gs R ss ∧ ss.length ≤ 20 ∧ a ≤ 20 ∧ b ≤ 20 ∧ Φ (.bl true) S
section
variable {P : Program} {w : World} {K : PySem.W.Frag} {mg : Str → Option Value} {base : Heap} {f : Addr} {fd : FuncData}
theorem ok_l_same {dvs : List V} {kws : List (Str × V)} (F : FunD K "_law_same" "_law_same" (defArgs s_l_same) (defBody s_l_same) (defScope s_l_same) dvs kws f fd) (T : Txt K mg) (D_Turn___eq__ : Dm P w K mg base CX0 1 "Turn" "__eq__" ["self", "other"] [[]] (lift K (sdE K "Turn" gT))) : FnOk P w K mg base CX0 2 f fd ["_law_one", "_law_other"] (lift K sd_same) := by
  refine F.ok sc_l_same (fun vs H Q E h => ?_) (fun cdv A outer s H vs Q E hr h => ?_)
  · obtain ⟨A, S, rs, Φ, so, rr, h, _⟩ := h
    obtain ⟨d, rfl, hd, k⟩ := h
    exact (Paired.length rr).symm
  · obtain ⟨A, S, rs, Φ, so, rr, h, q⟩ := h
    obtain ⟨d, rfl, hd, k⟩ := h
    refine ⟨_, PSs.nox (pss_one (ps_ret (pe_and (pe_cmpR op_eq (pe_callB call_isi (by rfl) T.b_isinstance (by decide +kernel) (pa_cons (pv 0) (pa_cons (pe_bltn (v := .ty "bool") (by rfl) T.b_bool (by decide +kernel) rfl) pa_nil))) (pe_callB call_isi (by rfl) T.b_isinstance (by decide +kernel) (pa_cons (pv 1) (pa_cons (pe_bltn (v := .ty "bool") (by rfl) T.b_bool (by decide +kernel) rfl) pa_nil))) (nomark _)) (pe_one (pe_cmpR (op_uni op_eq (op_uni (op_eqD hr.units) (op_uni (op_eq_dict hr.units0) (op_eqE (rcA T.clf_Turn T.m_Turn___eq__ D_Turn___eq__) (hr.mono (by decide)))))) (pv 0) (pv 1) (nomark _)))))), fn_body 0 rfl so rr q ?_⟩
    intro Z
    try dsimp only [cxOf, Cx.nox, Cx.wish]
    have cf_Turn := T.clf_Turn
    have cf_Rose := T.clf_Rose
    have cf_Walk := T.clf_Walk
    cases hd with
    | turn a ha =>
      array_get_dec
      refine c_isT cf_Turn T.ki_Turn_bool ?_
      array_get_dec
      refine c_isT cf_Turn T.ki_Turn_bool ?_
      array_get_dec
      exact o_orR (o_orR (o_orR (o_cmp (cmp_same ⟨_, _, rfl, rfl, rfl⟩) (by rw [decide_eq_true rfl]; exact rr_dat k))))
    | non =>
      array_get_dec
      refine o_orR (o_orL (o_eqD (by decide +kernel) (by decide +kernel) (by decide +kernel) (by decide +kernel) ?_))
      rw [show PyData.eqv (pyD .non) (pyD .non) = true by decide +kernel]
      exact rr_dat k
    | bl b =>
      array_get_dec
      refine o_orL (o_eqB ?_)
      simpa using rr_dat k
    | int i h =>
      array_get_dec
      refine o_orL (o_eqI ?_)
      simpa using rr_dat k
    | str z h =>
      array_get_dec
      refine o_orL (o_eqS ?_)
      simpa using rr_dat k
    | tup ds h s e =>
      array_get_dec
      refine o_orR (o_orL (o_eqD h h s s ?_))
      rw [e]
      exact rr_dat k
    | lst ds h s e =>
      array_get_dec
      refine o_orR (o_orL (o_eqD h h s s ?_))
      rw [e]
      exact rr_dat k
    | dic ks h =>
      array_get_dec
      exact o_orR (o_orR (o_orL (o_eqDI h (rr_dat k))))
theorem ok_l_refused {dvs : List V} {kws : List (Str × V)} (F : FunD K "_law_refused" "_law_refused" (defArgs s_l_refused) (defBody s_l_refused) (defScope s_l_refused) dvs kws f fd) (T : Txt K mg) (D_show_log : Df P w K mg base (L2.CX P w) 3 "show_log" ["walk", "wide", "noughts"] [[], [.int 0], [.int 0, .int 0]] (liftX K sd_showX)) (D_l_only : Df P w K mg base CX0 1 "_law_only" ["_law_caught", "_law_which"] [[]] (lift K sd_only)) (DK_show_log_2_noughts : L2.DfK P w K mg base (L2.CX P w) 3 "show_log" ["walk", "wide", "noughts"] 2 ["noughts"] [.inl 0] [.int 0, .int 0] (liftX K sd_showX)) : FnOk P w K mg base CX0 5 f fd ["_law_walk", "_law_one", "_law_two"] (lift K sd_lref) := by
  refine F.ok sc_l_refused (fun vs H Q E h => ?_) (fun cdv A outer s H vs Q E hr h => ?_)
  · obtain ⟨A, S, rs, Φ, so, rr, h, _⟩ := h
    obtain ⟨R, ss, d, e, rfl, g, sl, hd, he, h1, h2⟩ := h
    exact (Paired.length rr).symm
  · obtain ⟨A, S, rs, Φ, so, rr, h, q⟩ := h
    obtain ⟨R, ss, d, e, rfl, g, sl, hd, he, h1, h2⟩ := h
    refine ⟨_, PSs.nox (pss_cons (ps_set (i := 3) sc_l_refused.nd rfl (Or.inl rfl) pe_non)
      (pss_cons (ps_tryH (i := 4) rfl rfl rfl sc_l_refused.nd rfl rfl ⟨by rfl, by decide, .inl T.g_RoseError⟩ takes_no (fun W pn xe tk po => (pss_one (ps_expr (pe_dk1 "noughts" DK_show_log_2_noughts (hr.mono (by first | decide | omega)) (by rfl) (fun σ => passAt tk σ) (pa_cons (pv 0) (pa_cons (pv 1) pa_nil)) (pv 2))))) (fun a oe cls d pn z q => pss_one (ps_set (i := 3) sc_l_refused.nd rfl (Or.inl rfl) (pv 4))))
      (pss_cons (ps_if (pt_cmpR op_isN (pv 3) pe_non (nomark _)) (pss_one (ps_ret pe_non)) pss_nil)
      (pss_one (ps_ret (pe_ifExp (pt_val (pe_df D_l_only (us := []) List.mem_cons_self (hr.mono (by first | decide | omega)) (by rfl) (pa_cons (pv 3) (pa_cons pe_int pa_nil)))) (pe_lst (pa_cons (pe_xk (pv 3)) pa_nil)) (pe_lst (pa_cons pe_str (pa_cons pe_str pa_nil))))))))), fn_body 2 rfl so rr q ?_⟩
    intro Z
    try dsimp only [cxOf, Cx.nox, Cx.wish]
    have cf_Turn := T.clf_Turn
    have cf_Rose := T.clf_Rose
    have cf_Walk := T.clf_Walk
    array_get_dec
    refine ws_tryA (Ψ' := fun c fs ρ' S' => S' = S ∧ c = "NoStep" ∧ fs = ([("thing", badW d e)] : List (Str × D)) ∧ (widB d && widB e) = false ∧ ρ' = [.dat (walkD R ss), .dat d, .dat e, .dat .non, .no]) (by decide) (fun W Z' hz => ?_) ?_
    · array_get_dec
      refine wp_callKX hz (rc_int (rc_int rc_nil)) ?_
      array_get_dec
      refine ⟨rfl, rfl, R, ss, d, e, rfl, g, sl, hd, he, fun q => ⟨rfl, rfl, ?_, ?_, rfl⟩, fun q1 q2 => ⟨rfl, rfl, ?_, ?_, rfl⟩, fun q1 q2 => ?_⟩
      · unfold badW
        rw [if_pos q]
      · rw [q]
        rfl
      · unfold badW
        rw [if_neg (by rw [q1]; decide)]
      · rw [q2, Bool.and_false]
      · clear hz Z'
        dsimp only
        array_get_dec
        exact rr_len rfl (h1 q1 q2)
    · rintro c fs ρ' S' ⟨rfl, rfl, rfl, hf, rfl⟩
      refine ⟨by show 4 < 5; decide, T.exm_NoStep_RoseError, ?_⟩
      array_get_dec
      refine ⟨"NoStep", _, 0, _, rfl, .inl ⟨rfl, rfl, rfl⟩, ?_⟩
      array_get_dec
      refine xf_of T.xk_NoStep T.noat_NoStep lk_hd ?_
      array_get_dec
      exact rr_dat (h2 hf)
theorem ok_l_read_right {dvs : List V} {kws : List (Str × V)} (F : FunD K "_law_read_right" "_law_read_right" (defArgs s_l_read_right) (defBody s_l_read_right) (defScope s_l_read_right) dvs kws f fd) (T : Txt K mg) (D_Rose___eq__ : Dm P w K mg base CX0 3 "Rose" "__eq__" ["self", "other"] [[]] (lift K (sdE K "Rose" gR))) (D_read_log : Df P w K mg base (L2.CX P w) 9 "read_log" ["rose", "text"] [[]] (liftX K sd_readX)) (D_l_only : Df P w K mg base CX0 1 "_law_only" ["_law_caught", "_law_which"] [[]] (lift K sd_only)) (D_l_same : Df P w K mg base CX0 2 "_law_same" ["_law_one", "_law_other"] [[]] (lift K sd_same)) : FnOk P w K mg base CX0 11 f fd ["_law_rose", "_law_steps_here", "_law_text", "_law_two"] (lift K sd_lread) := by
  refine F.ok sc_l_read_right (fun vs H Q E h => ?_) (fun cdv A outer s H vs Q E hr h => ?_)
  · obtain ⟨A, S, rs, Φ, so, rr, h, _⟩ := h
    obtain ⟨R, a, b, ss, rfl, g, sl, ha, hb, k⟩ := h
    exact (Paired.length rr).symm
  · obtain ⟨A, S, rs, Φ, so, rr, h, q⟩ := h
    obtain ⟨R, a, b, ss, rfl, g, sl, ha, hb, k⟩ := h
    refine ⟨_, PSs.nox (pss_cons (ps_setLc (i := 4) (own := [("_law_k", 5)]) (g := (gName 5)) (tt := _) rfl sc_l_read_right.nd rfl rfl (sw_true rfl rfl rfl rfl) (pi_range1 (by rfl) T.b_range (pa_cons (pe_callB call_len_seq (by rfl) T.b_len (by decide +kernel) (pa_cons (pv 1) pa_nil)) pa_nil)) (blkOk_by (own := [("_law_k", 5)]) (N := ["_law_rose", "_law_steps_here", "_law_text", "_law_two", "_law_wrong", "_law_k", "_law_caught", "_law_found", "e"]) (sc := defScope s_l_read_right) (by decide +kernel)) (fun _ _ _ _ _ => (pg_name (i := 5) sc_l_read_right.nd rfl (Or.inl rfl))) (fun _ _ _ _ _ => (pts_one (pt_cmpR op_gt (pe_callB (call_max2 rfl) (by rfl) T.b_max (by decide +kernel) (pa_cons (pv 3) (pa_cons (pe_callB call_len_str (by rfl) T.b_len (by decide +kernel) (pa_cons (pe_callTy call_str_int (by rfl) T.b_str (by decide +kernel) (pa_cons (pe_ix (r := rIxT K) ix_tup (pe_ix (r := rIxL K) ix_list (pv 1) (pv 5) (fun _ _ => rfl)) pe_int (fun _ _ => rfl)) pa_nil)) pa_nil)) pa_nil))) pe_int (nomark _)))) (fun _ _ _ _ _ => (pv 5)))
      (pss_cons (ps_asg (pe_tup (pa_cons pe_non (pa_cons pe_non pa_nil))) (pg_tup rfl (pgs_cons (pg_name (i := 6) sc_l_read_right.nd rfl (Or.inl rfl)) (pgs_cons (pg_name (i := 7) sc_l_read_right.nd rfl (Or.inl rfl)) pgs_nil))))
      (pss_cons (ps_tryH (i := 8) rfl rfl rfl sc_l_read_right.nd rfl rfl ⟨by rfl, by decide, .inl T.g_RoseError⟩ takes_no (fun W pn xe tk po => (pss_one (ps_set (i := 7) sc_l_read_right.nd rfl (Or.inl rfl) (pe_dx D_read_log (us := []) List.mem_cons_self (hr.mono (by first | decide | omega)) (by rfl) (fun σ => passAt tk σ) (pa_cons (pv 0) (pa_cons (pv 2) pa_nil)))))) (fun a oe cls d pn z q => pss_one (ps_set (i := 6) sc_l_read_right.nd rfl (Or.inl rfl) (pv 8))))
      (pss_cons (ps_if (pt_cmpR (op_neD hr.units) (pv 4) (pe_lst pa_nil) (nomark _)) (pss_one (ps_ret (pe_and (pe_cmpR op_notN (pv 6) pe_non (nomark _)) (pe_and (pe_df D_l_only (us := []) List.mem_cons_self (hr.mono (by first | decide | omega)) (by rfl) (pa_cons (pv 6) (pa_cons pe_int pa_nil))) (pe_one (pe_df D_l_same (us := []) List.mem_cons_self (hr.mono (by first | decide | omega)) (by rfl) (pa_cons (pe_xk (pv 6)) (pa_cons (pe_ix ix_list (pv 4) pe_int (fun _ _ => rfl)) pa_nil)))))))) pss_nil)
      (pss_one (ps_ret (pe_and (pe_cmpR op_isN (pv 6) pe_non (nomark _)) (pe_and (pe_callB call_isi (by rfl) T.b_isinstance (by decide +kernel) (pa_cons (pv 7) (pa_cons (pe_glob (v := .ref (He.ga K "Walk")) (by rfl) T.g_Walk rfl) pa_nil))) (pe_and (pe_cmpR (op_eqD hr.units) (pe_fld (pv 7) rfl) (pe_callTy call_tuple_of (by rfl) T.b_tuple (by decide +kernel) (pa_cons (pv 1) pa_nil)) (nomark _)) (pe_one (pe_cmpR (op_eqE (rcA T.clf_Rose T.m_Rose___eq__ D_Rose___eq__) (hr.mono (by first | decide | omega))) (pe_fld (pv 7) rfl) (pv 0) (nomark _)))))))))))), fn_body 5 rfl so rr q ?_⟩
    intro Z
    try dsimp only [cxOf, Cx.nox, Cx.wish]
    have cf_Turn := T.clf_Turn
    have cf_Rose := T.clf_Rose
    have cf_Walk := T.clf_Walk
    have ml : (ss.map (stpD R)).length = ss.length := List.length_map _
    array_get_dec
    refine wp_lcF ?_
    array_get_dec
    rw [ml]
    refine rg1 (by omega) (by omega) ?_
    refine ⟨(List.range ss.length).map fun k => if wrA b ss k = true then some (.int (k : Nat)) else none, by rw [List.length_map, List.length_range, rng_l], by rw [rng_l]; omega, fun i d e S0 hd he => gc_name (by decide) fun Φ k => ?_, ?_⟩
    · obtain ⟨li, rfl⟩ := rng_el hd
      have he := map_el he
      subst he
      have hs : ss[i]? = some ss[i] := List.getElem?_eq_getElem li
      have sm := List.getElem_mem li
      have hst : (ss.map (stpD R))[i]? = some (stpD R ss[i]) := by rw [List.getElem?_map, hs]; rfl
      have n2 := num100 (g.good _ sm).2
      have lg : ((ss[i].2 : Nat) : Int).natAbs.log2 < 1920 := by
        rw [Int.natAbs_natCast]
        rcases Nat.eq_zero_or_pos ss[i].2 with h | h
        · rw [h]
          decide
        · exact (Nat.log2_lt (by omega)).mpr (Nat.lt_of_lt_of_le (g.good _ sm).2 (Nat.pow_le_pow_right (by decide) (by decide)))
      have ie : (if wrA b ss i = true then some (D.int (i : Nat)) else none).isSome = wrA b ss i := by
        cases wrA b ss i <;> rfl
      rw [ie] at k
      have wr : wrA b ss i = decide (9 < (figsW b ss[i]).length) := by
        unfold wrA
        rw [hs]
      refine ⟨?_, fun y hy Φ k => ?_⟩
      · array_get_dec
        refine o_ixL (d := stpD R ss[i]) (atI_nat hst) ?_
        array_get_dec
        refine c_strI lg ?_
        rw [show Str.ofString (toString ((ss[i].2 : Nat) : Int)) = Dg.num ss[i].2 from rfl]
        array_get_dec
        have fl := figs_len b ss[i]
        rw [wr] at k
        have e : decide ((9 : Int) < max ((b : Nat) : Int) ((Dg.num ss[i].2).length : Nat)) = decide (9 < (figsW b ss[i]).length) := decide_eq_decide.mpr (by omega)
        rw [e]
        exact k
      · have ey : y = .int (i : Nat) := by
          split at hy
          · cases hy
            rfl
          · cases hy
        subst ey
        array_get_dec
        exact k
    rw [show ((List.range ss.length).map fun k => if wrA b ss k = true then some (D.int (k : Nat)) else none).filterMap id = ((List.range ss.length).filter (wrA b ss)).map fun k : Nat => D.int (k : Nat) from filt_id _]
    cases hF : (List.range ss.length).filter (wrA b ss) with
    | nil =>
      have all : ∀ (m : Nat) (t : Stp), ss[m]? = some t → (figsW b t).length ≤ 9 := fun m t ht => by
        by_cases h : (figsW b t).length ≤ 9
        · exact h
        · have hm : m ∈ (List.range ss.length).filter (wrA b ss) := List.mem_filter.mpr ⟨List.mem_range.mpr (List.getElem?_eq_some_iff.mp ht).1, by
            unfold wrA
            rw [ht]
            exact decide_eq_true (by omega)⟩
          rw [hF] at hm
          cases hm
      array_get_dec
      refine ws_tryA (Ψ' := fun _ _ _ _ => False) (by decide) (fun W Z' hz => ?_) (fun _ _ _ _ h => h.elim)
      array_get_dec
      refine ⟨R, a, b, ss, rfl, g, sl, ha, hb, fun i s hs h9 _ => absurd (all i s hs) (by omega), fun _ => ?_⟩
      clear hz Z'
      dsimp only
      array_get_dec
      refine o_neL (ns := []) (ms := []) ls_dat ls_dat ?_
      rw [decide_eq_true rfl]
      array_get_dec
      refine o_eqSt g ?_
      array_get_dec
      refine o_cmp (cmp_same ⟨R, R, rfl, rfl, g.ok, g.ok, (like_self R).symm⟩) ?_
      array_get_dec
      exact rr_dat k
    | cons i r =>
      obtain ⟨hi, hm⟩ := first_wr hF
      obtain ⟨s0, hs0, h90⟩ : ∃ s, ss[i]? = some s ∧ 9 < (figsW b s).length := by
        unfold wrA at hi
        cases e : ss[i]? with
        | none => rw [e] at hi; cases hi
        | some s => rw [e] at hi; exact ⟨s, rfl, of_decide_eq_true hi⟩
      have before : ∀ (m : Nat) (t : Stp), m < i → ss[m]? = some t → (figsW b t).length ≤ 9 := fun m t lt ht => by
        have q := hm m lt
        unfold wrA at q
        rw [ht] at q
        have := of_decide_eq_false q
        omega
      array_get_dec
      refine ws_tryA (Ψ' := fun c fs ρ' S' => S' = S ∧ c = "NoText" ∧ fs = ([("row", .int (i : Nat))] : List (Str × D)) ∧ ρ' = [.dat (roseD R), .dat (.lst (ss.map (stpD R))), .dat (.str (logT R a b ss)), .dat (.int (b : Nat)), .dat (.lst ((i :: r).map fun k : Nat => D.int (k : Nat))), .no, .dat .non, .dat .non, .no]) (by decide) (fun W Z' hz => ?_) ?_
      · array_get_dec
        refine ⟨R, a, b, ss, rfl, g, sl, ha, hb, fun j s hs h9 hj => ?_, fun q => absurd (q i s0 hs0) (by omega)⟩
        have e : j = i := by
          rcases Nat.lt_trichotomy j i with h | h | h
          · exact absurd (before j s h hs) (by omega)
          · exact h
          · exact absurd (hj i s0 h hs0) (by omega)
        subst e
        exact ⟨rfl, rfl, rfl, rfl⟩
      · rintro c fs ρ' S' ⟨rfl, rfl, rfl, rfl⟩
        refine ⟨by show 8 < 9; decide, T.exm_NoText_RoseError, ?_⟩
        array_get_dec
        refine o_neL (ns := (i :: r).map fun k : Nat => (k : Int)) (ms := []) (by rw [List.map_map]; exact ls_dat) ls_dat ?_
        rw [decide_eq_false (by simp)]
        array_get_dec
        refine ⟨"NoText", _, 1, _, rfl, .inr ⟨rfl, rfl, rfl⟩, ?_⟩
        array_get_dec
        refine xf_of T.xk_NoText T.noat_NoText lk_hd ?_
        array_get_dec
        refine ⟨.int (i : Nat), rfl, .int _ ?_, rr_dat k⟩
        have := (List.getElem?_eq_some_iff.mp hs0).1
        rw [Int.natAbs_natCast]
        exact Nat.lt_of_lt_of_le (show i < 20 by omega) (by decide)
end
end K41

namespace K41
open PySem PySem.Spec PyProof.Rows L2 Evl Dl
def sd_steps : Sd := fun rs S Φ => ∃ (k : Nat) (R : Rs.Rose), rs = [.mu k, .dat (.ftup ((txs R.ws).map .str)), .dat (.int (R.h : Nat))] ∧ Rs.Ok R ∧ Ha1 k S ∧ ∀ (ss : List Stp) (S1 : Store), Pk1 k S S1 → Gs R ss → ss.length ≤ 20 → Φ (.lst (ss.map (stpD R))) S1
def sd_roseN : Sd := fun rs S Φ => ∃ (ws : List (List Nat)) (h : Nat), rs = [.dat (.ftup ((txs ws).map .str)), .dat (.int (h : Nat)), .dat .non] ∧ Rs.Ok ⟨ws, h, (0, 1)⟩ ∧ Φ (roseD ⟨ws, h, (0, 1)⟩) S
theorem step_snd (l : List Nat) : (Mk.step l).2 = 2 ^ l.length := by
  have gen : ∀ (l : List Nat) (p : Int × Int), (l.foldl (fun p c => (2 * p.1 + (if c = 62 then 1 else -1), 2 * p.2)) p).2 = p.2 * 2 ^ l.length := by
    intro l
    induction l with
    | nil => exact fun p => (Int.mul_one _).symm
    | cons c r ih =>
      intro p
      rw [List.foldl_cons, ih, List.length_cons, Int.pow_succ]
      show 2 * p.2 * 2 ^ r.length = p.2 * (2 ^ r.length * 2)
      grind
  have := gen l (0, 1)
  rw [Int.one_mul] at this
  exact this
theorem good_of {R : Rs.Rose} (ok : Rs.Ok R) {c : Nat} {zs : List Nat} (hc : c < R.ws.length) (hz : ∀ x ∈ zs, x = 60 ∨ x = 62) (hl : zs.length ≤ R.h) : Rs.Good R (c, zs) := by
  have h5 := ok.h5
  refine ⟨hc, hz, hl, ?_⟩
  show 0 < (Mk.step zs).2 ∧ (Mk.step zs).2 ≤ 32
  rw [step_snd]
  have : zs.length = 0 ∨ zs.length = 1 ∨ zs.length = 2 ∨ zs.length = 3 ∨ zs.length = 4 ∨ zs.length = 5 := by omega
  rcases this with h | h | h | h | h | h <;> rw [h] <;> decide
section
variable {P : Program} {w : World} {K : PySem.W.Frag} {mg : Str → Option Value} {base : Heap} {f : Addr} {fd : FuncData}
theorem ok_Rose_init {dvs : List V} {kws : List (Str × V)} (F : FunD K "__init__" "Rose.__init__" (defArgs s_Rose_init) (defBody s_Rose_init) (defScope s_Rose_init) dvs kws f fd) (T : Txt K mg) (D_is_whole : Df P w K mg base CX0 1 "is_whole" ["thing"] [[]] (lift K sd_is_whole)) (D_Turn_init : Dm P w K mg base CX0 2 "Turn" "__init__" ["self", "top", "bottom"] [[], [.int 1]] (liftI0 K "Turn" sd_turn)) (D_are_corners : Df P w K mg base CX0 3 "are_corners" ["thing"] [[]] (lift K sd_corners)) : FnOk P w K mg base CX0 4 f fd ["self", "words", "halvings", "begin"] (liftI0 K "Rose" sd_roseN) := by
  refine F.ok sc_Rose_init (fun vs H Q E h => ?_) (fun cdv A outer s H vs Q E hr h => ?_)
  · obtain ⟨A, S, rs, Φ, a, ws, rfl, so, rr, h, _⟩ := h
    obtain ⟨ws, h, rfl, ok, k⟩ := h
    exact congrArg (· + 1) (Paired.length rr).symm
  · obtain ⟨A, S, rs, Φ, a, ws, rfl, so, rr, h, q⟩ := h
    obtain ⟨ws, h, rfl, ok, k⟩ := h
    refine ⟨_, PSs.nox (pss_cons (ps_if (pt_not (pt_val (pe_df D_are_corners (us := []) List.mem_cons_self (hr.mono (by first | decide | omega)) (by rfl) (pa_cons (pv 1) pa_nil)))) (pss_one ps_never) pss_nil)
      (pss_cons (ps_if (PW.pt (pw_or (pt_not (pt_val (pe_df D_is_whole (us := []) List.mem_cons_self (hr.mono (by first | decide | omega)) (by rfl) (pa_cons (pv 2) pa_nil)))) (pw_or (pt_cmpR op_lt (pv 2) pe_int (nomark _)) (pw_or1 (pt_cmpR op_gt (pv 2) (pe_gi (by rfl) T.g_MOST_HALVINGS) (nomark _)))))) (pss_one ps_never) pss_nil)
      (pss_cons (ps_if (PW.pt (pw_and (pt_cmpR op_notN (pv 3) pe_non (nomark _)) (pw_and1 (pt_not (pt_val (pe_callB call_isi (by rfl) T.b_isinstance (by decide +kernel) (pa_cons (pv 3) (pa_cons (pe_glob (v := .ref (He.ga K "Turn")) (by rfl) T.g_Turn rfl) pa_nil)))))))) (pss_one ps_never) pss_nil)
      (pss_cons (ps_fld (pv 0) (pv 1) rfl)
      (pss_cons (ps_fld (pv 0) (pv 2) rfl)
      (pss_one (ps_fld (pv 0) (pe_ifExp (pt_cmpR op_isN (pv 3) pe_non (nomark _)) (pe_mk (c := "Turn") T.mk_Turn D_Turn_init (us := [.int 1]) (List.mem_cons_of_mem _ List.mem_cons_self) (hr.mono (by first | decide | omega)) (by rfl) T.g_Turn (pa_cons pe_int pa_nil)) (pv 3)) rfl))))))), fn_bodyI (Ψ := noX) (E := E0) 0 rfl so rr q (fun _ _ _ _ _ p => p.elim) ?_⟩
    intro Z hz
    try dsimp only [cxOf, Cx.nox, Cx.wish]
    have cf_Turn := T.clf_Turn
    have cf_Rose := T.clf_Rose
    have cf_Walk := T.clf_Walk
    have h5 : h ≤ 5 := ok.h5
    array_get_dec
    refine ⟨ws, rfl, ok.n3, ok.n8, ok.nd, ok.wd, ?_⟩
    array_get_dec
    refine is_whole_int ?_
    array_get_dec
    · omega
    refine ⟨0, 1, rfl, by decide, by decide, ?_⟩
    rw [show Tn.sgn 0 1 = (0, 1) by decide +kernel]
    array_get_dec
    exact ⟨_, _, _, rfl, rfl, by rw [rf_put]; exact k⟩
theorem ok_l_steps {dvs : List V} {kws : List (Str × V)} (F : FunD K "_law_steps" "_law_steps" (defArgs s_l_steps) (defBody s_l_steps) (defScope s_l_steps) dvs kws f fd) (T : Txt K mg) (D_l_take : Df P w K mg base CX0 1 "_law_take" ["_law_pool", "_law_many"] [[]] (lift K sd_take1)) : FnOk P w K mg base CX0 2 f fd ["_law_pool", "_law_words_here", "_law_halvings"] (lift K sd_steps) := by
  refine F.ok sc_l_steps (fun vs H Q E h => ?_) (fun cdv A outer s H vs Q E hr h => ?_)
  · obtain ⟨A, S, rs, Φ, so, rr, h, _⟩ := h
    obtain ⟨p, R, rfl, ok, hp, k⟩ := h
    exact (Paired.length rr).symm
  · obtain ⟨A, S, rs, Φ, so, rr, h, q⟩ := h
    obtain ⟨p, R, rfl, ok, hp, k⟩ := h
    refine ⟨_, PSs.nox (pss_cons (ps_setM (ps_set (i := 3) sc_l_steps.nd rfl (Or.inl rfl) (pe_lst pa_nil)))
      (pss_cons (ps_for PassesOwn.never rfl (pi_range1 (by rfl) T.b_range (pa_cons (pe_df D_l_take (us := []) List.mem_cons_self (hr.mono (by first | decide | omega)) (by rfl) (pa_cons (pv 0) (pa_cons pe_int pa_nil))) pa_nil)) (pg_name (i := 4) sc_l_steps.nd rfl (Or.inl rfl)) (pss_cons (ps_set (i := 5) sc_l_steps.nd rfl (Or.inl rfl) (pe_join pe_str (pe_lc (own := [("_law_mark", 6)]) (g := (gName 6)) (tt := tYes) rfl sc_l_steps.nd (pi_range1 (by rfl) T.b_range (pa_cons (pe_df D_l_take (us := []) List.mem_cons_self (hr.mono (by first | decide | omega)) (by rfl) (pa_cons (pv 0) (pa_cons (pe_op op_add (pv 2) pe_int) pa_nil))) pa_nil)) (blkOk_by (own := [("_law_mark", 6)]) (N := ["_law_pool", "_law_words_here", "_law_halvings", "_law_found", "_law_turn", "_law_marks", "_law_mark", "_law_tops", "_law_most"]) (sc := defScope s_l_steps) (by decide +kernel)) (fun _ _ _ _ _ => (pg_name (i := 6) sc_l_steps.nd rfl (Or.inl rfl))) (fun _ _ _ _ _ => pts_nil) (fun _ _ _ _ _ => (pe_ix (r := rIxS) ix_str pe_str (pe_df D_l_take (us := []) List.mem_cons_self (hr.mono (by first | decide | omega)) (by rfl) (pa_cons (pv 0) (pa_cons pe_int pa_nil))) (fun _ _ => rfl))))))
        (pss_cons (ps_set (i := 7) sc_l_steps.nd rfl (Or.inl rfl) (pe_lst (pa_cons pe_int (pa_cons pe_int (pa_cons (pe_op op_pow pe_int pe_int) (pa_cons (pe_op op_pow pe_int pe_int) (pa_cons (pe_op op_pow pe_int pe_int) pa_nil)))))))
        (pss_cons (ps_set (i := 8) sc_l_steps.nd rfl (Or.inl rfl) (pe_ix ix_list (pv 7) (pe_df D_l_take (us := []) List.mem_cons_self (hr.mono (by first | decide | omega)) (by rfl) (pa_cons (pv 0) (pa_cons (pe_op op_add pe_int (pe_callTy call_int1 (by rfl) T.b_int (by decide +kernel) (pa_cons (pe_cmpR op_eq (pe_df D_l_take (us := []) List.mem_cons_self (hr.mono (by first | decide | omega)) (by rfl) (pa_cons (pv 0) (pa_cons pe_int pa_nil))) pe_int (nomark _)) pa_nil))) pa_nil))) (fun _ _ => rfl)))
        (pss_one (ps_expr (pe_bm PySem.F.plainAttrs_list PySem.F.slot_list_append PySem.F.type_list_append mt_append (pv 3) (pa_cons (pe_tup (pa_cons (pe_op op_add_str (pe_ix ix_tup (pv 1) (pe_df D_l_take (us := []) List.mem_cons_self (hr.mono (by first | decide | omega)) (by rfl) (pa_cons (pv 0) (pa_cons (pe_callB call_len_seq (by rfl) T.b_len (by decide +kernel) (pa_cons (pv 1) pa_nil)) pa_nil))) (fun _ _ => rfl)) (pv 5)) (pa_cons (pe_df D_l_take (us := []) List.mem_cons_self (hr.mono (by first | decide | omega)) (by rfl) (pa_cons (pv 0) (pa_cons (pv 8) pa_nil))) pa_nil))) pa_nil))))))))
      (pss_one (ps_ret (pv 3))))), fn_body 6 rfl so rr q ?_⟩
    intro Z
    try dsimp only [cxOf, Cx.nox, Cx.wish]
    have cf_Turn := T.clf_Turn
    have cf_Rose := T.clf_Rose
    have cf_Walk := T.clf_Walk
    array_get_dec
    refine take1_go (by exact hp.app) (by decide) fun n S1' n0 n1 p1' => ?_
    obtain ⟨S1, rfl, p1⟩ := Pk1.app hp p1'
    have h1 := p1.has hp
    array_get_dec
    obtain ⟨n, rfl⟩ := Int.eq_ofNat_of_zero_le n0
    refine rg1 (by omega) (by omega) ?_
    refine ⟨fun i ρ S' => ∃ (ss : List Stp) (S2 : Store), S' = S2 ++ [.ls (ss.map (stpD R))] ∧ Pk1 p S S2 ∧ ss.length = i ∧ (∀ s ∈ ss, Rs.Good R s.1 ∧ s.2 < 2 ^ 150) ∧ ∃ v4 v5 v7 v8, ρ = [.mu p, .dat (.ftup ((txs R.ws).map .str)), .dat (.int (R.h : Nat)), .mu S.length, v4, v5, .no, v7, v8], ⟨[], S1, rfl, p1, rfl, nofun, _, _, _, _, rfl⟩, ⟨?_, ?_⟩⟩
    · rintro i d ρ S' hd ⟨ss, S2, rfl, p2, sl, gs, v4, v5, v7, v8, rfl⟩
      obtain ⟨li, rfl⟩ := rng_el hd
      have h2 := p2.has hp
      array_get_dec
      refine wp_lc ?_
      array_get_dec
      refine take1_go (by exact h2.app) (by omega) fun m S3' m0 m1 p3' => ?_
      obtain ⟨S3, rfl, p3⟩ := Pk1.app h2 p3'
      have h3 := p3.has h2
      array_get_dec
      obtain ⟨m, rfl⟩ := Int.eq_ofNat_of_zero_le m0
      refine rg1 (by have := ok.h5; omega) (by omega) ?_
      have h3a : Ha1 p (S3 ++ [.ls (ss.map (stpD R))]) := h3.app
      refine ⟨fun i acc S' => Pk1 p (S3 ++ [.ls (ss.map (stpD R))]) S' ∧ ∃ zs : List Nat, acc = (zs.map fun c => (⟨#[c]⟩ : Str)).map D.str ∧ zs.length = i ∧ ∀ c ∈ zs, c = 60 ∨ c = 62, ⟨h3a.refl, [], rfl, rfl, nofun⟩, ⟨?_⟩, ?_⟩
      · rintro j d acc S' hd hl ⟨pk, zs, rfl, zl, za⟩
        obtain ⟨lj, rfl⟩ := rng_el hd
        refine ⟨by rw [List.length_map, List.length_map]; have := ok.h5; omega, gc_name (by decide) ?_⟩
        array_get_dec
        refine take1_go (pk.has h3a).app (by decide) fun e S5' e0 e1 p5' => ?_
        obtain ⟨S5, rfl, p5⟩ := Pk1.app (pk.has h3a) p5'
        obtain ⟨c, ec, hc⟩ : ∃ c, atI (cs (Str.ofString "<>")) e = some c ∧ (c = 60 ∨ c = 62) := by
          rcases (show e = 0 ∨ e = 1 by omega) with rfl | rfl
          · exact ⟨60, by decide +kernel, .inl rfl⟩
          · exact ⟨62, by decide +kernel, .inr rfl⟩
        refine o_ixS (by decide +kernel) ec ?_
        refine ⟨_, S5, rfl, rfl, by rw [p5.len, hl], pk.trans p5, zs ++ [c], by rw [List.map_append, List.map_append]; rfl, by rw [List.length_append, zl]; rfl, fun x hx => ?_⟩
        rcases List.mem_append.mp hx with hx | hx
        · exact za x hx
        · rw [List.mem_singleton.mp hx]
          exact hc
      · rintro acc S5' hl ⟨p5', zs, rfl, zl, za⟩
        obtain ⟨S5, rfl, p5⟩ := Pk1.app h3 p5'
        rw [rng_l] at zl
        have h5 := ok.h5
        have P5 := p3.trans p5
        have hp5 := P5.has h2
        refine jn_of (ys := zs.map fun c => (⟨#[c]⟩ : Str)) sq_l ?_ ?_
        · rw [sum_ones]
          show zs.length + _ * 0 ≤ _
          omega
        have hst : cs (Txt.join (Str.ofString "") (zs.map fun c => (⟨#[c]⟩ : Str))) = zs := join_cs zs
        generalize Txt.join (Str.ofString "") (zs.map fun c => (⟨#[c]⟩ : Str)) = st at *
        array_get_dec
        refine take1_go (by exact hp5.app) (by decide) fun q1 S6' q10 q11 p6' => ?_
        obtain ⟨S6, rfl, p6⟩ := Pk1.app hp5 p6'
        have hp6 := p6.has hp5
        array_get_dec
        have qb : (0 : Int) < 4 + (if decide (q1 = 0) = true then 1 else 0) ∧ (4 : Int) + (if decide (q1 = 0) = true then 1 else 0) ≤ 5 := by
          split <;> omega
        refine take1_go (by exact hp6.app) qb.1 fun q2 S7' q20 q21 p7' => ?_
        obtain ⟨S7, rfl, p7⟩ := Pk1.app hp6 p7'
        have hp7 := p7.has hp6
        obtain ⟨most, hm, em⟩ := at_ints (L := [10, 10, 10 ^ Int.toNat 9, 10 ^ Int.toNat 9, 10 ^ Int.toNat 30]) q20 (by show q2 < 5; omega)
        have mb : 0 < most ∧ most ≤ 10 ^ 30 := by
          simp only [List.mem_cons, List.mem_nil_iff, or_false] at hm
          rcases hm with rfl | rfl | rfl | rfl | rfl <;> decide
        refine o_ixL em ?_
        array_get_dec
        have l7 : S.length = S7.length := (((p2.trans P5).trans p6).trans p7).len.symm
        refine ⟨S.length, _, rfl, by rw [l7]; exact st_last, ?_⟩
        array_get_dec
        have wl : ((txs R.ws).map D.str).length = R.ws.length := by rw [List.length_map, txs_len]
        have n3 := ok.n3
        refine take1_go (by exact hp7.app) (by omega) fun q3 S8' q30 q31 p8' => ?_
        obtain ⟨S8, rfl, p8⟩ := Pk1.app hp7 p8'
        have hp8 := p8.has hp7
        obtain ⟨c, rfl⟩ := Int.eq_ofNat_of_zero_le q30
        have hc : c < R.ws.length := by omega
        have hw : ((txs R.ws).map D.str)[c]? = some (.str (ofL R.ws[c])) := by
          unfold txs
          rw [List.getElem?_map, List.getElem?_map, List.getElem?_eq_getElem hc]
          rfl
        refine o_ixF (atI_nat hw) ?_
        have wo := ok.wd _ (List.getElem_mem hc)
        have sl2 : st.length ≤ 5 := by
          rw [cs_len, hst]
          omega
        array_get_dec
        refine o_addS (by rw [ofL_len]; have := wo.2.1; omega) ?_
        array_get_dec
        refine take1_go (by exact hp8.app) mb.1 fun q4 S9' q40 q41 p9' => ?_
        obtain ⟨S9, rfl, p9⟩ := Pk1.app hp8 p9'
        obtain ⟨y, rfl⟩ := Int.eq_ofNat_of_zero_le q40
        array_get_dec
        have P9 := (((p2.trans P5).trans p6).trans p7).trans (p8.trans p9)
        have gd := good_of ok hc za (by omega)
        have nm : ofL R.ws[c] ++ st = ofL (Rs.nameOf R (c, zs)) := by
          refine cs_inj ?_
          rw [cs_app, cs_ofL, cs_ofL, hst]
          show R.ws[c] ++ zs = Rs.word R c ++ zs
          have := (Rs.word_at hc).1
          rw [List.getElem?_eq_getElem hc] at this
          rw [Option.some.inj this]
        rw [nm]
        have l9 : S.length = S9.length := P9.len.symm
        refine ⟨_, _, rfl, by rw [l9]; exact st_last, by rw [List.length_map, sl]; omega, ?_⟩
        rw [show (S9 ++ [MO.ls (ss.map (stpD R))] : Store).set S.length (MO.ls (ss.map (stpD R) ++ [D.tup [D.str (ofL (Rs.nameOf R (c, zs))), D.int (y : Nat)]])) = S9 ++ [MO.ls ((ss ++ [((c, zs), y)]).map (stpD R))] by rw [l9, st_set, List.map_append]; rfl]
        have yb : y < 2 ^ 150 := by
          have : (10 : Int) ^ 30 < 2 ^ 150 := by decide
          omega
        refine ⟨ss ++ [((c, zs), y)], S9, rfl, P9, by rw [List.length_append, sl]; rfl, fun x hx => ?_, _, _, _, _, rfl⟩
        rcases List.mem_append.mp hx with hx | hx
        · exact gs x hx
        · rw [List.mem_singleton.mp hx]
          exact ⟨gd, yb⟩
    · rintro ρ S' ⟨ss, S2, rfl, p2, sl, gs, v4, v5, v7, v8, rfl⟩
      rw [rng_l] at sl
      array_get_dec
      have g : Gs R ss := ⟨ok, by omega, gs⟩
      rw [← p2.len]
      exact rr_mu rfl rfl (k ss S2 p2 g (by omega))
end
end K41

namespace K41
open PySem PySem.Spec PyProof.Rows L2 Evl Dl
def sp_law (K : PySem.W.Frag) : Sp := fun vs H Q _ => ∃ (a : Addr) (ns : List Int), vs = [.ref a] ∧ SqL K H a (ns.map V.int) ∧ ns.length ≤ 63 ∧ (∀ z ∈ ns, Builtin.Int.intBits z ≤ 1048576) ∧ ∀ H', Q (.bl true) H'
theorem mem_cut {ds : List D} {lo hi : Option Int} {d : D} (h : d ∈ Dl.cutD ds lo hi) : d ∈ ds := by
  unfold Dl.cutD at h
  exact List.mem_of_mem_drop (List.mem_of_mem_take h)
theorem cut_le (ds : List D) (lo hi : Option Int) : (Dl.cutD ds lo hi).length ≤ ds.length := by
  unfold Dl.cutD
  rw [List.length_take, List.length_drop]
  omega
def oddL : List D := [.non, .bl true, .bl false, .int (-1), .int 21, .int (10 ^ Int.toNat 20), .str "1", .str "", .tup [], .lst [.int 3], .dic [], .tup [.int 0]]
theorem cut_odd (y : Int) (x : D) : (Dl.cutD (Dl.cutD oddL (some y) none) none (some 2)).length + [x].length ≤ 100000 := by
  have h1 := cut_le (Dl.cutD oddL (some y) none) none (some 2)
  have h2 := cut_le oddL (some y) none
  have h3 : oddL.length = 12 := rfl
  have h4 : [x].length = 1 := rfl
  omega
theorem odd_ok : ∀ d ∈ oddL, Wh d ∧ Kn d := fun d hd => by
  unfold oddL at hd
  simp only [List.mem_cons, List.not_mem_nil, or_false] at hd
  rcases hd with rfl | rfl | rfl | rfl | rfl | rfl | rfl | rfl | rfl | rfl | rfl | rfl
  · exact ⟨.inl rfl, .non⟩
  · exact ⟨.inl rfl, .bl _⟩
  · exact ⟨.inl rfl, .bl _⟩
  · exact ⟨.inl rfl, .int _ (by decide)⟩
  · exact ⟨.inl rfl, .int _ (by decide)⟩
  · exact ⟨.inl rfl, .int _ (by decide)⟩
  · exact ⟨.inl rfl, .str _ (by decide +kernel)⟩
  · exact ⟨.inl rfl, .str _ (by decide +kernel)⟩
  · exact ⟨.inl rfl, .tup _ (by decide +kernel) (by decide +kernel) (by decide +kernel)⟩
  · exact ⟨.inl rfl, .lst _ (by decide +kernel) (by decide +kernel) (by decide +kernel)⟩
  · exact ⟨.inl rfl, .dic [] (by decide)⟩
  · exact ⟨.inl rfl, .tup _ (by decide +kernel) (by decide +kernel) (by decide +kernel)⟩
theorem show_go {Ψ : Str → List (Str × D) → Store → Prop} {Φ : D → Store → Prop} {S : Store} {R : Rs.Rose} {ss : List Stp} (g : Gs R ss) (sl : ss.length ≤ 20) {a b : Nat} (ha : a ≤ 20) (hb : b ≤ 20) (k : Φ (.str (logT R a b ss)) S) : sd_showX [.dat (walkD R ss), .dat (.int (a : Nat)), .dat (.int (b : Nat))] S Φ Ψ := by
  have w : ∀ n : Nat, n ≤ 20 → widB (.int (n : Nat)) = true := fun n h => by
    show (decide ((0 : Int) ≤ n) && decide ((n : Int) ≤ 20)) = true
    rw [decide_eq_true (by omega), decide_eq_true (by omega)]
    rfl
  refine ⟨R, ss, _, _, rfl, g, sl, .inl rfl, .inl rfl, fun h => ?_, fun _ h => ?_, fun _ _ => k⟩
  · rw [w a ha] at h
    cases h
  · rw [w b hb] at h
    cases h
section
variable {P : Program} {w : World} {K : PySem.W.Frag} {mg : Str → Option Value} {base : Heap} {f : Addr} {fd : FuncData}
theorem ok_law (F : FnP K "law" s_law f fd) (T : Txt K mg) (D_l_pack : Df P w K mg base CX0 1 "_law_pack" ["_law_script", "_law_k"] [[]] (liftM K sd_pack)) (D_l_take : Df P w K mg base CX0 1 "_law_take" ["_law_pool", "_law_many"] [[]] (lift K sd_take1)) (D_Rose___eq__ : Dm P w K mg base CX0 3 "Rose" "__eq__" ["self", "other"] [[]] (lift K (sdE K "Rose" gR))) (D_Walk_init : Dm P w K mg base CX0 7 "Walk" "__init__" ["self", "rose", "steps"] [[], [.non]] (liftI0 K "Walk" sd_walk)) (D_l_words : Df P w K mg base CX0 2 "_law_words" ["_law_pool", "_law_many"] [[]] (lift K sd_words1)) (D_show_log : Df P w K mg base (L2.CX P w) 3 "show_log" ["walk", "wide", "noughts"] [[], [.int 0], [.int 0, .int 0]] (liftX K sd_showX)) (D_l_shown : Df P w K mg base CX0 1 "_law_shown" ["_law_steps_here", "_law_one", "_law_two"] [[]] (lift K sd_shown)) (D_l_is : Df P w K mg base CX0 1 "_law_is" ["_law_thing"] [[]] (lift K sd_lis)) (D_l_same : Df P w K mg base CX0 2 "_law_same" ["_law_one", "_law_other"] [[]] (lift K sd_same)) (D_l_refused : Df P w K mg base CX0 5 "_law_refused" ["_law_walk", "_law_one", "_law_two"] [[]] (lift K sd_lref)) (D_l_read_right : Df P w K mg base CX0 11 "_law_read_right" ["_law_rose", "_law_steps_here", "_law_text", "_law_two"] [[]] (lift K sd_lread)) (D_Rose_init : Dm P w K mg base CX0 4 "Rose" "__init__" ["self", "words", "halvings", "begin"] [[], [.non], [.int 2, .non]] (liftI0 K "Rose" sd_roseN)) (D_l_steps : Df P w K mg base CX0 2 "_law_steps" ["_law_pool", "_law_words_here", "_law_halvings"] [[]] (lift K sd_steps)) (DK_show_log_1_noughts : L2.DfK P w K mg base (L2.CX P w) 3 "show_log" ["walk", "wide", "noughts"] 1 ["noughts"] [.inr 0, .inl 0] [.int 0, .int 0] (liftX K sd_showX)) (DK_show_log_1_noughts_wide : L2.DfK P w K mg base (L2.CX P w) 3 "show_log" ["walk", "wide", "noughts"] 1 ["noughts", "wide"] [.inl 1, .inl 0] [.int 0, .int 0] (liftX K sd_showX)) (DK_show_log_1_wide : L2.DfK P w K mg base (L2.CX P w) 3 "show_log" ["walk", "wide", "noughts"] 1 ["wide"] [.inl 0, .inr 1] [.int 0, .int 0] (liftX K sd_showX)) : FnOk P w K mg base CX0 16 f fd ["_law_script"] (sp_law K) := by
  refine F.ok sc_law (fun vs H Q E h => ?_) (fun cdv A outer s H vs Q E hr h => ?_)
  · obtain ⟨a, ns, rfl, _⟩ := h
    rfl
  · obtain ⟨l, ns, rfl, hs, hlen, hbits, k⟩ := h
    have nx : ¬ Lv [] [] l := fun ⟨j, m, hj, _⟩ => by simp at hj
    have so : SOk K [] [] H := ⟨rfl, List.nodup_nil, fun j a m hj => by simp at hj⟩
    have rr : RepRs K [] [] H [.dat (.flst (ns.map .int))] [.ref l] := .cons (rep_script nx hs) .nil
    have cf_Rose := T.clf_Rose
    have cf_Walk := T.clf_Walk
    refine ⟨_, PSs.nox (pss_cons (ps_set (i := 1) sc_law.nd rfl (Or.inl rfl) (pe_lst (pa_cons pe_non (pa_cons pe_bl (pa_cons pe_bl (pa_cons (pe_un un_neg pe_int) (pa_cons pe_int (pa_cons (pe_op op_pow pe_int pe_int) (pa_cons pe_str (pa_cons pe_str (pa_cons (pe_tup pa_nil) (pa_cons (pe_lst (pa_cons pe_int pa_nil)) (pa_cons pe_dnewK (pa_cons (pe_tup (pa_cons pe_int pa_nil)) pa_nil))))))))))))))
      (pss_cons (ps_for PassesOwn.never rfl (pi_range1 (by rfl) T.b_range (pa_cons (pe_callB (call_max2 rfl) (by rfl) T.b_max (by decide +kernel) (pa_cons pe_int (pa_cons (pe_callB (call_min2 rfl) (by rfl) T.b_min (by decide +kernel) (pa_cons (pe_callB call_len_seq (by rfl) T.b_len (by decide +kernel) (pa_cons (pv 0) pa_nil)) (pa_cons pe_int pa_nil))) pa_nil))) pa_nil)) (pg_name (i := 2) sc_law.nd rfl (Or.inl rfl)) (pss_cons (ps_set (i := 3) sc_law.nd rfl (Or.inl rfl) (pe_df D_l_pack (us := []) List.mem_cons_self (hr.mono (by first | decide | omega)) (by rfl) (pa_cons (pv 0) (pa_cons (pv 2) pa_nil))))
        (pss_cons (ps_par (i := 4) (j := 5) (by rfl) sc_law.nd rfl rfl (by decide) rfl rfl (pa_cons (pe_df D_l_words (us := []) List.mem_cons_self (hr.mono (by first | decide | omega)) (by rfl) (pa_cons (pv 3) (pa_cons (pe_op op_add pe_int (pe_df D_l_take (us := []) List.mem_cons_self (hr.mono (by first | decide | omega)) (by rfl) (pa_cons (pv 3) (pa_cons pe_int pa_nil)))) pa_nil))) (pa_cons (pe_df D_l_take (us := []) List.mem_cons_self (hr.mono (by first | decide | omega)) (by rfl) (pa_cons (pv 3) (pa_cons pe_int pa_nil))) pa_nil)) (by rfl))
        (pss_cons (ps_par (i := 6) (j := 7) (by rfl) sc_law.nd rfl rfl (by decide) rfl rfl (pa_cons (pe_mk (c := "Rose") T.mk_Rose D_Rose_init (us := [.non]) (List.mem_cons_of_mem _ List.mem_cons_self) (hr.mono (by first | decide | omega)) (by rfl) T.g_Rose (pa_cons (pv 4) (pa_cons (pv 5) pa_nil))) (pa_cons (pe_df D_l_steps (us := []) List.mem_cons_self (hr.mono (by first | decide | omega)) (by rfl) (pa_cons (pv 3) (pa_cons (pv 4) (pa_cons (pv 5) pa_nil)))) pa_nil)) (by rfl))
        (pss_cons (ps_set (i := 8) sc_law.nd rfl (Or.inl rfl) (pe_mk (c := "Walk") T.mk_Walk D_Walk_init (us := []) List.mem_cons_self (hr.mono (by first | decide | omega)) (by rfl) T.g_Walk (pa_cons (pv 6) (pa_cons (pe_callTy call_tuple_of (by rfl) T.b_tuple (by decide +kernel) (pa_cons (pv 7) pa_nil)) pa_nil))))
        (pss_cons (ps_par (i := 9) (j := 10) (by rfl) sc_law.nd rfl rfl (by decide) rfl rfl (pa_cons (pe_df D_l_take (us := []) List.mem_cons_self (hr.mono (by first | decide | omega)) (by rfl) (pa_cons (pv 3) (pa_cons pe_int pa_nil))) (pa_cons (pe_ix ix_list (pe_lst (pa_cons (pe_df D_l_take (us := []) List.mem_cons_self (hr.mono (by first | decide | omega)) (by rfl) (pa_cons (pv 3) (pa_cons pe_int pa_nil))) (pa_cons (pe_df D_l_take (us := []) List.mem_cons_self (hr.mono (by first | decide | omega)) (by rfl) (pa_cons (pv 3) (pa_cons pe_int pa_nil))) pa_nil))) (pe_df D_l_take (us := []) List.mem_cons_self (hr.mono (by first | decide | omega)) (by rfl) (pa_cons (pv 3) (pa_cons pe_int pa_nil))) (fun _ _ => rfl)) pa_nil)) (by rfl))
        (pss_cons (ps_set (i := 11) sc_law.nd rfl (Or.inl rfl) (pe_lst (pa_cons (pe_tup (pa_cons (pe_df D_show_log.calm (us := [.int 0, .int 0]) (List.mem_cons_of_mem _ (List.mem_cons_of_mem _ List.mem_cons_self)) (hr.mono (by first | decide | omega)) (by rfl) (pa_cons (pv 8) pa_nil)) (pa_cons (pe_tup (pa_cons pe_int (pa_cons pe_int pa_nil))) pa_nil))) (pa_cons (pe_tup (pa_cons (pe_df D_show_log.calm (us := [.int 0]) (List.mem_cons_of_mem _ List.mem_cons_self) (hr.mono (by first | decide | omega)) (by rfl) (pa_cons (pv 8) (pa_cons (pv 9) pa_nil))) (pa_cons (pe_tup (pa_cons (pv 9) (pa_cons pe_int pa_nil))) pa_nil))) (pa_cons (pe_tup (pa_cons (pe_dk1 "noughts" DK_show_log_1_noughts.calm (hr.mono (by first | decide | omega)) (by rfl) pass00' (pa_cons (pv 8) pa_nil) (pv 10)) (pa_cons (pe_tup (pa_cons pe_int (pa_cons (pv 10) pa_nil))) pa_nil))) pa_nil)))))
        (pss_cons (ps_setM (ps_set (i := 11) sc_law.nd rfl (Or.inl rfl) (pe_op op_cat (pv 11) (pe_lst (pa_cons (pe_tup (pa_cons (pe_df D_show_log.calm (us := []) List.mem_cons_self (hr.mono (by first | decide | omega)) (by rfl) (pa_cons (pv 8) (pa_cons (pv 9) (pa_cons (pv 10) pa_nil)))) (pa_cons (pe_tup (pa_cons (pv 9) (pa_cons (pv 10) pa_nil))) pa_nil))) (pa_cons (pe_tup (pa_cons (pe_dk1 "wide" DK_show_log_1_wide.calm (hr.mono (by first | decide | omega)) (by rfl) pass00' (pa_cons (pv 8) pa_nil) (pv 9)) (pa_cons (pe_tup (pa_cons (pv 9) (pa_cons pe_int pa_nil))) pa_nil))) pa_nil))))))
        (pss_cons (ps_expr (pe_bm PySem.F.plainAttrs_list PySem.F.slot_list_append PySem.F.type_list_append mt_append (pv 11) (pa_cons (pe_tup (pa_cons (pe_dk2 "noughts" "wide" DK_show_log_1_noughts_wide.calm (hr.mono (by first | decide | omega)) (by rfl) pass00' (pa_cons (pv 8) pa_nil) (pv 10) (pv 9)) (pa_cons (pe_tup (pa_cons (pv 9) (pa_cons (pv 10) pa_nil))) pa_nil))) pa_nil)))
        (pss_cons (ps_for PassesOwn.never rfl (pi_list (pv 11)) (pg_tup rfl (pgs_cons (pg_name (i := 12) sc_law.nd rfl (Or.inl rfl)) (pgs_cons (pg_name (i := 13) sc_law.nd rfl (Or.inl rfl)) pgs_nil))) (pss_cons (ps_if (PW.pt (pw_or (pt_not (pt_val (pe_callB call_isi (by rfl) T.b_isinstance (by decide +kernel) (pa_cons (pv 12) (pa_cons (pe_bltn (v := .ty "str") (by rfl) T.b_str (by decide +kernel) rfl) pa_nil))))) (pw_or1 (pt_cmpR op_ne (pv 12) (pe_df D_l_shown (us := []) List.mem_cons_self (hr.mono (by first | decide | omega)) (by rfl) (pa_cons (pv 7) (pa_cons (pe_ix ix_tup (pv 13) pe_int (fun _ _ => rfl)) (pa_cons (pe_ix ix_tup (pv 13) pe_int (fun _ _ => rfl)) pa_nil)))) (nomark _))))) (pss_one (ps_ret pe_bl)) pss_nil)
          (pss_one (ps_if (pt_not (pt_val (pe_df D_l_read_right (us := []) List.mem_cons_self (hr.mono (by first | decide | omega)) (by rfl) (pa_cons (pv 6) (pa_cons (pv 7) (pa_cons (pv 12) (pa_cons (pe_ix ix_tup (pv 13) pe_int (fun _ _ => rfl)) pa_nil))))))) (pss_one (ps_ret pe_bl)) pss_nil))))
        (pss_cons (ps_for PassesOwn.never rfl (pi_list (pe_op op_cat (pe_slice sl_list (pe_slice sl_list (pv 1) (po_some (pe_df D_l_take (us := []) List.mem_cons_self (hr.mono (by first | decide | omega)) (by rfl) (pa_cons (pv 3) (pa_cons pe_int pa_nil)))) po_none) po_none (po_some pe_int)) (pe_lst (pa_cons (pv 9) pa_nil)))) (pg_name (i := 14) sc_law.nd rfl (Or.inl rfl)) (pss_one (ps_for PassesOwn.never rfl (pi_list (pe_op op_cat (pe_slice sl_list (pe_slice sl_list (pv 1) (po_some (pe_df D_l_take (us := []) List.mem_cons_self (hr.mono (by first | decide | omega)) (by rfl) (pa_cons (pv 3) (pa_cons pe_int pa_nil)))) po_none) po_none (po_some pe_int)) (pe_lst (pa_cons pe_int pa_nil)))) (pg_name (i := 15) sc_law.nd rfl (Or.inl rfl)) (pss_cons (ps_setLc (i := 16) (own := [("_law_thing", 17)]) (g := (gName 17)) (tt := _) rfl sc_law.nd rfl rfl (sw_true rfl rfl rfl rfl) (pi_list (pe_lst (pa_cons (pv 14) (pa_cons (pv 15) pa_nil)))) (blkOk_by (own := [("_law_thing", 17)]) (N := ["_law_script", "_law_odd", "_law_k", "_law_pool", "_law_words_here", "_law_halvings", "_law_rose", "_law_steps_here", "_law_walk", "_law_far", "_law_zeros", "_law_asked", "_law_told", "_law_due", "_law_one", "_law_two", "_law_wrong", "_law_thing"]) (sc := defScope s_law) (by decide +kernel)) (fun _ _ _ _ _ => (pg_name (i := 17) sc_law.nd rfl (Or.inl rfl))) (fun _ _ _ _ _ => (pts_one (pt_not (pt_val (pe_df D_l_is (us := []) List.mem_cons_self (hr.mono (by first | decide | omega)) (by rfl) (pa_cons (pv 17) pa_nil)))))) (fun _ _ _ _ _ => (pv 17)))
            (pss_cons (ps_set (i := 12) sc_law.nd rfl (Or.inl rfl) (pe_df D_l_refused (us := []) List.mem_cons_self (hr.mono (by first | decide | omega)) (by rfl) (pa_cons (pv 8) (pa_cons (pv 14) (pa_cons (pv 15) pa_nil)))))
            (pss_cons (ps_if (PW.pt (pw_and (pt_cmpR (op_uni (op_eqD hr.units) (op_eqLn hr.units0)) (pv 16) (pe_lst pa_nil) (nomark _)) (pw_and1 (pt_cmpR op_notN (pv 12) pe_non (nomark _))))) (pss_one (ps_ret pe_bl)) pss_nil)
            (pss_one (ps_if (PW.pt (pw_and (pt_cmpR (op_uni (op_neD hr.units) (op_neLn hr.units)) (pv 16) (pe_lst pa_nil) (nomark _)) (pw_and1 (PW.pt (pw_or (pt_cmpR op_isN (pv 12) pe_non (nomark _)) (pw_or (pt_cmpR op_ne (pe_callB call_len_seq (by rfl) T.b_len (by decide +kernel) (pa_cons (pv 12) pa_nil)) pe_int (nomark _)) (pw_or1 (pt_not (pt_val (pe_df D_l_same (us := []) List.mem_cons_self (hr.mono (by first | decide | omega)) (by rfl) (pa_cons (pe_ix ix_list (pv 12) pe_int (fun _ _ => rfl)) (pa_cons (pe_ix ix_list (pv 16) pe_int (fun _ _ => rfl)) pa_nil)))))))))))) (pss_one (ps_ret pe_bl)) pss_nil))))))))
        (pss_one (ps_if (PW.pt (pw_or (pt_cmpR (op_neD hr.units) (pe_fld (pv 8) rfl) (pe_callTy call_tuple_of (by rfl) T.b_tuple (by decide +kernel) (pa_cons (pv 7) pa_nil)) (nomark _)) (pw_or1 (pt_cmpR (op_neE (neA T.clf_Rose T.m_Rose___eq__ D_Rose___eq__) (hr.mono (by first | decide | omega))) (pe_fld (pv 8) rfl) (pv 6) (nomark _))))) (pss_one (ps_ret pe_bl)) pss_nil)))))))))))))
      (pss_one (ps_ret pe_bl)))), fn_body (Φ := fun d _ => d = .bl true) 17 rfl so rr (fun d S' v H' e _ _ r => ?_) ?_⟩
    · subst e
      rw [rep_bl r]
      exact k H'
    intro Z
    try dsimp only [cxOf, Cx.nox, Cx.wish]
    array_get_dec
    refine rg1 (by omega) (by omega) ?_
    refine ⟨fun i ρ S' => ∃ v2 v3 v4 v5 v6 v7 v8 v9 v10 v11 v12 v13 v14 v15 v16 v17, ρ = [.dat (.flst (ns.map .int)), .dat (.lst oddL), v2, v3, v4, v5, v6, v7, v8, v9, v10, v11, v12, v13, v14, v15, v16, v17], ⟨_, _, _, _, _, _, _, _, _, _, _, _, _, _, _, _, rfl⟩, ⟨?_, ?_⟩⟩
    · rintro i d ρ S hd ⟨v2, v3, v4, v5, v6, v7, v8, v9, v10, v11, v12, v13, v14, v15, v16, v17, rfl⟩
      unfold rng0 at hd
      have li := (List.getElem?_eq_some_iff.mp hd).1
      rw [List.length_map, List.length_range] at li
      rw [List.getElem?_map, List.getElem?_range li] at hd
      cases hd
      array_get_dec
      refine ⟨ns, i, rfl, by omega, hbits, fun ds hp0 => ?_⟩
      have hp : Ha1 S.length (S ++ [.ls ds]) := ⟨_, hp0, st_last⟩
      dsimp only
      generalize S ++ [MO.ls ds] = S0 at *
      generalize S.length = q at *
      show WpS K _ [_, _, _, _, _, _, _, _, _, _, _, _, _, _, _, _, _, _] _ _ _ _ _
      array_get_dec
      refine take1_go hp (by decide) fun a S1 a0 a1 p1 => ?_
      have h1 := p1.has hp
      obtain ⟨m, rfl⟩ := Int.eq_ofNat_of_zero_le a0
      array_get_dec
      rw [show (3 : Int) + (m : Nat) = ((3 + m : Nat) : Int) by omega]
      refine ⟨q, 3 + m, rfl, by omega, h1, fun ws S2 p2 wl nd wd => ?_⟩
      have h2 := p2.has h1
      array_get_dec
      refine take1_go h2 (by decide) fun h S3 b0 b1 p3 => ?_
      have h3 := p3.has h2
      obtain ⟨h, rfl⟩ := Int.eq_ofNat_of_zero_le b0
      have ok : Rs.Ok ⟨ws, h, (0, 1)⟩ := ⟨by show 3 ≤ ws.length; omega, by show ws.length ≤ 8; omega, by show h ≤ 5; omega, nd, wd, Tn.can01, (show (1 : Int).natAbs < 2 ^ 200 by decide)⟩
      array_get_dec
      refine ⟨ws, h, rfl, ok, ?_⟩
      array_get_dec
      obtain ⟨R, hR⟩ : ∃ R : Rs.Rose, R = ⟨ws, h, (0, 1)⟩ := ⟨_, rfl⟩
      rw [← hR] at ok ⊢
      obtain rfl : R.ws = ws := by rw [hR]
      obtain rfl : R.h = h := by rw [hR]
      refine ⟨q, R, rfl, ok, h3, fun ss S4 p4 g sl => ?_⟩
      have h4 := p4.has h3
      array_get_dec
      refine ⟨R, ss, _, rfl, .inl rfl, g, ?_⟩
      array_get_dec
      refine take1_go h4 (by decide) fun fa S5 c0 c1 p5 => ?_
      have h5 := p5.has h4
      obtain ⟨fa, rfl⟩ := Int.eq_ofNat_of_zero_le c0
      array_get_dec
      refine take1_go h5 (by decide) fun x1 S6 d0 d1 p6 => ?_
      have h6 := p6.has h5
      array_get_dec
      refine take1_go h6 (by decide) fun x2 S7 e0 e1 p7 => ?_
      have h7 := p7.has h6
      array_get_dec
      refine take1_go h7 (by decide) fun x3 S8 f0 f1 p8 => ?_
      have h8 := p8.has h7
      obtain ⟨z, hz, ez⟩ := at_ints (L := [x1, x2]) f0 (by show x3 < 2; omega)
      have zb : 0 ≤ z ∧ z ≤ 20 := by
        simp only [List.mem_cons, List.not_mem_nil, or_false] at hz
        rcases hz with rfl | rfl <;> omega
      refine o_ixL ez ?_
      obtain ⟨z, rfl⟩ := Int.eq_ofNat_of_zero_le zb.1
      array_get_dec
      refine wp_callD (rc_int (rc_int rc_nil)) ?_
      array_get_dec
      refine show_go (a := 0) (b := 0) g sl (by decide) (by decide) ?_
      array_get_dec
      refine show_go (a := fa) (b := 0) g sl (by omega) (by decide) ?_
      array_get_dec
      refine wp_callK (rc_int (rc_int rc_nil)) ?_
      array_get_dec
      refine ⟨rfl, rfl, ?_⟩
      refine show_go (a := 0) (b := z) g sl (by decide) (by omega) ?_
      array_get_dec
      refine show_go (a := fa) (b := z) g sl (by omega) (by omega) ?_
      array_get_dec
      refine wp_callK (rc_int (rc_int rc_nil)) ?_
      array_get_dec
      refine ⟨rfl, rfl, ?_⟩
      refine show_go (a := fa) (b := 0) g sl (by omega) (by decide) ?_
      array_get_dec
      refine ⟨_, _, ls_dat, ls_dat, by simp, ?_⟩
      dsimp only [List.cons_append, List.nil_append]
      array_get_dec
      refine wp_callK (rc_int (rc_int rc_nil)) ?_
      array_get_dec
      refine ⟨rfl, rfl, ?_⟩
      refine show_go (a := fa) (b := z) g sl (by omega) (by omega) ?_
      array_get_dec
      refine appTo_last (by simp) ?_
      refine ws_frz 11 rfl st_last ?_
      show WpS K _ [_, _, _, _, _, _, _, _, _, _, _, _, _, _, _, _, _, _] _ _ _ _ _
      rw [st_set]
      have h9 := h8.app (T := [MO.dead])
      dsimp only [List.cons_append, List.nil_append] at h9 ⊢
      obtain ⟨E, hE⟩ : ∃ E : List D, E = [D.tup [D.str (logT R 0 0 ss), D.tup [D.int 0, D.int 0]], D.tup [D.str (logT R fa 0 ss), D.tup [D.int (fa : Nat), D.int 0]], D.tup [D.str (logT R 0 z ss), D.tup [D.int 0, D.int (z : Nat)]], D.tup [D.str (logT R fa z ss), D.tup [D.int (fa : Nat), D.int (z : Nat)]], D.tup [D.str (logT R fa 0 ss), D.tup [D.int (fa : Nat), D.int 0]], D.tup [D.str (logT R fa z ss), D.tup [D.int (fa : Nat), D.int (z : Nat)]]] := ⟨_, rfl⟩
      rw [← hE]
      generalize S8 ++ [MO.dead] = T at *
      array_get_dec
      refine ⟨fun j ρ S' => S' = T ∧ ∃ v12 v13, ρ = [.dat (.flst (ns.map .int)), .dat (.lst oddL), .dat (.int (i : Nat)), .mu q, .dat (.ftup ((txs R.ws).map .str)), .dat (.int (R.h : Nat)), .dat (roseD R), .dat (.lst (ss.map (stpD R))), .dat (walkD R ss), .dat (.int (fa : Nat)), .dat (.int (z : Nat)), .dat (.lst E), v12, v13, v14, v15, v16, v17], ⟨rfl, _, _, rfl⟩, ⟨?_, ?_⟩⟩
      · rintro j d ρ S' hd ⟨rfl, v12, v13, rfl⟩
        obtain ⟨a, b, rfl, ha, hb⟩ : ∃ a b : Nat, d = D.tup [D.str (logT R a b ss), D.tup [D.int (a : Nat), D.int (b : Nat)]] ∧ a ≤ 20 ∧ b ≤ 20 := by
          have hm := List.mem_of_getElem? hd
          rw [hE] at hm
          simp only [List.mem_cons, List.not_mem_nil, or_false] at hm
          rcases hm with rfl | rfl | rfl | rfl | rfl | rfl
          · exact ⟨0, 0, rfl, by omega, by omega⟩
          · exact ⟨fa, 0, rfl, by omega, by omega⟩
          · exact ⟨0, z, rfl, by omega, by omega⟩
          · exact ⟨fa, z, rfl, by omega, by omega⟩
          · exact ⟨fa, 0, rfl, by omega, by omega⟩
          · exact ⟨fa, z, rfl, by omega, by omega⟩
        array_get_dec
        refine ⟨R, a, b, ss, rfl, g, sl, ha, hb, ?_⟩
        array_get_dec
        refine ⟨R, a, b, ss, rfl, g, sl, ha, hb, ?_⟩
        array_get_dec
        exact ⟨rfl, _, _, rfl⟩
      · rintro ρ S' ⟨rfl, v12, v13, rfl⟩
        array_get_dec
        refine take1_go h9 (by decide) fun y1 T1 y10 y11 r1 => ?_
        have g1 := r1.has h9
        array_get_dec
        · exact cut_odd _ _
        refine ⟨fun j ρ S' => Ha1 q S' ∧ ∃ v12 v13 v14 v15 v16 v17, ρ = [.dat (.flst (ns.map .int)), .dat (.lst oddL), .dat (.int (i : Nat)), .mu q, .dat (.ftup ((txs R.ws).map .str)), .dat (.int (R.h : Nat)), .dat (roseD R), .dat (.lst (ss.map (stpD R))), .dat (walkD R ss), .dat (.int (fa : Nat)), .dat (.int (z : Nat)), .dat (.lst E), v12, v13, v14, v15, v16, v17], ⟨g1, _, _, _, _, _, _, rfl⟩, ⟨?_, ?_⟩⟩
        · clear hp h1 h2 h3 h4 h5 h6 h7 h8 h9 p1 p2 p3 p4 p5 p6 p7 p8 hp0 r1 g1
          rintro j d ρ S' hd ⟨g1, v12, v13, v14, v15, v16, v17, rfl⟩
          array_get_dec
          refine take1_go g1 (by decide) fun y2 T2 y20 y21 r2 => ?_
          have g2 := r2.has g1
          have key : ∀ (y : Int) (x : Nat) (d : D), x ≤ 20 → d ∈ Dl.cutD (Dl.cutD oddL (some y) none) none (some 2) ++ [D.int (x : Nat)] → Wh d ∧ Kn d := fun y x d hx hm => by
            rcases List.mem_append.mp hm with hm | hm
            · exact odd_ok d (mem_cut (mem_cut hm))
            · rw [List.mem_singleton.mp hm]
              exact ⟨.inl rfl, .int _ (by omega)⟩
          obtain ⟨wd1, kn1⟩ := key _ _ d (by omega) (List.mem_of_getElem? hd)
          array_get_dec
          · exact cut_odd _ _
          refine ⟨fun j ρ S' => S' = T2 ∧ ∃ v12 v15 v16 v17, ρ = [.dat (.flst (ns.map .int)), .dat (.lst oddL), .dat (.int (i : Nat)), .mu q, .dat (.ftup ((txs R.ws).map .str)), .dat (.int (R.h : Nat)), .dat (roseD R), .dat (.lst (ss.map (stpD R))), .dat (walkD R ss), .dat (.int (fa : Nat)), .dat (.int (z : Nat)), .dat (.lst E), v12, v13, .dat d, v15, v16, v17], ⟨rfl, _, _, _, _, rfl⟩, ⟨?_, ?_⟩⟩
          · rintro j e ρ S' he ⟨rfl, v12, v15, v16, v17, rfl⟩
            obtain ⟨wd2, kn2⟩ := key _ 20 e (by omega) (List.mem_of_getElem? he)
            array_get_dec
            refine wp_lcF ?_
            array_get_dec
            refine ⟨[if widB d = true then none else some d, if widB e = true then none else some e], rfl, by show 2 < _; decide, fun t x y S9 hx hy => gc_name (by decide) fun Φ' k' => ?_, ?_⟩
            · obtain ⟨wx, hy⟩ : Wh x ∧ y = if widB x = true then none else some x := by
                match t, hx, hy with
                | 0, hx, hy => cases hx; cases hy; exact ⟨wd1, rfl⟩
                | 1, hx, hy => cases hx; cases hy; exact ⟨wd2, rfl⟩
              subst hy
              have ie : (if widB x = true then none else some x).isSome = !widB x := by
                cases widB x <;> rfl
              rw [ie] at k'
              refine ⟨?_, fun y hy Φ k => ?_⟩
              · array_get_dec
                refine ⟨x, rfl, wx, ?_⟩
                array_get_dec
                exact k'
              · have ey : y = x := by
                  split at hy
                  · cases hy
                  · cases hy
                    rfl
                subst ey
                array_get_dec
                exact k
            cases w1 : widB d with
            | true =>
              cases w2 : widB e with
              | true =>
                rw [show List.filterMap id [if true = true then none else some d, if true = true then none else some e] = [] from rfl]
                array_get_dec
                refine ⟨R, ss, d, e, rfl, g, sl, wd1, wd2, fun _ _ => ?_, fun h => ?_⟩
                · array_get_dec
                  refine o_orL (o_eqD (by decide +kernel) (by decide +kernel) (by decide +kernel) (by decide +kernel) ?_)
                  rw [show PyData.eqv (pyD (.lst [])) (pyD (.lst [])) = true by decide +kernel]
                  array_get_dec
                  refine o_orL (o_neD (by decide +kernel) (by decide +kernel) (by decide +kernel) (by decide +kernel) ?_)
                  rw [show PyData.eqv (pyD (.lst [])) (pyD (.lst [])) = true by decide +kernel]
                  array_get_dec
                  exact ⟨rfl, _, _, _, _, rfl⟩
                · rw [w1, w2] at h
                  cases h
              | false =>
                rw [show List.filterMap id [if true = true then none else some d, if false = true then none else some e] = [e] from rfl]
                array_get_dec
                refine ⟨R, ss, d, e, rfl, g, sl, wd1, wd2, fun _ q2 => absurd (q2.symm.trans w2) (by decide), fun _ => ?_⟩
                rw [show badW d e = e by unfold badW; rw [if_neg (by rw [w1]; decide)]]
                array_get_dec
                refine o_orR (o_eqLn (by simp) ?_)
                array_get_dec
                refine o_orR (o_lnE ls_dat ls_dat (by simp) ?_)
                array_get_dec
                refine ⟨e, rfl, kn2, ?_⟩
                array_get_dec
                exact ⟨rfl, _, _, _, _, rfl⟩
            | false =>
              have bw : badW d e = d := by
                unfold badW
                rw [if_pos w1]
              cases w2 : widB e with
              | true =>
                rw [show List.filterMap id [if false = true then none else some d, if true = true then none else some e] = [d] from rfl]
                array_get_dec
                refine ⟨R, ss, d, e, rfl, g, sl, wd1, wd2, fun q1 _ => absurd (q1.symm.trans w1) (by decide), fun _ => ?_⟩
                rw [bw]
                array_get_dec
                refine o_orR (o_eqLn (by simp) ?_)
                array_get_dec
                refine o_orR (o_lnE ls_dat ls_dat (by simp) ?_)
                array_get_dec
                refine ⟨d, rfl, kn1, ?_⟩
                array_get_dec
                exact ⟨rfl, _, _, _, _, rfl⟩
              | false =>
                rw [show List.filterMap id [if false = true then none else some d, if false = true then none else some e] = [d, e] from rfl]
                array_get_dec
                refine ⟨R, ss, d, e, rfl, g, sl, wd1, wd2, fun q1 _ => absurd (q1.symm.trans w1) (by decide), fun _ => ?_⟩
                rw [bw]
                array_get_dec
                refine o_orR (o_eqLn (by simp) ?_)
                array_get_dec
                refine o_orR (o_lnE ls_dat ls_dat (by simp) ?_)
                array_get_dec
                refine ⟨d, rfl, kn1, ?_⟩
                array_get_dec
                exact ⟨rfl, _, _, _, _, rfl⟩
          · rintro ρ S' ⟨rfl, v12, v15, v16, v17, rfl⟩
            array_get_dec
            exact ⟨g2, _, _, _, _, _, _, rfl⟩
        · rintro ρ S' ⟨g1, v12, v13, v14, v15, v16, v17, rfl⟩
          array_get_dec
          refine o_neSt g ?_
          array_get_dec
          refine o_cmp (cmp_same ⟨R, R, rfl, rfl, ok, ok, (show (!false) = likeR R R by rw [like_self]; rfl)⟩) ?_
          array_get_dec
          exact ⟨_, _, _, _, _, _, _, _, _, _, _, _, _, _, _, _, rfl⟩
    · rintro ρ S ⟨v2, v3, v4, v5, v6, v7, v8, v9, v10, v11, v12, v13, v14, v15, v16, v17, rfl⟩
      array_get_dec
      rfl
end
end K41

namespace L2
open PySem PySem.Spec PyProof.Rows PySem.W
/-- the end of a law row: what the written part says is found in the heap, the numbers' bits are told -/
theorem walk_bits {l : PySem.W.OpenLaw} {n k : Nat} {q : Program} {loose : List Str} {XP : (Str → Option Value) → Heap → Prop} {YP : World → Heap → Prop} {d : DefRec} {CX : CXT} {x : Str}
    (a1 : l.most = some n) (a2 : n ≤ sizeLine) (a3 : d.params.defaults = []) (a4 : Room k callerA)
    (F : ∀ (w : World) (mg : Str → Option Value) (fa : Addr) (h : Heap), YP w h → h.Ns mainGlobals mg → mg d.name = some (.ref fa) → ∃ (K : PySem.W.Frag) (fd : FuncData) (sp : Sp), K.In h ∧
      (∀ (s : Shared) (u : Value), BindsTo s fd ⟨[u], []⟩ [(x, u)]) ∧
      (∀ (H : Hp) (a : Addr) (ns : List Int), ns.length ≤ n → (∀ z ∈ ns, Builtin.Int.intBits z ≤ 1048576) → SqL K H a (ns.map V.int) → sp [.ref a] H (fun v _ => v = .bl true) fun _ _ _ => False) ∧
      ∀ base : Heap, K.In base → base.Ns mainGlobals mg → FnOk l.prog w K mg base CX k fa fd [x] sp)
    (a5 : ∀ (H : Hp) (s : Shared) (e : Value) (s' : Shared), CX [] H s (fun _ _ _ => False) e s' → False) :
    PySem.W.WalkO q loose XP YP l.row.toRowW d [] (fun f vs => PySem.call f vs) := by
  refine Att.attach_callB a1 a3 fun w s₀ s₁ mg mb fa o pm cd doc a vs ns G Y _ _ _ hmg hobj hints hlen hbits hg => ?_
  obtain ⟨K, fd, sp, KX, hb, hsp, hF⟩ := F w mg fa _ Y G.T.g hmg
  exact law_call KX G.T.g G.T.b G.T.builtins G.T.nolimit hg hobj hints (Nat.le_trans hlen a2) a4 hF hb (fun H _ hS => hsp H a ns hlen hbits hS) fun H e s' => a5 H s₁ e s'
end L2
namespace K41
open PySem PySem.Spec PyProof.Rows L2 Evl Dl
theorem facts {P : Program} {w : World} {K : PySem.W.Frag} {h : Heap} {mg : Str → Option Value} {f : Addr} (X : K.In h) (G : h.Ns mainGlobals mg) (hfa : mg ("law" : Str) = some (.ref f)) (c : He.SaysD fa fn K) (cx : ex K = true) :
    ∃ fd : FuncData, (∀ (s : Shared) (v : Value), BindsTo s fd ⟨[v], []⟩ [("_law_script", v)]) ∧ ∀ base : Heap, K.In base → base.Ns mainGlobals mg → FnOk P w K mg base CX0 16 f fd ["_law_script"] (sp_law K) := by
  obtain ⟨cx0, cx⟩ := He.ba cx
  obtain ⟨cx1, cx⟩ := He.ba cx
  obtain ⟨cx2, cx⟩ := He.ba cx
  obtain ⟨cx3, cx⟩ := He.ba cx
  obtain ⟨cx4, cx⟩ := He.ba cx
  obtain ⟨cx5, cx⟩ := He.ba cx
  obtain ⟨cx6, cx⟩ := He.ba cx
  obtain ⟨cx7, cx⟩ := He.ba cx
  obtain ⟨cx8, cx⟩ := He.ba cx
  obtain ⟨cx9, cx⟩ := He.ba cx
  obtain ⟨cx10, cx⟩ := He.ba cx
  obtain ⟨cx11, cx⟩ := He.ba cx
  obtain ⟨cx12, cx⟩ := He.ba cx
  obtain ⟨cx13, cx⟩ := He.ba cx
  obtain ⟨cx14, cx⟩ := He.ba cx
  obtain ⟨cx15, cx⟩ := He.ba cx
  obtain ⟨cx16, cx⟩ := He.ba cx
  obtain ⟨cx17, cx⟩ := He.ba cx
  obtain ⟨cx18, cx⟩ := He.ba cx
  obtain ⟨cx19, cx⟩ := He.ba cx
  obtain ⟨cx20, cx⟩ := He.ba cx
  obtain ⟨cx21, cx⟩ := He.ba cx
  obtain ⟨cx22, cx⟩ := He.ba cx
  obtain ⟨cx23, cx⟩ := He.ba cx
  obtain ⟨cx24, cx25⟩ := He.ba cx
  have T : Txt K mg := { g_Turn := He.glo_ok X G (c.fact 47 (f := .glo "Turn") rfl), cl_Turn := He.cls_ok (c.fact 48 (f := .cls "Turn") rfl), mk_Turn := He.mkr_ok (c.fact 49 (f := .mkr "Turn") rfl), no_Turn_top := He.noat_ok (c.fact 50 (f := .noat "Turn" "top") rfl), no_Turn_bottom := He.noat_ok (c.fact 51 (f := .noat "Turn" "bottom") rfl), m_Turn___eq__ := He.meth_ok (c.fact 52 (f := .meth "Turn" "__eq__") rfl), g_Rose := He.glo_ok X G (c.fact 53 (f := .glo "Rose") rfl), cl_Rose := He.cls_ok (c.fact 54 (f := .cls "Rose") rfl), mk_Rose := He.mkr_ok (c.fact 55 (f := .mkr "Rose") rfl), no_Rose_words := He.noat_ok (c.fact 56 (f := .noat "Rose" "words") rfl), no_Rose_halvings := He.noat_ok (c.fact 57 (f := .noat "Rose" "halvings") rfl), no_Rose_begin := He.noat_ok (c.fact 58 (f := .noat "Rose" "begin") rfl), m_Rose___eq__ := He.meth_ok (c.fact 59 (f := .meth "Rose" "__eq__") rfl), m_Rose___len__ := He.meth_ok (c.fact 60 (f := .meth "Rose" "__len__") rfl), g_Walk := He.glo_ok X G (c.fact 61 (f := .glo "Walk") rfl), cl_Walk := He.cls_ok (c.fact 62 (f := .cls "Walk") rfl), mk_Walk := He.mkr_ok (c.fact 63 (f := .mkr "Walk") rfl), no_Walk_rose := He.noat_ok (c.fact 64 (f := .noat "Walk" "rose") rfl), no_Walk_steps := He.noat_ok (c.fact 65 (f := .noat "Walk" "steps") rfl), b_LookupError := He.free_ok X G (c.fact 28 (f := .free "LookupError") rfl), b_ValueError := He.free_ok X G (c.fact 29 (f := .free "ValueError") rfl), b_abs := He.free_ok X G (c.fact 30 (f := .free "abs") rfl), b_all := He.free_ok X G (c.fact 31 (f := .free "all") rfl), b_bool := He.free_ok X G (c.fact 32 (f := .free "bool") rfl), b_divmod := He.free_ok X G (c.fact 33 (f := .free "divmod") rfl), b_enumerate := He.free_ok X G (c.fact 34 (f := .free "enumerate") rfl), b_int := He.free_ok X G (c.fact 35 (f := .free "int") rfl), b_isinstance := He.free_ok X G (c.fact 36 (f := .free "isinstance") rfl), b_len := He.free_ok X G (c.fact 37 (f := .free "len") rfl), b_list := He.free_ok X G (c.fact 38 (f := .free "list") rfl), b_max := He.free_ok X G (c.fact 39 (f := .free "max") rfl), b_min := He.free_ok X G (c.fact 40 (f := .free "min") rfl), b_range := He.free_ok X G (c.fact 41 (f := .free "range") rfl), b_set := He.free_ok X G (c.fact 42 (f := .free "set") rfl), b_str := He.free_ok X G (c.fact 43 (f := .free "str") rfl), b_sum := He.free_ok X G (c.fact 44 (f := .free "sum") rfl), b_tuple := He.free_ok X G (c.fact 45 (f := .free "tuple") rfl), b_zip := He.free_ok X G (c.fact 46 (f := .free "zip") rfl), g_FIGURES := He.str_ok X G (c.fact 66 (f := .str "FIGURES" "0123456789") rfl), g_MOST_FIGURES := He.int_ok X G (c.fact 67 (f := .int "MOST_FIGURES" 9) rfl), g_PIECE := He.int_ok X G (c.fact 68 (f := .int "PIECE" 1000000000000000000) rfl), g_LETTERS := He.str_ok X G (c.fact 69 (f := .str "LETTERS" "abcdefghijklmnopqrstuvwxyz") rfl), g_MOST_LETTERS := He.int_ok X G (c.fact 70 (f := .int "MOST_LETTERS" 6) rfl), g_ON := He.str_ok X G (c.fact 71 (f := .str "ON" ">") rfl), g_BACK := He.str_ok X G (c.fact 72 (f := .str "BACK" "<") rfl), g_PAIR := He.int_ok X G (c.fact 73 (f := .int "PAIR" 2) rfl), g_ODD_SIZES := He.glo_ok X G (c.fact 74 (f := .glo "ODD_SIZES") rfl), g_LEAST_CORNERS := He.int_ok X G (c.fact 75 (f := .int "LEAST_CORNERS" 3) rfl), g_MOST_CORNERS := He.int_ok X G (c.fact 76 (f := .int "MOST_CORNERS" 8) rfl), g_MOST_HALVINGS := He.int_ok X G (c.fact 77 (f := .int "MOST_HALVINGS" 5) rfl), g_FIRST_WORD := He.str_ok X G (c.fact 78 (f := .str "FIRST_WORD" "rose") rfl), g_MOST_STEPS := He.int_ok X G (c.fact 79 (f := .int "MOST_STEPS" 256) rfl), g_NO_STEPS := He.str_ok X G (c.fact 80 (f := .str "NO_STEPS" "-") rfl), g_BETWEEN := He.str_ok X G (c.fact 81 (f := .str "BETWEEN" ", ") rfl), g_LINE_END := He.str_ok X G (c.fact 82 (f := .str "LINE_END" "\n") rfl), g_BLANK := He.str_ok X G (c.fact 83 (f := .str "BLANK" " ") rfl), g_REMARK := He.str_ok X G (c.fact 84 (f := .str "REMARK" "#") rfl), g_WIDEST := He.int_ok X G (c.fact 85 (f := .int "WIDEST" 20) rfl), g_RoseError := He.glo_ok X G (c.fact 86 (f := .glo "RoseError") rfl), g_NoTurn := He.glo_ok X G (c.fact 87 (f := .glo "NoTurn") rfl), g_NoName := He.glo_ok X G (c.fact 88 (f := .glo "NoName") rfl), g_NoStep := He.glo_ok X G (c.fact 89 (f := .glo "NoStep") rfl), g_NoRose := He.glo_ok X G (c.fact 90 (f := .glo "NoRose") rfl), g_NoText := He.glo_ok X G (c.fact 91 (f := .glo "NoText") rfl), g_NoWind := He.glo_ok X G (c.fact 92 (f := .glo "NoWind") rfl), g_NoPair := He.glo_ok X G (c.fact 93 (f := .glo "NoPair") rfl), g_NoRoom := He.glo_ok X G (c.fact 94 (f := .glo "NoRoom") rfl), g_NoWalk := He.glo_ok X G (c.fact 95 (f := .glo "NoWalk") rfl), g_NoRow := He.glo_ok X G (c.fact 96 (f := .glo "NoRow") rfl), g_LostError := He.glo_ok X G (c.fact 97 (f := .glo "LostError") rfl), g_NoWord := He.glo_ok X G (c.fact 98 (f := .glo "NoWord") rfl), g_NoDeed := He.glo_ok X G (c.fact 99 (f := .glo "NoDeed") rfl), g_NoSuch := He.glo_ok X G (c.fact 100 (f := .glo "NoSuch") rfl), own_Turn := ownB_ok cx0, own_Rose := ownB_ok cx1, own_Walk := ownB_ok cx2, nb_Rose := He.eqO_ok cx3, dig := cx4, ob_Turn_Rose := cx5, ob_Turn_Walk := cx6, ob_Rose_Turn := cx7, ob_Rose_Walk := cx8, ob_Walk_Turn := cx9, ob_Walk_Rose := cx10, t_ODD_SIZES := fun H => He.tupB_ok cx11 H, base_RoseError := baseB_ok cx12, oex_NoStep := oexB_ok cx13, xk_NoStep := xkB_ok cx14, kit_NoStep := cx15, kt_NoStep_ValueError := of_decide_eq_true cx16, kt_NoStep_LookupError := of_decide_eq_true cx17, oex_NoText := oexB_ok cx18, xk_NoText := xkB_ok cx19, kit_NoText := cx20, kt_NoText_ValueError := of_decide_eq_true cx21, kt_NoText_LookupError := of_decide_eq_true cx22, ki_Turn_int := of_decide_eq_true cx23, ki_Turn_bool := of_decide_eq_true cx24, ki_Turn_str := of_decide_eq_true cx25, noat_NoStep := He.noat_ok (c.fact 101 (f := .noat "NoStep" "thing") rfl), mi_NoStep := He.meth_ok (c.fact 102 (f := .meth "NoStep" "__init__") rfl), exm_NoStep_RoseError := He.exm_ok (c.fact 103 (f := .exm "NoStep" "RoseError" true) rfl), noat_NoText := He.noat_ok (c.fact 104 (f := .noat "NoText" "row") rfl), mi_NoText := He.meth_ok (c.fact 105 (f := .meth "NoText" "__init__") rfl), exm_NoText_RoseError := He.exm_ok (c.fact 106 (f := .exm "NoText" "RoseError" true) rfl) }
  obtain ⟨fd_NoStep_init, F0_NoStep_init⟩ := c.def_ 0 (d := d_NoStep_init) rfl
  have F_NoStep_init : FunD K "__init__" "NoStep.__init__" (defArgs s_NoStep_init) (defBody s_NoStep_init) (defScope s_NoStep_init) [] [] (He.ma K (He.ga K "NoStep") "__init__") fd_NoStep_init := F0_NoStep_init
  obtain ⟨fd_NoText_init, F0_NoText_init⟩ := c.def_ 1 (d := d_NoText_init) rfl
  have F_NoText_init : FunD K "__init__" "NoText.__init__" (defArgs s_NoText_init) (defBody s_NoText_init) (defScope s_NoText_init) [] [] (He.ma K (He.ga K "NoText") "__init__") fd_NoText_init := F0_NoText_init
  obtain ⟨fd_is_whole, F0_is_whole⟩ := c.def_ 2 (d := d_is_whole) rfl
  have F_is_whole : FunD K "is_whole" "is_whole" (defArgs s_is_whole) (defBody s_is_whole) (defScope s_is_whole) [] [] (He.ga K "is_whole") fd_is_whole := F0_is_whole
  have g_is_whole := He.glo_ok X G (c.fact 0 (f := .glo "is_whole") rfl)
  obtain ⟨fd_common, F0_common⟩ := c.def_ 3 (d := d_common) rfl
  have F_common : FunD K "common" "common" (defArgs s_common) (defBody s_common) (defScope s_common) [] [] (He.ga K "common") fd_common := F0_common
  have g_common := He.glo_ok X G (c.fact 1 (f := .glo "common") rfl)
  obtain ⟨fd_figures_of, F0_figures_of⟩ := c.def_ 4 (d := d_figures_of) rfl
  have F_figures_of : FunD K "figures_of" "figures_of" (defArgs s_figures_of) (defBody s_figures_of) (defScope s_figures_of) [] [] (He.ga K "figures_of") fd_figures_of := F0_figures_of
  have g_figures_of := He.glo_ok X G (c.fact 2 (f := .glo "figures_of") rfl)
  obtain ⟨fd_are_figures, F0_are_figures⟩ := c.def_ 5 (d := d_are_figures) rfl
  have F_are_figures : FunD K "are_figures" "are_figures" (defArgs s_are_figures) (defBody s_are_figures) (defScope s_are_figures) [] [] (He.ga K "are_figures") fd_are_figures := F0_are_figures
  have g_are_figures := He.glo_ok X G (c.fact 3 (f := .glo "are_figures") rfl)
  obtain ⟨fd_number_of, F0_number_of⟩ := c.def_ 6 (d := d_number_of) rfl
  have F_number_of : FunD K "number_of" "number_of" (defArgs s_number_of) (defBody s_number_of) (defScope s_number_of) [] [] (He.ga K "number_of") fd_number_of := F0_number_of
  have g_number_of := He.glo_ok X G (c.fact 4 (f := .glo "number_of") rfl)
  obtain ⟨fd_is_word, F0_is_word⟩ := c.def_ 7 (d := d_is_word) rfl
  have F_is_word : FunD K "is_word" "is_word" (defArgs s_is_word) (defBody s_is_word) (defScope s_is_word) [] [] (He.ga K "is_word") fd_is_word := F0_is_word
  have g_is_word := He.glo_ok X G (c.fact 5 (f := .glo "is_word") rfl)
  obtain ⟨fd_parted_within, F0_parted_within⟩ := c.def_ 8 (d := d_parted_within) rfl
  have F_parted_within : FunD K "parted_within" "parted_within" (defArgs s_parted_within) (defBody s_parted_within) (defScope s_parted_within) [] [] (He.ga K "parted_within") fd_parted_within := F0_parted_within
  have g_parted_within := He.glo_ok X G (c.fact 6 (f := .glo "parted_within") rfl)
  obtain ⟨fd_end_of_run, F0_end_of_run⟩ := c.def_ 9 (d := d_end_of_run) rfl
  have F_end_of_run : FunD K "end_of_run" "end_of_run" (defArgs s_end_of_run) (defBody s_end_of_run) (defScope s_end_of_run) [] [] (He.ga K "end_of_run") fd_end_of_run := F0_end_of_run
  have g_end_of_run := He.glo_ok X G (c.fact 7 (f := .glo "end_of_run") rfl)
  obtain ⟨fd_step_of, F0_step_of⟩ := c.def_ 10 (d := d_step_of) rfl
  have F_step_of : FunD K "step_of" "step_of" (defArgs s_step_of) (defBody s_step_of) (defScope s_step_of) [] [] (He.ga K "step_of") fd_step_of := F0_step_of
  have g_step_of := He.glo_ok X G (c.fact 8 (f := .glo "step_of") rfl)
  obtain ⟨fd_Turn_init, F0_Turn_init⟩ := c.def_ 11 (d := d_Turn_init) rfl
  have F_Turn_init : FunD K "__init__" "Turn.__init__" (defArgs s_Turn_init) (defBody s_Turn_init) (defScope s_Turn_init) [.int 1] [] (He.ma K (He.ga K "Turn") "__init__") fd_Turn_init := F0_Turn_init
  obtain ⟨fd_Turn___eq__, F0_Turn___eq__⟩ := c.def_ 12 (d := d_Turn___eq__) rfl
  have F_Turn___eq__ : FunD K "__eq__" "Turn.__eq__" (defArgs s_Turn___eq__) (defBody s_Turn___eq__) (defScope s_Turn___eq__) [] [] (He.ma K (He.ga K "Turn") "__eq__") fd_Turn___eq__ := F0_Turn___eq__
  obtain ⟨fd_place_told, F0_place_told⟩ := c.def_ 13 (d := d_place_told) rfl
  have F_place_told : FunD K "place_told" "place_told" (defArgs s_place_told) (defBody s_place_told) (defScope s_place_told) [] [] (He.ga K "place_told") fd_place_told := F0_place_told
  have g_place_told := He.glo_ok X G (c.fact 9 (f := .glo "place_told") rfl)
  obtain ⟨fd_Rose_init, F0_Rose_init⟩ := c.def_ 14 (d := d_Rose_init) rfl
  have F_Rose_init : FunD K "__init__" "Rose.__init__" (defArgs s_Rose_init) (defBody s_Rose_init) (defScope s_Rose_init) [.int 2, .non] [] (He.ma K (He.ga K "Rose") "__init__") fd_Rose_init := F0_Rose_init
  obtain ⟨fd_Rose___eq__, F0_Rose___eq__⟩ := c.def_ 15 (d := d_Rose___eq__) rfl
  have F_Rose___eq__ : FunD K "__eq__" "Rose.__eq__" (defArgs s_Rose___eq__) (defBody s_Rose___eq__) (defScope s_Rose___eq__) [] [] (He.ma K (He.ga K "Rose") "__eq__") fd_Rose___eq__ := F0_Rose___eq__
  obtain ⟨fd_Rose___len__, F0_Rose___len__⟩ := c.def_ 16 (d := d_Rose___len__) rfl
  have F_Rose___len__ : FunD K "__len__" "Rose.__len__" (defArgs s_Rose___len__) (defBody s_Rose___len__) (defScope s_Rose___len__) [] [] (He.ma K (He.ga K "Rose") "__len__") fd_Rose___len__ := F0_Rose___len__
  obtain ⟨fd_are_corners, F0_are_corners⟩ := c.def_ 17 (d := d_are_corners) rfl
  have F_are_corners : FunD K "are_corners" "are_corners" (defArgs s_are_corners) (defBody s_are_corners) (defScope s_are_corners) [] [] (He.ga K "are_corners") fd_are_corners := F0_are_corners
  have g_are_corners := He.glo_ok X G (c.fact 10 (f := .glo "are_corners") rfl)
  obtain ⟨fd_Walk_init, F0_Walk_init⟩ := c.def_ 18 (d := d_Walk_init) rfl
  have F_Walk_init : FunD K "__init__" "Walk.__init__" (defArgs s_Walk_init) (defBody s_Walk_init) (defScope s_Walk_init) [.non] [] (He.ma K (He.ga K "Walk") "__init__") fd_Walk_init := F0_Walk_init
  obtain ⟨fd_is_step, F0_is_step⟩ := c.def_ 19 (d := d_is_step) rfl
  have F_is_step : FunD K "is_step" "is_step" (defArgs s_is_step) (defBody s_is_step) (defScope s_is_step) [] [] (He.ga K "is_step") fd_is_step := F0_is_step
  have g_is_step := He.glo_ok X G (c.fact 11 (f := .glo "is_step") rfl)
  obtain ⟨fd_is_name_of, F0_is_name_of⟩ := c.def_ 20 (d := d_is_name_of) rfl
  have F_is_name_of : FunD K "is_name_of" "is_name_of" (defArgs s_is_name_of) (defBody s_is_name_of) (defScope s_is_name_of) [] [] (He.ga K "is_name_of") fd_is_name_of := F0_is_name_of
  have g_is_name_of := He.glo_ok X G (c.fact 12 (f := .glo "is_name_of") rfl)
  obtain ⟨fd_read_log, F0_read_log⟩ := c.def_ 21 (d := d_read_log) rfl
  have F_read_log : FunD K "read_log" "read_log" (defArgs s_read_log) (defBody s_read_log) (defScope s_read_log) [] [] (He.ga K "read_log") fd_read_log := F0_read_log
  have g_read_log := He.glo_ok X G (c.fact 13 (f := .glo "read_log") rfl)
  obtain ⟨fd_tells_step, F0_tells_step⟩ := c.def_ 22 (d := d_tells_step) rfl
  have F_tells_step : FunD K "tells_step" "tells_step" (defArgs s_tells_step) (defBody s_tells_step) (defScope s_tells_step) [] [] (He.ga K "tells_step") fd_tells_step := F0_tells_step
  have g_tells_step := He.glo_ok X G (c.fact 14 (f := .glo "tells_step") rfl)
  obtain ⟨fd_is_written_step, F0_is_written_step⟩ := c.def_ 23 (d := d_is_written_step) rfl
  have F_is_written_step : FunD K "is_written_step" "is_written_step" (defArgs s_is_written_step) (defBody s_is_written_step) (defScope s_is_written_step) [] [] (He.ga K "is_written_step") fd_is_written_step := F0_is_written_step
  have g_is_written_step := He.glo_ok X G (c.fact 15 (f := .glo "is_written_step") rfl)
  obtain ⟨fd_show_log, F0_show_log⟩ := c.def_ 24 (d := d_show_log) rfl
  have F_show_log : FunD K "show_log" "show_log" (defArgs s_show_log) (defBody s_show_log) (defScope s_show_log) [.int 0, .int 0] [] (He.ga K "show_log") fd_show_log := F0_show_log
  have g_show_log := He.glo_ok X G (c.fact 16 (f := .glo "show_log") rfl)
  obtain ⟨fd_l_pack, F0_l_pack⟩ := c.def_ 25 (d := d_l_pack) rfl
  have F_l_pack : FunD K "_law_pack" "_law_pack" (defArgs s_l_pack) (defBody s_l_pack) (defScope s_l_pack) [] [] (He.ga K "_law_pack") fd_l_pack := F0_l_pack
  have g_l_pack := He.glo_ok X G (c.fact 17 (f := .glo "_law_pack") rfl)
  obtain ⟨fd_l_take, F0_l_take⟩ := c.def_ 26 (d := d_l_take) rfl
  have F_l_take : FunD K "_law_take" "_law_take" (defArgs s_l_take) (defBody s_l_take) (defScope s_l_take) [] [] (He.ga K "_law_take") fd_l_take := F0_l_take
  have g_l_take := He.glo_ok X G (c.fact 18 (f := .glo "_law_take") rfl)
  obtain ⟨fd_l_words, F0_l_words⟩ := c.def_ 27 (d := d_l_words) rfl
  have F_l_words : FunD K "_law_words" "_law_words" (defArgs s_l_words) (defBody s_l_words) (defScope s_l_words) [] [] (He.ga K "_law_words") fd_l_words := F0_l_words
  have g_l_words := He.glo_ok X G (c.fact 19 (f := .glo "_law_words") rfl)
  obtain ⟨fd_l_shown, F0_l_shown⟩ := c.def_ 28 (d := d_l_shown) rfl
  have F_l_shown : FunD K "_law_shown" "_law_shown" (defArgs s_l_shown) (defBody s_l_shown) (defScope s_l_shown) [] [] (He.ga K "_law_shown") fd_l_shown := F0_l_shown
  have g_l_shown := He.glo_ok X G (c.fact 20 (f := .glo "_law_shown") rfl)
  obtain ⟨fd_l_only, F0_l_only⟩ := c.def_ 29 (d := d_l_only) rfl
  have F_l_only : FunD K "_law_only" "_law_only" (defArgs s_l_only) (defBody s_l_only) (defScope s_l_only) [] [] (He.ga K "_law_only") fd_l_only := F0_l_only
  have g_l_only := He.glo_ok X G (c.fact 21 (f := .glo "_law_only") rfl)
  obtain ⟨fd_l_refused, F0_l_refused⟩ := c.def_ 30 (d := d_l_refused) rfl
  have F_l_refused : FunD K "_law_refused" "_law_refused" (defArgs s_l_refused) (defBody s_l_refused) (defScope s_l_refused) [] [] (He.ga K "_law_refused") fd_l_refused := F0_l_refused
  have g_l_refused := He.glo_ok X G (c.fact 22 (f := .glo "_law_refused") rfl)
  obtain ⟨fd_l_same, F0_l_same⟩ := c.def_ 31 (d := d_l_same) rfl
  have F_l_same : FunD K "_law_same" "_law_same" (defArgs s_l_same) (defBody s_l_same) (defScope s_l_same) [] [] (He.ga K "_law_same") fd_l_same := F0_l_same
  have g_l_same := He.glo_ok X G (c.fact 23 (f := .glo "_law_same") rfl)
  obtain ⟨fd_l_is, F0_l_is⟩ := c.def_ 32 (d := d_l_is) rfl
  have F_l_is : FunD K "_law_is" "_law_is" (defArgs s_l_is) (defBody s_l_is) (defScope s_l_is) [] [] (He.ga K "_law_is") fd_l_is := F0_l_is
  have g_l_is := He.glo_ok X G (c.fact 24 (f := .glo "_law_is") rfl)
  obtain ⟨fd_l_read_right, F0_l_read_right⟩ := c.def_ 33 (d := d_l_read_right) rfl
  have F_l_read_right : FunD K "_law_read_right" "_law_read_right" (defArgs s_l_read_right) (defBody s_l_read_right) (defScope s_l_read_right) [] [] (He.ga K "_law_read_right") fd_l_read_right := F0_l_read_right
  have g_l_read_right := He.glo_ok X G (c.fact 25 (f := .glo "_law_read_right") rfl)
  obtain ⟨fd_l_steps, F0_l_steps⟩ := c.def_ 34 (d := d_l_steps) rfl
  have F_l_steps : FunD K "_law_steps" "_law_steps" (defArgs s_l_steps) (defBody s_l_steps) (defScope s_l_steps) [] [] (He.ga K "_law_steps") fd_l_steps := F0_l_steps
  have g_l_steps := He.glo_ok X G (c.fact 26 (f := .glo "_law_steps") rfl)
  obtain ⟨fd_law, F0_law⟩ := c.def_ 35 (d := d_law) rfl
  have F_law : FunD K "law" "law" (defArgs s_law) (defBody s_law) (defScope s_law) [] [] (He.ga K "law") fd_law := F0_law
  have g_law := He.glo_ok X G (c.fact 27 (f := .glo "law") rfl)
  have e := hfa.symm.trans g_law
  cases e
  have bl := FunD.bindsA (ps := ["_law_script"]) F_law fun _ _ _ _ _ _ us hl => match us, hl with | [_], _ => rfl
  refine ⟨fd_law, fun s v => bl s [v] rfl, fun base _ _ => ?_⟩
  have G_NoStep_init := ok_NoStep_init (P := P) (w := w) (base := base) F_NoStep_init T
  have b_NoStep_init : Binds K fd_NoStep_init ["self", "thing"] [] := F_NoStep_init.bindsN fun _ _ _ _ _ _ us hl => match us, hl with | [_, _], _ => rfl
  have G_NoText_init := ok_NoText_init (P := P) (w := w) (base := base) F_NoText_init T
  have b_NoText_init : Binds K fd_NoText_init ["self", "row"] [] := F_NoText_init.bindsN fun _ _ _ _ _ _ us hl => match us, hl with | [_, _], _ => rfl
  have D_l_pack : Df P w K mg base CX0 1 "_law_pack" ["_law_script", "_law_k"] [[]] (liftM K sd_pack) := ⟨⟨_, _, ok_l_pack F_l_pack T , g_l_pack, F_l_pack.kp, (fun us h => by
    cases List.mem_singleton.mp h
    exact ⟨[], .nil, F_l_pack.bindsN fun _ _ _ _ _ _ us hl => match us, hl with | [_, _], _ => rfl⟩)⟩⟩
  have D_l_take : Df P w K mg base CX0 1 "_law_take" ["_law_pool", "_law_many"] [[]] (lift K sd_take1) := ⟨⟨_, _, ok_l_take F_l_take T , g_l_take, F_l_take.kp, (fun us h => by
    cases List.mem_singleton.mp h
    exact ⟨[], .nil, F_l_take.bindsN fun _ _ _ _ _ _ us hl => match us, hl with | [_, _], _ => rfl⟩)⟩⟩
  have D_is_whole : Df P w K mg base CX0 1 "is_whole" ["thing"] [[]] (lift K sd_is_whole) := ⟨⟨_, _, ok_is_whole F_is_whole T , g_is_whole, F_is_whole.kp, (fun us h => by
    cases List.mem_singleton.mp h
    exact ⟨[], .nil, F_is_whole.bindsN fun _ _ _ _ _ _ us hl => match us, hl with | [_], _ => rfl⟩)⟩⟩
  have D_common : Df P w K mg base CX0 1 "common" ["one", "other"] [[]] (lift K sd_common) := ⟨⟨_, _, ok_common F_common T , g_common, F_common.kp, (fun us h => by
    cases List.mem_singleton.mp h
    exact ⟨[], .nil, F_common.bindsN fun _ _ _ _ _ _ us hl => match us, hl with | [_, _], _ => rfl⟩)⟩⟩
  have D_Turn_init : Dm P w K mg base CX0 2 "Turn" "__init__" ["self", "top", "bottom"] [[], [.int 1]] (liftI0 K "Turn" sd_turn) := ⟨⟨_, ok_Turn_init F_Turn_init T D_is_whole D_common, (fun us h => by
    rcases List.mem_cons.mp h with rfl | h
    · exact F_Turn_init.binds1 (ps := ["self", "top", "bottom"]) 3 1 (by simp) rfl fun T kV doc pm an cdv ct us its h1 h2 => match us, its, h1, h2 with | [_, _, _], [_], _, _ => ⟨_, rfl, rfl⟩
    rcases List.mem_cons.mp h with rfl | h
    · exact F_Turn_init.binds1 (ps := ["self", "top", "bottom"]) 2 0 (by simp) rfl fun T kV doc pm an cdv ct us its h1 h2 => match us, its, h1, h2 with | [_, _], [_], _, _ => ⟨_, rfl, rfl⟩
    cases h)⟩⟩
  have D_end_of_run : Df P w K mg base CX0 1 "end_of_run" ["text", "begin", "signs", "most"] [[]] (lift K sd_run) := ⟨⟨_, _, ok_end_of_run F_end_of_run T , g_end_of_run, F_end_of_run.kp, (fun us h => by
    cases List.mem_singleton.mp h
    exact ⟨[], .nil, F_end_of_run.bindsN fun _ _ _ _ _ _ us hl => match us, hl with | [_, _, _, _], _ => rfl⟩)⟩⟩
  have D_is_word : Df P w K mg base CX0 2 "is_word" ["thing"] [[]] (lift K sd_is_word) := ⟨⟨_, _, ok_is_word F_is_word T D_end_of_run, g_is_word, F_is_word.kp, (fun us h => by
    cases List.mem_singleton.mp h
    exact ⟨[], .nil, F_is_word.bindsN fun _ _ _ _ _ _ us hl => match us, hl with | [_], _ => rfl⟩)⟩⟩
  have D_parted_within : Df P w K mg base CX0 2 "parted_within" ["text", "most"] [[]] (lift K sd_pw) := ⟨⟨_, _, ok_parted_within F_parted_within T D_end_of_run, g_parted_within, F_parted_within.kp, (fun us h => by
    cases List.mem_singleton.mp h
    exact ⟨[], .nil, F_parted_within.bindsN fun _ _ _ _ _ _ us hl => match us, hl with | [_, _], _ => rfl⟩)⟩⟩
  have D_step_of : Df P w K mg base CX0 1 "step_of" ["marks"] [[]] (lift K sd_step) := ⟨⟨_, _, ok_step_of F_step_of T , g_step_of, F_step_of.kp, (fun us h => by
    cases List.mem_singleton.mp h
    exact ⟨[], .nil, F_step_of.bindsN fun _ _ _ _ _ _ us hl => match us, hl with | [_], _ => rfl⟩)⟩⟩
  have D_are_corners : Df P w K mg base CX0 3 "are_corners" ["thing"] [[]] (lift K sd_corners) := ⟨⟨_, _, ok_are_corners F_are_corners T D_is_word, g_are_corners, F_are_corners.kp, (fun us h => by
    cases List.mem_singleton.mp h
    exact ⟨[], .nil, F_are_corners.bindsN fun _ _ _ _ _ _ us hl => match us, hl with | [_], _ => rfl⟩)⟩⟩
  have D_Rose___len__ : Dm P w K mg base CX0 1 "Rose" "__len__" ["self"] [[]] (lift K sd_rlen) := ⟨⟨_, ok_Rose___len__ F_Rose___len__ T , (fun us h => by
    cases List.mem_singleton.mp h
    exact ⟨[], .nil, F_Rose___len__.bindsN fun _ _ _ _ _ _ us hl => match us, hl with | [_], _ => rfl⟩)⟩⟩
  have D_place_told : Df P w K mg base CX0 4 "place_told" ["rose", "name"] [[]] (lift K sd_ptold) := ⟨⟨_, _, ok_place_told F_place_told T D_parted_within D_step_of D_Rose___len__, g_place_told, F_place_told.kp, (fun us h => by
    cases List.mem_singleton.mp h
    exact ⟨[], .nil, F_place_told.bindsN fun _ _ _ _ _ _ us hl => match us, hl with | [_, _], _ => rfl⟩)⟩⟩
  have D_Turn___eq__ : Dm P w K mg base CX0 1 "Turn" "__eq__" ["self", "other"] [[]] (lift K (sdE K "Turn" gT)) := ⟨⟨_, ok_Turn___eq__ F_Turn___eq__ T , (fun us h => by
    cases List.mem_singleton.mp h
    exact ⟨[], .nil, F_Turn___eq__.bindsN fun _ _ _ _ _ _ us hl => match us, hl with | [_, _], _ => rfl⟩)⟩⟩
  have D_figures_of : Df P w K mg base CX0 1 "figures_of" ["number"] [[]] (lift K sd_fig) := ⟨⟨_, _, ok_figures_of F_figures_of T , g_figures_of, F_figures_of.kp, (fun us h => by
    cases List.mem_singleton.mp h
    exact ⟨[], .nil, F_figures_of.bindsN fun _ _ _ _ _ _ us hl => match us, hl with | [_], _ => rfl⟩)⟩⟩
  have D_are_figures : Df P w K mg base CX0 1 "are_figures" ["text"] [[]] (lift K sd_arefig) := ⟨⟨_, _, ok_are_figures F_are_figures T , g_are_figures, F_are_figures.kp, (fun us h => by
    cases List.mem_singleton.mp h
    exact ⟨[], .nil, F_are_figures.bindsN fun _ _ _ _ _ _ us hl => match us, hl with | [_], _ => rfl⟩)⟩⟩
  have D_number_of : Df P w K mg base CX0 1 "number_of" ["figures"] [[]] (lift K sd_numof) := ⟨⟨_, _, ok_number_of F_number_of T , g_number_of, F_number_of.kp, (fun us h => by
    cases List.mem_singleton.mp h
    exact ⟨[], .nil, F_number_of.bindsN fun _ _ _ _ _ _ us hl => match us, hl with | [_], _ => rfl⟩)⟩⟩
  have D_Rose___eq__ : Dm P w K mg base CX0 3 "Rose" "__eq__" ["self", "other"] [[]] (lift K (sdE K "Rose" gR)) := ⟨⟨_, ok_Rose___eq__ F_Rose___eq__ T D_Turn___eq__, (fun us h => by
    cases List.mem_singleton.mp h
    exact ⟨[], .nil, F_Rose___eq__.bindsN fun _ _ _ _ _ _ us hl => match us, hl with | [_, _], _ => rfl⟩)⟩⟩
  have D_is_name_of : Df P w K mg base CX0 5 "is_name_of" ["rose", "thing"] [[]] (lift K sd_isname) := ⟨⟨_, _, ok_is_name_of F_is_name_of T D_place_told, g_is_name_of, F_is_name_of.kp, (fun us h => by
    cases List.mem_singleton.mp h
    exact ⟨[], .nil, F_is_name_of.bindsN fun _ _ _ _ _ _ us hl => match us, hl with | [_, _], _ => rfl⟩)⟩⟩
  have D_is_step : Df P w K mg base CX0 6 "is_step" ["rose", "thing"] [[]] (lift K sd_isstep) := ⟨⟨_, _, ok_is_step F_is_step T D_is_whole D_is_name_of, g_is_step, F_is_step.kp, (fun us h => by
    cases List.mem_singleton.mp h
    exact ⟨[], .nil, F_is_step.bindsN fun _ _ _ _ _ _ us hl => match us, hl with | [_, _], _ => rfl⟩)⟩⟩
  have D_Walk_init : Dm P w K mg base CX0 7 "Walk" "__init__" ["self", "rose", "steps"] [[], [.non]] (liftI0 K "Walk" sd_walk) := ⟨⟨_, ok_Walk_init F_Walk_init T D_is_step, (fun us h => by
    rcases List.mem_cons.mp h with rfl | h
    · exact F_Walk_init.binds1 (ps := ["self", "rose", "steps"]) 3 1 (by simp) rfl fun T kV doc pm an cdv ct us its h1 h2 => match us, its, h1, h2 with | [_, _, _], [_], _, _ => ⟨_, rfl, rfl⟩
    rcases List.mem_cons.mp h with rfl | h
    · exact F_Walk_init.binds1 (ps := ["self", "rose", "steps"]) 2 0 (by simp) rfl fun T kV doc pm an cdv ct us its h1 h2 => match us, its, h1, h2 with | [_, _], [_], _, _ => ⟨_, rfl, rfl⟩
    cases h)⟩⟩
  have D_l_words : Df P w K mg base CX0 2 "_law_words" ["_law_pool", "_law_many"] [[]] (lift K sd_words1) := ⟨⟨_, _, ok_l_words F_l_words T D_l_take, g_l_words, F_l_words.kp, (fun us h => by
    cases List.mem_singleton.mp h
    exact ⟨[], .nil, F_l_words.bindsN fun _ _ _ _ _ _ us hl => match us, hl with | [_, _], _ => rfl⟩)⟩⟩
  have D_show_log : Df P w K mg base (L2.CX P w) 3 "show_log" ["walk", "wide", "noughts"] [[], [.int 0], [.int 0, .int 0]] (liftX K sd_showX) := ⟨⟨_, _, ok_show_log F_show_log T D_is_whole D_figures_of G_NoStep_init b_NoStep_init, g_show_log, F_show_log.kp, (fun us h => by
    rcases List.mem_cons.mp h with rfl | h
    · exact F_show_log.binds1 (ps := ["walk", "wide", "noughts"]) 3 2 (by simp) rfl fun T kV doc pm an cdv ct us its h1 h2 => match us, its, h1, h2 with | [_, _, _], [_, _], _, _ => ⟨_, rfl, rfl⟩
    rcases List.mem_cons.mp h with rfl | h
    · exact F_show_log.binds1 (ps := ["walk", "wide", "noughts"]) 2 1 (by simp) rfl fun T kV doc pm an cdv ct us its h1 h2 => match us, its, h1, h2 with | [_, _], [_, _], _, _ => ⟨_, rfl, rfl⟩
    rcases List.mem_cons.mp h with rfl | h
    · exact F_show_log.binds1 (ps := ["walk", "wide", "noughts"]) 1 0 (by simp) rfl fun T kV doc pm an cdv ct us its h1 h2 => match us, its, h1, h2 with | [_], [_, _], _, _ => ⟨_, rfl, rfl⟩
    cases h)⟩⟩
  obtain ⟨its_DK_show_log_2_noughts, kb_DK_show_log_2_noughts⟩ := F_show_log.kbindsD (ps := ["walk", "wide", "noughts"]) 2 ["noughts"] (fun us its ws => gK [.inl 0] us its ws) (by nofun) (fun h1 h2 h3 => vals_gK _ h1 h2 h3) fun T kV doc pm an cdv ct us its ws h1 h2 h3 => match us, its, ws, h1, h2, h3 with | [_, _], [_, _], [_], _, _, _ => ⟨_, rfl, rfl⟩
  have DK_show_log_2_noughts : L2.DfK P w K mg base (L2.CX P w) 3 "show_log" ["walk", "wide", "noughts"] 2 ["noughts"] [.inl 0] [.int 0, .int 0] (liftX K sd_showX) := ⟨⟨_, _, its_DK_show_log_2_noughts, ok_show_log F_show_log T D_is_whole D_figures_of G_NoStep_init b_NoStep_init, g_show_log, F_show_log.kp, kb_DK_show_log_2_noughts⟩⟩
  obtain ⟨its_DK_show_log_1_noughts, kb_DK_show_log_1_noughts⟩ := F_show_log.kbindsD (ps := ["walk", "wide", "noughts"]) 1 ["noughts"] (fun us its ws => gK [.inr 0, .inl 0] us its ws) (by nofun) (fun h1 h2 h3 => vals_gK _ h1 h2 h3) fun T kV doc pm an cdv ct us its ws h1 h2 h3 => match us, its, ws, h1, h2, h3 with | [_], [_, _], [_], _, _, _ => ⟨_, rfl, rfl⟩
  have DK_show_log_1_noughts : L2.DfK P w K mg base (L2.CX P w) 3 "show_log" ["walk", "wide", "noughts"] 1 ["noughts"] [.inr 0, .inl 0] [.int 0, .int 0] (liftX K sd_showX) := ⟨⟨_, _, its_DK_show_log_1_noughts, ok_show_log F_show_log T D_is_whole D_figures_of G_NoStep_init b_NoStep_init, g_show_log, F_show_log.kp, kb_DK_show_log_1_noughts⟩⟩
  obtain ⟨its_DK_show_log_1_noughts_wide, kb_DK_show_log_1_noughts_wide⟩ := F_show_log.kbindsD (ps := ["walk", "wide", "noughts"]) 1 ["noughts", "wide"] (fun us its ws => gK [.inl 1, .inl 0] us its ws) (by nofun) (fun h1 h2 h3 => vals_gK _ h1 h2 h3) fun T kV doc pm an cdv ct us its ws h1 h2 h3 => match us, its, ws, h1, h2, h3 with | [_], [_, _], [_, _], _, _, _ => ⟨_, rfl, rfl⟩
  have DK_show_log_1_noughts_wide : L2.DfK P w K mg base (L2.CX P w) 3 "show_log" ["walk", "wide", "noughts"] 1 ["noughts", "wide"] [.inl 1, .inl 0] [.int 0, .int 0] (liftX K sd_showX) := ⟨⟨_, _, its_DK_show_log_1_noughts_wide, ok_show_log F_show_log T D_is_whole D_figures_of G_NoStep_init b_NoStep_init, g_show_log, F_show_log.kp, kb_DK_show_log_1_noughts_wide⟩⟩
  obtain ⟨its_DK_show_log_1_wide, kb_DK_show_log_1_wide⟩ := F_show_log.kbindsD (ps := ["walk", "wide", "noughts"]) 1 ["wide"] (fun us its ws => gK [.inl 0, .inr 1] us its ws) (by nofun) (fun h1 h2 h3 => vals_gK _ h1 h2 h3) fun T kV doc pm an cdv ct us its ws h1 h2 h3 => match us, its, ws, h1, h2, h3 with | [_], [_, _], [_], _, _, _ => ⟨_, rfl, rfl⟩
  have DK_show_log_1_wide : L2.DfK P w K mg base (L2.CX P w) 3 "show_log" ["walk", "wide", "noughts"] 1 ["wide"] [.inl 0, .inr 1] [.int 0, .int 0] (liftX K sd_showX) := ⟨⟨_, _, its_DK_show_log_1_wide, ok_show_log F_show_log T D_is_whole D_figures_of G_NoStep_init b_NoStep_init, g_show_log, F_show_log.kp, kb_DK_show_log_1_wide⟩⟩
  have D_tells_step : Df P w K mg base CX0 1 "tells_step" ["words"] [[]] (lift K sd_tells) := ⟨⟨_, _, ok_tells_step F_tells_step T , g_tells_step, F_tells_step.kp, (fun us h => by
    cases List.mem_singleton.mp h
    exact ⟨[], .nil, F_tells_step.bindsN fun _ _ _ _ _ _ us hl => match us, hl with | [_], _ => rfl⟩)⟩⟩
  have D_is_written_step : Df P w K mg base CX0 6 "is_written_step" ["rose", "words"] [[]] (lift K sd_writ) := ⟨⟨_, _, ok_is_written_step F_is_written_step T D_are_figures D_is_name_of, g_is_written_step, F_is_written_step.kp, (fun us h => by
    cases List.mem_singleton.mp h
    exact ⟨[], .nil, F_is_written_step.bindsN fun _ _ _ _ _ _ us hl => match us, hl with | [_, _], _ => rfl⟩)⟩⟩
  have D_read_log : Df P w K mg base (L2.CX P w) 9 "read_log" ["rose", "text"] [[]] (liftX K sd_readX) := ⟨⟨_, _, ok_read_log F_read_log T D_number_of D_Walk_init D_tells_step D_is_written_step G_NoText_init b_NoText_init, g_read_log, F_read_log.kp, (fun us h => by
    cases List.mem_singleton.mp h
    exact ⟨[], .nil, F_read_log.bindsN fun _ _ _ _ _ _ us hl => match us, hl with | [_, _], _ => rfl⟩)⟩⟩
  have D_l_shown : Df P w K mg base CX0 1 "_law_shown" ["_law_steps_here", "_law_one", "_law_two"] [[]] (lift K sd_shown) := ⟨⟨_, _, ok_l_shown F_l_shown T , g_l_shown, F_l_shown.kp, (fun us h => by
    cases List.mem_singleton.mp h
    exact ⟨[], .nil, F_l_shown.bindsN fun _ _ _ _ _ _ us hl => match us, hl with | [_, _, _], _ => rfl⟩)⟩⟩
  have D_l_only : Df P w K mg base CX0 1 "_law_only" ["_law_caught", "_law_which"] [[]] (lift K sd_only) := ⟨⟨_, _, ok_l_only F_l_only T , g_l_only, F_l_only.kp, (fun us h => by
    cases List.mem_singleton.mp h
    exact ⟨[], .nil, F_l_only.bindsN fun _ _ _ _ _ _ us hl => match us, hl with | [_, _], _ => rfl⟩)⟩⟩
  have D_l_is : Df P w K mg base CX0 1 "_law_is" ["_law_thing"] [[]] (lift K sd_lis) := ⟨⟨_, _, ok_l_is F_l_is T , g_l_is, F_l_is.kp, (fun us h => by
    cases List.mem_singleton.mp h
    exact ⟨[], .nil, F_l_is.bindsN fun _ _ _ _ _ _ us hl => match us, hl with | [_], _ => rfl⟩)⟩⟩
  have D_l_same : Df P w K mg base CX0 2 "_law_same" ["_law_one", "_law_other"] [[]] (lift K sd_same) := ⟨⟨_, _, ok_l_same F_l_same T D_Turn___eq__, g_l_same, F_l_same.kp, (fun us h => by
    cases List.mem_singleton.mp h
    exact ⟨[], .nil, F_l_same.bindsN fun _ _ _ _ _ _ us hl => match us, hl with | [_, _], _ => rfl⟩)⟩⟩
  have D_l_refused : Df P w K mg base CX0 5 "_law_refused" ["_law_walk", "_law_one", "_law_two"] [[]] (lift K sd_lref) := ⟨⟨_, _, ok_l_refused F_l_refused T D_show_log D_l_only DK_show_log_2_noughts, g_l_refused, F_l_refused.kp, (fun us h => by
    cases List.mem_singleton.mp h
    exact ⟨[], .nil, F_l_refused.bindsN fun _ _ _ _ _ _ us hl => match us, hl with | [_, _, _], _ => rfl⟩)⟩⟩
  have D_l_read_right : Df P w K mg base CX0 11 "_law_read_right" ["_law_rose", "_law_steps_here", "_law_text", "_law_two"] [[]] (lift K sd_lread) := ⟨⟨_, _, ok_l_read_right F_l_read_right T D_Rose___eq__ D_read_log D_l_only D_l_same, g_l_read_right, F_l_read_right.kp, (fun us h => by
    cases List.mem_singleton.mp h
    exact ⟨[], .nil, F_l_read_right.bindsN fun _ _ _ _ _ _ us hl => match us, hl with | [_, _, _, _], _ => rfl⟩)⟩⟩
  have D_Rose_init : Dm P w K mg base CX0 4 "Rose" "__init__" ["self", "words", "halvings", "begin"] [[], [.non], [.int 2, .non]] (liftI0 K "Rose" sd_roseN) := ⟨⟨_, ok_Rose_init F_Rose_init T D_is_whole D_Turn_init D_are_corners, (fun us h => by
    rcases List.mem_cons.mp h with rfl | h
    · exact F_Rose_init.binds1 (ps := ["self", "words", "halvings", "begin"]) 4 2 (by simp) rfl fun T kV doc pm an cdv ct us its h1 h2 => match us, its, h1, h2 with | [_, _, _, _], [_, _], _, _ => ⟨_, rfl, rfl⟩
    rcases List.mem_cons.mp h with rfl | h
    · exact F_Rose_init.binds1 (ps := ["self", "words", "halvings", "begin"]) 3 1 (by simp) rfl fun T kV doc pm an cdv ct us its h1 h2 => match us, its, h1, h2 with | [_, _, _], [_, _], _, _ => ⟨_, rfl, rfl⟩
    rcases List.mem_cons.mp h with rfl | h
    · exact F_Rose_init.binds1 (ps := ["self", "words", "halvings", "begin"]) 2 0 (by simp) rfl fun T kV doc pm an cdv ct us its h1 h2 => match us, its, h1, h2 with | [_, _], [_, _], _, _ => ⟨_, rfl, rfl⟩
    cases h)⟩⟩
  have D_l_steps : Df P w K mg base CX0 2 "_law_steps" ["_law_pool", "_law_words_here", "_law_halvings"] [[]] (lift K sd_steps) := ⟨⟨_, _, ok_l_steps F_l_steps T D_l_take, g_l_steps, F_l_steps.kp, (fun us h => by
    cases List.mem_singleton.mp h
    exact ⟨[], .nil, F_l_steps.bindsN fun _ _ _ _ _ _ us hl => match us, hl with | [_, _, _], _ => rfl⟩)⟩⟩
  exact ok_law F_law T D_l_pack D_l_take D_Rose___eq__ D_Walk_init D_l_words D_show_log D_l_shown D_l_is D_l_same D_l_refused D_l_read_right D_Rose_init D_l_steps DK_show_log_1_noughts DK_show_log_1_noughts_wide DK_show_log_1_wide
end K41
open PySem PySem.W PySem.Calls PyProof.Rows
set_option maxRecDepth 100000 in
set_option maxHeartbeats 0 in
theorem PySem.Challenge.cw_rosenames_k41_walks_as_logs_holds : PySem.Challenge.rw_rosenames_k41_walks_as_logs.Holds := by
  w_on; o_law
  refine HandSHeadRun.head_any (r := OpenLaw.row PySem.Challenge.rw_rosenames_k41_walks_as_logs) (q := view (OpenLaw.row PySem.Challenge.rw_rosenames_k41_walks_as_logs).prog [83]) (H := K41.hk) (ob := K41.ob) (M := 9000) (loose := K41.names) (d := HandSHeadRun.topDef (OpenLaw.row PySem.Challenge.rw_rosenames_k41_walks_as_logs).prog 83) (kwd := []) K41.ob_eq
    (by kernel_rfl) (fun s => by kernel_rfl) K41.run (by kernel_rfl) (by kernel_rfl) (by kernel_rfl) (by rfl) (by first | assumption | decide +kernel) (by decide +kernel) ⟨rfl, rfl, rfl, rfl, rfl, by decide +kernel⟩ ?hw ?hc
  case hw => w_witness2
  case hc =>
    refine L2.walk_bits (l := PySem.Challenge.rw_rosenames_k41_walks_as_logs) (n := 63) (k := 16) (x := "_law_script") (CX := L2.CX0) rfl (by decide) (by kernel_rfl) ⟨rfl, by decide, by decide⟩ ?F (fun _ _ _ _ z => z)
    intro w mg fa h Y G hmg0
    obtain ⟨K, KX, c, cx⟩ := Y
    have hmg : mg ("law" : PySem.Str) = some (.ref fa) := by
      have e : (HandSHeadRun.topDef (OpenLaw.row PySem.Challenge.rw_rosenames_k41_walks_as_logs).prog 83).name = ("law" : PySem.Str) := by kernel_rfl
      rw [← e]
      exact hmg0
    obtain ⟨fd, hb, hF⟩ := K41.facts (P := (PySem.Challenge.rw_rosenames_k41_walks_as_logs).prog) (w := w) KX G hmg c cx
    exact ⟨K, fd, K41.sp_law K, KX, hb, fun H a ns hl hB hS => ⟨a, ns, rfl, hS, hl, hB, fun _ => rfl⟩, hF⟩

